import PyProof.Rows.All
import Wide.All
import OpenK.AllK
import PySem.Challenge.RW_markworks_k75_refusals_apart
set_option genSizeOf false
set_option Elab.async false
set_option linter.all false
set_option maxRecDepth 100000
set_option maxHeartbeats 4000000
abbrev Vt:=PySem.Shared
abbrev Vs:=PySem.Addr
abbrev Vq:=List PySem.Value
abbrev Vp:=List PySem.Str
theorem Zj {α:Sort _} {a:α}:a=a:=rfl
abbrev Z9:=@Array.getElem?_eq_some_iff
abbrev Z8:=@List.getElem?_eq_some_iff
abbrev Z7:=@List.getElem?_eq_getElem
abbrev Z6:=@Option.map_eq_some_iff
abbrev Z5:=@PySem.lookup_relabel_local
abbrev Z4:=@PySem.wpAny_isSubtype_exc
abbrev Z3:=@PySem.wpAny_Call_Name_kw
abbrev Z2:=@Nat.lt_of_lt_of_le
abbrev Z1:=@Int.natCast_nonneg
abbrev Z0:=@PySem.wpAny_truthy_bool
abbrev ZZ:=@PySem.wpAny_loadPart_at
abbrev ZY:=@PySem.Heap.get?_push_of_some
abbrev ZX:=@PySem.Heap.get?_update_other
abbrev ZW:=@of_decide_eq_true
abbrev ZV:=@PySem.Heap.get?_update_self
abbrev ZU:=@List.mem_append_right
abbrev ZT:=@List.mem_cons_of_mem
abbrev ZS:=@List.mem_of_getElem?
abbrev ZR:=@List.mem_append_left
abbrev ZQ:=@decide_eq_false
abbrev ZP:=@PySem.Heap.get?_push_size
abbrev ZO:=@List.filterMap_cons
abbrev ZN:=@decide_eq_true
abbrev ZM:=@PySem.wpAny_holding
abbrev ZL:=@PySem.wpAny_standAt
abbrev ZK:=@List.mem_cons_self
abbrev ZJ:=@List.length_append
abbrev ZI:=@Nat.lt_irrefl
abbrev ZH:=@List.getElem?_map
abbrev ZG:=@List.take_add_one
abbrev ZF:=@Nat.ne_of_lt
abbrev ZE:=@List.take_length
abbrev ZD:=@List.length_take
abbrev ZB:=@List.lookup_cons
abbrev ZA:=@Nat.le_refl
abbrev Zz:=@PySem.wpAny_bind
abbrev Zy:=@PySem.wpAny_pure
abbrev Zx:=@PySem.wpAny_mono
abbrev Zw:=@List.map_append
abbrev Zv:=@List.append_nil
abbrev Zu:=@List.nodup_cons
abbrev Zt:=@List.mem_map
abbrev Zs:=@if_neg
abbrev Zr:=@if_pos
theorem qb {p:Prop} (h:p:=by decide +kernel):p:=h
theorem qc {p:Prop} (h:p:=by decide):p:=h
theorem qe {p:Prop} (h:p:=by omega):p:=h
theorem qd {α:Sort _} {a b:α} (h:a=b:=by kernel_rfl):a=b:=h
theorem AK {α:Type u}{β:Type v}{as:List α} (f:α->β):(as.map f).length=as.length:=List.length_map f
abbrev Aa:=List (PySem.Str×Nat)
abbrev VS:=PySem.Value->PySem.Shared->Prop
abbrev LO:=List (PySem.Addr×PySem.Obj)
abbrev SV:=PySem.Str->Option PySem.Value
open PySem in
abbrev FG:=W.Frag
open List (all_map any_cons any_eq_true append_nil cons_lt_cons_iff contains_cons filterMap_cons find?_cons foldl_append foldl_cons getElem?_append_right getElem?_map length_append length_cons length_filter_le length_nil length_replicate length_singleton length_take lookup_cons map_append map_cons map_map map_nil mem_append mem_append_left mem_append_right mem_cons mem_cons_of_mem mem_cons_self mem_filter mem_map mem_of_getElem? mem_range mem_singleton nodup_cons nodup_nil not_mem_nil of_mem_zip replicate replicate_succ size_toArray take_add_one take_length take_of_length_le)
open PySem.Heap (get?_push_of_some get?_push_size get?_update_other get?_update_self lt_size size_push)
section
namespace L2
open PySem
theorem i9:1<=sizeLine:=by decide
theorem fg:2<=sizeLine:=by decide
theorem sl3:3<=sizeLine:=by decide
theorem sl4:4<=sizeLine:=by decide
theorem sl6:6<=sizeLine:=by decide
theorem sl7:7<=sizeLine:=by decide
theorem sl9:9<=sizeLine:=by decide
end L2
end
section
namespace L2
open PySem PySem.Spec PyProof.Rows
abbrev Key:=Sum Int Str
noncomputable def Gy:Key->Value->Bool
 | .inl k,v=>Value.isInt k v
 | .inr x,v=>Value.isStrOf x v
noncomputable def U5 (w:World):Key->Int
 | .inl k=>hashInt k
 | .inr x=>hashStr w x
theorem A2:∀ {k:Key}{v:Value},Gy k v=true->(∃i t,k=Sum.inl i/\v=Value.int i t)\/(∃x t,k=Sum.inr x/\v=Value.str x t)
 | .inl i,v,h=>by
  obtain⟨t,e⟩:=Value.isInt_shape (k:=i) (v:=v) h;exact .inl ⟨i,t,Zj,e⟩
 | .inr x,v,h=>by
  obtain⟨t,e⟩:=Value.isStrOf_shape (x:=x) (v:=v) h;exact .inr ⟨x,t,Zj,e⟩
theorem Mi (i:Int) (t:Tok):Gy (.inl i) (.int i t)=true:=by simp[Gy,Value.isInt]
theorem Mj (x:Str) (t:Tok):Gy (.inr x) (.str x t)=true:=by simp[Gy,Value.isStrOf]
theorem SX (a b:Int):decide ((Sum.inl a:Key)=Sum.inl b)=(a==b):=by
 by_cases e:a=b
 ·subst e;simp
 ·have h:¬ (Sum.inl a:Key)=Sum.inl b:=λq=>e (Sum.inl.inj q);rw[ZQ h];exact(beq_eq_false_iff_ne.mpr e).symm
theorem SY (a b:Str):decide ((Sum.inr a:Key)=Sum.inr b)=decide (a=b):=by
 by_cases e:a=b
 ·subst e;simp
 ·have h:¬ (Sum.inr a:Key)=Sum.inr b:=λq=>e (Sum.inr.inj q);rw[ZQ h,ZQ e]
theorem SZ (a:Int) (b:Str):decide ((Sum.inl a:Key)=Sum.inr b)=false:=ZQ (λq=>nomatch q)
theorem Sa (a:Str) (b:Int):decide ((Sum.inr a:Key)=Sum.inl b)=false:=ZQ (λq=>nomatch q)
noncomputable def Ad (prog:Program) (w:World):PySem.KeyKind prog w Key where
 is:=Gy
 hash:=U5 w
 inj:=λv a b ha hb=>by
  rcases A2 ha with⟨i,t,rfl,rfl⟩ |⟨x,t,rfl,rfl⟩
  ·rcases A2 hb with⟨j,u,rfl,e⟩ |⟨y,u,rfl,e⟩
   ·injection e with e1 _;rw[e1]
   ·exact nomatch e
  ·rcases A2 hb with⟨j,u,rfl,e⟩ |⟨y,u,rfl,e⟩
   ·exact nomatch e
   ·injection e with e1 _;rw[e1]
 byValue:=λk v h=>by
  rcases A2 h with⟨i,t,rfl,rfl⟩ |⟨x,t,rfl,rfl⟩ <;> rfl
 pyHash:=λhv h=>by
  rcases A2 hv with⟨i,t,rfl,rfl⟩ |⟨x,t,rfl,rfl⟩
  ·exact wpAny_pyHash_int h
  ·exact wpAny_pyHash_str h
 eqBool:=λhu hv h=>by
  rcases A2 hu with⟨i,t,rfl,rfl⟩ |⟨x,t,rfl,rfl⟩
  ·rcases A2 hv with⟨j,u,rfl,rfl⟩ |⟨y,u,rfl,rfl⟩
   ·rw[SX]at h;exact wpAny_eqBool_int h
   ·rw[SZ]at h;exact SeqAt.EqAt.int_str i t y u _ _ _ _ h
  ·rcases A2 hv with⟨j,u,rfl,rfl⟩ |⟨y,u,rfl,rfl⟩
   ·rw[Sa]at h;exact SeqAt.EqAt.str_int x t j u _ _ _ _ h
   ·rw[SY]at h;exact wpAny_eqBool_str h
 «strs»:=λk x t v h=>by
  rcases A2 h with⟨i,u,rfl,e⟩ |⟨y,u,rfl,e⟩
  ·exact nomatch e
  ·injection e with e1 _
   subst e1;cases v <;> rfl
theorem Ji (prog:Program) (w:World) (i:Int) (t:Tok):(Ad prog w).is (.inl i) (.int i t)=true:=Mi i t
theorem Dm (prog:Program) (w:World) (x:Str) (t:Tok):(Ad prog w).is (.inr x) (.str x t)=true:=Mj x t
inductive V where
 |aT |bl (b:Bool) |int (i:Int) |str (x:Str) |iy (b:Array UInt8) |jF (b:UInt64) |ref (a:Vs) |ty (n:String)
 deriving DecidableEq
abbrev _root_.Vr:=List V
def RelV:V->Value->Prop
 | .aT,u=>u=Value.none
 | .bl b,u=>u=Value.bool b
 | .int i,u=>∃t,u=Value.int i t
 | .str x,u=>∃t,u=Value.str x t
 | .iy b,u=>∃t,u=Value.bytes b t
 | .jF b,u=>∃t,u=Value.float b t
 | .ref a,u=>u=Value.ref a
 | .ty n,u=>u=Value.type n
abbrev Vals:Vr->Vq->Prop:=Paired RelV
theorem Vals.length {xs:Vr}{us:Vq} (r:Vals xs us):xs.length=us.length:=Paired.length r
theorem Vals.get:∀ {xs:Vr}{us:Vq}{i:Nat}{x:V},Vals xs us->xs[i]?=some x->∃u,us[i]?=some u/\RelV x u
 |_,_,_,_,.nil,e=>by simp at e
 |_,_,0,_,.cons r _,e=>by simp at e;subst e;exact⟨_,Zj,r⟩
 |_,_,i+1,x,.cons _ t,e=>by
  obtain⟨u,h1,h2⟩:=Vals.get (i:=i) (x:=x) t (by simpa using e);exact⟨u,by simpa using h1,h2⟩
theorem Vals.set {x:V}{u:Value} (r:RelV x u):∀ {xs:Vr}{us:Vq} (i:Nat),Vals xs us->Vals (xs.set i x) (us.set i u)
 |_,_,_,.nil=>.nil
 |_,_,0,.cons _ t=>.cons r t
 |_,_,i+1,.cons q t=>.cons q (Vals.set r i t)
theorem Vals.append:∀ {xs ys:Vr}{us ws:Vq},Vals xs us->Vals ys ws->Vals (xs++ys) (us++ws)
 |_,_,_,_,.nil,s=>s
 |_,_,_,_,.cons r t,s=>.cons r (Vals.append t s)
def eE:Option V->Option Value->Prop
 |some v,some u=>RelV v u
 |none,none=>True
 |_,_=>False
def KV {κ:Type}:List (κ×V)->List (κ×Value)->Prop:=Paired λ(p:κ×V) (q:κ×Value)=>p.1=q.1/\RelV p.2 q.2
noncomputable def kV:Key->V
 | .inl i=>.int i
 | .inr x=>.str x
abbrev LK:=List (Key×V)
inductive HO where
 |lst (xs:Vr)
 |tup (xs:Vr)
 |dK (kvs:LK) |dT (kvs:List (List Key×V))
 |set (S:Int->Bool) (n:Nat)
 |ins (C dx:Vs) (fs:List (Str×V))
 |own (x:Vs)
 |xd (fs:List (Str×V))
 |met (f x:Vs)
 |rng (lo hi:Int)
 |cH (o:Obj) (u:HO)
 |fb (ps:Array Value)
 |ext (φ:Heap->Prop)
set_option genInjectivity false
abbrev Hp:=Vs->Option HO
noncomputable def upd (H:Hp) (a:Vs) (o:HO):Hp:=λb=>if b=a then some o else H b
theorem U {H:Hp}{a:Vs}{o:HO}:upd H a o a=some o:=by unfold upd;rw[Zr rfl]
theorem AE {H:Hp}{a b:Vs}{o:HO} (h:b≠a):upd H a o b=H b:=by unfold upd;rw[Zs h]
theorem Gg {H:Hp}{a:Vs}{o u:HO}:upd (upd H a o) a u=upd H a u:=by
 funext b;unfold upd;split <;> rfl
theorem Tt {H:Hp}{a b:Vs}{o u:HO} (h:H a=some o) (h':H b=some u) (d:o≠u):a≠b:=by
 intro e;subst e;rw[h]at h';exact d (Option.some.inj h')
theorem AJ {H:Hp}{a b:Vs}{o:HO} (h:H a=some o) (h':H b=none):a≠b:=by
 intro e;subst e;rw[h]at h';cases h'
section
variable (P:Program) (w:World)
def aP (H:Hp) (h:Heap) (a:Vs):HO->Prop
 | .lst xs=>xs.length<=sizeLine/\∃(its:Vq) (n:Nat),Vals xs its/\h.get? a=some { cls:=.type "list", data:=.seq its.toArray n }
 | .tup xs=>xs.length<=sizeLine/\∃its:Vq,Vals xs its/\IsTup h a its.toArray
 | .dK kvs=>kvs.length<=sizeLine/\(a==sysModules)=false/\∃vs,KV kvs vs/\h.DictOf (Ad P w) a vs
 | .dT kvs=>kvs.length<=sizeLine/\(a==sysModules)=false/\∃xs:List (List Key×Vs×Value),
   Paired (λ(p:List Key×V) (q:List Key×Vs×Value)=>p.1=q.1/\H q.2.1=some (.tup (p.1.map kV))/\RelV p.2 q.2.2) kvs xs /\
   ∃o es ep,h.get? a=some o/\o.ExactDict/\o.data=.dict es ep/\es.toList=xs.map (entryOfKey (tupleKind (Ad P w)))/\(xs.map (·.1)).Nodup
 | .set S n=>h.SetOf (intKind P w) a S n
 | .ins C dx fs=>H dx=some (.own a)/\fs.length<=1000/\dx≠a/\h.get? a=some (W.instObj C dx) /\
   ∃mA,h.Ns1 dx mA/\(∀f,eE (fs.lookup f) (mA f))/\PySem.Within mA (fs.map (·.1))
 | .own _=>∃o,h.get? a=some o
 | .xd fs=>∃mA,h.Ns1 a mA/\∀f,eE (fs.lookup f) (mA f)
 | .rng lo hi=>∃t u v,h.get? a=some { cls:=.type "range", data:=.fields #[.int lo t,.int hi u,.int 1 v] }
 | .cH o u=>h.get? a=some o/\aP H h a u
 | .fb ps=>h.get? a=some { cls:=.none,data:=.fields ps }
 | .met f x=>h.get? a=some (W.methodObj (.ref f) (.ref x))
 | .ext φ=>φ h/\(∃o,h.get? a=some o)/\∀h1 h2:Heap,φ h1->(∀o,h1.get? a=some o->h2.get? a=some o)->φ h2
def dg (H:Hp) (h:Heap):Prop:=∀a o,H a=some o->aP P w H h a o
end
section
variable {P:Program}{w:World}{H H':Hp}{h h':Heap}{a:Vs}{o:HO}
theorem aP.lt (x:aP P w H h a o):a<h.objs.size:=by
 cases o with
 |lst xs=>obtain⟨_,_,_,_,e⟩:=x;exact lt_size e
 |tup xs=>obtain⟨_,_,_,p⟩:=x;exact p.lt
 |dK kvs=>obtain⟨_,_,_,_,o,_,_,e,_⟩:=x;exact lt_size e
 |dT kvs=>obtain⟨_,_,_,_,o,_,_,e,_⟩:=x;exact lt_size e
 |set S n=>obtain⟨o,_,_,_,e,_⟩:=x;exact lt_size e
 |ins C dx fs=>obtain⟨_,_,_,e,_⟩:=x;exact lt_size e
 |own y=>obtain⟨_,e⟩:=x;exact lt_size e
 |xd fs=>obtain⟨_,⟨_,_,_,e,_⟩,_⟩:=x;exact lt_size e
 |rng lo hi=>obtain⟨_,_,_,e⟩:=x;exact lt_size e
 |cH ob u=>obtain⟨e,_⟩:=x;exact lt_size e
 |fb ps=>exact lt_size (show h.get? a=some _ from x)
 |met f y=>exact lt_size (show h.get? a=some _ from x)
 |ext φ=>obtain⟨_,⟨_,e⟩,_⟩:=x;exact lt_size e
theorem Paired.mapP {α β:Type}{F G:α->β->Prop}:∀ {l₁:List α}{l₂:List β},Paired F l₁ l₂->(∀a b,F a b->G a b)->Paired G l₁ l₂
 |_,_,.nil,_=>.nil
 |_,_,.cons r t,f=>.cons (f _ _ r) (Paired.mapP t f)
theorem Paired.imp' {α β:Type}{F G:α->β->Prop} (f:∀a b,F a b->G a b) {l₁:List α}{l₂:List β} (r:Paired F l₁ l₂):Paired G l₁ l₂:=Paired.mapP r f
theorem aP.fc (x:aP P w H h a o) (k:∀b u,(b=a\/H b=some (.own a))->h.get? b=some u->h'.get? b=some u)
  (ho:∀b,H b=some (.own a)->H' b=some (.own a)) (ht:∀b xs,H b=some (.tup xs)->H' b=some (.tup xs)):aP P w H' h' a o:=by
 induction o with
 |lst xs=>obtain⟨z,its,n,r,e⟩:=x;exact⟨z,its,n,r,k _ _ (.inl Zj) e⟩
 |tup xs=>obtain⟨z,its,r,ob,e,c⟩:=x;exact⟨z,its,r,ob,k _ _ (.inl Zj) e,c⟩
 |dK kvs=>obtain⟨z,y,vs,r,ob,es,ep,e,c⟩:=x;exact⟨z,y,vs,r,ob,es,ep,k _ _ (.inl Zj) e,c⟩
 |dT kvs =>
  obtain⟨z,y,xs,r,ob,es,ep,e,c⟩:=x;exact⟨z,y,xs,Paired.mapP r λp q z=>⟨z.1,ht _ _ z.2.1,z.2.2⟩,ob,es,ep,k _ _ (.inl Zj) e,c⟩
 |set S n=>obtain⟨ob,es,ep,t,e,c⟩:=x;exact⟨ob,es,ep,t,k _ _ (.inl Zj) e,c⟩
 |ins C dx fs =>
  obtain⟨d,z,ne,e,mA,⟨od,es,ep,e2,c⟩,r⟩:=x;exact⟨ho _ d,z,ne,k _ _ (.inl Zj) e,mA,⟨od,es,ep,k _ _ (.inr d) e2,c⟩,r⟩
 |own y=>obtain⟨ob,e⟩:=x;exact⟨ob,k _ _ (.inl Zj) e⟩
 |xd fs=>obtain⟨mA,⟨od,es,ep,e,c⟩,r⟩:=x;exact⟨mA,⟨od,es,ep,k _ _ (.inl Zj) e,c⟩,r⟩
 |rng lo hi=>obtain⟨t,u,v,e⟩:=x;exact⟨t,u,v,k _ _ (.inl Zj) e⟩
 |cH ob u ih=>obtain⟨e,q⟩:=x;exact⟨k _ _ (.inl Zj) e,ih q⟩
 |fb ps =>
  have e:h.get? a=some { cls:=.none,data:=.fields ps }:=x;show h'.get? a=some { cls:=.none,data:=.fields ps };exact k a _ (.inl Zj) e
 |met f y =>
  have e:h.get? a=some (W.methodObj (.ref f) (.ref y)):=x;show h'.get? a=some (W.methodObj (.ref f) (.ref y));exact k a _ (.inl Zj) e
 |ext φ=>obtain⟨p,⟨o,e⟩,st⟩:=x;exact⟨st _ _ p λo q=>k _ _ (.inl Zj) q,⟨o,k _ _ (.inl Zj) e⟩,st⟩
theorem dg.lt (x:dg P w H h) (e:H a=some o):a<h.objs.size:=(x a o e).lt
theorem dg.fresh (x:dg P w H h) (e:h.objs.size<=a):H a=none:=by
 cases q:H a with
 |none=>rfl
 |some u=>exact absurd (Z2 (x.lt q) e) (ZI _)
theorem dg.kept (x:dg P w H h) (k:∀b u,h.get? b=some u->h'.get? b=some u):dg P w H h':=λa o e =>
 (x a o e).fc (λb u _ q=>k b u q) (λ_ q=>q) λ_ _ q=>q
theorem dg.laid (x:dg P w H h) (k:∀b u,h.get? b=some u->h'.get? b=some u) (hp:h.objs.size<=a) (new:aP P w (upd H a o) h' a o):dg P w (upd H a o) h':=λb u e=>by
 have hn:=x.fresh hp;by_cases hb:b=a
 ·subst hb;rw[U]at e;cases e;exact new
 ·rw[AE hb]at e;exact(x b u e).fc (λc v _ q=>k c v q) (λc q=>by rw[AE (AJ q hn)];exact q) λc xs q=>by rw[AE (AJ q hn)];exact q
end
def Rd (H:Hp) (a:Vs) (u:HO):Prop:=H a=some u\/∃o,H a=some (.cH o u)
theorem Rd.ok {P:Program}{w:World}{H:Hp}{h:Heap}{a:Vs}{u:HO} (r:Rd H a u) (x:dg P w H h):aP P w H h a u:=by
 rcases r with r |⟨o,r⟩
 ·exact x a u r
 ·obtain⟨_,q⟩:=x a _ r;exact q
def Mut:Option HO->Prop
 |some (.lst _)=>True
 |some (.dK _)=>True
 |some (.dT _)=>True
 |some (.set _ _)=>True
 |some (.ins _ _ _)=>True
 |some (.ext _)=>True
 |_=>False
section
variable {P:Program}{w:World}{H:Hp}{h h':Heap}{x e:Vs}{o':HO}
theorem dg.write (ok:dg P w H h) (mu:Mut (H x)) (he:e=x\/H e=some (.own x)) (k:∀b u,b≠e->h.get? b=some u->h'.get? b=some u) (heo:∃u,h'.get? e=some u)
  (new:aP P w (upd H x o') h' x o'):dg P w (upd H x o') h':=λb u q=>by
 have nown:∀c y,H c=some (.own y)->c≠x:=λc y r z=>by subst z;rw[r]at mu;exact mu
 have ntup:∀c xs,H c=some (.tup xs)->c≠x:=λc xs r z=>by subst z;rw[r]at mu;exact mu
 by_cases hb:b=x
 ·subst hb;rw[U]at q;cases q;exact new
 ·rw[AE hb]at q;by_cases je:b=e
  ·have q':H b=some (.own x):=by
    rcases he with z |z
    ·exact absurd (je.trans z) hb
    ·rw[je];exact z
   rw[q]at q';cases q';obtain⟨v,hv⟩:=heo;exact⟨v,by rw[je];exact hv⟩
  ·refine(ok b u q).fc (λc v hc r=>k c v ?_ r) (λc r=>by rw[AE (nown c b r)];exact r) λc xs r=>by rw[AE (ntup c xs r)];exact r
   rcases hc with rfl |hc
   ·exact je
   ·rintro rfl;rcases he with z |z
    ·exact nown c b hc z
    ·rw[hc]at z;cases z;exact hb rfl
end
structure Un (fs ex:List Vs) (H H':Hp) (h h':Heap):Prop where
 keep:∀b o,h.get? b=some o->H b=none->b∉ fs->b∉ ex->h'.get? b=some o
 slot:∀b o,h.get? b=some o->H b=none->b∈fs->b∉ ex->∃sl,h'.get? b=some { o with slots:=sl }
 free:∀b o,h.get? b=some o->H b=none->b∉ ex->H' b=none
 there:∀b o,h.get? b=some o->b∉ ex->∃o',h'.get? b=some o'
 eM:∀b xs,H b=some (.tup xs)->H' b=some (.tup xs)
 eD:∀b o u,H b=some (.cH o u)->H' b=some (.cH o u)
 d5:∀b ps,H b=some (.fb ps)->∃more,H' b=some (.fb (ps++more))
section
variable {fs fs' ex ex':List Vs}{H H1 H2:Hp}{h h1 h2 h':Heap}{a x e:Vs}{o:HO}
theorem Un.any (u:Un fs ex H H1 h h1) {b:Vs}{ob:Obj} (q:h.get? b=some ob) (n:H b=none) (hx:b∉ ex):∃sl,h1.get? b=some { ob with slots:=sl }:=by
 by_cases hb:b∈fs
 ·exact u.slot b ob q n hb hx
 ·exact⟨ob.slots,u.keep b ob q n hb hx⟩
theorem Un.kept (k:∀b u,h.get? b=some u->h'.get? b=some u):Un fs ex H H h h' :=
 ⟨λb ob q _ _ _=>k b ob q,λb ob q _ _ _=>⟨ob.slots,k b ob q⟩,λ_ _ _ n _=>n,λb ob q _=>⟨ob,k b ob q⟩,λ_ _ q=>q,λ_ _ _ q=>q,λ_ ps q=>⟨#[],by rw[q];simp⟩⟩
theorem Un.refl:Un fs ex H H h h:=Un.kept λ_ _ q=>q
theorem Un.laid (k:∀b u,h.get? b=some u->h'.get? b=some u) (hp:h.objs.size<=a) (hn:H a=none):Un fs ex H (upd H a o) h h' where
 keep:=λb u q _ _ _=>k b u q
 slot:=λb u q _ _ _=>⟨u.slots,k b u q⟩
 free:=λb u q n _=>by rw[AE (ZF (Z2 (lt_size q) hp))];exact n
 there:=λb u q _=>⟨u,k b u q⟩
 eM:=λb xs q=>by rw[AE (AJ q hn)];exact q
 eD:=λb u xs q=>by rw[AE (AJ q hn)];exact q
 d5:=λb ps q=>⟨#[],by rw[AE (AJ q hn),q];simp⟩
theorem Un.write (mu:Mut (H x)) (he:e=x\/H e=some (.own x)) (k:∀b u,b≠e->h.get? b=some u->h'.get? b=some u) (heo:∃u,h'.get? e=some u):Un fs ex H (upd H x o) h h':=by
 have hx:∀b,H b=none->b≠x:=λb n z=>by subst z;rw[n]at mu;exact mu
 have hb:∀b,H b=none->b≠e:=λb n z=>by
  subst z;rcases he with r |r
  ·exact hx b n r
  ·rw[n]at r;cases r
 have hm:∀b u,H b=some u->¬ Mut (some u)->b≠x:=λb u q nm z=>by subst z;rw[q]at mu;exact nm mu
 refine⟨λb u q n _ _=>k b u (hb b n) q,λb u q n _ _=>⟨u.slots,k b u (hb b n) q⟩,λb u q n _=>by rw[AE (hx b n)];exact n,λb u q _=>?_,
  λb xs q=>by rw[AE (hm b _ q λz=>z)];exact q,λb u xs q=>by rw[AE (hm b _ q λz=>z)];exact q,λb ps q=>⟨#[],by rw[AE (hm b _ q λz=>z),q];simp⟩⟩
 by_cases je:b=e
 ·subst je;exact heo
 ·exact⟨u,k b u je q⟩
end
noncomputable def trk (h:Heap) (H:Hp):List Vs:=(List.range h.objs.size).filter λa=>(H a).isSome
noncomputable def Gz (h:Heap) (H:Hp):Heap:=W.hideAll h (trk h H)
theorem Ml (h:Heap) (H:Hp):(Gz h H).objs.size=h.objs.size:=W.hideAll_size _ _
theorem OC {h:Heap}{H:Hp}{b:Vs}{o:Obj} (e:h.get? b=some o) (n:H b=none):(Gz h H).get? b=some o :=
 W.hideAll_get _ e λhm=>by
  have q:(H b).isSome=true:=(mem_filter.mp hm).2;rw[n]at q;simp at q
theorem QN {h:Heap}{H:Hp}{b:Vs}{o:Obj} (e:(Gz h H).get? b=some o):h.get? b=some o/\H b=none:=by
 have e':h.get? b=some o:=W.of_hideAll (trk h H) e;refine⟨e',?_⟩;cases q:H b with
 |none=>rfl
 |some x =>
  have hm:b∈trk h H:=mem_filter.mpr ⟨mem_range.mpr (lt_size e'),by simp[q]⟩;have z:(Gz h H).get? b=none:=W.hideAll_none (trk h H) hm;rw[z]at e;cases e
structure Mod (K:FG) (mg:SV) (base:Heap):Prop where
 kin:K.In base
 glob:base.Ns mainGlobals mg
 blt:∃mb,base.Ns builtinsNs mb/\∀x:Str,x≠ "__name__" -> mb x=bootBuiltins x
 nolimit:base.NoLimit
structure Cx where
 prog:Program
 w:World
 K:FG
 mg:Str->Option Value
 base:Heap
 A:Around
 N:Vp
 aI:Vt
 eJ:Hp
 env:Env
 outer:List Env
 stack:List Env
 ex:List Vs
 fn:Str->Bool
 calm:Bool
 pn:LO
 xe:Value->Vt->Prop
noncomputable def cw (l:List Env):List Vs:=l.filterMap (·.frame)
noncomputable abbrev Cx.fs (X:Cx):List Vs:=cw X.outer
def Vis (sc:Scope) (x:Str):Prop:=sc.names.lookup x=some .local\/sc.names.lookup x=some .cell\/sc.names.lookup x=some .free
def Loc (sc:Scope) (x:Str):Prop:=sc.names.lookup x=some .local\/sc.names.lookup x=some .cell
def U6 (env:Env) (h:Heap) (m:SV) (x:Str) (u:Value):Prop :=
 (env.kindOf x=some .local/\m x=some u)\/((env.kindOf x=some .cell\/env.kindOf x=some .free)/\∃c,env.cells.lookup x=some c/\h.IsCell c (some u))
structure Cx.Ok (X:Cx):Prop where
 mod:Mod X.K X.mg X.base
 kind:X.env.scope.kind=.function
 glob:X.env.globals=mainGlobals
 blt:X.env.builtins=builtinsNs
 above:X.aI.heap.objs.size<=X.env.locals
 inj:∀x y c,X.env.cells.lookup x=some c->X.env.cells.lookup y=some c->x=y
 has:∀x,(X.env.kindOf x=some .cell\/X.env.kindOf x=some .free)->∃c,X.env.cells.lookup x=some c
 i7:∀x c,X.fn x=true->X.env.cells.lookup x=some c->X.aI.heap.objs.size<=c
 hd:X.calm=true->X.A.handled=none
 frames:X.A.frames=some X.stack
 gc:X.stack=X.outer\/(X.stack=X.env::X.outer/\X.env.frame=some X.env.locals)
 exf:∀b∈X.ex,b≠X.env.locals/\∀x c,X.env.cells.lookup x=some c->c≠b
 bs:∀b o,X.base.get? b=some o->X.aI.heap.get? b=some o/\X.eJ b=none
 gX:X.base.objs.size<=X.aI.heap.objs.size
 gB:∀b o,X.base.get? b=some o->b∉ X.ex
 fY:∀b∈X.ex,b∉ X.fs
 dj:X.aI.heap.FunFrames X.base X.outer
 ij:∀b∈X.fs,X.eJ b=none
structure Inv (X:Cx) (aa:LO) (σ:List (Option V)) (H:Hp) (s:Vt):Prop where
 ok:X.Ok
 os:s.os=X.aI.os
 bare:AllBare s.gens
 base:Un X.fs X.ex X.eJ H X.aI.heap s.heap
 loc:∃m,s.heap.Ns X.env.locals m/\∀(i:Nat) (x:Str) (v:V),X.N[i]?=some x->σ[i]?=some (some v)->Vis X.env.scope x->∃u,RelV v u/\U6 X.env s.heap m x u
 cell:∀x c,X.env.cells.lookup x=some c->∃v,s.heap.IsCell c v
 free:H X.env.locals=none
 cQ:∀x c,X.env.cells.lookup x=some c->H c=none
 pin:∀p∈X.pn++aa,s.heap.get? p.1=some p.2/\H p.1=none/\p.1≠X.env.locals/\p.1∉ X.fs/\∀v,p.2.data≠ .cell v
 aF:dg X.prog X.w H s.heap
 len:σ.length=X.N.length
section
variable {X:Cx}{aa:LO}{σ:List (Option V)}{H H':Hp}{s:Vt}{h':Heap}
theorem Cx.Ok.nofr (ok:X.Ok) {b:Vs}{o:Obj} (e:X.base.get? b=some o):b∉ X.fs:=λhb=>by
 have:=(ok.dj.mem hb).1;rw[e]at this;cases this
theorem Inv.bs (I:Inv X aa σ H s):∀b o,X.base.get? b=some o->s.heap.get? b=some o/\H b=none:=λb o e =>
 ⟨I.base.keep b o (I.ok.bs b o e).1 (I.ok.bs b o e).2 (I.ok.nofr e) (I.ok.gB b o e),I.base.free b o (I.ok.bs b o e).1 (I.ok.bs b o e).2 (I.ok.gB b o e)⟩
theorem Inv.bk (I:Inv X aa σ H s):∀b o,X.base.get? b=some o->s.heap.get? b=some o:=λb o e=>(I.bs b o e).1
theorem Inv.mod (I:Inv X aa σ H s):Mod X.K X.mg X.base:=I.ok.mod
theorem Inv.cX (I:Inv X aa σ H s):X.K.In s.heap:=I.ok.mod.kin.keeps I.bk
theorem Inv.fr (I:Inv X aa σ H s):∃m,Fr X.base X.env.locals s.heap m :=
 let ⟨m,hn,_⟩:=I.loc
 ⟨m,hn,I.bk,Nat.le_trans I.ok.gX I.ok.above⟩
theorem Inv.lt (I:Inv X aa σ H s):X.env.locals<s.heap.objs.size:=let ⟨_,hn,_⟩:=I.loc;hn.lt
theorem Inv.sz (I:Inv X aa σ H s):X.aI.heap.objs.size<=s.heap.objs.size:=Nat.le_trans I.ok.above (Nat.le_of_lt I.lt)
theorem Inv.nofs (I:Inv X aa σ H s) {a:Vs} (h:s.heap.objs.size<=a):a∉ X.fs:=λhb=>by
 obtain⟨_,o,ho,_⟩:=I.ok.dj.mem hb;exact absurd (Z2 (lt_size ho) (Nat.le_trans I.sz h)) (ZI _)
theorem Inv.jj (I:Inv X aa σ H s):∀x c,X.env.cells.lookup x=some c->c≠X.env.locals:=λx c e z=>by
 obtain⟨v,o,ho,hd⟩:=I.cell x c e;obtain⟨m,⟨o',es,ep,gW,hd',_⟩,_⟩:=I.loc;rw[z,gW]at ho;cases ho;rw[hd']at hd;cases hd
theorem Inv.dj (I:Inv X aa σ H s):s.heap.FunFrames X.base X.outer:=by
 have all:∀(l:List Env),(∀b∈cw l,b∈X.fs)->X.aI.heap.FunFrames X.base l->s.heap.FunFrames X.base l:=by
  intro l;induction l with
  |nil=>intro _ _;trivial
  |cons env r ih =>
   intro hs hl;obtain⟨hk,⟨L,o,hf,hn,ho,hd⟩,hr⟩:=hl;have hL:L∈X.fs:=hs L (by unfold cw;rw[ZO,hf];exact ZK);obtain⟨sl,e⟩:=I.base.slot L o ho (I.ok.ij L hL) hL λz=>I.ok.fY L z hL;exact⟨hk,⟨L,_,hf,hn,e,hd⟩,ih (λb hb=>hs b (by unfold cw;rw[ZO,hf];exact ZT _ hb)) hr⟩
 exact all X.outer (λ_ hb=>hb) I.ok.dj
theorem Inv.stack (I:Inv X aa σ H s):s.heap.FunFrames X.base X.stack:=by
 rcases I.ok.gc with e |⟨e,hf⟩
 ·rw[e];exact I.dj
 ·rw[e];obtain⟨m,hn,_⟩:=I.loc;refine .cons (by rw[I.ok.kind];decide) hf hn ?_ I.dj;exact Heap.get?_none_of_le (Nat.le_trans I.ok.gX I.ok.above)
theorem Inv.d9 (I:Inv X aa σ H s):∀b∈cw X.stack,b∈X.env.locals::X.fs:=λb hb=>by
 rcases I.ok.gc with e |⟨e,hf⟩
 ·rw[e]at hb;exact ZT _ hb
 ·rw[e]at hb;unfold cw at hb;rw[ZO,hf]at hb;exact hb
theorem Inv.stkFree (I:Inv X aa σ H s):∀b∈cw X.stack,H b=none:=λb hb=>by
 rcases mem_cons.mp (I.d9 b hb)with e |hb
 ·rw[e];exact I.free
 ·obtain⟨_,o,ho,_⟩:=I.ok.dj.mem hb;exact I.base.free b o ho (I.ok.ij b hb) λz=>I.ok.fY b z hb
theorem Inv.step {g':Array GenState}{t':Nat}{d':Drawn}{ch:List Vs} (I:Inv X aa σ H s)
  (iZ:∀b∈ch,(b∈X.ex\/X.aI.heap.objs.size<=b)/\b≠X.env.locals/\(∀x c,X.env.cells.lookup x=some c->c≠b)/\∀p∈X.pn++aa,p.1≠b)
  (keep:∀b o,b≠X.env.locals->b∉ X.fs->b∉ ch->s.heap.get? b=some o->H b=none->h'.get? b=some o)
  (slot:∀b o,b≠X.env.locals->b∈X.fs->b∉ ch->s.heap.get? b=some o->H b=none->∃sl,h'.get? b=some { o with slots:=sl }) (free:∀b o,b∉ ch->s.heap.get? b=some o->H b=none->H' b=none)
  (there:∀b o,b∉ ch->s.heap.get? b=some o->∃o',h'.get? b=some o')
  (eM:∀b xs,H b=some (.tup xs)->H' b=some (.tup xs)) (eD:∀b o u,H b=some (.cH o u)->H' b=some (.cH o u)) (d5:∀b ps,H b=some (.fb ps)->∃more,H' b=some (.fb (ps++more)))
  (ns:∀m,s.heap.Ns X.env.locals m->h'.Ns X.env.locals m) (aF:dg X.prog X.w H' h') (hg:AllBare g') :
  Inv X aa σ H' { s with heap:=h',gens:=g',drawn:=d',toks:=t' }:=by
 have neL:∀b o,X.aI.heap.get? b=some o->b≠X.env.locals:=λb o e=>ZF (Z2 (lt_size e) I.ok.above)
 have neC:∀b o,X.aI.heap.get? b=some o->b∉ X.ex->b∉ ch:=λb o e hx hb=>by
  rcases (iZ b hb).1 with z |z
  ·exact hx z
  ·exact absurd (Z2 (lt_size e) z) (ZI _)
 have cellK:∀x c,X.env.cells.lookup x=some c->∀v,s.heap.IsCell c v->h'.IsCell c v:=λx c e v ⟨o,ho,hd⟩=>by
  have nch:c∉ ch:=λz=>(iZ c z).2.2.1 x c e rfl;by_cases hc:c∈X.fs
  ·obtain⟨sl,q⟩:=slot c o (I.jj x c e) hc nch ho (I.cQ x c e);exact⟨_,q,hd⟩
  ·exact⟨o,keep c o (I.jj x c e) hc nch ho (I.cQ x c e),hd⟩
 refine⟨I.ok,I.os,hg,⟨λb o e n hb hx=>?_,λb o e n hb hx=>?_,λb o e n hx=>?_,λb o e hx=>?_,λb xs e=>eM b xs (I.base.eM b xs e),λb o xs e=>eD b o xs (I.base.eD b o xs e),λb ps e=>?_⟩,?_,λx c e=>?_,?_,λx c e=>?_,λp hp=>?_,aF,I.len⟩
 ·exact keep b o (neL b o e) hb (neC b o e hx) (I.base.keep b o e n hb hx) (I.base.free b o e n hx)
 ·obtain⟨sl,e1⟩:=I.base.slot b o e n hb hx;obtain⟨sl',e2⟩:=slot b _ (neL b o e) hb (neC b o e hx) e1 (I.base.free b o e n hx);exact⟨sl',e2⟩
 ·obtain⟨o',e1⟩:=I.base.there b o e hx;exact free b o' (neC b o e hx) e1 (I.base.free b o e n hx)
 ·obtain⟨o',e1⟩:=I.base.there b o e hx;exact there b o' (neC b o e hx) e1
 ·obtain⟨m1,e1⟩:=I.base.d5 b ps e;obtain⟨m2,e2⟩:=d5 b _ e1;exact⟨m1++m2,by rw[e2,Array.append_assoc]⟩
 ·obtain⟨m,hn,hl⟩:=I.loc;refine⟨m,ns m hn,λi x v e1 e2 e3=>?_⟩;obtain⟨u,r,l⟩:=hl i x v e1 e2 e3;refine⟨u,r,?_⟩;rcases l with l |⟨k,c,e,z⟩
  ·exact .inl l
  ·exact .inr ⟨k,c,e,cellK x c e _ z⟩
 ·obtain⟨v,z⟩:=I.cell x c e;exact⟨v,cellK x c e v z⟩
 ·obtain⟨m,⟨o,_,_,ho,_⟩,_⟩:=I.loc;exact free _ o (λz=>(iZ _ z).2.1 Zj) ho I.free
 ·obtain⟨v,o,ho,hd⟩:=I.cell x c e;exact free c o (λz=>(iZ c z).2.2.1 x c e Zj) ho (I.cQ x c e)
 ·obtain⟨e,n,ne,nf,d⟩:=I.pin p hp;have nch:p.1∉ ch:=λz=>(iZ p.1 z).2.2.2 p hp rfl;exact⟨keep p.1 p.2 ne nf nch e n,free p.1 p.2 nch e n,ne,nf,d⟩
theorem Inv.un {t':Nat} (I:Inv X aa σ H s) (u:Un X.fs [] H H' s.heap h') (aF:dg X.prog X.w H' h'):Inv X aa σ H' { s with heap:=h',toks:=t' }:=by
 obtain⟨m,⟨o,es,ep,ho,r⟩,_⟩:=id I.loc;obtain⟨sl,hL⟩:=u.any ho I.free (by simp)
 exact I.step (g':=s.gens) (d':=s.drawn) (ch:=[]) (λ_ z=>nomatch z) (λb o _ hb _ e n=>u.keep b o e n hb (by simp)) (λb o _ hb _ e n=>u.slot b o e n hb (by simp)) (λb o _ e n=>u.free b o e n (by simp)) (λb o _ e=>u.there b o e (by simp)) u.eM u.eD u.d5 (λm' hm=>by
  obtain⟨o',es',i5,gW,r'⟩:=hm;rw[ho]at gW;cases gW
  exact⟨_,es',i5,hL,r'⟩) aF I.bare
theorem Inv.call {g':Array GenState}{t':Nat}{d':Drawn}{ch:List Vs} (I:Inv X aa σ H s) (u:Un (cw X.stack) ch H H' s.heap h') (aF:dg X.prog X.w H' h') (hg:AllBare g')
  (iZ:∀b∈ch,(b∈X.ex\/X.aI.heap.objs.size<=b)/\b≠X.env.locals/\(∀x c,X.env.cells.lookup x=some c->c≠b)/\∀p∈X.pn++aa,p.1≠b) :
  Inv X aa σ H' { s with heap:=h',gens:=g',drawn:=d',toks:=t' }:=by
 obtain⟨m,⟨o,es,ep,ho,r⟩,_⟩:=id I.loc;obtain⟨sl,hL⟩:=u.any ho I.free λz=>(iZ _ z).2.1 rfl
 exact I.step (ch:=ch) iZ (λb o hL hb hc e n=>u.keep b o e n (λz=>(mem_cons.mp (I.d9 b z)).elim hL hb) hc) (λb o _ _ hc e n=>u.any e n hc) (λb o hc e n=>u.free b o e n hc) (λb o hc e=>u.there b o e hc) u.eM u.eD u.d5 (λm' hm=>by
  obtain⟨o',es',i5,gW,r'⟩:=hm;rw[ho]at gW;cases gW
  exact⟨_,es',i5,hL,r'⟩) aF hg
theorem Inv.turned {t':Nat}{it:Vs} (I:Inv X aa σ H s) (k:∀b o,b≠it->s.heap.get? b=some o->h'.get? b=some o) (hn:H it=none) (hL:it≠X.env.locals)
  (h1:it∈X.ex\/X.aI.heap.objs.size<=it) (h2:∀x c,X.env.cells.lookup x=some c->c≠it) (h3:∀p∈X.pn++aa,p.1≠it):Inv X aa σ H { s with heap:=h',toks:=t' }:=by
 have nit:∀b u,H b=some u->b≠it:=λb u e z=>by rw[z,hn]at e;cases e
 refine I.step (g':=s.gens) (d':=s.drawn) (ch:=[it]) (λb hb=>?_) (λb o _ _ hc e _=>k b o (λz=>hc (by simp[z])) e) (λb o _ _ hc e _=>⟨o.slots,k b o (λz=>hc (by simp[z])) e⟩) (λ_ _ _ _ n=>n)
  (λb o hc e=>⟨o,k b o (λz=>hc (by simp[z])) e⟩) (λ_ _ e=>e) (λ_ _ _ e=>e) (λb ps e=>⟨#[],by rw[e];simp⟩) (λm hm=>?_) (λb u e=>?_) I.bare
 ·have e:b=it:=by simpa using hb
  subst e;exact⟨h1,hL,h2,h3⟩
 ·obtain⟨o,es,ep,ho,r⟩:=hm;exact⟨o,es,ep,k _ o (Ne.symm hL) ho,r⟩
 ·refine(I.aF b u e).fc (λc v hc q=>k c v ?_ q) (λ_ q=>q) λ_ _ q=>q;rcases hc with z |z
  ·rw[z];exact nit b u e
  ·exact nit c _ z
theorem Inv.tok (I:Inv X aa σ H s) (t:Nat):Inv X aa σ H { s with toks:=t }:=I.un (h':=s.heap) (t':=t) Un.refl I.aF
theorem Inv.kept {t':Nat} (I:Inv X aa σ H s) (k:∀b u,s.heap.get? b=some u->h'.get? b=some u):Inv X aa σ H { s with heap:=h',toks:=t' }:=I.un (Un.kept k) (I.aF.kept k)
theorem Inv.laid {a:Vs}{o:HO}{t':Nat} (I:Inv X aa σ H s) (k:∀b u,s.heap.get? b=some u->h'.get? b=some u) (hp:s.heap.objs.size<=a) (new:aP X.prog X.w (upd H a o) h' a o) :
  Inv X aa σ (upd H a o) { s with heap:=h',toks:=t' }:=I.un (Un.laid k hp (I.aF.fresh hp)) (I.aF.laid k hp new)
theorem Inv.write {x e:Vs}{o:HO}{t':Nat} (I:Inv X aa σ H s) (mu:Mut (H x)) (he:e=x\/H e=some (.own x)) (k:∀b u,b≠e->s.heap.get? b=some u->h'.get? b=some u) (heo:∃u,h'.get? e=some u)
  (new:aP X.prog X.w (upd H x o) h' x o):Inv X aa σ (upd H x o) { s with heap:=h',toks:=t' }:=I.un (Un.write mu he k heo) (I.aF.write mu he k heo new)
theorem Inv.weak {aO:List (Option V)} (I:Inv X aa σ H s) (hl:aO.length=σ.length) (w:∀(i:Nat) v,aO[i]?=some (some v)->σ[i]?=some (some v)):Inv X aa aO H s :=
 ⟨I.ok,I.os,I.bare,I.base,let ⟨m,hn,gF⟩:=I.loc;⟨m,hn,λi x v e1 e2 e3=>gF i x v e1 (w i v e2) e3⟩,I.cell,I.free,I.cQ,I.pin,I.aF,hl.trans I.len⟩
theorem Inv.cy {pins':LO} (I:Inv X aa σ H s) (h:∀p∈pins',s.heap.get? p.1=some p.2/\H p.1=none/\p.1≠X.env.locals/\p.1∉ X.fs/\∀v,p.2.data≠ .cell v):Inv X pins' σ H s :=
 ⟨I.ok,I.os,I.bare,I.base,I.loc,I.cell,I.free,I.cQ,λp hp=>(mem_append.mp hp).elim (λz=>I.pin p (ZR _ z)) (h p),I.aF,I.len⟩
theorem Jj {N:Vp} (hN:N.Nodup) {i j:Nat}{x:Str} (a:N[i]?=some x) (b:N[j]?=some x):i=j:=by
 obtain⟨h1,e1⟩:=Z8.mp a;obtain⟨h2,e2⟩:=Z8.mp b;exact(List.getElem_inj hN).mp (e1.trans e2.symm)
theorem Mm {M:Model}{A:Around}{E:VS}{i:Nat}{x:Str}{v:V}{u:Value}{Q:Unit->Vt->Prop} (I:Inv X aa σ H s) (hN:X.N.Nodup) (hi:X.N[i]?=some x) (hx:Loc X.env.scope x) (r:RelV v u)
  (h:∀s',Inv X aa (σ.set i (some v)) H s'->(∃a,Heap.SameBut a s.heap s'.heap/\(a=X.env.locals\/X.env.cells.lookup x=some a))->Q () s') (hf:X.fn x=true\/X.env.scope.names.lookup x=some .local:=by first |exact .inl rfl |exact .inr rfl |assumption):wpAny M A (storeName X.env x u) Q E s:=by
 obtain⟨m,hn,hl⟩:=id I.loc;have bf:(X.env.scope.kind == .class||(X.env.scope.kind == .module&&X.env.locals != X.env.globals))=false:=by rw[I.ok.kind];rfl
 have hiσ:i<σ.length:=by rw[I.len];exact(Z8.mp hi).1
 have jj:=I.jj
 have tracked:∀ {a:Vs}{h':Heap},(∃o,s.heap.get? a=some o/\H a=none)->Heap.SameBut a s.heap h'->dg X.prog X.w H h':=λ{a h'} ha hs b ob e=>by
  obtain⟨_,_,bt⟩:=ha;refine(I.aF b ob e).fc (λc w' hc q=>(hs.2 c ?_).trans q) (λ_ q=>q) λ_ _ q=>q;rintro rfl;rcases hc with rfl |hc
  ·rw[bt]at e;cases e
  ·rw[bt]at hc;cases hc
 rcases hx with hk |hk
 ·refine wpAny_storeName_local hk hn (λh' hn' hs=>?_) bf;obtain⟨oL,_,_,jB,_⟩:=id hn;refine h _ ⟨I.ok,I.os,I.bare,⟨λb o e n hb hx=>?_,λb o e n hb hx=>?_,I.base.free,λb o e hx=>?_,I.base.eM,I.base.eD,I.base.d5⟩,⟨_,hn',λj y v' e1 e2 e3=>?_⟩,λy c e=>?_,I.free,I.cQ,λp hp=>?_,tracked ⟨oL,jB,I.free⟩ hs,by simpa using I.len⟩ ⟨_,hs,.inl Zj⟩
  ·exact(hs.2 b (ZF (Z2 (lt_size e) I.ok.above))).trans (I.base.keep b o e n hb hx)
  ·obtain⟨sl,e1⟩:=I.base.slot b o e n hb hx;exact⟨sl,(hs.2 b (ZF (Z2 (lt_size e) I.ok.above))).trans e1⟩
  ·obtain⟨o',e1⟩:=I.base.there b o e hx;exact⟨o',(hs.2 b (ZF (Z2 (lt_size e) I.ok.above))).trans e1⟩
  ·by_cases hj:j=i
   ·subst hj;rw[hi]at e1;cases e1;rw[List.getElem?_set_self hiσ]at e2;cases e2;exact⟨u,r,.inl ⟨hk,by simp⟩⟩
   ·rw[List.getElem?_set_ne (Ne.symm hj)]at e2;obtain⟨u',r',q⟩:=hl j y v' e1 e2 e3;refine⟨u',r',?_⟩;rcases q with⟨k,e⟩ |⟨k,c,e,z⟩
    ·refine .inl ⟨k,?_⟩;have:y≠x:=λe=>hj (Jj hN e1 (e ▸ hi));simp[this,e]
    ·exact .inr ⟨k,c,e,z.sameBut hs (jj y c e)⟩
  ·obtain⟨w',z⟩:=I.cell y c e;exact⟨w',z.sameBut hs (jj y c e)⟩
  ·obtain⟨e,n,ne,nf,d⟩:=I.pin p hp;exact⟨(hs.2 p.1 ne).trans e,n,ne,nf,d⟩
 ·have hfn:X.fn x=true:=by
   rcases hf with z |z
   ·exact z
   ·rw[z]at hk;cases hk
  obtain⟨c,hc⟩:=I.ok.has x (.inl hk);obtain⟨w',z⟩:=I.cell x c hc;refine wpAny_storeName_cell I.ok.kind hk hc z (λh' iO hs=>?_);obtain⟨oc,hoc,hocd⟩:=id z;refine h { s with heap:=h' } ⟨I.ok,I.os,I.bare,⟨λb o e n hb hx=>?_,λb o e n hb hx=>?_,I.base.free,λb o e hx=>?_,I.base.eM,I.base.eD,I.base.d5⟩,⟨m,hn.sameBut hs (Ne.symm (jj x c hc)),λj y v' e1 e2 e3=>?_⟩,λy c' e=>?_,I.free,I.cQ,λp hp=>?_,tracked ⟨oc,hoc,I.cQ x c hc⟩ hs,by simpa using I.len⟩ ⟨c,hs,.inr hc⟩
  ·exact(hs.2 b (ZF (Z2 (lt_size e) (I.ok.i7 x c hfn hc)))).trans (I.base.keep b o e n hb hx)
  ·obtain⟨sl,e1⟩:=I.base.slot b o e n hb hx;exact⟨sl,(hs.2 b (ZF (Z2 (lt_size e) (I.ok.i7 x c hfn hc)))).trans e1⟩
  ·obtain⟨o',e1⟩:=I.base.there b o e hx;exact⟨o',(hs.2 b (ZF (Z2 (lt_size e) (I.ok.i7 x c hfn hc)))).trans e1⟩
  ·by_cases hj:j=i
   ·subst hj;rw[hi]at e1;cases e1;rw[List.getElem?_set_self hiσ]at e2;cases e2;exact⟨u,r,.inr ⟨.inl hk,c,hc,iO⟩⟩
   ·rw[List.getElem?_set_ne (Ne.symm hj)]at e2;obtain⟨u',r',q⟩:=hl j y v' e1 e2 e3;refine⟨u',r',?_⟩;rcases q with q |⟨k,c',e,z'⟩
    ·exact .inl q
    ·refine .inr ⟨k,c',e,z'.sameBut hs ?_⟩;rintro rfl;exact hj (Jj hN e1 (I.ok.inj _ _ _ e hc ▸ hi))
  ·by_cases hcc:c'=c
   ·subst hcc;exact⟨_,iO⟩
   ·obtain⟨w2,z2⟩:=I.cell y c' e;exact⟨w2,z2.sameBut hs hcc⟩
  ·obtain⟨e,n,ne,nf,d⟩:=I.pin p hp;refine⟨(hs.2 p.1 ?_).trans e,n,ne,nf,d⟩;intro q;rw[q,hoc]at e;have q':oc=p.2:=Option.some.inj e;exact d w' (by rw[←q'];exact hocd)
theorem Eu {M:Model}{A:Around}{E:VS}{i:Nat}{x:Str}{v:V}{u:Value}{Q:Unit->Vt->Prop} (I:Inv X aa σ H s) (hN:X.N.Nodup) (hi:X.N[i]?=some x) (hx:Loc X.env.scope x) (r:RelV v u)
  (h:∀s',Inv X aa (σ.set i (some v)) H s'->Q () s') (hf:X.fn x=true\/X.env.scope.names.lookup x=some .local:=by first |exact .inl rfl |exact .inr rfl |assumption):wpAny M A (storeName X.env x u) Q E s :=
 Mm I hN hi hx r (λs' I' _=>h s' I') hf
theorem Inv.call' {s':Vt}{ch:List Vs} (I:Inv X aa σ H s) (ho:s'.os=s.os) (u:Un (cw X.stack) ch H H' s.heap s'.heap) (aF:dg X.prog X.w H' s'.heap) (hg:AllBare s'.gens)
  (iZ:∀b∈ch,(b∈X.ex\/X.aI.heap.objs.size<=b)/\b≠X.env.locals/\(∀x c,X.env.cells.lookup x=some c->c≠b)/\∀p∈X.pn++aa,p.1≠b):Inv X aa σ H' s':=by
 obtain⟨h',g',d',t',o'⟩:=s';have e:o'=s.os:=ho;subst e;exact I.call (g':=g') (t':=t') (d':=d') u aF hg iZ
end
abbrev XK:=Value->Option Vs->Hp->Prop
abbrev St:=List (Option V)
abbrev VK:=V->Hp->Prop
abbrev TE:=St->Hp->VK->Prop
abbrev TT:=St->Hp->(Bool->Hp->Prop)->Prop
abbrev TA:=St->Hp->(Vr->Hp->Prop)->Prop
structure Gc where
 nx:St->Hp->Prop
 rt:VK
 bk:St->Hp->Prop:=λ_ _=>False
 ct:St->Hp->Prop:=λ_ _=>False
abbrev TS:=Gc->St->Hp->Prop
inductive EP (X:Cx) (aa:LO) (σ:St) (Q:VK) (u:Value) (s':Vt):Prop where
 |mk (v:V) (H':Hp) (i:Inv X aa σ H' s') (r:RelV v u) (q:Q v H'):EP X aa σ Q u s'
def TP (X:Cx) (aa:LO) (σ:St) (Q:Bool->Hp->Prop) (b:Bool) (s':Vt):Prop:=∃H',Inv X aa σ H' s'/\Q b H'
inductive AP (X:Cx) (aa:LO) (σ:St) (Q:Vr->Hp->Prop) (us:Vq) (s':Vt):Prop where
 |mk (vs:Vr) (H':Hp) (i:Inv X aa σ H' s') (r:Vals vs us) (q:Q vs H'):AP X aa σ Q us s'
def SP (X:Cx) (aa:LO) (D:Gc) (f:Flow) (s':Vt):Prop :=
 match f with
 | .next=>∃aO H',Inv X aa aO H' s'/\D.nx aO H'
 | .brk=>∃aO H',Inv X aa aO H' s'/\D.bk aO H'
 | .cont=>∃aO H',Inv X aa aO H' s'/\D.ct aO H'
 | .ret u=>∃v aO H',Inv X aa aO H' s'/\RelV v u/\D.rt v H'
def PE (X:Cx) (e:Expr) (t:TE):Prop :=
 ∀(aa:LO) (s:Vt) (σ:St) (H:Hp) (Q:VK),Inv X aa σ H s->t σ H Q->wpAny (model X.prog X.w) X.A (eval e X.env) (EP X aa σ Q) X.xe s
def PT (X:Cx) (e:Expr) (t:TT):Prop :=
 ∀(aa:LO) (s:Vt) (σ:St) (H:Hp) (Q:Bool->Hp->Prop),Inv X aa σ H s->t σ H Q->wpAny (model X.prog X.w) X.A (isTrue e X.env (eval e X.env)) (TP X aa σ Q) X.xe s
def PW (X:Cx) (e:Expr) (t:TT):Prop :=
 ∀(whole:Sem Value) (aa:LO) (s:Vt) (σ:St) (H:Hp) (Q:Bool->Hp->Prop),Inv X aa σ H s->t σ H Q->wpAny (model X.prog X.w) X.A (isTrue e X.env whole) (TP X aa σ Q) X.xe s
theorem PW.pt {X:Cx}{e:Expr}{t:TT} (h:PW X e t):PT X e t:=h _
def PA (X:Cx) (es:List Expr) (t:TA):Prop :=
 ∀(pos:Pos) (aa:LO) (s:Vt) (σ:St) (H:Hp) (Q:Vr->Hp->Prop),Inv X aa σ H s->t σ H Q->wpAny (model X.prog X.w) X.A (spliced (backTo pos (starEach es X.env))) (AP X aa σ Q) X.xe s
def PS (X:Cx) (st:Stmt) (t:TS):Prop :=
 ∀(aa:LO) (s:Vt) (σ:St) (H:Hp) (D:Gc),Inv X aa σ H s->t D σ H->wpAny (model X.prog X.w) X.A (exec st X.env) (SP X aa D) X.xe s
def eI (X:Cx) (st:List Stmt) (t:TS):Prop :=
 ∀(aa:LO) (s:Vt) (σ:St) (H:Hp) (D:Gc),Inv X aa σ H s->t D σ H->wpAny (model X.prog X.w) X.A (execs st X.env) (SP X aa D) X.xe s
theorem aH {α:Type}{t:Sem α}{Q Q':α->Vt->Prop}{M:Model}{A:Around}{E:VS}{s:Vt} (h:wpAny M A t Q E s) (hQ:∀a s,Q a s->Q' a s):wpAny M A t Q' E s:=Zx h hQ λ_ _ x=>x
end L2
variable {X:L2.Cx}{H:L2.Hp}{H':L2.Hp}{pos:PySem.Pos}{σ:L2.St}{P:PySem.Program}{w:PySem.World}{A:PySem.Around}{aa:LO}{x:PySem.Str}{a:PySem.Addr}{K:FG}{C:PySem.Addr}{E:VS}{h:PySem.Heap}{us:List PySem.Value}{f:PySem.Addr}{u:PySem.Value}{xs:List L2.V}{e:PySem.Expr}{te:L2.TE}{base:PySem.Heap}{N:List PySem.Str}{mg:SV}
namespace L2
open PySem PySem.Spec PyProof.Rows
section
inductive ExV (o:Option (Option V)) (k:V->Prop):Prop where
 |mk (v:V) (h:o=some (some v)) (q:k v):ExV o k
inductive ExB (x:V) (k:Bool->Prop):Prop where
 |mk (c:Bool) (h:x=.bl c) (q:k c):ExB x k
inductive ExI (x y:V) (k:Int->Int->Prop):Prop where
 |mk (i j:Int) (h:x=.int i) (h':y=.int j) (q:k i j):ExI x y k
def C5 (i:Nat):TE:=λσ H Q=>ExV σ[i]? λv=>Q v H
def tC (v:V):TE:=λ_ H Q=>Q v H
theorem OD {i:Nat} (hN:X.N[i]?=some x) (hv:Vis X.env.scope x) (hd:(x==("__debug__" : Str))=false:=by decide) (fJ:(x==("__classdict__" : Str))=false:=by decide):PE X (.Name x pos) (C5 i):=by
 intro aa s σ H Q I h;obtain⟨v,e,h⟩:=h;obtain⟨m,hn,hl⟩:=I.loc;obtain⟨u,r,l⟩:=hl i x v hN e hv;have fin:EP X aa σ Q u s:=⟨v,H,I,r,h⟩;rcases l with⟨hk,hm⟩ |⟨hk,c,hc,be⟩
 ·exact wpAny_Name (wpAny_loadName_local I.ok.kind hk hn hm fin) hd
 ·rcases hk with hk |hk
  ·exact wpAny_Name (wpAny_loadName_cell I.ok.kind hk hc be fin) hd
  ·exact wpAny_Name (wpAny_loadName_free I.ok.kind hk hc be fin fJ) hd
theorem AI {i j pos}:PE X (.Constant (.int i) j pos) (tC (.int i)):=λ_ _ _ H _ I h=>wpAny_Constant_int ⟨.int i,H,I.tok _,⟨_,rfl⟩,h⟩
theorem CY {b j pos}:PE X (.Constant (.bool b) j pos) (tC (.bl b)):=λ_ _ _ H _ I h=>Constant_bool ⟨.bl b,H,I,rfl,h⟩
theorem Ip {j pos}:PE X (.Constant .none j pos) (tC .aT):=λ_ _ _ H _ I h=>Constant_none ⟨.aT,H,I,rfl,h⟩
theorem Al {x j pos}:PE X (.Constant (.str x) j pos) (tC (.str x)):=λ_ _ _ H _ I h=>Calls.Constant_str ⟨.str x,H,I.tok _,⟨_,rfl⟩,h⟩
def Gl (X:Cx) (x:Str):Prop:=X.env.kindOf x=some .globalImplicit
theorem Br {s:Vt}{Q:VS} (I:Inv X aa σ H s) (hg:Gl X x) (hm:X.mg x=some u) (h:Q u s)
  (hd:(x==("__debug__" : Str))=false:=by decide):wpAny (model X.prog X.w) X.A (eval (.Name x pos) X.env) Q E s :=
 Calls.Name_function_global I.ok.kind hg (Calls.loadGlobal_global (by rw[I.ok.glob];exact I.mod.glob.keeps I.bk) hm h) hd
theorem EY {s:Vt}{Q:VS} (I:Inv X aa σ H s) (hg:Gl X x) (hm:X.mg x=none) (hv:bootBuiltins x=some u) (h:Q u s)
  (hn:x≠ "__name__" := by decide) (hd:(x==("__debug__" : Str))=false:=by decide):wpAny (model X.prog X.w) X.A (eval (.Name x pos) X.env) Q E s:=by
 obtain⟨mb,h1,h2⟩:=I.mod.blt;exact Calls.Name_function_global I.ok.kind hg (Calls.loadGlobal_builtin (by rw[I.ok.glob];exact I.mod.glob.keeps I.bk) hm (by rw[I.ok.blt];exact h1.keeps I.bk) ((h2 x hn).trans hv) h) hd
theorem Ag {v:V} (hg:Gl X x) (hm:X.mg x=some u) (r:RelV v u) (hd:(x==("__debug__" : Str))=false:=by decide):PE X (.Name x pos) (tC v) :=
 λ_ _ _ H _ I h=>Br I hg hm ⟨v,H,I,r,h⟩ hd
theorem Cz {v:V} (hg:Gl X x) (hm:X.mg x=none) (hv:bootBuiltins x=some u) (r:RelV v u) (hn:x≠ "__name__" := by decide) (hd:(x==("__debug__" : Str))=false:=by decide):PE X (.Name x pos) (tC v) :=
 λ_ _ _ H _ I h=>EY I hg hm hv ⟨v,H,I,r,h⟩ hn hd
variable {a b:Expr}{ta tb:TE}
def PC (X:Cx) (op:CmpOp) (a b:Expr) (t:TE):Prop :=
 ∀(aa:LO) (s:Vt) (σ:St) (H:Hp) (Q:VK),Inv X aa σ H s->t σ H Q ->
  wpAny (model X.prog X.w) X.A (eval a X.env) (λv aN=>wpAny (model X.prog X.w) X.A (eval b X.env) (λu s₂=>wpAny (model X.prog X.w) X.A (compareOp op v u) (EP X aa σ Q) X.xe s₂) X.xe aN) X.xe s
theorem Jk (b:Expr) {op:CmpOp} (h:op≠ .In) (h2:op≠ .NotIn):behindInMarks op b=false:=by
 have e1:(op==CmpOp.In)=false:=by cases op <;> first |rfl |exact absurd rfl h
 have e2:(op==CmpOp.NotIn)=false:=by cases op <;> first |rfl |exact absurd rfl h2
 cases b <;> simp[behindInMarks,e1,e2]
def U7 (ta:TE):TE:=λσ H Q=>ta σ H λx H1=>Q (.bl (decide (x=.aT))) H1
theorem RelV.none_iff {x:V}{v:Value} (r:RelV x v):(v==Value.none)=decide (x=.aT):=by
 cases x with
 |aT=>cases r;rfl
 |bl _=>cases r;rfl
 |int _=>obtain⟨t,rfl⟩:=r;rfl
 |str _=>obtain⟨t,rfl⟩:=r;rfl
 |iy _=>obtain⟨t,rfl⟩:=r;rfl
 |jF _=>obtain⟨t,rfl⟩:=r;rfl
 |ref _=>cases r;rfl
 |ty _=>cases r;rfl
theorem EZ {j pos'} (ha:PE X a ta):PC X .Is a (.Constant .none j pos') (U7 ta):=by
 intro aa s σ H Q I h;refine aH (ha aa s σ H _ I h) λv s1 ⟨x,H1,I1,r1,q1⟩=>?_;exact Constant_none (is_none_gen ⟨.bl _,H1,I1,by rw[r1.none_iff];rfl,q1⟩)
def tB (t:TE):TT:=λσ H Q=>t σ H λx H1=>ExB x λc=>Q c H1
theorem Kq {op:CmpOp}{t:TE} (h:PC X op a b t) (h1:behindInMarks op b=false:=by first |exact Jk _ qc qc |rfl):PE X (.Compare a [op] [b] pos) t:=λaa s σ H Q I hw=>wpAny_Compare1 (h aa s σ H Q I hw) h1
theorem C6 {op:CmpOp}{t:TE} (h:PC X op a b t) (h1:behindInMarks op b=false:=by first |exact Jk _ qc qc |rfl):PT X (.Compare a [op] [b] pos) (tB t):=by
 intro aa s σ H Q I hw;refine wpAny_isTrue_Compare1 (aH (h aa s σ H _ I hw) λv s1 h1=>aH h1 λu s2 h2=>aH h2 λc s3 ⟨x,H1,I1,r1,q1⟩=>?_) h1;obtain⟨d,rfl,q⟩:=q1;cases r1;exact Z0 ⟨H1,I1,q⟩
theorem Ae {t:TE} (h:PE X e t) (he:∀whole,isTrue e X.env whole=(do let v ←whole;standAt e.pos;holding [v] (truthy v)):=by intro _;rfl):PT X e (tB t):=by
 intro aa s σ H Q I hw;refine isTrue_plain (aH (h aa s σ H _ I hw) λv s1 ⟨x,H1,I1,r1,q1⟩=>?_) (he _);obtain⟨d,rfl,q⟩:=q1;cases r1;exact Z0 ⟨H1,I1,q⟩
variable {tA tB':TT}{rest:List Expr}
def U8 (t u:TT):TT:=λσ H Q=>t σ H λc H1=>if c=true then u σ H1 Q else Q false H1
def tOr (t u:TT):TT:=λσ H Q=>t σ H λc H1=>if c=true then Q true H1 else u σ H1 Q
def U9 (t:TT):TT:=λσ H Q=>t σ H λc H1=>Q (!c) H1
theorem C0 (ha:PT X a tA):PW X (.BoolOp .And [a] pos) tA:=by
 intro wh aa s σ H Q I h;refine isTrue_and (aH (ha aa s σ H Q I h) λc s1 e=>?_);cases c with
 |true=>exact isTrue_and_nil e
 |false=>exact e
theorem BW (ha:PT X a tA):PW X (.BoolOp .Or [a] pos) tA:=by
 intro wh aa s σ H Q I h;refine isTrue_or (aH (ha aa s σ H Q I h) λc s1 e=>?_);cases c with
 |false=>exact isTrue_or_nil e
 |true=>exact e
theorem Do (ha:PT X a tA) (hb:PW X (.BoolOp .And (b::rest) pos) tB'):PW X (.BoolOp .And (a::b::rest) pos) (U8 tA tB'):=by
 intro wh aa s σ H Q I h;refine isTrue_and (aH (ha aa s σ H _ I h) λc s1 ⟨H1,I1,q1⟩=>?_);cases c with
 |true=>exact hb wh aa s1 σ H1 Q I1 q1
 |false=>exact⟨H1,I1,q1⟩
theorem B9 (ha:PT X a tA) (hb:PW X (.BoolOp .Or (b::rest) pos) tB'):PW X (.BoolOp .Or (a::b::rest) pos) (tOr tA tB'):=by
 intro wh aa s σ H Q I h;refine isTrue_or (aH (ha aa s σ H _ I h) λc s1 ⟨H1,I1,q1⟩=>?_);cases c with
 |true=>exact⟨H1,I1,q1⟩
 |false=>exact hb wh aa s1 σ H1 Q I1 q1
theorem Ah (ha:PT X a tA):PT X (.UnaryOp .Not a pos) (U9 tA):=by
 intro aa s σ H Q I h;exact isTrue_not (ha aa s σ H (λc H1=>Q (!c) H1) I h)
def Tu (ta tb:TE):TE:=λσ H Q=>ta σ H λx H1=>ExB x λc=>if c=true then tb σ H1 Q else Q (.bl false) H1
def VA (ta tb:TE):TE:=λσ H Q=>ta σ H λx H1=>ExB x λc=>if c=true then Q (.bl true) H1 else tb σ H1 Q
def Tv (ta:TE):TE:=λσ H Q=>ta σ H λx H1=>ExB x λc=>Q (.bl (!c)) H1
theorem Bf {op}{t:TE} (h:PE X a t):PE X (.BoolOp op [a] pos) t:=λaa s σ H Q I hw=>BoolOp_one (h aa s σ H Q I hw)
theorem BQ (ha:PE X a ta) (hb:PE X (.BoolOp .And (b::rest) pos) tb):PE X (.BoolOp .And (a::b::rest) pos) (Tu ta tb):=by
 intro aa s σ H Q I h;refine BoolOp_and (aH (ha aa s σ H _ I h) λv s1 ⟨x,H1,I1,r1,q1⟩=>?_);obtain⟨c,rfl,q1⟩:=q1;cases r1;refine Z0 ?_;cases c with
 |true=>exact hb aa s1 σ H1 Q I1 q1
 |false=>exact⟨.bl false,H1,I1,rfl,q1⟩
theorem R0 (ha:PE X a ta) (hb:PE X (.BoolOp .Or (b::rest) pos) tb):PE X (.BoolOp .Or (a::b::rest) pos) (VA ta tb):=by
 intro aa s σ H Q I h;refine BoolOp_or (aH (ha aa s σ H _ I h) λv s1 ⟨x,H1,I1,r1,q1⟩=>?_);obtain⟨c,rfl,q1⟩:=q1;cases r1;refine Z0 ?_;cases c with
 |false=>exact hb aa s1 σ H1 Q I1 q1
 |true=>exact⟨.bl true,H1,I1,rfl,q1⟩
theorem OE (ha:PE X a ta):PE X (.UnaryOp .Not a pos) (Tv ta):=by
 intro aa s σ H Q I h;refine UnaryOp_ (aH (ha aa s σ H _ I h) λv s1 ⟨x,H1,I1,r1,q1⟩=>?_);obtain⟨c,rfl,q1⟩:=q1;cases r1;exact not_of (Z0 ⟨.bl (!c),H1,I1,Zj,q1⟩)
def tIf (t:TT) (ta tb:TE):TE:=λσ H Q=>t σ H λc H1=>if c=true then ta σ H1 Q else tb σ H1 Q
theorem Ev {c:Expr} (hc:PT X c tA) (ha:PE X a ta) (hb:PE X b tb):PE X (.IfExp c a b pos) (tIf tA ta tb):=by
 intro aa s σ H Q I h;refine wpAny_IfExp (aH (hc aa s σ H _ I h) λd s1 ⟨H1,I1,q1⟩=>?_);cases d with
 |true=>exact ha aa s1 σ H1 Q I1 q1
 |false=>exact hb aa s1 σ H1 Q I1 q1
end
def aJ (K:FG) (H:Hp) (a:Vs) (xs:Vr):Prop :=
 Rd H a (.lst xs) \/
  ∃(o:Obj) (its:Array Value) (n:Nat),K.lookup a=some o/\o.cls=.type "list" /\ o.dict=none/\o.data=.seq its n/\its.size<=sizeLine/\Vals xs its.toList
def bZ (K:FG) (H:Hp) (a:Vs) (xs:Vr):Prop :=
 Rd H a (.tup xs) \/
  ∃(o:Obj) (its:Array Value) (n:Nat),K.lookup a=some o/\o.cls=.type "tuple" /\ o.data=.seq its n/\its.size<=sizeLine/\Vals xs its.toList
noncomputable def VB:Value->Option V
 | .none=>some .aT
 | .bool b=>some (.bl b)
 | .int i _=>some (.int i)
 | .str x _=>some (.str x)
 | .bytes b _=>some (.iy b)
 | .float b _=>some (.jF b)
 | .ref a=>some (.ref a)
 | .type n=>some (.ty n)
 |_=>none
theorem RelV.abs {x:V} (r:RelV x u):VB u=some x:=by
 cases x with
 |aT=>cases r;rfl
 |bl _=>cases r;rfl
 |int _=>obtain⟨t,rfl⟩:=r;rfl
 |str _=>obtain⟨t,rfl⟩:=r;rfl
 |iy _=>obtain⟨t,rfl⟩:=r;rfl
 |jF _=>obtain⟨t,rfl⟩:=r;rfl
 |ref _=>cases r;rfl
 |ty _=>cases r;rfl
theorem RelV.inj {x y:V}{u:Value} (r:RelV x u) (q:RelV y u):x=y:=Option.some.inj (r.abs.symm.trans q.abs)
theorem Vals.inj:∀ {xs ys:Vr}{us:Vq},Vals xs us->Vals ys us->xs=ys
 |_,_,_,.nil,.nil=>rfl
 |_,_,_,.cons r t,.cons r' t'=>by rw[r.inj r',Vals.inj t t']
section
variable {s:Vt}{ys:Vr}
theorem aJ.of (h:H a=some (.lst xs)):aJ K H a xs:=.inl (.inl h)
theorem bZ.of (h:H a=some (.tup xs)):bZ K H a xs:=.inl (.inl h)
theorem Inv.list (I:Inv X aa σ H s) (h:aJ X.K H a xs):∃its:Vq,Vals xs its/\PlainL s.heap a its.toArray/\xs.length<=sizeLine:=by
 rcases h with h |⟨o,its,n,hk,hc,hd,hs,hz,r⟩
 ·obtain⟨z,its,n,r,e⟩:=h.ok I.aF;exact⟨its,r,⟨_,n,e,Zj,Zj,Zj⟩,z⟩
 ·refine⟨its.toList,r,⟨o,n,I.cX a o hk,hc,hd,by simpa using hs⟩,?_⟩;have e:=r.length;simp only[Array.length_toList]at e;omega
theorem Inv.tuple (I:Inv X aa σ H s) (h:bZ X.K H a xs):∃its:Vq,Vals xs its/\IsTup s.heap a its.toArray/\xs.length<=sizeLine:=by
 rcases h with h |⟨o,its,n,hk,hc,hs,hz,r⟩
 ·obtain⟨z,its,r,p⟩:=h.ok I.aF;exact⟨its,r,p,z⟩
 ·refine⟨its.toList,r,⟨o,I.cX a o hk,hc,n,by simpa using hs⟩,?_⟩;have e:=r.length;simp only[Array.length_toList]at e;omega
theorem Inv.list_inj (I:Inv X aa σ H s) (h:aJ X.K H a xs) (h':aJ X.K H a ys):xs=ys:=by
 obtain⟨its,r,⟨o,n,e,_,_,d⟩,_⟩:=I.list h;obtain⟨its',r',⟨o',n',e',_,_,d'⟩,_⟩:=I.list h';rw[e]at e';cases e';rw[d]at d';injection d' with d1 _
 have:its=its':=by simpa using congrArg Array.toList d1
 subst this;exact r.inj r'
theorem Inv.tuple_inj (I:Inv X aa σ H s) (h:bZ X.K H a xs) (h':bZ X.K H a ys):xs=ys:=by
 obtain⟨its,r,⟨o,e,_,n,d⟩,_⟩:=I.tuple h;obtain⟨its',r',⟨o',e',_,n',d'⟩,_⟩:=I.tuple h';rw[e]at e';cases e';rw[d]at d';injection d' with d1 _
 have:its=its':=by simpa using congrArg Array.toList d1
 subst this;exact r.inj r'
end
noncomputable abbrev Cx.ft (X:Cx) (E:VS):Cx:={ X with xe:=E }
noncomputable abbrev Cx.dZ (X:Cx):Cx:=X.ft λ_ _=>False
theorem Cx.Ok.ft {X:Cx} (ok:X.Ok) (E:VS):(X.ft E).Ok :=
 ⟨ok.mod,ok.kind,ok.glob,ok.blt,ok.above,ok.inj,ok.has,ok.i7,ok.hd,ok.frames,ok.gc,ok.exf,ok.bs,ok.gX,ok.gB,ok.fY,ok.dj,ok.ij⟩
theorem Cx.Ok.dh (ok:(X.ft E).Ok):X.Ok :=
 ⟨ok.mod,ok.kind,ok.glob,ok.blt,ok.above,ok.inj,ok.has,ok.i7,ok.hd,ok.frames,ok.gc,ok.exf,ok.bs,ok.gX,ok.gB,ok.fY,ok.dj,ok.ij⟩
section
variable {s:Vt}
theorem Inv.ft (I:Inv X aa σ H s) (E:VS):Inv (X.ft E) aa σ H s:=⟨I.ok.ft E,I.os,I.bare,I.base,I.loc,I.cell,I.free,I.cQ,I.pin,I.aF,I.len⟩
theorem Inv.dh (I:Inv (X.ft E) aa σ H s):Inv X aa σ H s:=⟨I.ok.dh,I.os,I.bare,I.base,I.loc,I.cell,I.free,I.cQ,I.pin,I.aF,I.len⟩
theorem SP.dh {D:Gc}{f:Flow}{s':Vt} (h:SP (X.ft E) aa D f s'):SP X aa D f s':=by
 cases f with
 |next=>obtain⟨aO,H',I,q⟩:=h;exact⟨aO,H',I.dh,q⟩
 |brk=>obtain⟨aO,H',I,q⟩:=h;exact⟨aO,H',I.dh,q⟩
 |cont=>obtain⟨aO,H',I,q⟩:=h;exact⟨aO,H',I.dh,q⟩
 |ret u=>obtain⟨v,aO,H',I,r,q⟩:=h;exact⟨v,aO,H',I.dh,r,q⟩
theorem eI.dZ {st:List Stmt}{t:TS} (h:eI X.dZ st t):eI X st t:=λaa s σ H D I hw =>
 Zx (h aa s σ H D (I.ft _) hw) (λ_ _ q=>q.dh) λ_ _ z=>False.elim z
end
section
variable {st:Stmt}{rest:List Stmt}{t u:TS}
def R5:TS:=λD σ H=>D.nx σ H
def Tw (t u:TS):TS:=λD σ H=>t { D with nx:=u D } σ H
theorem AR:eI X [] R5:=λ_ _ σ H _ I h=>wpAny_execs_nil ⟨σ,H,I,h⟩
theorem AC (h1:PS X st t) (h2:eI X rest u):eI X (st::rest) (Tw t u):=by
 intro aa s σ H D I h;refine wpAny_execs_cons (aH (h1 aa s σ H { D with nx:=u D } I h) λf s1 q=>?_);cases f with
 |next =>
  obtain⟨aO,H',I',q⟩:=q;exact h2 aa s1 aO H' D I' q
 |ret v=>exact q
 |brk=>exact q
 |cont=>exact q
theorem AD (h1:PS X st t):eI X [st] t:=by
 intro aa s σ H D I h;refine wpAny_execs_cons (aH (h1 aa s σ H D I h) λf s1 q=>?_);cases f with
 |next=>exact wpAny_execs_nil q
 |ret v=>exact q
 |brk=>exact q
 |cont=>exact q
theorem Inv.quiet {s:Vt} (I:Inv X aa σ H s):interactive X.env=false:=by simp[interactive,I.ok.kind]
def R6 (te:TE):TS:=λD σ H=>te σ H λ_ H1=>D.nx σ H1
theorem Ai (he:PE X e te) (hs:swapsWith e none pos.line X.env=pure false:=by rfl):PS X (.Expr e pos) (R6 te):=by
 intro aa s σ H D I h;exact wpAny_Expr_any (aH (he aa s σ H _ I h) λv s1 ⟨x,H1,I1,r1,q1⟩=>⟨σ,H1,I1,q1⟩) I.quiet hs
def VD (te:TE):TS:=λD σ H=>te σ H D.rt
theorem AN (he:PE X e te):PS X (.Return (some e) pos) (VD te):=by
 intro aa s σ H D I h;exact wpAny_Return_some (aH (he aa s σ H _ I h) λv s1 ⟨x,H1,I1,r1,q1⟩=>⟨x,σ,H1,I1,r1,q1⟩)
def Tx (c:TT) (t u:TS):TS:=λD σ H=>c σ H λb H1=>if b=true then t D σ H1 else u D σ H1
theorem Ac {c:Expr}{a b:List Stmt}{tc:TT} (hc:PT X c tc) (ha:eI X a t) (hb:eI X b u):PS X (.If c a b pos) (Tx tc t u):=by
 intro aa s σ H D I h;refine wpAny_If (aH (hc aa s σ H _ I h) λd s1 ⟨H1,I1,q1⟩=>?_);cases d with
 |true=>exact ha aa s1 σ H1 D I1 q1
 |false=>exact hb aa s1 σ H1 D I1 q1
def OF:TS:=λ_ _ _=>False
theorem Ap:PS X st OF:=λ_ _ _ _ _ _ h=>h.elim
theorem Mn {sts:List Stmt}:eI X sts OF:=λ_ _ _ _ _ _ h=>h.elim
end
abbrev TG:=V->St->Hp->(St->Hp->Prop)->Prop
abbrev TGs:=Vr->St->Hp->(St->Hp->Prop)->Prop
def PG (X:Cx) (target:Expr) (t:TG):Prop :=
 ∀(aa:LO) (s:Vt) (σ:St) (H:Hp) (v:V) (u:Value) (Q:St->Hp->Prop),Inv X aa σ H s->RelV v u->t v σ H Q ->
  wpAny (model X.prog X.w) X.A (assign target X.env u) (λ_ s'=>∃aO H',Inv X aa aO H' s'/\Q aO H') X.xe s
def PGs (X:Cx) (ts:List Expr) (t:TGs):Prop :=
 ∀(aa:LO) (s:Vt) (σ:St) (H:Hp) (vs:Vr) (us:Vq) (Q:St->Hp->Prop),Inv X aa σ H s->Vals vs us->t vs σ H Q ->
  wpAny (model X.prog X.w) X.A (assignInOrder ((assignEach ts X.env).map (·.2)) us) (λ_ s'=>∃aO H',Inv X aa aO H' s'/\Q aO H') X.xe s
abbrev Sb:=V->V->V->Hp->(Hp->Prop)->Prop
def Ty (X:Cx) (t:Sb):Prop :=
 ∀(aa:LO) (s:Vt) (σ:St) (H:Hp) (o i v:V) (ov iv u:Value) (Q:Hp->Prop),Inv X aa σ H s->RelV o ov->RelV i iv->RelV v u->t o i v H Q ->
  wpAny (model X.prog X.w) X.A (setItem ov iv u) (λ_ s'=>∃H',Inv X aa σ H' s'/\Q H') X.xe s
abbrev TIp:=V->V->Hp->VK->Prop
def PIp (X:Cx) (op:Operator) (t:TIp):Prop :=
 ∀(aa:LO) (s:Vt) (σ:St) (H:Hp) (x y:V) (v u:Value) (Q:VK),Inv X aa σ H s->RelV x v->RelV y u->t x y H Q ->
  wpAny (model X.prog X.w) X.A (inplaceOp op v u) (EP X aa σ Q) X.xe s
section
def C1 (i:Nat):TG:=λv σ H Q=>Q (σ.set i (some v)) H
theorem Ar {i:Nat} (hN:X.N.Nodup) (hi:X.N[i]?=some x) (hx:Loc X.env.scope x) (hf:X.fn x=true\/X.env.scope.names.lookup x=some .local:=by first |exact .inl rfl |exact .inr rfl |assumption):PG X (.Name x pos) (C1 i):=by
 intro aa s σ H v u Q I r h;exact wpAny_assign_Name (Eu I hN hi hx r (λs' I'=>⟨_,H,I',h⟩) hf)
def QO:TGs:=λvs σ H Q=>vs=[]/\Q σ H
inductive ExC (vs:Vr) (k:V->Vr->Prop):Prop where
 |mk (v:V) (r:Vr) (h:vs=v::r) (q:k v r):ExC vs k
def G5 (t:TG) (u:TGs):TGs:=λvs σ H Q=>ExC vs λv r=>t v σ H λaO H'=>u r aO H' Q
theorem C2:PGs X [] QO:=by
 intro aa s σ H vs us Q I r h;obtain⟨e,h⟩:=h;subst e;cases r;exact assignInOrder_nil ⟨σ,H,I,h⟩
theorem Az {es:List Expr}{t:TG}{u:TGs} (h1:PG X e t) (h2:PGs X es u)
  (hs:(assignEach (e::es) X.env).map (·.2)=assign e X.env::(assignEach es X.env).map (·.2):=by rfl):PGs X (e::es) (G5 t u):=by
 intro aa s σ H vs us Q I r h;obtain⟨v,vr,e1,h⟩:=h;subst e1;cases r with
 |cons r rr =>
  rw[hs];refine assignInOrder_cons (aH (h1 aa s σ H _ _ _ I r h) λ_ s1 ⟨iJ,H1,I1,q1⟩=>?_);exact h2 aa s1 iJ H1 _ _ Q I1 rr q1
inductive ExT (K:FG) (n:Nat) (v:V) (H:Hp) (k:Vr->Prop):Prop where
 |mk (a:Vs) (xs:Vr) (h1:v=.ref a) (h2:bZ K H a xs) (h3:xs.length=n) (q:k xs):ExT K n v H k
def QP (K:FG) (n:Nat) (t:TGs):TG:=λv σ H Q=>ExT K n v H λxs=>t xs σ H Q
theorem Dp {es:List Expr}{k:Nat}{t:TGs}{n:Nat} (hc:X.calm=true) (h:PGs X es t)
  (hn:(assignEach es X.env).length=n:=by rfl) (hst:(assignEach es X.env).findIdx? (·.1)=none:=by rfl):PG X (.Tuple es k pos) (QP X.K n t):=by
 intro aa s σ H v u Q I r hw;obtain⟨a,xs,e1,hq,hl,hw⟩:=hw;subst e1;cases r;obtain⟨its,rv,ht,hz⟩:=I.tuple hq;refine assign_Tuple_tuple (I.ok.hd hc) ht (by simp[hn,←hl,rv.length]) hst λh' hx=>?_;have I1:Inv X aa σ H { s with heap:=h' }:=I.kept (t':=s.toks) λb o e=>hx b o (ZF (lt_size e)) e;exact h aa _ σ H xs _ Q I1 (by simpa using rv) hw
def VE (to ti:TE) (t:Sb):TG:=λv σ H Q=>to σ H λo H1=>ti σ H1 λi H2=>t o i v H2 λH3=>Q σ H3
theorem OG {o i:Expr}{to ti:TE}{t:Sb} (ho:PE X o to) (hi:PE X i ti) (hs:Ty X t)
  (ha:∀v,assign (.Subscript o i pos) X.env v=(do
   let ov ←holding [v] (eval o X.env)
   let iv ←holding [v,ov] (eval i X.env)
   standAt pos
   holding [v,ov,iv] (setItem ov iv v)
   release [v,ov,iv] []):=by intro _;rfl):PG X (.Subscript o i pos) (VE to ti t):=by
 intro aa s σ H v u Q I r h;rw[ha];refine Zz (ZM (aH (ho aa s σ H _ I h) λov s1 ⟨x,H1,I1,r1,q1⟩=>?_));refine Zz (ZM (aH (hi aa s1 σ H1 _ I1 q1) λiv s2 ⟨y,H2,I2,r2,q2⟩=>?_));refine Zz (ZL (Zz (ZM (aH (hs aa s2 σ H2 x y v ov iv u _ I2 r1 r2 r q2) λ_ s3 ⟨H3,I3,q3⟩=>?_))));exact wpAny_release ⟨σ,H3,I3,q3⟩
def Sc (te:TE) (g:TG):TS:=λD σ H=>te σ H λx H1=>g x σ H1 D.nx
theorem Iq {tg:Expr}{g:TG} (he:PE X e te) (hg:PG X tg g) (hs:swapsWithSole [tg] e pos.line X.env=pure false:=by rfl) (hw:swappedStores [tg] e X.env=pure none:=by rfl)
  (h1:(assignEach [tg] X.env).map (·.2)=[assign tg X.env]:=by rfl):PS X (.Assign [tg] e pos) (Sc te g):=by
 intro aa s σ H D I h;refine wpAny_Assign_stores (aH (he aa s σ H _ I h) λv s1 ⟨x,H1,I1,r1,q1⟩=>?_) hs hw;rw[h1];exact aH (hg aa s1 σ H1 x v _ I1 r1 q1) λ_ s2 q=>q
theorem Am {i:Nat}{pos':Pos} (hN:X.N.Nodup) (hi:X.N[i]?=some x) (hx:Loc X.env.scope x) (he:PE X e te) (hs:swapsWith e (some (.Name x pos')) pos.line X.env=pure false:=by rfl) (hf:X.fn x=true\/X.env.scope.names.lookup x=some .local:=by first |exact .inl rfl |exact .inr rfl |assumption) :
  PS X (.Assign [.Name x pos'] e pos) (Sc te (C1 i)):=by
 intro aa s σ H D I h;refine wpAny_Assign_Name (aH (he aa s σ H _ I h) λv s1 ⟨y,H1,I1,r1,q1⟩=>?_) hs;exact Eu I1 hN hi hx r1 (λs2 I2=>⟨_,H1,I2,q1⟩) hf
def VF (i:Nat) (te:TE) (ti:TIp):TS:=λD σ H=>∃x,σ[i]?=some (some x)/\te σ H λy H1=>ti x y H1 λz H2=>D.nx (σ.set i (some z)) H2
theorem Kr {i:Nat}{op:Operator}{ti:TIp}{pos':Pos} (hN:X.N.Nodup) (hi:X.N[i]?=some x) (hx:Loc X.env.scope x) (he:PE X e te) (ho:PIp X op ti) (hf:X.fn x=true\/X.env.scope.names.lookup x=some .local:=by first |exact .inl rfl |exact .inr rfl |assumption) :
  PS X (.AugAssign (.Name x pos') op e pos) (VF i te ti):=by
 intro aa s σ H D I h;obtain⟨v,e1,h⟩:=h;obtain⟨m,hn,hl⟩:=I.loc;have vis:Vis X.env.scope x:=by rcases hx with k |k;exact .inl k;exact .inr (.inl k)
 obtain⟨u,r,l⟩:=hl i x v hi e1 vis;refine wpAny_AugAssign_Name ?_
 have go:wpAny (model X.prog X.w) X.A (eval e X.env) (λw s₂=>wpAny (model X.prog X.w) X.A (inplaceOp op u w) (λr s₃=>wpAny (model X.prog X.w) X.A (storeName X.env x r) (λ_=>SP X aa D .next) X.xe s₃) X.xe s₂) X.xe s:=by
  refine aH (he aa s σ H _ I h) λw s1 ⟨y,H1,I1,r1,q1⟩=>?_;refine aH (ho aa s1 σ H1 v y u w _ I1 r r1 q1) λz s2 ⟨zv,H2,I2,r2,q2⟩=>?_;exact Eu I2 hN hi hx r2 (λs3 I3=>⟨_,H2,I3,q2⟩) hf
 rcases l with⟨hk,hm⟩ |⟨hk,c,hc,be⟩
 ·exact wpAny_loadName_local I.ok.kind hk hn hm go
 ·rcases hk with hk |hk
  ·exact wpAny_loadName_cell I.ok.kind hk hc be go
  ·rcases hx with k |k
   ·have:X.env.scope.names.lookup x=some .free:=hk;rw[k]at this;cases this
   ·have:X.env.scope.names.lookup x=some .free:=hk;rw[k]at this;cases this
end
section
def Sd (c:TT) (tb:TS):TS:=λD σ H=>∃W:Nat->St->Hp->Prop,(∃m,W m σ H)/\∀m σ H,W m σ H ->
 c σ H λb H1=>if b=true then ∃N:St->Hp->Prop,(∀aO H',N aO H'->∃m',m'<m/\W m' aO H')/\tb { D with nx:=N,ct:=N,bk:=D.nx } σ H1 else D.nx σ H1
theorem G9 {c:Expr}{body:List Stmt}{tc:TT}{tb:TS} (hp:PassesOwn (model X.prog X.w) X.A X.env X.xe) (hc:PT X c tc) (hb:eI X body tb):PS X (.While c body [] pos) (Sd tc tb):=by
 intro aa s σ H D I h;obtain⟨W,⟨m0,w0⟩,turn⟩:=h;refine wpAny_While (codeAny_whileLoop (λn s'=>∃aO H',Inv X aa aO H' s'/\W n aO H') ?_ m0 ⟨σ,H,I,w0⟩);rintro n s1 ⟨iJ,H1,I1,w1⟩;refine wpAny_passesOwn hp (aH (hc aa s1 iJ H1 _ I1 (turn n iJ H1 w1)) λb s2 ⟨H2,I2,q2⟩=>?_);cases b with
 |true =>
  obtain⟨N,hN,q2⟩:=q2;rw[Zr rfl];refine wpAny_passesOwn hp (aH (hb aa s2 iJ H2 _ I2 q2) λf s3 q3=>?_);cases f with
  |next =>
   obtain⟨iI,H3,I3,n3⟩:=q3;obtain⟨m',hm,w3⟩:=hN iI H3 n3;exact⟨m',hm,iI,H3,I3,w3⟩
  |cont =>
   obtain⟨iI,H3,I3,n3⟩:=q3;obtain⟨m',hm,w3⟩:=hN iI H3 n3;exact⟨m',hm,iI,H3,I3,w3⟩
  |brk=>exact q3
  |ret v=>exact q3
 |false =>
  rw[Zs Bool.false_ne_true];exact wpAny_execs_nil ⟨iJ,H2,I2,q2⟩
end
structure It where
 go:Nat->Hp->Prop
 hX:Nat->Hp->V->Hp->Prop
 stop:Nat->Hp->Prop
def EL (X:Cx) (aa:LO) (H:Hp) (b:Vs):Prop :=
 H b=none/\b≠X.env.locals/\b∉ X.fs/\(b∈X.ex\/X.aI.heap.objs.size<=b)/\(∀x c,X.env.cells.lookup x=some c->c≠b)/\∀p∈X.pn++aa,p.1≠b
theorem Inv.gD {s:Vt}{b:Vs} (I:Inv X aa σ H s) (hb:s.heap.objs.size<=b) (hn:H' b=none):EL X aa H' b:=by
 refine⟨hn,Nat.ne_of_gt (Z2 I.lt hb),I.nofs hb,.inr (Nat.le_trans I.sz hb),λx c e z=>?_,λp hp z=>?_⟩
 ·obtain⟨v,q⟩:=I.cell x c e;exact absurd (Z2 q.lt (by rw[z];exact hb)) (ZI _)
 ·exact absurd (Z2 (lt_size (I.pin p hp).1) (by rw[z];exact hb)) (ZI _)
structure Jl (P:Program) (w:World) (K:FG) (tg:Expr) (J:It) (fp:List Vs) (it:Vs) (tn:Nat->Heap->Prop):Prop where
 mem:it∈fp
 obj:∀i h,tn i h->∀b∈fp,∃o,h.get? b=some o/\∀v,o.data≠ .cell v
 keep:∀i h h',tn i h->(∀b∈fp,∀o,h.get? b=some o->h'.get? b=some o)->tn i h'
 item:∀(X:Cx),X.prog=P->X.w=w->X.K=K->X.calm=true->∀(i:Nat) (aa:LO) (s:Vt) (σ:St) (H:Hp) (E:VS),Inv X aa σ H s->(∀b∈fp,EL X aa H b)->tn i s.heap->J.go i H ->
  wpAny (model P w) X.A (pyNext (.ref it)) (λr s1=>∃u,r=some u /\
   wpAny (model P w) X.A (letOwnedTupleGo tg (.ref it) u) (λ_ s2=>∃x H',Inv X aa σ H' s2/\RelV x u/\J.hX i H x H'/\tn (i+1) s2.heap/\∀b∈fp,H' b=none) E s1) E s
 done:∀(X:Cx),X.prog=P->X.w=w->X.K=K->X.calm=true->∀(i:Nat) (aa:LO) (s:Vt) (σ:St) (H:Hp) (E:VS),Inv X aa σ H s->(∀b∈fp,EL X aa H b)->tn i s.heap->J.stop i H ->
  wpAny (model P w) X.A (pyNext (.ref it)) (λr s1=>r=none/\Inv X aa σ H s1) E s
 self:∀(A:Around) (i:Nat) (s:Vt) (Q:VS) (E:VS),tn i s.heap->Q (.ref it) s->wpAny (model P w) A (pyIter (.ref it)) Q E s
abbrev TI:=St->Hp->(It->Hp->Prop)->Prop
def PIE (X:Cx) (aa:LO) (σ:St) (tg:Expr) (R:It->Hp->Prop) (jy:Value) (s2:Vt):Prop :=
 ∃(it:Vs) (fp:List Vs) (tn:Nat->Heap->Prop) (J:It) (H':Hp),jy=.ref it/\Inv X aa σ H' s2/\Jl X.prog X.w X.K tg J fp it tn/\tn 0 s2.heap/\(∀b∈fp,EL X aa H' b)/\R J H'
def PI (X:Cx) (tg iter:Expr) (wi:TI):Prop :=
 ∀(aa:LO) (s:Vt) (σ:St) (H:Hp) (R:It->Hp->Prop),Inv X aa σ H s->wi σ H R ->
  wpAny (model X.prog X.w) X.A (eval iter X.env) (λv s1=>wpAny (model X.prog X.w) X.A (pyIter v) (PIE X aa σ tg R) X.xe s1) X.xe s
theorem Lr {M:Model}{s:Vt}{tg:Expr}{it:Vs}{o:Obj}{n:String}{vs:Array Value}{Q:Unit->Vt->Prop} (ho:s.heap.get? it=some o) (hc:o.cls=.type n) (hd:o.data=.fields vs)
    (hn:["enumerate", "zip", "dict_itemiterator", "dict_reverseitemiterator", "odict_iterator", "itertools.zip_longest", "itertools.pairwise"].contains n=false) (hQ:Q () s):wpAny M A (letOwnedTupleGo tg (.ref it) u) Q E s:=by
  unfold letOwnedTupleGo
  cases tg <;> first
    |exact Zy hQ
    | (cases u <;> first
        |exact Zy hQ
        | (refine Zz (wpAny_load ho ?_)
           rw[hc,hd];show wpAny M A (if (["enumerate", "zip", "dict_itemiterator", "dict_reverseitemiterator", "odict_iterator", "itertools.zip_longest", "itertools.pairwise"].contains n&&vs[0]?==some (rawInt _))=true then _ else _) Q E s;rw[Zs (by intro h;rw[hn,Bool.false_and]at h;cases h)]
           exact Zy hQ))
noncomputable def jJ (K:FG) (a:Vs):It :=
 ⟨λi H=>∃xs x,aJ K H a xs/\xs[i]?=some x,λi H x H'=>H'=H/\∀xs,aJ K H a xs->xs[i]?=some x,λi H=>∃xs,aJ K H a xs/\xs.length<=i⟩
noncomputable def Itt (K:FG) (a:Vs):It :=
 ⟨λi H=>∃xs x,bZ K H a xs/\xs[i]?=some x,λi H x H'=>H'=H/\∀xs,bZ K H a xs->xs[i]?=some x,λi H=>∃xs,bZ K H a xs/\xs.length<=i⟩
noncomputable def Itr (lo:Int) (n:Nat):It:=⟨λi _=>i<n,λi H x H'=>H'=H/\x=.int (lo+i),λi _=>n<=i⟩
theorem Mo {tg:Expr} (a it:Vs):Jl P w K tg (jJ K a) [it] it (λi h=>h.IsListIter it a i) where
 mem:=by simp
 obj:=λi h st b hb=>by
  have e:b=it:=by simpa using hb
  subst e;obtain⟨o,e,c,d⟩:=st;exact⟨o,e,λv z=>by rw[d]at z;cases z⟩
 keep:=λi h h' st k=>st.at λo e=>k it (by simp) o e
 item:=by
  intro X hP hw hK hc i aa s σ H E I hf st hg;subst hP hw hK;obtain⟨xs,x,hq,hx⟩:=hg;obtain⟨its,rv,p,hz⟩:=I.list hq;obtain⟨u,hu,ru⟩:=rv.get hx;obtain⟨f0,f1,f2,f3,f4,f5⟩:=hf it (by simp);refine wpAny_pyNext_list_item st p.isList (x:=u) (by simpa using hu) λh' gA sb=>?_;have I1:Inv X aa σ H { s with heap:=h' }:=I.turned (t':=s.toks) (λb o hb e=>(sb.2 b hb).trans e) f0 f1 f3 f4 f5;obtain⟨o,e,c,d⟩:=id gA;exact⟨u,Zj,Lr (s:={ s with heap:=h' }) e c d qc ⟨x,H,I1,ru,⟨Zj,λys hy=>by rw[I.list_inj hy hq];exact hx⟩,gA,λb hb=>(hf b hb).1⟩⟩
 done:=by
  intro X hP hw hK hc i aa s σ H E I hf st hg;subst hP hw hK;obtain⟨xs,hq,hx⟩:=hg;obtain⟨its,rv,p,hz⟩:=I.list hq;obtain⟨f0,f1,f2,f3,f4,f5⟩:=hf it (by simp);have hl:=rv.length;exact wpAny_pyNext_list_end (I.ok.hd hc) st p.isList (by simp;omega) λh' eb=>⟨Zj,I.turned (t':=s.toks) (λb o hb e=>eb b o hb e) f0 f1 f3 f4 f5⟩
 self:=λ_ _ _ _ _ st h=>wpAny_pyIter_listiter st h
theorem Ks {tg:Expr} (a it:Vs):Jl P w K tg (Itt K a) [it] it (λi h=>h.IsTupleIter it a i) where
 mem:=by simp
 obj:=λi h st b hb=>by
  have e:b=it:=by simpa using hb
  subst e;obtain⟨o,e,c,d⟩:=st;exact⟨o,e,λv z=>by rw[d]at z;cases z⟩
 keep:=λi h h' st k=>st.at λo e=>k it (by simp) o e
 item:=by
  intro X hP hw hK hc i aa s σ H E I hf st hg;subst hP hw hK;obtain⟨xs,x,hq,hx⟩:=hg;obtain⟨its,rv,p,hz⟩:=I.tuple hq;obtain⟨u,hu,ru⟩:=rv.get hx;obtain⟨f0,f1,f2,f3,f4,f5⟩:=hf it (by simp);refine wpAny_pyNext_tuple_item st (show s.heap.IsTuple a its.toArray from p) (x:=u) (by simpa using hu) λh' gA sb=>?_;have I1:Inv X aa σ H { s with heap:=h' }:=I.turned (t':=s.toks) (λb o hb e=>(sb.2 b hb).trans e) f0 f1 f3 f4 f5;obtain⟨o,e,c,d⟩:=id gA;exact⟨u,Zj,Lr (s:={ s with heap:=h' }) e c d qc ⟨x,H,I1,ru,⟨Zj,λys hy=>by rw[I.tuple_inj hy hq];exact hx⟩,gA,λb hb=>(hf b hb).1⟩⟩
 done:=by
  intro X hP hw hK hc i aa s σ H E I hf st hg;subst hP hw hK;obtain⟨xs,hq,hx⟩:=hg;obtain⟨its,rv,p,hz⟩:=I.tuple hq;obtain⟨f0,f1,f2,f3,f4,f5⟩:=hf it (by simp);have hl:=rv.length;exact wpAny_pyNext_tuple_end (I.ok.hd hc) st (show s.heap.IsTuple a its.toArray from p) (by simp;omega) λh' eb=>⟨Zj,I.turned (t':=s.toks) (λb o hb e=>eb b o hb e) f0 f1 f3 f4 f5⟩
 self:=λ_ _ _ _ _ st h=>wpAny_pyIter_tupleiter st h
theorem Kt {tg:Expr} (it:Vs) (lo:Int) (n:Nat):Jl P w K tg (Itr lo n) [it] it (λi h=>IsRangeIter h it (lo+(i:Nat)*1) ((n:Int) - (i:Nat)) 1) where
 mem:=by simp
 obj:=λi h st b hb=>by
  have e:b=it:=by simpa using hb
  subst e
  exact⟨_,st,λv z=>by
   have z':Data.fields _=Data.cell v:=z
   cases z'⟩
 keep:=λi h h' st k=>k it (by simp) _ st
 item:=by
  intro X hP hw hK hc i aa s σ H E I hf st hg;subst hP hw hK;obtain⟨f0,f1,f2,f3,f4,f5⟩:=hf it (by simp);have W:=Walks.range (prog:=X.prog) (w:=X.w) (I.ok.hd hc) it lo 1 n;refine W.item i s _ _ hg st λv h' tk hv gA kk=>?_;obtain⟨t,rfl⟩:=hv;have I1:Inv X aa σ H { s with heap:=h',toks:=tk }:=I.turned (λb o hb e=>kk b o (by simpa using hb) e) f0 f1 f3 f4 f5;refine⟨_,Zj,Lr (s:={ s with heap:=h',toks:=tk }) (n := "range_iterator") gA Zj Zj qc ⟨.int (lo+i),H,I1,⟨t,?_⟩,⟨Zj,Zj⟩,gA,λb hb=>(hf b hb).1⟩⟩;rw[Int.mul_one]
 done:=by
  intro X hP hw hK hc i aa s σ H E I hf st hg;subst hP hw hK;obtain⟨f0,f1,f2,f3,f4,f5⟩:=hf it (by simp);exact wpAny_pyNext_range_end (I.ok.hd hc) st (by have:n<=i:=hg;omega) λh' eb=>⟨Zj,I.turned (t':=s.toks) (λb o hb e=>eb b o hb e) f0 f1 f3 f4 f5⟩
 self:=λ_ _ _ _ _ st h=>wpAny_pyIter_rangeiter st h
section
variable {tg:Expr}
def R7 (K:FG) (tl:TE):TI:=λσ H R=>tl σ H λx H1=>∃a,x=.ref a/\(∃xs,aJ K H1 a xs)/\R (jJ K a) H1
def VG (K:FG) (tl:TE):TI:=λσ H R=>tl σ H λx H1=>∃a,x=.ref a/\(∃xs,bZ K H1 a xs)/\R (Itt K a) H1
theorem BS {l:Expr}{tl:TE} (hl:PE X l tl):PI X tg l (R7 X.K tl):=by
 intro aa s σ H R I h;refine aH (hl aa s σ H _ I h) λv s1 ⟨x,H1,I1,r1,q1⟩=>?_;obtain⟨a,e,⟨xs,hq⟩,q⟩:=q1;subst e;cases r1;obtain⟨its,rv,p,hz⟩:=I1.list hq;refine wpAny_pyIter_list p.isList ?_;refine⟨s1.heap.objs.size,[s1.heap.objs.size],_,_,H1,Zj,I1.kept (t':=s1.toks) λb o e=>ZY _ e,Mo a _,⟨_,ZP _ Zj,Zj,Zj⟩,λb hb=>?_,q⟩;have e:b=s1.heap.objs.size:=by simpa using hb
 subst e;exact I1.gD (ZA _) (I1.aF.fresh (ZA _))
theorem HA {l:Expr}{tl:TE} (hl:PE X l tl):PI X tg l (VG X.K tl):=by
 intro aa s σ H R I h;refine aH (hl aa s σ H _ I h) λv s1 ⟨x,H1,I1,r1,q1⟩=>?_;obtain⟨a,e,⟨xs,hq⟩,q⟩:=q1;subst e;cases r1;obtain⟨its,rv,p,hz⟩:=I1.tuple hq;refine wpAny_pyIter_tuple (show s1.heap.IsTuple a its.toArray from p) ?_;refine⟨s1.heap.objs.size,[s1.heap.objs.size],_,_,H1,Zj,I1.kept (t':=s1.toks) λb o e=>ZY _ e,Ks a _,⟨_,ZP _ Zj,Zj,Zj⟩,λb hb=>?_,q⟩;have e:b=s1.heap.objs.size:=by simpa using hb
 subst e;exact I1.gD (ZA _) (I1.aF.fresh (ZA _))
theorem OH {s:Vt}{R:It->Hp->Prop}{lo hi:Int}{t u v:Tok}{tk:Nat} (I:Inv X aa σ H s) (h1:-(2 ^ 62)<=lo) (h2:lo<2 ^ 62) (h3:-(2 ^ 62)<=hi) (h4:hi<2 ^ 62)
  (q:R (Itr lo (hi - lo).toNat) H):wpAny (model X.prog X.w) X.A (pyIter (.ref s.heap.objs.size)) (PIE X aa σ tg R) E { s with heap:=s.heap.push { cls:=.type "range", data:=.fields #[.int lo t,.int hi u,.int 1 v] },toks:=tk }:=by
 refine wpAny_pyIter_range (IsRange.new ..) (small_one h1 h2 h3 h4) ?_;have I1:Inv X aa σ H { s with heap:=s.heap.push { cls:=.type "range", data:=.fields #[.int lo t,.int hi u,.int 1 v] },toks:=tk }:=I.kept λb o e=>ZY _ e
 refine⟨(s.heap.push { cls:=.type "range", data:=.fields #[.int lo t,.int hi u,.int 1 v] }).objs.size,[(s.heap.push { cls:=.type "range", data:=.fields #[.int lo t,.int hi u,.int 1 v] }).objs.size],_,_,H,Zj,
  I1.kept (t':=tk) λb o e=>ZY _ e,Kt _ lo (hi - lo).toNat,?_,λb hb=>?_,q⟩
 ·have e1:lo+((0:Nat):Int)*1=lo:=by simp
  have e2:(((hi - lo).toNat:Nat):Int) - ((0:Nat):Int)=Builtin.Range.rangeSize lo hi 1:=by rw[rangeSize_one];split <;> omega
  show IsRangeIter _ _ (lo+((0:Nat):Int)*1) ((((hi - lo).toNat:Nat):Int) - ((0:Nat):Int)) 1;rw[e1,e2];exact ZP _ rfl
 ·have e:b=(s.heap.push { cls:=.type "range", data:=.fields #[.int lo t,.int hi u,.int 1 v] }).objs.size:=by simpa using hb
  subst e;exact I1.gD (ZA _) (I1.aF.fresh (ZA _))
def Tz (ta:TA):TI:=λσ H R=>ta σ H λvs H1=>∃j:Int,vs=[.int j]/\-(2 ^ 62)<=j/\j<2 ^ 62/\R (Itr 0 j.toNat) H1
theorem IC {a:Expr}{ta:TA}{p:Pos} (hg:Gl X "range") (hm:X.mg "range" = none) (ha:PA X [a] ta) (hs:starEach [a] X.env=[(false,eval a X.env)]:=by rfl):PI X tg (.Call (.Name "range" p) [a] [] pos) (Tz ta):=by
 intro aa s σ H R I h;refine Call_ (EY I hg hm boot_range (PyProof.Rows.callWith_type1 (aH (ha pos aa s σ H _ I h) λus s1 ⟨vs,H1,I1,r1,q1⟩=>?_) hs rfl));obtain⟨j,e,q1,q2,q⟩:=q1;subst e;cases r1 with
 |cons r rr =>
  cases rr;obtain⟨t,rfl⟩:=r;exact call_range_1 (OH I1 qe qe q1 q2 (by simpa using q))
def T5 (wi:TI) (g:TG) (tb:TS):TS:=λD σ H=>wi σ H λJ H1=>∃W:Nat->Nat->St->Hp->Prop,(∃m,W 0 m σ H1)/\∀i m σ H,W i m σ H ->
 (J.stop i H/\D.nx σ H)\/(J.go i H/\∃N:St->Hp->Prop,(∀aO H',N aO H'->∃m',m'<m/\W (i+1) m' aO H')/\∀x H',J.hX i H x H'->g x σ H' λcS H2=>tb { D with nx:=N,ct:=N,bk:=D.nx } cS H2)
noncomputable def Bs (fp:List Vs) (h:Heap):LO:=fp.filterMap λb=>(h.get? b).map λo=>(b,o)
theorem BX {fp:List Vs}{b:Vs}{o:Obj} (hb:b∈fp) (e:h.get? b=some o):(b,o)∈Bs fp h:=List.mem_filterMap.mpr ⟨b,hb,by rw[e];rfl⟩
theorem EF {fp:List Vs}{p:Vs×Obj} (hp:p∈Bs fp h):p.1∈fp/\h.get? p.1=some p.2:=by
 obtain⟨b,hb,e⟩:=List.mem_filterMap.mp hp;cases q:h.get? b with
 |none=>rw[q]at e;cases e
 |some o =>
  rw[q]at e;have e':(b,o)=p:=Option.some.inj e;subst e';exact⟨hb,q⟩
theorem Inv.pinned {s:Vt}{fp:List Vs} (I:Inv X aa σ H s) (hf:∀b∈fp,EL X aa H b) (ho:∀b∈fp,∃o,s.heap.get? b=some o/\∀v,o.data≠ .cell v):Inv X (aa++Bs fp s.heap) σ H s :=
 I.cy λp hp=>(mem_append.mp hp).elim (λz=>I.pin p (ZU _ z)) λz=>by
  obtain⟨hb,e⟩:=EF z;obtain⟨f0,f1,f2,_⟩:=hf p.1 hb;obtain⟨o,e',d⟩:=ho p.1 hb;rw[e]at e';cases e';exact⟨e,f0,f1,f2,d⟩
theorem Inv.unpinned {pl:LO}{s:Vt} (I:Inv X (aa++pl) σ H s):Inv X aa σ H s:=I.cy λp hp=>I.pin p (ZU _ (ZR _ hp))
theorem DR {iter:Expr}{body:List Stmt}{wi:TI}{g:TG}{tb:TS} (hp:PassesOwn (model X.prog X.w) X.A X.env X.xe) (hc:X.calm=true) (hi:PI X tg iter wi) (hg:PG X tg g) (hb:eI X body tb)
  (hs:∀x,foldedSetIterable iter X.env x=pure x:=by intro _;rfl):PS X (.For tg iter body [] pos) (T5 wi g tb):=by
 intro aa s σ H D I h;refine wpAny_For (aH (hi aa s σ H _ I h) λv s1 h1=>aH h1 λjy s2 h2=>?_) hs;obtain⟨it,fp,tn,J,H2,e,I2,T,gz,f2,W,⟨m0,w0⟩,turn⟩:=h2;subst e;have eX:∀ {H':Hp},(∀b∈fp,H' b=none)->∀b∈fp,EL X aa H' b:=λhn b hb=>⟨hn b hb,(f2 b hb).2⟩;refine codeAny_forLoop_any (λn s'=>∃i aO H',Inv X aa aO H' s'/\tn i s'.heap/\(∀b∈fp,H' b=none)/\W i n aO H') ?_ m0 ⟨0,σ,H2,I2,gz,λb hb=>(f2 b hb).1,w0⟩;rintro n s3 ⟨i,iI,H3,I3,st3,fr3,w3⟩;rcases turn i n iI H3 w3 with⟨stop,qn⟩ |⟨go,N,hN,step⟩
 ·refine wpAny_passesOwn hp (aH (T.done X Zj Zj Zj hc i aa s3 iI H3 X.xe I3 (eX fr3) st3 stop) λr s4 ⟨hr,I4⟩=>?_);subst hr;exact wpAny_execs_nil ⟨iI,H3,I4,qn⟩
 ·refine wpAny_passesOwn hp (aH (T.item X Zj Zj Zj hc i aa s3 iI H3 X.xe I3 (eX fr3) st3 go) λr s4 ⟨u,hr,h4⟩=>?_);subst hr;refine wpAny_passesOwn hp (aH h4 λ_ s5 ⟨x,H5,I5,r5,y5,st5,fr5⟩=>?_);have I5':=I5.pinned (eX fr5) (T.obj _ _ st5);refine wpAny_passesOwn hp (aH (hg _ s5 iI H5 x u _ I5' r5 (step x H5 y5)) λ_ s6 ⟨σ6,H6,I6,q6⟩=>?_);refine wpAny_passesOwn hp (aH (hb _ s6 σ6 H6 _ I6 q6) λf s7 q7=>?_)
  have again:∀ {eZ:St}{H7:Hp},Inv X (aa++Bs fp s5.heap) eZ H7 s7->N eZ H7->∃m,m<n/\∃i aO H',Inv X aa aO H' s7/\tn i s7.heap/\(∀b∈fp,H' b=none)/\W i m aO H':=λ{eZ H7} I7 n7=>by
   obtain⟨m',hm,w7⟩:=hN eZ H7 n7;refine⟨m',hm,i+1,eZ,H7,I7.unpinned,T.keep _ _ _ st5 λb hb o e=>(I7.pin (b,o) (ZU _ (ZU _ (BX hb e)))).1,λb hb=>?_,w7⟩;obtain⟨o,e,d⟩:=T.obj _ _ st5 b hb;exact(I7.pin (b,o) (ZU _ (ZU _ (BX hb e)))).2.1
  cases f with
  |next=>obtain⟨eZ,H7,I7,n7⟩:=q7;exact again I7 n7
  |cont=>obtain⟨eZ,H7,I7,n7⟩:=q7;exact again I7 n7
  |brk=>obtain⟨eZ,H7,I7,q7⟩:=q7;exact⟨eZ,H7,I7.unpinned,q7⟩
  |ret v=>obtain⟨x7,eZ,H7,I7,r7,q7⟩:=q7;exact⟨x7,eZ,H7,I7.unpinned,r7,q7⟩
end
theorem DB {g:TG}{tb:TS}{D:Gc} (Pv:Nat->St->Hp->Prop) (h0:Pv 0 σ H) (hl:∀i σ H,i<=xs.length->Pv i σ H->aJ K H a xs)
  (hs:∀i x σ H,xs[i]?=some x->Pv i σ H->g x σ H λcS H2=>tb { D with nx:=Pv (i+1),ct:=Pv (i+1),bk:=D.nx } cS H2) (hd:∀σ H,Pv xs.length σ H->D.nx σ H) :
  ∃W:Nat->Nat->St->Hp->Prop,(∃m,W 0 m σ H)/\∀i m σ H,W i m σ H ->
   ((jJ K a).stop i H/\D.nx σ H)\/((jJ K a).go i H/\∃N:St->Hp->Prop,(∀aO H',N aO H'->∃m',m'<m/\W (i+1) m' aO H')/\∀x H',(jJ K a).hX i H x H'->g x σ H' λcS H2=>tb { D with nx:=N,ct:=N,bk:=D.nx } cS H2):=by
 refine⟨λi m σ H=>m=xs.length - i/\i<=xs.length/\Pv i σ H,⟨xs.length,by simp,Nat.zero_le _,h0⟩,?_⟩;rintro i m σ H ⟨rfl,hi,p⟩;have q:=hl i σ H hi p;by_cases aX:i<xs.length
 ·refine .inr ⟨⟨xs,xs[i],q,by simp[aX]⟩,Pv (i+1),λaO H' p'=>⟨xs.length - (i+1),qe,Zj,aX,p'⟩,λx H' y=>?_⟩;obtain⟨e,y⟩:=y;subst e;exact hs i x σ _ (y xs q) p
 ·have e:i=xs.length:=by omega
  subst e;exact .inl ⟨⟨xs,q,ZA _⟩,hd σ H p⟩
abbrev R2:=V->V->Hp->VK->Prop
def df (X:Cx) (f:Value->Value->Sem Value) (r:R2):Prop :=
 ∀(aa:LO) (s:Vt) (σ:St) (H:Hp) (x y:V) (v u:Value) (Q:VK),Inv X aa σ H s->RelV x v->RelV y u->r x y H Q ->
  wpAny (model X.prog X.w) X.A (f v u) (EP X aa σ Q) X.xe s
def UnR (X:Cx) (f:Value->Sem Value) (r:V->Hp->VK->Prop):Prop :=
 ∀(aa:LO) (s:Vt) (σ:St) (H:Hp) (x:V) (v:Value) (Q:VK),Inv X aa σ H s->RelV x v->r x H Q ->
  wpAny (model X.prog X.w) X.A (f v) (EP X aa σ Q) X.xe s
def Be (X:Cx) (f:Value) (r:Vr->Hp->VK->Prop):Prop :=
 ∀(aa:LO) (s:Vt) (σ:St) (H:Hp) (xs:Vr) (us:Vq) (Q:VK),Inv X aa σ H s->Vals xs us->r xs H Q ->
  wpAny (model X.prog X.w) X.A (call f us) (EP X aa σ Q) X.xe s
def il (r:R2) (ta tb:TE):TE:=λσ H Q=>ta σ H λx H1=>tb σ H1 λy H2=>r x y H2 Q
def tUn (r:V->Hp->VK->Prop) (ta:TE):TE:=λσ H Q=>ta σ H λx H1=>r x H1 Q
def rI (C:Int->Int->Prop) (g:Int->Int->V):R2:=λx y H Q=>ExI x y λi j=>C i j/\Q (g i j) H
def gY (g:Int->Int->V):R2:=λx y H Q=>ExI x y λi j=>Q (g i j) H
def rU (g:Int->V):V->Hp->VK->Prop:=λx H Q=>∃i,x=.int i/\Q (g i) H
section
variable {a b c:Expr}{ta tb tc:TE}
theorem Se (ha:PE X a ta) (hb:PE X b tb) {s:Vt}{R:V->V->Hp->Prop} (I:Inv X aa σ H s)
  (h:ta σ H λx H1=>tb σ H1 λy H2=>R x y H2) {Q:VS}{f:Value->Value->Sem Value}
  (hf:∀v u s2 x y H2,Inv X aa σ H2 s2->RelV x v->RelV y u->R x y H2->wpAny (model X.prog X.w) X.A (f v u) Q X.xe s2) :
  wpAny (model X.prog X.w) X.A (eval a X.env) (λv aN=>wpAny (model X.prog X.w) X.A (eval b X.env) (λu s₂=>wpAny (model X.prog X.w) X.A (f v u) Q X.xe s₂) X.xe aN) X.xe s:=by
 refine aH (ha aa s σ H _ I h) λv s1 ⟨x,H1,I1,r1,q1⟩=>?_;refine aH (hb aa s1 σ H1 _ I1 q1) λu s2 ⟨y,H2,I2,r2,q2⟩=>?_;exact hf v u s2 x y H2 I2 r1 r2 q2
theorem Ak {op:Operator}{r:R2} (ho:df X (binaryOp op) r) (ha:PE X a ta) (hb:PE X b tb):PE X (.BinOp a op b pos) (il r ta tb):=by
 intro aa s σ H Q I h;exact wpAny_BinOp (Se ha hb I h λv u s2 x y H2 I2 rx ry q=>ho aa s2 σ H2 x y v u Q I2 rx ry q)
theorem Jm {op:UnaryOp}{r:V->Hp->VK->Prop} (ho:UnR X (unaryOp op) r) (ha:PE X a ta):PE X (.UnaryOp op a pos) (tUn r ta):=by
 intro aa s σ H Q I h;exact UnaryOp_ (aH (ha aa s σ H _ I h) λv s1 ⟨x,H1,I1,r1,q1⟩=>ho aa s1 σ H1 x v Q I1 r1 q1)
theorem opI {f:Value->Value->Sem Value}{C:Int->Int->Prop}{g:Int->Int->Int}
  (rule:∀(i j:Int) (t u:Tok) (s:Vt) (Q:VS) (E:VS),C i j->Q (.int (g i j) s.toks) { s with toks:=s.toks+1 }->wpAny (model X.prog X.w) X.A (f (.int i t) (.int j u)) Q E s) :
  df X f (rI C λi j=>.int (g i j)):=by
 intro aa s σ H x y v u Q I rx ry h;obtain⟨i,j,rfl,rfl,hc,q⟩:=h;obtain⟨t,rfl⟩:=rx;obtain⟨t',rfl⟩:=ry;exact rule i j t t' s _ _ hc ⟨.int (g i j),H,I.tok _,⟨_,Zj⟩,q⟩
theorem Mp {f:Value->Value->Sem Value}{g:Int->Int->Int}
  (rule:∀(i j:Int) (t u:Tok) (s:Vt) (Q:VS) (E:VS),Q (.int (g i j) s.toks) { s with toks:=s.toks+1 }->wpAny (model X.prog X.w) X.A (f (.int i t) (.int j u)) Q E s) :
  df X f (gY λi j=>.int (g i j)):=by
 intro aa s σ H x y v u Q I rx ry h;obtain⟨i,j,rfl,rfl,q⟩:=h;obtain⟨t,rfl⟩:=rx;obtain⟨t',rfl⟩:=ry;exact rule i j t t' s _ _ ⟨.int (g i j),H,I.tok _,⟨_,Zj⟩,q⟩
theorem QQ {f:Value->Value->Sem Value}{g:Int->Int->Bool}
  (rule:∀(i j:Int) (t u:Tok) (s:Vt) (Q:VS) (E:VS),Q (.bool (g i j)) s->wpAny (model X.prog X.w) X.A (f (.int i t) (.int j u)) Q E s) :
  df X f (gY λi j=>.bl (g i j)):=by
 intro aa s σ H x y v u Q I rx ry h;obtain⟨i,j,rfl,rfl,q⟩:=h;obtain⟨t,rfl⟩:=rx;obtain⟨t',rfl⟩:=ry;exact rule i j t t' s _ _ ⟨.bl (g i j),H,I,Zj,q⟩
def VH (i j:Int):Prop:=0<j/\j<1073741824
def QR (i j:Int):Prop:=0<=j/\j<=1000000/\i.natAbs<2 ^ 64
def CMul (i j:Int):Prop:=(-(2 ^ 64)<i/\i<2 ^ 64)\/(-(2 ^ 64)<j/\j<2 ^ 64)
theorem CMul.ok {i j:Int} (h:CMul i j):IntMulOk i j:=by
 rcases h with⟨h1,h2⟩ |⟨h1,h2⟩
 ·exact .of_left (intBits_le_64 h1 h2)
 ·exact .of_right (intBits_le_64 h1 h2)
theorem CT:df X (binaryOp .Add) (gY λi j=>.int (i+j)):=Mp λ_ _ _ _ _ _ _ q=>add_int q
theorem OI:df X (binaryOp .Sub) (gY λi j=>.int (i - j)):=Mp λ_ _ _ _ _ _ _ q=>sub_int q
theorem Fb:df X (binaryOp .Mult) (rI CMul λi j=>.int (i*j)):=opI λ_ _ _ _ _ _ _ hc q=>mul_int q hc.ok
theorem Ir:df X (binaryOp .FloorDiv) (rI VH λi j=>.int (i / j)):=opI λi j _ _ _ _ _ hc q=>by
 have h1:(0:Int)<j:=hc.1;have h2:j<1073741824:=hc.2;exact floordiv_int qe (by rw[Int.fdiv_eq_ediv_of_nonneg i qe];exact q) (.inl (PyProof.noPylong_small qe))
theorem Dq:df X (binaryOp .Mod) (rI (λ_ j=>0<j) λi j=>.int (i % j)):=opI λi j _ _ _ _ _ hc q=>by
 have h1:(0:Int)<j:=hc;exact mod_int' qe (by rw[Int.fmod_eq_emod_of_nonneg i qe];exact q)
theorem OJ:df X (binaryOp .Pow) (rI QR λi j=>.int (i ^ j.toNat)):=opI λ_ _ _ _ _ _ _ hc q=>pow_int_small hc.1 hc.2.1 hc.2.2 q
theorem Sf:df X (binaryOp .LShift) (rI QR λi j=>.int (i*2 ^ j.toNat)):=opI λ_ _ _ _ _ _ _ hc q=>lshift_int_small hc.1 hc.2.1 hc.2.2 q
theorem Dr:df X (binaryOp .BitAnd) (gY λi j=>.int (Builtin.bitAnd i j)):=Mp λ_ _ _ _ _ _ _ q=>and_int q
theorem T6:df X (binaryOp .BitOr) (gY λi j=>.int (Builtin.bitOr i j)):=Mp λ_ _ _ _ _ _ _ q=>or_int q
theorem Ls:df X (inplaceOp .Add) (gY λi j=>.int (i+j)):=Mp λ_ _ _ _ _ _ _ q=>iadd_int q
theorem Sh:df X (inplaceOp .BitOr) (gY λi j=>.int (Builtin.bitOr i j)):=Mp λ_ _ _ _ _ _ _ q=>ior_int q
theorem unI {f:Value->Sem Value}{g:Int->Int}
  (rule:∀(i:Int) (t:Tok) (s:Vt) (Q:VS) (E:VS),Q (.int (g i) s.toks) { s with toks:=s.toks+1 }->wpAny (model X.prog X.w) X.A (f (.int i t)) Q E s) :
  UnR X f (rU λi=>.int (g i)):=by
 intro aa s σ H x v Q I rx h;obtain⟨i,rfl,q⟩:=h;obtain⟨t,rfl⟩:=rx;exact rule i t s _ _ ⟨.int (g i),H,I.tok _,⟨_,Zj⟩,q⟩
theorem Ku:UnR X (unaryOp .USub) (rU λi=>.int (-i)):=unI λ_ _ _ _ _ q=>neg_int q
theorem OK:UnR X (unaryOp .Invert) (rU λi=>.int (Builtin.bitNot i)):=unI λ_ _ _ _ _ q=>invert_int q
end
noncomputable def T7:V->V->Bool
 | .aT,.aT=>true | .aT,.int _=>true | .int _,.aT=>true | .aT,.bl _=>true | .bl _,.aT=>true | .aT,.str _=>true | .str _,.aT=>true
 | .int _,.int _=>true | .bl _,.bl _=>true | .str _,.str _=>true | .iy _,.iy _=>true
 | .int _,.str _=>true | .str _,.int _=>true | .bl _,.str _=>true | .str _,.bl _=>true
 |_,_=>false
def rEq:R2:=λx y H Q=>T7 x y=true/\Q (.bl (decide (x=y))) H
def rNe:R2:=λx y H Q=>T7 x y=true/\Q (.bl (!decide (x=y))) H
theorem Lu {i j:Int}:decide (V.int i=V.int j)=(i==j):=by
 rw[Bool.eq_iff_iff];simp
theorem OL {i j:Bool}:decide (V.bl i=V.bl j)=(i==j):=by
 rw[Bool.eq_iff_iff];simp
theorem Lv {i j:Str}:decide (V.str i=V.str j)=(i==j):=by
 rw[Bool.eq_iff_iff];simp
theorem Lw {i j:Array UInt8}:decide (V.iy i=V.iy j)=(i.toList==j.toList):=by
 rw[Bool.eq_iff_iff];cases i;cases j;simp
section
variable {a b c:Expr}{ta tb tc:TE}
theorem Ao {s:Vt}{Q:VK}{k k':Bool} (I:Inv X aa σ H s) (q:Q (.bl k) H) (e:k=k'):EP X aa σ Q (.bool k') s:=by
 subst e;exact⟨.bl k,H,I,Zj,q⟩
theorem Cj:df X (compareOp .Eq) rEq:=by
 intro aa s σ H x y v u Q I rx ry h;obtain⟨hs,q⟩:=h;cases x with
 |aT =>
  cases rx;cases y with
  |aT=>cases ry;exact PySem.EqNone.eq_none_none (Ao I q (by simp))
  |bl j=>cases ry;exact PySem.EqNone.eq_none_bool (Ao I q (by simp))
  |int j=>obtain⟨t',rfl⟩:=ry;exact PySem.EqNone.eq_none_int (Ao I q (by simp))
  |str j=>obtain⟨t',rfl⟩:=ry;exact PySem.EqNone.eq_none_str (Ao I q (by simp))
  |_=>exact absurd (show false=true from hs) Bool.false_ne_true
 |bl i =>
  cases rx;cases y with
  |aT=>cases ry;exact PySem.EqNone.eq_bool_none (Ao I q (by simp))
  |bl j=>cases ry;exact eq_bool (Ao I q OL)
  |str j=>obtain⟨t',rfl⟩:=ry;exact PySem.EqMixed.eq_bool_str (Ao I q (by simp))
  |_=>exact absurd (show false=true from hs) Bool.false_ne_true
 |int i =>
  obtain⟨t,rfl⟩:=rx;cases y with
  |aT=>cases ry;exact PySem.EqNone.eq_int_none (Ao I q (by simp))
  |int j=>obtain⟨t',rfl⟩:=ry;exact eq_int (Ao I q Lu)
  |str j=>obtain⟨t',rfl⟩:=ry;exact PySem.EqMixed.eq_int_str (Ao I q (by simp))
  |_=>exact absurd (show false=true from hs) Bool.false_ne_true
 |str i =>
  obtain⟨t,rfl⟩:=rx;cases y with
  |aT=>cases ry;exact PySem.EqNone.eq_str_none (Ao I q (by simp))
  |bl j=>cases ry;exact PySem.EqMixed.eq_str_bool (Ao I q (by simp))
  |int j=>obtain⟨t',rfl⟩:=ry;exact PySem.EqMixed.eq_str_int (Ao I q (by simp))
  |str j=>obtain⟨t',rfl⟩:=ry;exact eq_str (Ao I q Lv)
  |_=>exact absurd (show false=true from hs) Bool.false_ne_true
 |iy i =>
  obtain⟨t,rfl⟩:=rx;cases y with
  |iy j=>obtain⟨t',rfl⟩:=ry;exact W.eq_bytes (Ao I q Lw)
  |_=>exact absurd (show false=true from hs) Bool.false_ne_true
 |_=>cases y <;> exact absurd (show false=true from hs) Bool.false_ne_true
theorem Ck:df X (compareOp .NotEq) rNe:=by
 intro aa s σ H x y v u Q I rx ry h;obtain⟨hs,q⟩:=h;cases x with
 |aT =>
  cases rx;cases y with
  |aT=>cases ry;exact PySem.EqNone.ne_none_none (Ao I q (by simp))
  |bl j=>cases ry;exact PySem.EqNone.ne_none_bool (Ao I q (by simp))
  |int j=>obtain⟨t',rfl⟩:=ry;exact PySem.EqNone.ne_none_int (Ao I q (by simp))
  |str j=>obtain⟨t',rfl⟩:=ry;exact PySem.EqNone.ne_none_str (Ao I q (by simp))
  |_=>exact absurd (show false=true from hs) Bool.false_ne_true
 |bl i =>
  cases rx;cases y with
  |aT=>cases ry;exact PySem.EqNone.ne_bool_none (Ao I q (by simp))
  |bl j=>cases ry;exact ne_bool (Ao I q (congrArg not OL))
  |str j=>obtain⟨t',rfl⟩:=ry;exact PySem.EqMixed.ne_bool_str (Ao I q (by simp))
  |_=>exact absurd (show false=true from hs) Bool.false_ne_true
 |int i =>
  obtain⟨t,rfl⟩:=rx;cases y with
  |aT=>cases ry;exact PySem.EqNone.ne_int_none (Ao I q (by simp))
  |int j=>obtain⟨t',rfl⟩:=ry;exact ne_int (Ao I q (congrArg not Lu))
  |str j=>obtain⟨t',rfl⟩:=ry;exact PySem.EqMixed.ne_int_str (Ao I q (by simp))
  |_=>exact absurd (show false=true from hs) Bool.false_ne_true
 |str i =>
  obtain⟨t,rfl⟩:=rx;cases y with
  |aT=>cases ry;exact PySem.EqNone.ne_str_none (Ao I q (by simp))
  |bl j=>cases ry;exact PySem.EqMixed.ne_str_bool (Ao I q (by simp))
  |int j=>obtain⟨t',rfl⟩:=ry;exact PySem.EqMixed.ne_str_int (Ao I q (by simp))
  |str j=>obtain⟨t',rfl⟩:=ry;exact ne_str (Ao I q (congrArg not Lv))
  |_=>exact absurd (show false=true from hs) Bool.false_ne_true
 |iy i =>
  obtain⟨t,rfl⟩:=rx;cases y with
  |iy j=>obtain⟨t',rfl⟩:=ry;exact W.ne_bytes (Ao I q (congrArg not Lw))
  |_=>exact absurd (show false=true from hs) Bool.false_ne_true
 |_=>cases y <;> exact absurd (show false=true from hs) Bool.false_ne_true
theorem ID:df X (compareOp .Lt) (gY λi j=>.bl (decide (i<j))):=QQ λ_ _ _ _ _ _ _ q=>lt_int q
theorem DD:df X (compareOp .LtE) (gY λi j=>.bl (decide (i<=j))):=QQ λ_ _ _ _ _ _ _ q=>le_int q
theorem Lx:df X (compareOp .Gt) (gY λi j=>.bl (decide (j<i))):=QQ λ_ _ _ _ _ _ _ q=>gt_int q
theorem OM:df X (compareOp .GtE) (gY λi j=>.bl (decide (j<=i))):=QQ λ_ _ _ _ _ _ _ q=>ge_int q
theorem AT (b:Expr) {op:CmpOp} (h:op≠ .In:=by decide) (h2:op≠ .NotIn:=by decide):behindInMarks op b=false:=by
 have e1:(op==CmpOp.In)=false:=by cases op <;> first |rfl |exact absurd rfl h
 have e2:(op==CmpOp.NotIn)=false:=by cases op <;> first |rfl |exact absurd rfl h2
 cases b <;> simp[behindInMarks,e1,e2]
theorem BU {op:CmpOp}{r:R2} (ho:df X (compareOp op) r) (ha:PE X a ta) (hb:PE X b tb) (hm:behindInMarks op b=false):PE X (.Compare a [op] [b] pos) (il r ta tb):=by
 intro aa s σ H Q I h;exact wpAny_Compare1 (Se ha hb I h λv u s2 x y H2 I2 rx ry q=>ho aa s2 σ H2 x y v u Q I2 rx ry q) hm
def R8 (t:TE):TT:=λσ H Q=>t σ H λx H'=>ExB x λk=>Q k H'
theorem AW {op:CmpOp}{r:R2} (ho:df X (compareOp op) r) (ha:PE X a ta) (hb:PE X b tb) (hm:behindInMarks op b=false):PT X (.Compare a [op] [b] pos) (R8 (il r ta tb)):=by
 intro aa s σ H Q I h
 refine wpAny_isTrue_Compare1 (aH (ha aa s σ H _ I h) λv s1 ⟨x,H1,I1,r1,q1⟩=>aH (hb aa s1 σ H1 _ I1 q1) λu s2 ⟨y,H2,I2,r2,q2⟩ =>
  aH (ho aa s2 σ H2 x y v u _ I2 r1 r2 q2) λc s3 ⟨z,H3,I3,r3,k,e,q3⟩=>?_) hm
 subst e;cases r3;exact Z0 ⟨H3,I3,q3⟩
def ON (r r':R2) (ta tb tc:TE):TE:=λσ H Q=>ta σ H λx H1=>tb σ H1 λy H2=>r x y H2 λz H3=>∃k,z=.bl k /\
 (if k=true then tc σ H3 λw' H4=>r' y w' H4 Q else Q (.bl false) H3)
theorem Ew {op op':CmpOp}{r r':R2} (ho:df X (compareOp op) r) (gW:df X (compareOp op') r') (ha:PE X a ta) (hb:PE X b tb) (hc:PE X c tc)
  (hm:lastMarks [op,op'] [b,c]=false:=by with_unfolding_all rfl):PE X (.Compare a [op,op'] [b,c] pos) (ON r r' ta tb tc):=by
 intro aa s σ H Q I h
 refine Compare_chain (aH (ha aa s σ H _ I h) λv s1 ⟨x,H1,I1,r1,q1⟩=>chain_link (aH (hb aa s1 σ H1 _ I1 q1) λu s2 ⟨y,H2,I2,r2,q2⟩ =>
  aH (ho aa s2 σ H2 x y v u _ I2 r1 r2 q2) λd s3 ⟨z,H3,I3,r3,k,e,q3⟩=>?_)) hm
 subst e;cases r3;refine Z0 ?_;cases k with
 |false=>exact ite_ff ⟨.bl false,H3,I3,rfl,q3⟩
 |true=>exact ite_tt (chain_last (aH (hc aa s3 σ H3 _ I3 q3) λw' s4 ⟨z',H4,I4,r4,q4⟩=>gW aa s4 σ H4 y z' u w' Q I4 r2 r4 q4))
theorem Cl {op op':CmpOp}{r r':R2} (ho:df X (compareOp op) r) (gW:df X (compareOp op') r') (ha:PE X a ta) (hb:PE X b tb) (hc:PE X c tc)
  (hm:lastMarks [op,op'] [b,c]=false:=by with_unfolding_all rfl):PT X (.Compare a [op,op'] [b,c] pos) (R8 (ON r r' ta tb tc)):=by
 intro aa s σ H Q I h
 refine isTrue_chain (aH (ha aa s σ H _ I h) λv s1 ⟨x,H1,I1,r1,q1⟩=>test_link (aH (hb aa s1 σ H1 _ I1 q1) λu s2 ⟨y,H2,I2,r2,q2⟩ =>
  aH (ho aa s2 σ H2 x y v u _ I2 r1 r2 q2) λd s3 ⟨z,H3,I3,r3,k,e,q3⟩=>?_)) hm
 subst e;cases r3;refine Z0 ?_;cases k with
 |false =>
  obtain⟨k',e',q'⟩:=q3;cases e';exact ite_ff ⟨H3,I3,q'⟩
 |true =>
  refine ite_tt (test_last (aH (hc aa s3 σ H3 _ I3 q3) λw' s4 ⟨z',H4,I4,r4,q4⟩=>aH (gW aa s4 σ H4 y z' u w' _ I4 r2 r4 q4) λd' s5 ⟨z2,H5,I5,r5,k2,e2,q5⟩=>?_));subst e2;cases r5;exact Z0 ⟨H5,I5,q5⟩
theorem Fc:(sizeLine:Nat)<2 ^ 63:=by rw[sizeLine_eq];decide
theorem Kv:df X (binaryOp .Add) (λx y H Q=>∃i j,x=.str i/\y=.str j/\i.length+j.length<=sizeLine/\Q (.str (i++j)) H):=by
 intro aa s σ H x y v u Q I rx ry h;obtain⟨i,j,rfl,rfl,hz,q⟩:=h;obtain⟨t,rfl⟩:=rx;obtain⟨t',rfl⟩:=ry;exact add_str (λt' tk=>⟨.str (i++j),H,I.tok _,⟨_,Zj⟩,q⟩) hz
theorem CZ {x:V} (r:Vals [x] us):∃u,us=[u]/\RelV x u:=by
 cases r with
 |cons r1 r2=>cases r2;exact⟨_,Zj,r1⟩
theorem Ey {x y:V} (r:Vals [x,y] us):∃u w',us=[u,w']/\RelV x u/\RelV y w':=by
 cases r with
 |cons r1 r2 =>
  cases r2 with
  |cons r3 r4=>cases r4;exact⟨_,_,Zj,r1,r3⟩
theorem Mq (hc:X.calm=true):Be X (.builtin "max") (λxs H Q=>∃i j,xs=[.int i,.int j]/\Q (.int (if j>i then j else i)) H):=by
 intro aa s σ H xs us Q I r h;obtain⟨i,j,rfl,q⟩:=h;obtain⟨u,w',rfl,⟨t,rfl⟩,⟨t',rfl⟩⟩:=Ey r;refine max_two_ints (I.ok.hd hc) λh' tk k=>⟨_,H,I.kept k,?_,q⟩;by_cases hj:j>i
 ·rw[Zr hj,Zr hj];exact⟨_,Zj⟩
 ·rw[Zs hj,Zs hj];exact⟨_,Zj⟩
theorem Mr (hc:X.calm=true):Be X (.builtin "min") (λxs H Q=>∃i j,xs=[.int i,.int j]/\Q (.int (if j<i then j else i)) H):=by
 intro aa s σ H xs us Q I r h;obtain⟨i,j,rfl,q⟩:=h;obtain⟨u,w',rfl,⟨t,rfl⟩,⟨t',rfl⟩⟩:=Ey r;refine min_two_ints (I.ok.hd hc) λh' tk k=>⟨_,H,I.kept k,?_,q⟩;by_cases hj:j<i
 ·rw[Zr hj,Zr hj];exact⟨_,Zj⟩
 ·rw[Zs hj,Zs hj];exact⟨_,Zj⟩
theorem Iu:Be X (.type "str") (λxs H Q=>∃i,xs=[.int i]/\i.natAbs.log2<1920/\Q (.str (toString i)) H):=by
 intro aa s σ H xs us Q I r h;obtain⟨i,rfl,hz,q⟩:=h;obtain⟨u,rfl,t,rfl⟩:=CZ r;exact PySem.P.str_of_int hz ⟨.str _,H,I.tok _,⟨_,Zj⟩,q⟩
end
structure ObjM (h:Heap) (x dx C:Vs) (mA:SV):Prop where
 obj:h.get? x=some (W.instObj C dx)
 ns:h.Ns1 dx mA
 ne:dx≠x
theorem IE {dx:Vs}{mA:SV} (n:h.Ns1 dx mA):∃od,h.get? dx=some od/\∀name,W.lookIn name od=some (mA name):=by
 obtain⟨o,es,ep,ho,hd,hk,_,hm⟩:=n;refine⟨o,ho,λname=>?_⟩;have e:=hm name;unfold nsFind findBy at e;rw[←Array.find?_toList]at e;unfold W.lookIn;rw[hd]
 dsimp only
 split
 ·rename_i y q;rw[q]at e;exact congrArg some e
 ·rename_i q;rw[q]at e
  have a:es.toList.any (·.refKey)=false:=by
   rw[List.any_eq_false];intro y hy;obtain⟨z,t,bv⟩:=hk y (Array.mem_toList_iff.mp hy);simp[DictEntry.refKey,bv]
  have a':¬ es.toList.any (·.refKey)=true:=by rw[a];exact Bool.false_ne_true
  rw[Zs a'];exact congrArg some e
theorem ObjM.look {x dx:Vs}{mA:SV} (I:ObjM h x dx C mA):∃od,W.InstAt h x (W.instObj C dx) C (some od)/\∀name,W.lookIn name od=some (mA name) :=
 let ⟨od,ho,hl⟩:=IE I.ns
 ⟨od,⟨I.obj,rfl,rfl,ho⟩,hl⟩
section
variable {prog:Program}{s:Vt}{x dx:Vs}{mA:SV}{name:Str}{v:Value}
theorem QS {expr:Bool}{Q:VS} (X:K.In s.heap) (I:ObjM s.heap x dx C mA) (hg:W.plainGet K C name=true) (hh:W.hasDictIn K C=true)
  (ha:W.findIn K (.ref C) name=some none) (hv:mA name=some v) (hv':W.handedIn v=true) (h:Q v { s with toks:=s.toks+1 }) :
  wpAny (model prog w) A (getAttr (.ref x) name expr) Q E s:=by
 obtain⟨od,J,hl⟩:=I.look;exact W.get_value X J (W.plainGet_of hg).1 (W.findObj_own hh ha Zj (by rw[hl,hv])) hv' h
theorem OO {pl:Sem Bool}{Q:Value×Vq->Vt->Prop} (X:K.In s.heap) (I:ObjM s.heap x dx C mA) (hg:W.plainGet K C name=true)
  (hf:W.findIn K (.ref C) name=some (some (.ref f))) (ht:W.isFn K (.ref f)=true) (hv:mA name=none) (h:Q (.ref f,[.ref x]) s) :
  wpAny (model prog w) A (getMethod (.ref x) name pl) Q E s:=by
 obtain⟨od,J,hl⟩:=I.look;exact W.method_fn X J (W.plainGet_of hg).1 (W.plainGet_of hg).2 hf (beq_iff_eq.mp ht) (by show(W.lookIn name od).map (·.isSome)=some false;rw[hl,hv];rfl) h
theorem QT {ns:Vp}{Q:Unit->Vt->Prop} (X:K.In s.heap) (I:ObjM s.heap x dx C mA)
  (hs:W.findIn K (.ref C) "__setattr__" = some (some (.builtin "object.__setattr__"))) (hp:W.plainOver K C=true) (ht:W.takerIn K C name=some none) (hh:W.hasDictIn K C=true)
  (hw:PySem.Within mA ns) (hsz:ns.length<=sizeLine)
  (h:∀h',ObjM h' x dx C (λy=>if y=name then some v else mA y)->Heap.SameBut dx s.heap h'->Q () { s with heap:=h',toks:=s.toks+2 }) :
  wpAny (model prog w) A (setAttr (.ref x) name v) Q E s:=by
 obtain⟨od,J,hl⟩:=I.look;refine W.set_plain X J hs (W.osa_open (s:={ s with toks:=s.toks+1 }) (r:=none) X J hp ht λb=>?_);obtain⟨cd,hc,hd'⟩:=W.any_some hh;have hx:s.heap.get? x=some ⟨.ref C,some dx,.plain,#[]⟩:=I.obj;refine Zz (Zy (Zz (Zz (wpAny_loadPart hx (Zz (W.Looks.here (s:={ s with toks:=s.toks+1 }) (W.looks_clsIn X hc) ?_))))));rw[hd'];refine Zy (a:=some dx) (Zz (Zy (Zz ?_)));refine wpAny_nsSet1 (s:={ s with toks:=s.toks+1 }) I.ns λh' hn2 jb=>?_;obtain⟨oD,esD,epD,hoD,hdD,iN⟩:=hn2.count (PySem.Within.cons name v hw);refine Zz (wpAny_lookBehind hoD (by rw[hdD];exact pastItsLine_dict (Nat.le_trans iN (by rw[length_cons];omega))) ?_);exact Zy (h _ ⟨(jb.2 _ (Ne.symm I.ne)).trans I.obj,hn2,I.ne⟩ jb)
theorem HB {R:Result->Vt->Prop}{vs:Vq}{kw:List (Str×Value)} (X:K.In s.heap) (hm:W.makesIn K C=true)
  (hi:W.findIn K (.ref C) "__init__" = some (some (.ref f))) (hf:W.typeIn K (.ref f)=some (.type "function"))
  (h:codeAny (model prog w) (A.under (.builtin "type.__call__" ⟨.ref C::vs,kw⟩)) (.call (.ref f) ⟨.ref (s.heap.objs.size+1)::vs,kw⟩) (W.InitBack (s.heap.objs.size+1) R)
   { s with heap:=(s.heap.push W.emptyDict).push (W.instObj C s.heap.objs.size) }) :
  codeAny (model prog w) A (.call (.ref C) ⟨vs,kw⟩) R s:=by
 obtain⟨hh,g,d,t,os⟩:=s;exact W.make_core (W.makes_of X hm) (W.looks_findIn X hi) (λself=>W.bind_fn X self hf) (.inl Zj) h
end
noncomputable def AY (f:Str) (v:V):List (Str×V)->List (Str×V)
  | []=>[(f,v)]
  | (g,x)::r=>if g=f then (g,v)::r else (g,x)::AY f v r
theorem AG (f g:Str) (v:V):∀fs:List (Str×V),(AY f v fs).lookup g=if g=f then some v else fs.lookup g
  | []=>by
    show List.lookup g [(f,v)]=_;by_cases h:g=f
    · have hb:(g==f)=true:=beq_iff_eq.mpr h
      simp only[List.lookup,hb,Zr h]
    · have hb:(g==f)=false:=beq_eq_false_iff_ne.mpr h
      simp only[List.lookup,hb,Zs h]
  | (k,x)::r=>by
    have ih:=AG f g v r;rw[show AY f v ((k,x)::r)=(if k=f then (k,v)::r else (k,x)::AY f v r)from rfl];by_cases hk:k=f
    · rw[Zr hk]
      by_cases h:g=k
      · have hb:(g==k)=true:=beq_iff_eq.mpr h
        simp only[List.lookup,hb,Zr (h.trans hk)]
      · have hb:(g==k)=false:=beq_eq_false_iff_ne.mpr h
        simp only[List.lookup,hb,Zs (λe:g=f=>h (e.trans hk.symm))]
    · rw[Zs hk]
      by_cases h:g=k
      · have hb:(g==k)=true:=beq_iff_eq.mpr h
        simp only[List.lookup,hb,Zs (λe:g=f=>hk (h.symm.trans e))]
      · have hb:(g==k)=false:=beq_eq_false_iff_ne.mpr h
        simp only[List.lookup,hb];exact ih
theorem Fd (f:Str) (v:V):∀fs:List (Str×V),f∈(AY f v fs).map (·.1)/\∀g,g∈fs.map (·.1)->g∈(AY f v fs).map (·.1)
  | []=>⟨by simp[AY],λg h=>by simp at h⟩
  | (k,x)::r=>by
    obtain⟨i1,i2⟩:=Fd f v r;rw[show AY f v ((k,x)::r)=(if k=f then (k,v)::r else (k,x)::AY f v r)from rfl];by_cases hk:k=f
    · rw[Zr hk]
      subst hk;exact⟨by simp,λg h=>by simpa using h⟩
    · rw[Zs hk]
      refine⟨?_,λg h=>?_⟩
      · rw[map_cons]
        exact ZT _ i1
      · rw[map_cons]at h ⊢
        rcases mem_cons.mp h with e |e
        · exact mem_cons.mpr (.inl e)
        · exact ZT _ (i2 g e)
theorem AV (f:Str) (v:V):∀fs:List (Str×V),(AY f v fs).length<=fs.length+1
  | []=>by simp[AY]
  | (k,x)::r=>by
    have ih:=AV f v r;rw[show AY f v ((k,x)::r)=(if k=f then (k,v)::r else (k,x)::AY f v r)from rfl];by_cases hk:k=f
    · rw[Zr hk,length_cons,length_cons];omega
    · rw[Zs hk,length_cons,length_cons];omega
theorem eE.some_of {v:V}{o:Option Value} (r:eE (some v) o):∃u,o=some u/\RelV v u:=by
 cases o with
 |none=>exact(show False from r).elim
 |some u=>exact⟨u,rfl,r⟩
theorem eE.none_of {o:Option Value} (r:eE none o):o=none:=by
 cases o with
 |none=>rfl
 |some u=>exact(show False from r).elim
theorem IF {v:V} (r:RelV v u):W.handedIn u=true:=by
 cases v with
 |aT=>cases (show u=Value.none from r);rfl
 |bl b=>cases (show u=Value.bool b from r);rfl
 |int i=>obtain⟨t,e⟩:=(show ∃t,u=Value.int i t from r);cases e;rfl
 |str x=>obtain⟨t,e⟩:=(show ∃t,u=Value.str x t from r);cases e;rfl
 |iy b=>obtain⟨t,e⟩:=(show ∃t,u=Value.bytes b t from r);cases e;rfl
 |jF b=>obtain⟨t,e⟩:=(show ∃t,u=Value.float b t from r);cases e;rfl
 |ref a=>cases (show u=Value.ref a from r);rfl
 |ty n=>cases (show u=Value.type n from r);rfl
section
variable {h':Heap}{dx:Vs}{fs fs':List (Str×V)}
theorem C3 (aF:dg P w H h) (e:H a=some (.ins C dx fs)):∃mA,ObjM h a dx C mA/\(∀f,eE (fs.lookup f) (mA f))/\PySem.Within mA (fs.map (·.1))/\fs.length<=1000/\H dx=some (.own a):=by
 obtain⟨d,z,ne,ob,mA,n,r,q⟩:=(show aP P w H h a (.ins C dx fs)from aF a _ e);exact⟨mA,⟨ob,n,ne⟩,r,q,z,d⟩
end
structure gQ (K:FG) (C:Vs):Prop where
 pg:W.plainGet K C Str.empty=true
 hd:W.hasDictIn K C=true
 po:W.plainOver K C=true
 sa:W.findIn K (.ref C) "__setattr__" = some (some (.builtin "object.__setattr__"))
theorem gQ.get (c:gQ K C) (f:Str):W.plainGet K C f=true:=c.pg
def aS (K:FG) (C:Vs) (f:Str):Prop:=W.findIn K (.ref C) f=some none
theorem aS.taker {f:Str} (n:aS K C f):W.takerIn K C f=some none:=by
 unfold W.takerIn;rw[show W.findIn K (.ref C) f=some none from n];rfl
structure Fe (K:FG) (C:Vs) (m:Str) (f:Vs):Prop where
 at_:W.findIn K (.ref C) m=some (some (.ref f))
 fn:W.isFn K (.ref f)=true
 kp:W.keepIn K (.ref f)=true
section
variable {s:Vt}{dx:Vs}{fs:List (Str×V)}{f:Str}{v:V}
theorem Kw {b:Bool}{Q:VS} (I:Inv X aa σ H s) (e:H a=some (.ins C dx fs)) (c:gQ X.K C) (n:aS X.K C f) (l:fs.lookup f=some v)
  (h:∀u s',Inv X aa σ H s'->RelV v u->Q u s'):wpAny (model X.prog X.w) A (getAttr (.ref a) f b) Q E s:=by
 obtain⟨mA,O,r,_,_,_⟩:=C3 I.aF e;obtain⟨u,hu,ru⟩:=eE.some_of (v:=v) (o:=mA f) (by rw[←l];exact r f);exact QS I.cX O (c.get f) c.hd n hu (IF ru) (h u _ (I.tok _) ru)
theorem HC {m:Str}{g:Vs}{pl:Sem Bool}{Q:Value×Vq->Vt->Prop} (I:Inv X aa σ H s) (e:H a=some (.ins C dx fs)) (c:gQ X.K C) (k:Fe X.K C m g) (l:fs.lookup m=none)
  (h:Q (.ref g,[.ref a]) s):wpAny (model X.prog X.w) A (getMethod (.ref a) m pl) Q E s:=by
 obtain⟨mA,O,r,_,_,_⟩:=C3 I.aF e;have hn:mA m=none:=eE.none_of (by rw[←l];exact r m);exact OO I.cX O (c.get m) k.at_ k.fn hn h
theorem Kx {y:V}{Q:Unit->Vt->Prop} (I:Inv X aa σ H s) (e:H a=some (.ins C dx fs)) (c:gQ X.K C) (n:aS X.K C f) (hl:fs.length<1000) (ry:RelV y u)
  (h:∀s',Inv X aa σ (upd H a (.ins C dx (AY f y fs))) s'->Q () s'):wpAny (model X.prog X.w) A (setAttr (.ref a) f u) Q E s:=by
 obtain⟨mA,O,r,wi,_,ho⟩:=C3 I.aF e;have hz:(fs.map (·.1)).length<=sizeLine:=by rw[AK,sizeLine_eq];omega
 refine QT I.cX O c.sa c.po n.taker c.hd wi hz λh' O' sb=>h _ ?_;have hd:∃o,h'.get? dx=some o:=let ⟨o,_,_,e',_⟩:=O'.ns;⟨o,e'⟩
 refine I.write (x:=a) (e:=dx) (by rw[e];exact True.intro) (.inr ho) (λb q hb z=>(sb.2 b hb).trans z) hd ?_;refine⟨by rw[AE O.ne];exact ho,?_,O.ne,O'.obj,_,O'.ns,λg=>?_,λg hg=>?_⟩
 ·have:=AV f y fs;omega
 ·show eE ((AY f y fs).lookup g) (if g=f then some u else mA g);rw[AG];by_cases q:g=f
  ·rw[Zr q,Zr q];exact ry
  ·rw[Zs q,Zs q];exact r g
 ·by_cases q:g=f
  ·rw[q];exact(Fd f y fs).1
  ·refine(Fd f y fs).2 g (wi g λz=>hg ?_);show(if g=f then some u else mA g)=none;rw[Zs q];exact z
theorem Inv.made (I:Inv X aa σ H s):Inv X aa σ (upd (upd H s.heap.objs.size (.own (s.heap.objs.size+1))) (s.heap.objs.size+1) (.ins C s.heap.objs.size []))
  { s with heap:=(s.heap.push W.emptyDict).push (W.instObj C s.heap.objs.size) }:=by
 have e1:(s.heap.push W.emptyDict).get? s.heap.objs.size=some W.emptyDict:=ZP s.heap rfl
 have e2:((s.heap.push W.emptyDict).push (W.instObj C s.heap.objs.size)).get? (s.heap.objs.size+1)=some (W.instObj C s.heap.objs.size):=by
  have:=ZP (s.heap.push W.emptyDict) (o:=W.instObj C s.heap.objs.size) rfl
  rwa[size_push]at this
 have e3:(s.heap.push W.emptyDict).Ns s.heap.objs.size (λ_=>none):=⟨W.emptyDict,#[],_,e1,rfl,(λe he=>absurd he (by simp)),λ_=>rfl⟩;have I1:=I.laid (a:=s.heap.objs.size) (o:=.own (s.heap.objs.size+1)) (h':=s.heap.push W.emptyDict) (t':=s.toks) (λb u q=>ZY _ q) (ZA _) ⟨_,e1⟩;refine I1.laid (a:=s.heap.objs.size+1) (o:=.ins C s.heap.objs.size []) (t':=s.toks) (λb u q=>ZY _ q) (Nat.le_of_eq (size_push _ _)) ?_;have ne:s.heap.objs.size≠s.heap.objs.size+1:=ZF (Nat.lt_succ_self _);refine⟨by rw[AE ne,U],Nat.zero_le _,ne,e2,λ_=>none,(Heap.Ns1.of_empty e3).at λo q=>ZY _ q,λ_=>True.intro,λy hy=>absurd Zj hy⟩
theorem Ly {prog:Program}{env:Env}{f:Str}{s:Vt}{Q:VS} (hb:attributeBase e f env (eval e env)=eval e env)
  (h:wpAny (model prog w) A (eval e env) (λo aN=>wpAny (model prog w) A (getAttr o f true) Q E aN) E s):wpAny (model prog w) A (eval (.Attribute e f pos) env) Q E s :=
 Attribute_any_ h (by rw[arm_eval_Attribute,hb])
end
inductive ExF (K:FG) (x:V) (H:Hp) (f:Str) (k:V->Prop):Prop where
 |mk (a C dx:Vs) (fs:List (Str×V)) (v:V) (h1:x=.ref a) (h2:H a=some (.ins C dx fs)) (h3:gQ K C) (h4:aS K C f) (h5:fs.lookup f=some v) (q:k v):ExF K x H f k
def T8 (K:FG) (ta:TE) (f:Str):TE:=λσ H Q=>ta σ H λx H1=>ExF K x H1 f λv=>Q v H1
def VJ (K:FG) (ta tv:TE) (f:Str):TS:=λD σ H=>tv σ H λy H1=>ta σ H1 λx H2=>∃a C dx fs,x=.ref a/\H2 a=some (.ins C dx fs)/\gQ K C/\aS K C f/\fs.length<1000 /\
 D.nx σ (upd H2 a (.ins C dx (AY f y fs)))
section
variable {o value:Expr}{f:Str}{pos' tpos:Pos}{ta tv:TE}
theorem AU (he:PE X e ta) (hb:attributeBase e f X.env (eval e X.env)=eval e X.env):PE X (.Attribute e f pos) (T8 X.K ta f):=by
 intro aa s σ H Q I h;refine Ly hb (aH (he aa s σ H _ I h) λu s1 ⟨x,H1,I1,rx,a,C,dx,fs,v,ex,ea,c,n,l,q⟩=>?_);subst ex;obtain rfl:u=Value.ref a:=rx;exact Kw I1 ea c n l λu' s2 I2 ru=>⟨v,H1,I2,ru,q⟩
theorem A3 (ha:PE X o ta) (hv:PE X value tv) (hs:swapsWith value (some (.Attribute o f pos')) pos.line X.env=pure false):PS X (.Assign [.Attribute o f pos'] value pos) (VJ X.K ta tv f):=by
 intro aa s σ H D I h;refine plainObj_wpAny_Assign_Attribute (aH (hv aa s σ H _ I h) λu s1 ⟨y,H1,I1,ry,q⟩=>aH (ha aa s1 σ H1 _ I1 q) λov s2 ⟨x,H2,I2,rx,a,C,dx,fs,ex,ea,c,n,l,q2⟩=>?_) hs;subst ex;obtain rfl:ov=Value.ref a:=rx;exact Kx I2 ea c n l ry λs3 I3=>⟨σ,_,I3,q2⟩
end
section
variable {s:Vt}{Q:VS}{c:Value}{b:Bool}
inductive dG (K:FG) (H:Hp):V->Value->Prop where
 |aT:dG K H .aT (.type "NoneType")
 |bl (x:Bool):dG K H (.bl x) (.type "bool")
 |int (i:Int):dG K H (.int i) (.type "int")
 |str (x:Str):dG K H (.str x) (.type "str")
 |jF (x:UInt64):dG K H (.jF x) (.type "float")
 |lst {a:Vs}{xs:Vr} (e:H a=some (.lst xs)):dG K H (.ref a) (.type "list")
 |cH {a:Vs}{o:Obj}{xs:Vr} (e:H a=some (.cH o (.lst xs))):dG K H (.ref a) (.type "list")
 |tup {a:Vs}{xs:Vr} (e:H a=some (.tup xs)):dG K H (.ref a) (.type "tuple")
 |dK {a:Vs}{kvs:LK} (e:H a=some (.dK kvs)):dG K H (.ref a) (.type "dict")
 |dT {a:Vs}{kvs:List (List Key×V)} (e:H a=some (.dT kvs)):dG K H (.ref a) (.type "dict")
 |ins {a C dx:Vs}{fs:List (Str×V)} (e:H a=some (.ins C dx fs)) (cl:gQ K C) (ha:W.findIn K (.ref C) "__class__" = some (some (.builtin "object.__class__")))
   (hn:W.specialIn K (.builtin "object.__class__") "__get__" = some (some (.builtin "getset_descriptor.__get__"))) (htk:W.takesIn K (.builtin "object.__class__")=some true)
   (hm:W.mroIn K C (.type "object")=some true):dG K H (.ref a) (.ref C)
theorem IG {x:V}{t:Value} (I:Inv X aa σ H s) (rx:RelV x u) (ty:dG X.K H x t) (e:W.kitOne X.K t c=some b) (h:∀tk,Q (.bool b) { s with toks:=tk }) :
  wpAny (model X.prog X.w) A (call (.builtin "isinstance") [u,c]) Q E s:=by
 cases ty with
 |aT=>cases (show u=Value.none from rx);exact W.kia_one W.kitx_none I.cX True.intro e (λz=>nomatch z) h
 |bl y=>cases (show u=Value.bool y from rx);exact W.kia_one W.kitx_bool I.cX True.intro e (λz=>nomatch z) h
 |int i=>obtain⟨t,q⟩:=(show ∃t,u=Value.int i t from rx);cases q;exact W.kia_one W.kitx_int I.cX True.intro e (λz=>nomatch z) h
 |str y=>obtain⟨t,q⟩:=(show ∃t,u=Value.str y t from rx);cases q;exact W.kia_one W.kitx_str I.cX True.intro e (λz=>nomatch z) h
 |jF y=>obtain⟨t,q⟩:=(show ∃t,u=Value.float y t from rx);cases q;exact W.kia_one W.kitx_float I.cX True.intro e (λz=>nomatch z) h
 | @lst a xs ea =>
  cases (show u=Value.ref a from rx);obtain⟨_,_,n,_,h1⟩:=(show aP X.prog X.w H s.heap a (.lst xs)from I.aF a _ ea);exact W.kia_one W.kitx_list I.cX ⟨_,h1,rfl⟩ e (λz=>nomatch z) h
 | @cH a ob xs ea =>
  cases (show u=Value.ref a from rx);obtain⟨_,_,_,n,_,h1⟩:=(show aP X.prog X.w H s.heap a (.cH ob (.lst xs))from I.aF a _ ea);exact W.kia_one W.kitx_list I.cX ⟨_,h1,rfl⟩ e (λz=>nomatch z) h
 | @tup a xs ea =>
  cases (show u=Value.ref a from rx);obtain⟨_,_,_,p⟩:=(show aP X.prog X.w H s.heap a (.tup xs)from I.aF a _ ea);obtain⟨o,h1,h2,_⟩:=p;exact W.kia_one W.kitx_tuple I.cX ⟨o,h1,h2⟩ e (λz=>nomatch z) h
 | @dK a kvs ea =>
  cases (show u=Value.ref a from rx);obtain⟨_,_,vs,_,p⟩:=(show aP X.prog X.w H s.heap a (.dK kvs)from I.aF a _ ea);obtain⟨o,es,ep,h1,h2,_⟩:=p;exact W.kia_one W.kitx_dict I.cX ⟨o,h1,h2.1⟩ e (λz=>nomatch z) h
 | @dT a kvs ea =>
  cases (show u=Value.ref a from rx);obtain⟨_,_,xs,_,o,es,ep,h1,h2,_⟩:=(show aP X.prog X.w H s.heap a (.dT kvs)from I.aF a _ ea);exact W.kia_one W.kitx_dict I.cX ⟨o,h1,h2.1⟩ e (λz=>nomatch z) h
 | @ins a C dx fs ea cl ha hn htk hm =>
  cases (show u=Value.ref a from rx);obtain⟨mA,O,_⟩:=C3 I.aF ea;obtain⟨od,J,_⟩:=O.look;exact W.kia_one (W.kitx_own (cl.get _) cl.hd ha hn htk hm) I.cX J e (λz=>nomatch z) h
end
structure aD (k:Nat) (A:Around):Prop where
 hd:A.handled=none
 dp:A.depth+3*k+5<recursionLimit
 un:A.units+16*k+200<cLine
theorem aD.mono {j k:Nat} (r:aD k A) (h:j<=k):aD j A:=⟨r.hd,by have:=r.dp;omega,by have:=r.un;omega⟩
theorem aD.deeper {k:Nat}{A:Around} (r:aD (k+1) A) (env:Env):aD k (A.deeper env) :=
 ⟨r.hd,by have:=r.dp;show A.depth+1+3*k+5<_;omega,by have:=r.un;show A.units+3+16*k+200<_;omega⟩
theorem aD.in1 {k:Nat}{A:Around} (r:aD (k+1) A):aD k A.in1 :=
 ⟨r.hd,by have:=r.dp;show A.depth+3*k+5<_;omega,by have:=r.un;show A.units+1+16*k+200<_;omega⟩
theorem Ky {kw:List (Str×Value)}:(A.under (.builtin "type.__call__" ⟨.ref C::us,kw⟩)).depth=A.depth+1:=by
 first |rfl |simp[Around.under,Code.weight,Code.isCreation,Code.isGuard,Code.isCaller,Code.frames,Code.isFrame,guardIds]
theorem Kz {kw:List (Str×Value)}:(A.under (.builtin "type.__call__" ⟨.ref C::us,kw⟩)).units=A.units+1:=by
 first |rfl |simp[Around.under,Code.cUnits,Code.frames,Code.isFrame]
theorem aD.make {k:Nat} (r:aD (k+1) A) (C:Vs) (us:Vq) (kw:List (Str×Value)):aD k (A.under (.builtin "type.__call__" ⟨.ref C::us,kw⟩)) :=
 ⟨r.hd,by have:=r.dp;rw[Ky];omega,by have:=r.un;rw[Kz];omega⟩
theorem aD.depth {k:Nat}{A:Around} (r:aD k A):A.depth<recursionLimit:=by have:=r.dp;omega
theorem aD.units {k:Nat}{A:Around} (r:aD k A):A.units+64<cLine:=by have:=r.un;omega
def B6:TA:=λ_ H Q=>Q [] H
def As (ta:TE) (tr:TA):TA:=λσ H Q=>ta σ H λx H1=>tr σ H1 λxs H2=>Q (x::xs) H2
section
variable {es:List Expr}{t:TA}
theorem AB:PA X [] B6:=λ_ _ _ _ H Q I h=>Calls.spliced_nil ⟨[],H,I,.nil,h⟩
theorem AA (ha:PE X e te) (hr:PA X es t) (hs:starEach (e::es) X.env=(false,eval e X.env)::starEach es X.env:=by rfl):PA X (e::es) (As te t):=by
 intro pos aa s σ H Q I h;rw[hs];show wpAny _ _ (spliced ((false,eval e X.env)::backTo pos (starEach es X.env))) _ _ s;refine Calls.spliced_cons (aH (ha aa s σ H _ I h) λu s1 ⟨x,H1,I1,r1,q1⟩=>?_);exact aH (hr pos aa s1 σ H1 _ I1 q1) λus s2 ⟨xs,H2,I2,r2,q2⟩=>⟨x::xs,H2,I2,.cons r1 r2,q2⟩
def QU (t:TA):TE:=λσ H Q=>t σ H λxs H1=>xs.length<=sizeLine/\∀p,H1 p=none->Q (.ref p) (upd H1 p (.tup xs))
def QV (t:TA):TE:=λσ H Q=>t σ H λxs H1=>xs.length<=sizeLine/\∀p,H1 p=none->Q (.ref p) (upd H1 p (.lst xs))
theorem DS {x1} (h:PA X es t):PE X (.Tuple es x1 pos) (QU t):=by
 intro aa s σ H Q I hq;refine wpAny_Tuple_spliced (aH (h pos aa s σ H _ I hq) λus s1 ⟨xs,H1,I1,r,z,q⟩=>⟨by rw[←r.length];exact z,?_⟩);have hf:H1 s1.heap.objs.size=none:=I1.aF.fresh (ZA _);refine⟨.ref s1.heap.objs.size,upd H1 s1.heap.objs.size (.tup xs),I1.laid (t':=s1.toks) (λb u e=>ZY _ e) (ZA _) ?_,Zj,q _ hf⟩;exact⟨z,us,r,⟨_,ZP _ Zj,Zj,_,Zj⟩⟩
theorem CB (h:PA X es t):PE X (.List es pos) (QV t):=by
 intro aa s σ H Q I hq;refine wpAny_List_spliced (aH (h pos aa s σ H _ I hq) λus s1 ⟨xs,H1,I1,r,z,q⟩=>⟨by rw[←r.length];exact z,?_⟩);have hf:H1 s1.heap.objs.size=none:=I1.aF.fresh (ZA _);refine⟨.ref s1.heap.objs.size,upd H1 s1.heap.objs.size (.lst xs),I1.laid (t':=s1.toks) (λb u e=>ZY _ e) (ZA _) ?_,Zj,q _ hf⟩;exact⟨z,us,0,r,ZP _ Zj⟩
end
abbrev Sp:=Vr->Hp->VK->XK->Prop
abbrev gx:=List Env->Hp->Vt->XK->Value->Vt->Prop
structure eY (P:Program) (w:World) (K:FG) (mg:SV) (base:Heap) (A:Around) (outer:List Env) (s:Vt) (H:Hp):Prop where
 frames:A.frames=some outer
 mod:Mod K mg base
 bs:∀b o,base.get? b=some o->s.heap.get? b=some o/\H b=none
 gX:base.objs.size<=s.heap.objs.size
 dj:s.heap.FunFrames base outer
 ij:∀b∈cw outer,H b=none
 aF:dg P w H s.heap
 bare:AllBare s.gens
def CE (outer:List Env) (P:Program) (w:World) (H:Hp) (s:Vt) (Q:VK) (u:Value) (s':Vt):Prop :=
 ∃v H',s'.os=s.os/\AllBare s'.gens/\Un (cw outer) [] H H' s.heap s'.heap/\dg P w H' s'.heap/\RelV v u/\Q v H'
def CR (CX:gx) (outer:List Env) (P:Program) (w:World) (H:Hp) (s:Vt) (Q:VK) (E:XK) (r:Result) (s':Vt):Prop :=
 match r with
 | .ok (.ret u)=>CE outer P w H s Q u s'
 | .ok _=>False
 | .error e=>CX outer H s E e s'
structure aB (P:Program) (w:World) (K:FG) (mg:SV) (base:Heap) (CX:gx) (k:Nat) (f:Vs) (fd:FuncData) (ps:Vp) (sp:Sp):Prop where
 len:∀vs H Q E,sp vs H Q E->vs.length=ps.length
 run:∀(A:Around) (outer:List Env) (s:Vt) (H:Hp) (args:Args) (us:Vq) (vs:Vr) (Q:VK) (E:XK),aD k A->eY P w K mg base A outer s H->BindsTo s fd args (ps.zip us)->Vals vs us->sp vs H Q E ->
  codeAny (model P w) A (.call (.ref f) args) (CR CX outer P w H s Q E) s
theorem eY.make {outer:List Env}{s:Vt} (e:eY P w K mg base A outer s H) (C:Vs) (us:Vq) (kw:List (Str×Value)) :
  eY P w K mg base (A.under (.builtin "type.__call__" ⟨.ref C::us,kw⟩)) outer s H:=⟨by first |exact e.frames | (simpa[Around.under,Code.envs,Code.isFrame,pushEnvs]using e.frames),e.mod,e.bs,e.gX,e.dj,e.ij,e.aF,e.bare⟩
theorem eY.in1 {P:Program}{w:World}{K:FG}{mg:SV}{base:Heap}{A:Around}{outer:List Env}{s:Vt}{H:Hp} (e:eY P w K mg base A outer s H) :
  eY P w K mg base A.in1 outer s H:=⟨e.frames,e.mod,e.bs,e.gX,e.dj,e.ij,e.aF,e.bare⟩
section
variable {s s':Vt}
theorem Inv.gm (I:Inv X aa σ H s):eY X.prog X.w X.K X.mg X.base X.A X.stack s H :=
 ⟨I.ok.frames,I.ok.mod,I.bs,Nat.le_trans I.ok.gX I.sz,I.stack,I.stkFree,I.aF,I.bare⟩
theorem Inv.after {Q:VK} (I:Inv X aa σ H s) (h:CE X.stack X.prog X.w H s Q u s'):EP X aa σ Q u s':=by
 obtain⟨v,H',os,bare,un,aF,r,q⟩:=h;obtain⟨hh,g,d,t,os'⟩:=s';obtain rfl:os'=s.os:=os;exact⟨v,H',I.call (h':=hh) (g':=g) (d':=d) (t':=t) (ch:=[]) un aF bare (λb z=>absurd z (by simp)),r,q⟩
end
def HD (sp:Sp) (dQ:Vr) (E:XK) (t:TA):TE:=λσ H Q=>t σ H λvs H1=>sp (vs++dQ) H1 Q E
inductive ExM (C:Vs) (m:Str) (x:V) (H:Hp) (k:Prop):Prop where
 |mk (a dx:Vs) (fs:List (Str×V)) (h1:x=.ref a) (h2:H a=some (.ins C dx fs)) (h3:fs.lookup m=none) (q:k):ExM C m x H k
def Jn (C:Vs) (m:Str) (sp:Sp) (dQ:Vr) (E:XK) (ta:TE) (t:TA):TE:=λσ H Q=>ta σ H λx H1=>ExM C m x H1 (t σ H1 λvs H2=>sp (x::(vs++dQ)) H2 Q E)
def HE (C:Vs) (sp:Sp) (dQ:Vr) (E:XK) (t:TA):TE:=λσ H Q=>t σ H λvs H1=>∀x dx,H1 x=none->H1 dx=none->dx≠x ->
 sp (.ref x::(vs++dQ)) (upd (upd H1 dx (.own x)) x (.ins C dx [])) (λv H2=>v=.aT/\Q (.ref x) H2) E
def Binds (K:FG) (fd:FuncData) (ps:Vp) (ds:Vq):Prop :=
 ∀(s:Vt) (us:Vq),K.In s.heap->(us++ds).length=ps.length->BindsTo s fd ⟨us,[]⟩ (ps.zip (us++ds))
theorem Binds.all {fd:FuncData}{ps:Vp} (h:∀us:Vq,us.length=ps.length->bindArgs fd ⟨us,[]⟩=pure (ps.zip us)):Binds K fd ps []:=λs us _ hl=>by
 rw[Zv]at hl ⊢;exact .of_eq (h us hl)
def BJ (CX:gx) (X:Cx) (E:XK):Prop:=∀(aa:LO) (σ:St) (H:Hp) (s:Vt) (e:Value) (s':Vt),Inv X aa σ H s->CX X.stack H s E e s'->X.xe e s'
section
variable {CX:gx}{k:Nat}{fd:FuncData}{ps:Vp}{sp:Sp}{dQ:Vr}{ds:Vq}{E:XK}{m:Str}{p apos:Pos}{o:Expr}{es:List Expr}{ta:TE}{t:TA}
theorem Iv {s:Vt}{Q:VK}{vs:Vr} (F:aB X.prog X.w X.K X.mg X.base CX k f fd ps sp) (hr:aD k X.A) (hb:Binds X.K fd ps ds) (hd:Vals dQ ds) (hx:BJ CX X E)
  (I:Inv X aa σ H s) (r:Vals vs us) (h:sp (vs++dQ) H Q E):wpAny (model X.prog X.w) X.A (call (.ref f) us) (EP X aa σ Q) X.xe s:=by
 have r2:Vals (vs++dQ) (us++ds):=r.append hd;have hl:(us++ds).length=ps.length:=by rw[←r2.length];exact F.len _ _ _ _ h
 refine wpAny_call (codeAny_mono (F.run X.A X.stack s H ⟨us,[]⟩ (us++ds) (vs++dQ) Q E hr I.gm (hb s us I.cX hl) r2 h) λr s' hq=>?_);cases r with
 |error e=>exact hx aa σ H s e s' I hq
 |ok fl =>
  cases fl with
  |ret u=>exact I.after hq
  |next=>exact False.elim hq
  |brk=>exact False.elim hq
  |cont=>exact False.elim hq
theorem AO (F:aB X.prog X.w X.K X.mg X.base CX k f fd ps sp) (hr:aD k X.A) (hg:Gl X x) (hm:X.mg x=some (.ref f)) (hk:W.keepIn X.K (.ref f)=true) (hb:Binds X.K fd ps ds) (hd:Vals dQ ds) (hx:BJ CX X E)
  (ha:PA X (e::es) t) (fw:(x==("__debug__" : Str))=false:=by decide) (he:starEach (e::es) X.env=(false,eval e X.env)::starEach es X.env:=by rfl) (eQ:(backTo pos (starEach es X.env)).any (·.1)=false:=by rfl) :
  PE X (.Call (.Name x p) (e::es) [] pos) (HD sp dQ E t):=by
 intro aa s σ H Q I h;refine Z3 (Br I hg hm ?_ fw);refine W.callWith_K (h₀:=X.base) I.ok.mod.kin hk (aH (ha pos aa s σ H _ I h) λus s1 ⟨vs,H1,I1,r,q⟩=>⟨I1.cX,?_⟩) he eQ;exact Iv F hr hb hd hx I1 r q
theorem BD {pl:Sem Bool} (he:PE X o ta) (c:gQ X.K C) (hm:Fe X.K C m f) (F:aB X.prog X.w X.K X.mg X.base CX k f fd ps sp) (hr:aD k X.A) (hb:Binds X.K fd ps ds) (hd:Vals dQ ds) (hx:BJ CX X E) (ha:PA X (e::es) t)
  (hst:starEach (e::es) X.env=(false,eval e X.env)::starEach es X.env:=by rfl) (eQ:(backTo pos (starEach es X.env)).any (·.1)=false:=by rfl)
  (ht:eval (.Call (.Attribute o m apos) (e::es) [] pos) X.env=(do
   let ov ←eval o X.env
   standAt apos.atName
   let (f,first) ←holding [ov] (getMethod ov m pl)
   callWith pos f first (backTo pos (starEach (e::es) X.env)) (backToKw pos (keywordEach [] X.env))):=by rfl) :
  PE X (.Call (.Attribute o m apos) (e::es) [] pos) (Jn C m sp dQ E ta t):=by
 intro aa s σ H Q I h;refine W.methodCall_KW (pl:=pl) (aH (he aa s σ H _ I h) λu s1 ⟨x,H1,I1,rx,a,dx,fs,ex,ea,l,q⟩=>?_) ht;subst ex;obtain rfl:u=Value.ref a:=rx;refine HC I1 ea c hm l ?_;refine W.callWith_K (first:=[.ref a]) (h₀:=X.base) I.ok.mod.kin hm.kp (aH (ha pos aa s1 σ H1 _ I1 q) λus s2 ⟨vs,H2,I2,r,q2⟩=>⟨I2.cX,?_⟩) hst eQ;exact Iv (us:=.ref a::us) (vs:=.ref a::vs) F hr hb hd hx I2 (.cons Zj r) q2
theorem An {pl:Sem Bool} (he:PE X o ta) (c:gQ X.K C) (hm:Fe X.K C m f) (F:aB X.prog X.w X.K X.mg X.base CX k f fd ps sp) (hr:aD k X.A) (hb:Binds X.K fd ps ds) (hd:Vals dQ ds) (hx:BJ CX X E)
  (ht:eval (.Call (.Attribute o m apos) [] [] pos) X.env=(do
   let ov ←eval o X.env
   standAt apos.atName
   let (f,first) ←holding [ov] (getMethod ov m pl)
   callWith pos f first (backTo pos (starEach [] X.env)) (backToKw pos (keywordEach [] X.env))):=by rfl) :
  PE X (.Call (.Attribute o m apos) [] [] pos) (Jn C m sp dQ E ta B6):=by
 intro aa s σ H Q I h;refine W.methodCall_KW (pl:=pl) (aH (he aa s σ H _ I h) λu s1 ⟨x,H1,I1,rx,a,dx,fs,ex,ea,l,q⟩=>?_) ht;subst ex;obtain rfl:u=Value.ref a:=rx;refine HC I1 ea c hm l ?_;exact W.callWith_K0 (first:=[.ref a]) I1.cX hm.kp (Iv (us:=[.ref a]) (vs:=[.ref a]) F hr hb hd hx I1 (.cons Zj .nil) q)
structure Mk (K:FG) (C f:Vs):Prop where
 makes:W.makesIn K C=true
 init:W.findIn K (.ref C) "__init__" = some (some (.ref f))
 fn:W.isFn K (.ref f)=true
 kp:W.keepIn K (.ref C)=true
theorem Jo {s:Vt}{Q:VK}{vs:Vr} (M:Mk X.K C f) (F:aB X.prog X.w X.K X.mg X.base CX k f fd ps sp) (hr:aD (k+1) X.A) (hb:Binds X.K fd ps ds) (hd:Vals dQ ds)
  (hx:BJ CX X E) (I:Inv X aa σ H s) (r:Vals vs us)
  (h:∀x dx,H x=none->H dx=none->dx≠x->sp (.ref x::(vs++dQ)) (upd (upd H dx (.own x)) x (.ins C dx [])) (λv H2=>v=.aT/\Q (.ref x) H2) E) :
  wpAny (model X.prog X.w) X.A (call (.ref C) us) (EP X aa σ Q) X.xe s:=by
 have hq:=h (s.heap.objs.size+1) s.heap.objs.size (I.aF.fresh (Nat.le_succ _)) (I.aF.fresh (ZA _)) (ZF (Nat.lt_succ_self _));have I2:=Inv.made (C:=C) I;have r2:Vals (V.ref (s.heap.objs.size+1)::(vs++dQ)) (Value.ref (s.heap.objs.size+1)::(us++ds)):=.cons rfl (r.append hd)
 have hl:(Value.ref (s.heap.objs.size+1)::us++ds).length=ps.length:=by
  have e:=r2.length;rw[F.len _ _ _ _ hq]at e;exact e.symm
 refine wpAny_call (HB (f:=f) I.cX M.makes M.init (beq_iff_eq.mp M.fn) (codeAny_mono (F.run _ X.stack _ _ ⟨Value.ref (s.heap.objs.size+1)::us,[]⟩ (Value.ref (s.heap.objs.size+1)::(us++ds)) _ _ E (hr.make C us [])
  (I2.gm.make C us []) (hb _ (Value.ref (s.heap.objs.size+1)::us) I2.cX hl) r2 hq) λr s' fv=>?_))
 cases r with
 |error e=>exact hx aa σ _ _ e s' I2 fv
 |ok fl =>
  cases fl with
  |ret u =>
   obtain⟨v,H',I3,rv,ev,q3⟩:=I2.after fv;subst ev;exact⟨rv,⟨V.ref (s.heap.objs.size+1),H',I3,Zj,q3⟩⟩
  |next=>exact False.elim fv
  |brk=>exact False.elim fv
  |cont=>exact False.elim fv
theorem Bt (M:Mk X.K C f) (F:aB X.prog X.w X.K X.mg X.base CX k f fd ps sp) (hr:aD (k+1) X.A) (hg:Gl X x) (hm:X.mg x=some (.ref C)) (hb:Binds X.K fd ps ds) (hd:Vals dQ ds) (hx:BJ CX X E)
  (ha:PA X (e::es) t) (fw:(x==("__debug__" : Str))=false:=by decide) (he:starEach (e::es) X.env=(false,eval e X.env)::starEach es X.env:=by rfl) (eQ:(backTo pos (starEach es X.env)).any (·.1)=false:=by rfl) :
  PE X (.Call (.Name x p) (e::es) [] pos) (HE C sp dQ E t):=by
 intro aa s σ H Q I h;refine Z3 (Br I hg hm ?_ fw);refine W.callWith_K (h₀:=X.base) I.ok.mod.kin M.kp (aH (ha pos aa s σ H _ I h) λus s1 ⟨vs,H1,I1,r,q⟩=>⟨I1.cX,?_⟩) he eQ;exact Jo M F hr hb hd hx I1 r q
theorem OP (M:Mk X.K C f) (F:aB X.prog X.w X.K X.mg X.base CX k f fd ps sp) (hr:aD (k+1) X.A) (hg:Gl X x) (hm:X.mg x=some (.ref C)) (hb:Binds X.K fd ps ds) (hd:Vals dQ ds) (hx:BJ CX X E)
  (fw:(x==("__debug__" : Str))=false:=by decide):PE X (.Call (.Name x p) [] [] pos) (HE C sp dQ E B6):=by
 intro aa s σ H Q I h;refine Z3 (Br I hg hm ?_ fw);exact W.callWith_K0 I.cX M.kp (Jo (us:=[]) M F hr hb hd hx I .nil h)
end
def PK (X:Cx) (gf:List Keyword) (t:TA):Prop :=
 ∀(pos:Pos) (aa:LO) (s:Vt) (σ:St) (H:Hp) (Q:Vr->Hp->Prop),Inv X aa σ H s->t σ H Q->wpAny (model X.prog X.w) X.A (evalAll ((backToKw pos (keywordEach gf X.env)).map (·.2))) (AP X aa σ Q) X.xe s
section
variable {CX:gx}{k:Nat}{fd:FuncData}{ps ks:Vp}{sp:Sp}{E:XK}{m:Str}{p apos kpos:Pos}{o:Expr}{es:List Expr}{gf:List Keyword}{ta:TE}{t tk:TA}{nm:Option Str}
theorem HF:PK X [] B6:=λ_ _ _ _ H Q I h=>wpAny_evalAll_nil ⟨[],H,I,.nil,h⟩
theorem Ez (ha:PE X e te) (hr:PK X gf t):PK X (⟨nm,e,kpos⟩::gf) (As te t):=by
 intro pos aa s σ H Q I h;show wpAny _ _ (evalAll ((do let v ←eval e X.env;standAt pos;pure v)::(backToKw pos (keywordEach gf X.env)).map (·.2))) _ _ s;refine wpAny_evalAll_cons (Zz (aH (ha aa s σ H _ I h) λu s1 ⟨x,H1,I1,r1,q1⟩=>Zz (ZL (Zy ?_))));exact aH (hr pos aa s1 σ H1 _ I1 q1) λus s2 ⟨xs,H2,I2,r2,q2⟩=>⟨x::xs,H2,I2,.cons r1 r2,q2⟩
structure Cm (K:FG) (fd:FuncData) (ps ks:Vp) (g:Vq->Vq->Vq) (gV:Vr->Vr->Vr):Prop where
 to:∀(s:Vt) (us ws:Vq),K.In s.heap->(g us ws).length=ps.length->BindsTo s fd ⟨us,ks.zip ws⟩ (ps.zip (g us ws))
 rel:∀ {vs:Vr}{us:Vq}{zs:Vr}{ws:Vq},Vals vs us->Vals zs ws->Vals (gV vs zs) (g us ws)
def Si (sp:Sp) (gV:Vr->Vr->Vr) (E:XK) (t tk:TA):TE:=λσ H Q=>t σ H λvs H1=>tk σ H1 λzs H2=>sp (gV vs zs) H2 Q E
variable {g:Vq->Vq->Vq}{gV:Vr->Vr->Vr}
theorem QW {s:Vt}{Q:VK}{ws:Vq}{vs zs:Vr} (F:aB X.prog X.w X.K X.mg X.base CX k f fd ps sp) (hr:aD k X.A) (hb:Cm X.K fd ps ks g gV) (hx:BJ CX X E)
  (I:Inv X aa σ H s) (r:Vals vs us) (rz:Vals zs ws) (h:sp (gV vs zs) H Q E):wpAny (model X.prog X.w) X.A (call (.ref f) us (ks.zip ws)) (EP X aa σ Q) X.xe s:=by
 have r2:=hb.rel r rz;have hl:(g us ws).length=ps.length:=by rw[←r2.length];exact F.len _ _ _ _ h
 refine wpAny_call (codeAny_mono (F.run X.A X.stack s H ⟨us,ks.zip ws⟩ (g us ws) (gV vs zs) Q E hr I.gm (hb.to s us ws I.cX hl) r2 h) λr s' hq=>?_);cases r with
 |error e=>exact hx aa σ H s e s' I hq
 |ok fl =>
  cases fl with
  |ret u=>exact I.after hq
  |next=>exact False.elim hq
  |brk=>exact False.elim hq
  |cont=>exact False.elim hq
theorem OQ (F:aB X.prog X.w X.K X.mg X.base CX k f fd ps sp) (hr:aD k X.A) (hg:Gl X x) (hm:X.mg x=some (.ref f)) (hk:W.keepIn X.K (.ref f)=true) (hb:Cm X.K fd ps ks g gV) (hx:BJ CX X E)
  (ha:PA X (e::es) t) (hkw:PK X gf tk) (bc:(backToKw pos (keywordEach gf X.env)).all (·.1.isSome)=true:=by rfl) (hks:(backToKw pos (keywordEach gf X.env)).filterMap (·.1)=ks:=by rfl)
  (fw:(x==("__debug__" : Str))=false:=by decide) (he:starEach (e::es) X.env=(false,eval e X.env)::starEach es X.env:=by rfl)
  (eQ:((backTo pos (starEach (e::es) X.env)).any (·.1)||(backToKw pos (keywordEach gf X.env)).any (·.1.isNone))=false:=by rfl) :
  PE X (.Call (.Name x p) (e::es) gf pos) (Si sp gV E t tk):=by
 intro aa s σ H Q I h;refine Z3 (Br I hg hm ?_ fw);refine W.callWith_KW (h₀:=X.base) I.ok.mod.kin hk bc (aH (ha pos aa s σ H _ I h) λus s1 ⟨vs,H1,I1,r,q⟩=>?_) eQ he;refine aH (hkw pos aa s1 σ H1 _ I1 q) λws s2 ⟨zs,H2,I2,rz,q2⟩=>⟨I2.cX,?_⟩;rw[hks];exact QW F hr hb hx I2 r rz q2
end
structure AH (N P:Vp) (sc:Scope):Prop where
 kind:sc.kind=.function
 co:sc.isCoroutine=false
 gen:sc.isGenerator=false
 nd:N.Nodup
 pre:N.take P.length=P
 par:∀x∈P,sc.names.lookup x=some .local\/sc.names.lookup x=some .cell
 nofree:∀y∈sc.names,y.2≠ .free
theorem bH {N P:Vp}{sc:Scope} (a:sc.kind=.function:=by exact rfl) (b:sc.isCoroutine=false:=by exact rfl) (c:sc.isGenerator=false:=by exact rfl) (d:N.Nodup:=by decide +kernel) (e:N.take P.length=P:=by exact rfl) (f:∀x∈P,sc.names.lookup x=some .local\/sc.names.lookup x=some .cell:=by decide +kernel) (g:∀y∈sc.names,y.2≠ .free:=by decide +kernel):AH N P sc:=⟨a,b,c,d,e,f,g⟩
theorem IH {kindOf:Str->Option NameKind}{x:Str}:∀ {binds:List (Str×Value)}{m:SV},(∀v,(x,v)∉ binds)->bindL kindOf binds m x=m x
  | [],_,_=>rfl
  | (n,v)::r,m,h=>by
    unfold bindL;rw[IH λw hw=>h w (ZT _ hw)];split
    · have:x≠n:=by rintro rfl;exact h v ZK
      simp[this]
    · rfl
theorem II {kindOf:Str->Option NameKind}{x:Str}:∀ {binds:List (Str×Value)}{m:SV},(∀v,(x,v)∉ binds)->bindC kindOf binds m x=m x
  | [],_,_=>rfl
  | (n,v)::r,m,h=>by
    unfold bindC;rw[II λw hw=>h w (ZT _ hw)];split
    · rfl
    · have:x≠n:=by rintro rfl;exact h v ZK
      simp[this]
theorem IJ {kindOf:Str->Option NameKind}{x:Str}{v:Value}:∀ {P:Vp}{vs:Vq}{i:Nat}{m:SV},P.Nodup->P[i]?=some x->vs[i]?=some v->kindOf x=some .local ->
  bindL kindOf (P.zip vs) m x=some v
 | [],_,_,_,_,h,_,_=>by simp at h
 |_::_,[],_,_,_,_,h,_=>by simp at h
 |p::P,w::vs,0,m,nd,h1,h2,hk=>by
  simp at h1 h2;subst h1;subst h2;show bindL kindOf ((p,w)::P.zip vs) m p=_;unfold bindL;rw[IH λv hv=>(Zu.mp nd).1 (of_mem_zip hv).1,Zr hk];simp
 |p::P,w::vs,i+1,m,nd,h1,h2,hk=>by
  show bindL kindOf ((p,w)::P.zip vs) m x=_;unfold bindL;exact IJ (i:=i) (Zu.mp nd).2 (by simpa using h1) (by simpa using h2) hk
theorem IK {kindOf:Str->Option NameKind}{x:Str}{v:Value}:∀ {P:Vp}{vs:Vq}{i:Nat}{m:SV},P.Nodup->P[i]?=some x->vs[i]?=some v->kindOf x≠some .local ->
  bindC kindOf (P.zip vs) m x=some v
 | [],_,_,_,_,h,_,_=>by simp at h
 |_::_,[],_,_,_,_,h,_=>by simp at h
 |p::P,w::vs,0,m,nd,h1,h2,hk=>by
  simp at h1 h2;subst h1;subst h2;show bindC kindOf ((p,w)::P.zip vs) m p=_;unfold bindC;rw[II λv hv=>(Zu.mp nd).1 (of_mem_zip hv).1,Zs hk];simp
 |p::P,w::vs,i+1,m,nd,h1,h2,hk=>by
  show bindC kindOf ((p,w)::P.zip vs) m x=_;unfold bindC;exact IK (i:=i) (Zu.mp nd).2 (by simpa using h1) (by simpa using h2) hk
noncomputable def Ca (N:Vp) (vs:Vr):St:=vs.map some++replicate (N.length - vs.length) none
noncomputable def Au (CX:gx) (P:Program) (w:World) (K:FG) (mg:SV) (base:Heap) (N:Vp) (qual:Str) (scope:Scope) (f:Vs) (cd:Value) (A:Around) (outer:List Env) (s:Vt) (H:Hp) (E:XK):Cx where
 prog:=P
 w:=w
 K:=K
 mg:=mg
 base:=base
 A:=A.deeper (envOfC qual scope s.heap.objs.size f cd)
 N:=N
 aI:=s
 eJ:=H
 env:=envOfC qual scope s.heap.objs.size f cd
 outer:=outer
 stack:=envOfC qual scope s.heap.objs.size f cd::outer
 ex:=[]
 calm:=true
 fn:=λ_=>true
 pn:=[]
 xe:=λe s'=>wpAny (model P w) (A.deeper (envOfC qual scope s.heap.objs.size f cd)) (leaving (envOfC qual scope s.heap.objs.size f cd) e) (λ_ s''=>CX outer H s E e s'') (λe' s''=>CX outer H s E e' s'') s'
theorem Jp {sc:Scope}{n:Nat} (h:sc.names.lookup x=some .cell):∃c,(cellsFrom n sc.names []).lookup x=some c:=by
 have q:=W.cellsFrom_some sc.names n [] (.inl h);exact Option.isSome_iff_exists.mp q
theorem IL {CX:gx}{ps:Vp}{qual:Str}{scope:Scope}{cd:Value}{outer:List Env}{s s1:Vt}{E:XK}{vs:Vr}
  (S:AH N ps scope) (hd:A.handled=none) (e0:eY P w K mg base A outer s H) (hl:vs.length=ps.length) (r:Vals vs us)
  (x:InCallC s s.heap.objs.size (bindL (envOfC qual scope s.heap.objs.size f cd).kindOf (ps.zip us) λ_=>none) (cellsFrom (s.heap.objs.size+1) scope.names []) (bindC (envOfC qual scope s.heap.objs.size f cd).kindOf (ps.zip us) λ_=>none) s1) :
  Inv (Au CX P w K mg base N qual scope f cd A outer s H E) [] (Ca N vs) H s1:=by
 have eQ:ps.length<=N.length:=by have:=congrArg List.length S.pre;rw[ZD]at this;omega
 obtain⟨h1,tk,rfl,hk⟩:=x.done;have ja:∀b:Vs,b∉ (Au CX P w K mg base N qual scope f cd A outer s H E).ex:=λb z=>absurd (show b∈([]:List Vs)from z) (by simp)
 refine⟨⟨e0.mod,S.kind,Zj,Zj,ZA _,λy z c h1 h2=>?_,λy hy=>?_,λy c _ h=>?_,λ_=>hd,Around.frames_deeper e0.frames,.inr ⟨Zj,Zj⟩,λb z=>absurd z (ja b),e0.bs,e0.gX,λb _ _=>ja b,λb z=>absurd z (ja b),e0.dj,e0.ij⟩,
  rfl,e0.bare,Un.kept hk,⟨_,x.toInCall.ns,λi y v h1 h2 h3=>?_⟩,λy c h=>⟨_,x.cell y c h⟩,e0.aF.fresh (ZA _),λy c h=>?_,λp hp=>absurd (show p∈([]:LO)from hp) (by simp),e0.aF.kept hk,?_⟩
 ·exact name_of_addr x.apart (PySem.mem_of_lookup h1) (PySem.mem_of_lookup h2)
 ·have hy:scope.names.lookup y=some .cell\/scope.names.lookup y=some .free:=hy;rcases hy with hy |hy
  ·exact Jp hy
  ·exact absurd Zj (S.nofree _ (PySem.mem_of_lookup hy))
 ·exact Nat.le_of_lt (x.above y c (PySem.mem_of_lookup h))
 ·have hi:i<vs.length:=by
   unfold Ca at h2;by_cases hi:i<vs.length
   ·exact hi
   ·rw[getElem?_append_right (by simpa using hi)]at h2;rw[List.getElem?_replicate]at h2;split at h2 <;> cases h2
  have ha:vs[i]?=some v:=by
   unfold Ca at h2;rw[List.getElem?_append_left (by simpa using hi),ZH]at h2;cases e:vs[i]? with
   |none=>rw[e]at h2;cases h2
   |some a=>rw[e]at h2;cases h2;rfl
  obtain⟨u,hu,rv⟩:=r.get ha
  have hp:ps[i]?=some y:=by
   rw[←S.pre,List.getElem?_take_of_lt qe];exact h1
  have ndP:ps.Nodup:=by rw[←S.pre];exact S.nd.sublist (List.take_sublist _ _)
  refine⟨u,rv,?_⟩;rcases S.par y (ZS hp)with k |k
  ·exact .inl ⟨k,IJ ndP hp hu k⟩
  ·obtain⟨c,e⟩:=Jp (n:=s.heap.objs.size+1) k;refine .inr ⟨.inl k,c,e,?_⟩;have q:=x.cell y c e;rw[IK ndP hp hu (by show scope.names.lookup y≠_;rw[k];decide)]at q;exact q
 ·exact e0.aF.fresh (Nat.le_of_lt (x.above y c (PySem.mem_of_lookup h)))
 ·unfold Ca;show _=N.length;rw[ZJ,AK,length_replicate];omega
theorem Lz {CX:gx}{k:Nat}{name qual:Str}{params:Arguments}{body:List Stmt}{scope:Scope}{dV kV doc pm ae ct oc:Value}{an od:Option Vs}
  {gd:Array (Option Value)}{N ps:Vp}{sp:Sp} (lk:K.lookup f=some ⟨oc,od,.func (W.fnOf name qual params body scope dV kV doc pm an ae ct),gd⟩) (fJ:W.codeIn K ae qual=true) (S:AH N ps scope)
  (len:∀vs H Q E,sp vs H Q E->vs.length=ps.length)
  (bg:∀(A:Around) (outer:List Env) (s:Vt) (H:Hp) (vs:Vr) (Q:VK) (E:XK),aD k (A.deeper (envOfC qual scope s.heap.objs.size f ae))->sp vs H Q E ->
   ∃t,eI (Au CX P w K mg base N qual scope f ae A outer s H E) body t/\t { nx:=λ_ H'=>Q .aT H',rt:=Q } (Ca N vs) H) :
  aB P w K mg base CX (k+1) f (W.fnOf name qual params body scope dV kV doc pm an ae ct) ps sp:=by
 refine⟨len,λA outer s H args us vs Q E hr e0 hb r ic=>?_⟩;have hl:=len _ _ _ _ ic;have KX:K.In s.heap:=e0.mod.kin.keeps λb o e=>(e0.bs b o e).1;have lim:s.heap.NoLimit:=e0.mod.nolimit.keeps λb o e=>(e0.bs b o e).1
 have hkind:∀y∈ps.zip us,scope.names.lookup y.1=some .local\/(scope.names.lookup y.1=some .cell/\((cellsFrom (s.heap.objs.size+1) scope.names []).lookup y.1).isSome=true):=λ⟨n,v⟩ hy=>by
  rcases S.par n (of_mem_zip hy).1 with q |q
  ·exact .inl q
  ·exact .inr ⟨q,W.cellsFrom_some _ _ _ (.inl q)⟩
 refine codeAny_call_function hr.depth (KX _ _ lk) Zj S.co S.gen Zj (W.codeRec_of KX fJ) (hb _ _ _ _ ?_);refine wpAny_newFunctionEnv_cells S.kind hkind λenv he s1 x=>?_;subst he;refine⟨lim.keeps x.toInCall.keep,codeAny_func ?_⟩;obtain⟨t,ht,hq⟩:=bg A outer s H vs Q E (hr.deeper _) ic;have I:Inv (Au CX P w K mg base N qual scope f ae A outer s H E) [] (Ca N vs) H s1:=IL S hr.hd e0 hl r x;refine Zx (ht [] s1 (Ca N vs) H _ I hq) (λfl s' hs=>?_) λe s' hs=>hs
 have fin:∀ {aO:St}{H':Hp}{v:V}{u:Value},Inv (Au CX P w K mg base N qual scope f ae A outer s H E) [] aO H' s'->RelV v u->Q v H'->CE outer P w H s Q u s' :=
  λ{aO H' v u} J rv q=>⟨v,H',J.os,J.bare,J.base,J.aF,rv,q⟩
 cases fl with
 |ret u =>
  obtain⟨v,aO,H',J,rv,q⟩:=hs;exact fin J rv q
 |next =>
  obtain⟨aO,H',J,q⟩:=hs;exact fin (v:=V.aT) (u:=Value.none) J Zj q
 |brk =>
  obtain⟨_,_,_,q⟩:=hs;exact False.elim q
 |cont =>
  obtain⟨_,_,_,q⟩:=hs;exact False.elim q
section
variable {p:Pos}{es:List Expr}{t:TA}{id T:String}{r:Vr->Hp->VK->Prop}
def tCB (r:Vr->Hp->VK->Prop) (t:TA):TE:=λσ H Q=>t σ H λvs H1=>r vs H1 Q
theorem AM (hc:Be X (.builtin id) r) (hg:Gl X x) (hm:X.mg x=none) (hv:bootBuiltins x=some (.builtin id)) (ha:PA X (e::es) t) (hn:x≠ "__name__" := by decide) (fw:(x==("__debug__" : Str))=false:=by decide)
  (he:starEach (e::es) X.env=(false,eval e X.env)::starEach es X.env:=by rfl) (eQ:(backTo pos (starEach es X.env)).any (·.1)=false:=by rfl):PE X (.Call (.Name x p) (e::es) [] pos) (tCB r t):=by
 intro aa s σ H Q I h;refine Z3 (EY I hg hm hv ?_ hn fw);exact PyProof.Rows.callWith_builtin1 (aH (ha pos aa s σ H _ I h) λus s1 ⟨vs,H1,I1,r1,q1⟩=>hc aa s1 σ H1 vs us Q I1 r1 q1) he eQ
theorem A9 (hc:Be X (.type T) r) (hg:Gl X x) (hm:X.mg x=none) (hv:bootBuiltins x=some (.type T)) (ha:PA X (e::es) t) (hn:x≠ "__name__" := by decide) (fw:(x==("__debug__" : Str))=false:=by decide)
  (he:starEach (e::es) X.env=(false,eval e X.env)::starEach es X.env:=by rfl) (eQ:(backTo pos (starEach es X.env)).any (·.1)=false:=by rfl):PE X (.Call (.Name x p) (e::es) [] pos) (tCB r t):=by
 intro aa s σ H Q I h;refine Z3 (EY I hg hm hv ?_ hn fw);exact PyProof.Rows.callWith_type1 (aH (ha pos aa s σ H _ I h) λus s1 ⟨vs,H1,I1,r1,q1⟩=>hc aa s1 σ H1 vs us Q I1 r1 q1) he eQ
end
abbrev TO:=St->Hp->(Option Int->Hp->Prop)->Prop
def PO (X:Cx) (e:Option Expr) (t:TO):Prop :=
 ∀(aa:LO) (s:Vt) (σ:St) (H:Hp) (Q:Option Int->Hp->Prop),Inv X aa σ H s->t σ H Q ->
  wpAny (model X.prog X.w) X.A (evalPart e X.env) (λu s'=>∃o H',Inv X aa σ H' s'/\IsPart u o/\Q o H') X.xe s
def T9 (t:TE):TO:=λσ H Q=>t σ H λx H1=>∃i,x=.int i/\Q (some i) H1
theorem DU {ns:List Int}:∀ {us:Vq},Vals (ns.map V.int) us->IntsAre us ns:=by
 induction ns with
 |nil=>intro us r;rw[map_nil]at r;cases r;exact .nil
 |cons n ns ih =>
  intro us r;rw[map_cons]at r;cases r with
  |cons r1 r2 =>
   obtain⟨t,e⟩:=r1;subst e;exact .cons n t (ih r2)
section
variable {lo hi:Option Expr}{tl th:TO}{p2:Pos}
theorem Gh (h:PE X e te):PO X (some e) (T9 te):=by
 intro aa s σ H Q I hw;rw[evalPart_some];refine aH (h aa s σ H _ I hw) λu s1 ⟨x,H1,I1,r1,q1⟩=>?_;obtain⟨i,rfl,q⟩:=q1;obtain⟨t,rfl⟩:=r1;exact⟨some i,H1,I1,.int i t,q⟩
def SlR (X:Cx) (r:V->Option Int->Option Int->Hp->VK->Prop):Prop :=
 ∀(aa:LO) (s:Vt) (σ:St) (H:Hp) (x:V) (v vl vu:Value) (lo hi:Option Int) (sl:Vs) (Q:VK),Inv X aa σ H s->RelV x v->s.heap.IsSliceOf sl vl vu .none->IsPart vl lo->IsPart vu hi->r x lo hi H Q ->
  ∃T id,typeLookup (.type T) "__getitem__" = pure (some (.builtin id))/\s.TypeIs v T/\wpAny (model X.prog X.w) X.A (getItem v (.ref sl)) (EP X aa σ Q) X.xe s
def tSl (r:V->Option Int->Option Int->Hp->VK->Prop) (te:TE) (tl th:TO):TE:=λσ H Q=>te σ H λx H1=>tl σ H1 λl H2=>th σ H2 λu H3=>r x l u H3 Q
theorem Jq {r:V->Option Int->Option Int->Hp->VK->Prop} (hr:SlR X r) (he:PE X e te) (hl:PO X lo tl) (hu:PO X hi th):PE X (.Subscript e (.Slice lo hi none p2) pos) (tSl r te tl th):=by
 intro aa s σ H Q I h;refine Subscript_ (aH (he aa s σ H _ I h) λv s1 ⟨x,H1,I1,r1,q1⟩=>?_);refine wpAny_Slice (aH (hl aa s1 σ H1 _ I1 q1) λvl s2 ⟨l,H2,I2,pl,q2⟩=>aH (hu aa s2 σ H2 _ I2 q2) λvu s3 ⟨u,H3,I3,pu,q3⟩=>?_);rw[evalPart_none];refine Zy ?_;have I4:Inv X aa σ H3 { s3 with heap:=s3.heap.push { cls:=.type "slice", data:=.fields #[vl,vu,.none] } }:=I3.kept (t':=s3.toks) λb ob q=>ZY _ q;obtain⟨T,id,hT,ht,hg⟩:=hr aa { s3 with heap:=s3.heap.push { cls:=.type "slice", data:=.fields #[vl,vu,.none] } } σ H3 x v vl vu l u s3.heap.objs.size Q I4 r1 (Heap.IsSliceOf.new ..) pl pu q3;show wpAny (model X.prog X.w) X.A (subscriptTail e (.Slice lo hi none p2) v (.ref s3.heap.objs.size)) (EP X aa σ Q) X.xe { s3 with heap:=s3.heap.push { cls:=.type "slice", data:=.fields #[vl,vu,.none] } };exact tail_any (ops:=[.ref s3.heap.objs.size,v]) ht hT hg (by with_unfolding_all rfl)
end
noncomputable def iE (n:Nat) (i:Int):Option Nat:=if 0<=i then (if i<n then some i.toNat else none)else if -(n:Int)<=i then some (i+n).toNat else none
noncomputable def iz {α:Type} (xs:List α) (i:Int):Option α:=(iE xs.length i).bind λj=>xs[j]?
theorem L4 {n:Nat}{i:Int}{j:Nat} (h:iE n i=some j):seqIndex? i n=some j/\j<n/\-(n:Int)<=i/\i<n:=by
 unfold iE at h;by_cases h0:0<=i
 ·rw[Zr h0]at h;by_cases h1:i<n
  ·rw[Zr h1]at h;have e:i.toNat=j:=Option.some.inj h;exact⟨by rw[seqIndex_of h0 h1,e],qe,qe,h1⟩
  ·rw[Zs h1]at h;cases h
 ·rw[Zs h0]at h;by_cases h1:-(n:Int)<=i
  ·rw[Zr h1]at h;have e:(i+n).toNat=j:=Option.some.inj h;exact⟨by rw[seqIndex_neg qe h1,e],qe,h1,qe⟩
  ·rw[Zs h1]at h;cases h
theorem Ix {α:Type}{xs:List α}{i:Int}{v:α} (h:iz xs i=some v):∃j,seqIndex? i xs.length=some j/\xs[j]?=some v/\j<xs.length/\-(xs.length:Int)<=i/\i<xs.length:=by
 unfold iz at h;cases e:iE xs.length i with
 |none=>rw[e]at h;cases h
 |some j =>
  rw[e]at h;obtain⟨h1,h2,h3,h4⟩:=L4 e;exact⟨j,h1,h,h2,h3,h4⟩
theorem CK {α:Type}{xs:List α}{j:Nat}{v:α} (h:xs[j]?=some v):iz xs (j:Int)=some v:=by
 have hj:j<xs.length:=(Z8.mp h).1
 have e:iE xs.length (j:Int)=some j:=by
  unfold iE;rw[Zr qe,Zr qe];simp
 unfold iz;rw[e];exact h
def QX (b:Expr):Prop:=∀o i,subscripted b false o i=operate [o,i] (getItem o i)
def IxR (X:Cx) (r:R2):Prop :=
 ∀(value slice:Expr) (aa:LO) (s:Vt) (σ:St) (H:Hp) (x y:V) (v u:Value) (Q:VK),Inv X aa σ H s->RelV x v->RelV y u->r x y H Q ->
  subscripted slice false v u=operate [v,u] (getItem v u)->wpAny (model X.prog X.w) X.A (subscriptTail value slice v u) (EP X aa σ Q) X.xe s
def gJ (X:Cx) (id:String) (r:V->Vr->Hp->VK->Prop):Prop :=
 ∀(aa:LO) (s:Vt) (σ:St) (H:Hp) (x:V) (xs:Vr) (v:Value) (us:Vq) (Q:VK),Inv X aa σ H s->RelV x v->Vals xs us->r x xs H Q ->
  wpAny (model X.prog X.w) X.A (call (.builtin id) (v::us)) (EP X aa σ Q) X.xe s
section
variable {a b:Expr}{ta tb:TE}
theorem Bi {r:R2} (hr:IxR X r) (ha:PE X a ta) (hb:PE X b tb) (hs:QX b):PE X (.Subscript a b pos) (il r ta tb):=by
 intro aa s σ H Q I h;exact Subscript_ (Se ha hb I h λv u s2 x y H2 I2 rx ry q=>hr a b aa s2 σ H2 x y v u Q I2 rx ry q (hs _ _))
inductive ExrIxL (K:FG) (x y:V) (H:Hp) (k:V->Prop):Prop where
 |mk (p:Vs) (xs:Vr) (i:Int) (v:V) (h1:x=.ref p) (h2:y=.int i) (h3:aJ K H p xs) (h4:iz xs i=some v) (q:k v):ExrIxL K x y H k
def UA (K:FG):R2:=λx y H Q=>ExrIxL K x y H λv=>Q v H
inductive ExrIxT (K:FG) (x y:V) (H:Hp) (k:V->Prop):Prop where
 |mk (p:Vs) (xs:Vr) (i:Int) (v:V) (h1:x=.ref p) (h2:y=.int i) (h3:bZ K H p xs) (h4:iz xs i=some v) (q:k v):ExrIxT K x y H k
def UB (K:FG):R2:=λx y H Q=>ExrIxT K x y H λv=>Q v H
def VL:R2:=λx y H Q=>∃z i c,x=.str z/\y=.int i/\z.length<=sizeLine/\iz z.cps.toList i=some c/\Q (.str ⟨#[c]⟩) H
theorem QY:IxR X (UA X.K):=by
 intro value slice aa s σ H x y v u Q I rx ry h hs;obtain⟨p,xs,i,z,rfl,rfl,hq,he,q⟩:=h;cases rx;obtain⟨t,rfl⟩:=ry;obtain⟨its,r,pl,hz⟩:=I.list hq;obtain⟨j,h1,h2,h3,h4,h5⟩:=Ix he;obtain⟨w,ew,iC⟩:=r.get h2;have hl:=r.length;have hn:=Fc;have fin:EP X aa σ Q w s:=⟨z,H,I,iC,q⟩;by_cases h0:0<=i
 ·have hj:i.toNat=j:=by
   rw[seqIndex_of h0 h5]at h1;exact Option.some.inj h1
  exact item_listR pl.isList h0 qe (by rw[hj];simpa using ew) fin hs
 ·have hj:(i+(its.toArray.size:Int)).toNat=j:=by
   rw[seqIndex_neg qe h4]at h1;rw[size_toArray,←hl];exact Option.some.inj h1
  exact subscriptTail_builtinR (x:=w) pl.isList.typeIs slot_list_getitem.lookup
   (wpAny_getItem_list_neg (Q:=λr s'=>r=w/\EP X aa σ Q r s') pl.isList qe (by rw[size_toArray] <;> omega) qe (by rw[hj];simpa using ew) ⟨rfl,fin⟩) hs
theorem Sj:IxR X (UB X.K):=by
 intro value slice aa s σ H x y v u Q I rx ry h hs;obtain⟨p,xs,i,z,rfl,rfl,hq,he,q⟩:=h;cases rx;obtain⟨t,rfl⟩:=ry;obtain⟨its,r,pl,hz⟩:=I.tuple hq;obtain⟨j,h1,h2,h3,h4,h5⟩:=Ix he;obtain⟨w,ew,iC⟩:=r.get h2;have hl:=r.length;have hn:=Fc;have fin:EP X aa σ Q w s:=⟨z,H,I,iC,q⟩
 exact subscriptTail_builtinR (x:=w) pl.typeIs slot_tuple_getitem.lookup
  (getItem_tuple (j:=j) (Q:=λr s'=>r=w/\EP X aa σ Q r s') pl qe qe (by rw[size_toArray,←hl];exact h1) (by simpa using ew) ⟨rfl,fin⟩) hs
theorem OR:IxR X VL:=by
 intro value slice aa s σ H x y v u Q I rx ry h hs;obtain⟨z,i,c,rfl,rfl,hz,he,q⟩:=h;obtain⟨t,rfl⟩:=rx;obtain⟨t',rfl⟩:=ry;obtain⟨j,h1,h2,h3,h4,h5⟩:=Ix he;have hl:z.cps.toList.length=z.length:=by simp[Str.length]
 rw[hl]at h1 h4 h5;have hn:=Fc
 exact tail_any (typeIs_str s z t) slot_str_getitem.lookup (getItem_str (c:=c) (by
  have e1:decide (i < -(2 ^ 63:Int))=false:=ZQ qe;have e2:decide (i ≥ 2 ^ 63)=false:=ZQ qe
  rw[e1,e2,Bool.or_false]) (by rw[h1];simpa using h2) ⟨.str ⟨#[c]⟩,H,I.tok _,⟨_,rfl⟩,q⟩) hs
theorem K0 (its:Vq) (n j:Nat) (u:Value):Obj.mapSeq (·.setIfInBounds j u) { cls:=.type "list", data:=.seq its.toArray n }={ cls:=.type "list", data:=.seq (its.set j u).toArray n }:=by
 simp[Obj.mapSeq]
theorem Inv.lst {aa:LO}{σ:St}{H:Hp}{s:Vt}{p:Vs}{xs:Vr} (I:Inv X aa σ H s) (h:H p=some (.lst xs)) :
  ∃(its:Vq) (n:Nat),Vals xs its/\s.heap.get? p=some { cls:=.type "list", data:=.seq its.toArray n }/\xs.length<=sizeLine:=by
 obtain⟨z,its,n,r,e⟩:=I.aF p _ h;exact⟨its,n,r,e,z⟩
theorem Inv.lstUpd {s:Vt}{p:Vs}{ys:Vr}{its its':Vq}{n n':Nat}{f:Obj->Obj} (I:Inv X aa σ H s) (h:H p=some (.lst xs))
  (ho:s.heap.get? p=some { cls:=.type "list", data:=.seq its.toArray n }) (hf:f { cls:=.type "list", data:=.seq its.toArray n }={ cls:=.type "list", data:=.seq its'.toArray n' }) (r:Vals ys its') (hz:ys.length<=sizeLine) (t:Nat) :
  Inv X aa σ (upd H p (.lst ys)) { s with heap:=s.heap.update p f,toks:=t }:=by
 have e:(s.heap.update p f).get? p=some { cls:=.type "list", data:=.seq its'.toArray n' }:=by
  rw[ZV f ho (by rw[hf] <;> rfl),hf]
 refine I.write (x:=p) (e:=p) (by rw[h];trivial) (.inl Zj) (λb u hb q=>(ZX _ _ (Ne.symm hb)).trans q) ⟨_,e⟩ ?_;exact⟨hz,its',n',r,e⟩
def UC:V->V->V->Hp->(Hp->Prop)->Prop:=λo i v H Q=>∃p xs k j,o=.ref p/\i=.int k/\H p=some (.lst xs)/\iE xs.length k=some j/\Q (upd H p (.lst (xs.set j v)))
theorem Jr:Ty X UC:=by
 intro aa s σ H o i v ov iv u Q I ro ri rv h;obtain⟨p,xs,k,j,rfl,rfl,hp,hj,q⟩:=h;cases ro;obtain⟨t,rfl⟩:=ri;obtain⟨its,n,r,ho,hz⟩:=I.lst hp;obtain⟨h1,h2,h3,h4⟩:=L4 hj;have hl:=r.length;have hn:=Fc
 have I':Inv X aa σ (upd H p (.lst (xs.set j v))) { s with heap:=s.heap.update p (Obj.mapSeq (·.setIfInBounds j u)) } :=
  I.lstUpd hp ho (K0 its n j u) (r.set rv j) (by rw[List.length_set];exact hz) s.toks
 by_cases h0:0<=k
 ·have hk:k.toNat=j:=by
   rw[seqIndex_of h0 h4]at h1;exact Option.some.inj h1
  exact W.ki_setAt ho h0 qe (by rw[size_toArray,←hl];exact h4) (by rw[hk];exact⟨_,I',q⟩)
 ·have hk:(k+(its.toArray.size:Int)).toNat=j:=by
   rw[seqIndex_neg qe h3]at h1;rw[size_toArray,←hl];exact Option.some.inj h1
  exact W.ki_setBack ho qe (by rw[size_toArray,←hl];exact h3) qe (by rw[hk];exact⟨_,I',q⟩)
noncomputable def E1:V->Bool
 | .aT=>true
 | .bl _=>true
 | .int _=>true
 | .str _=>true
 |_=>false
noncomputable def jh:V->V->Bool
 | .aT,.aT=>true
 | .bl a,.bl b=>a==b
 | .bl a,.int b=>(if a then 1 else 0)==b
 | .int a,.bl b=>a==(if b then 1 else 0)
 | .int a,.int b=>a==b
 | .str a,.str b=>a==b
 |_,_=>false
theorem Sk {s:Vt}{y x:V}{v:Value} (ry:RelV y u) (rx:RelV x v) (fy:E1 y=true) (fx:E1 x=true):SeqAt.EqAt A s u v (jh y x):=by
 cases y with
 |aT =>
  cases ry;cases x with
  |aT=>cases rx;exact SeqAt.EqAt.same _
  |bl b=>cases rx;exact SeqAt.EqAt.none_bool b
  |int b=>obtain⟨t,rfl⟩:=rx;exact SeqAt.EqAt.none_int b t
  |str b=>obtain⟨t,rfl⟩:=rx;exact SeqAt.EqAt.none_str b t
  |_=>exact absurd (show false=true from fx) Bool.false_ne_true
 |bl a =>
  cases ry;cases x with
  |aT=>cases rx;exact SeqAt.EqAt.bool_none a
  |bl b=>cases rx;exact SeqAt.EqAt.bool_bool a b
  |int b=>obtain⟨t,rfl⟩:=rx;exact SeqAt.EqAt.bool_int a b t
  |str b=>obtain⟨t,rfl⟩:=rx;exact SeqAt.EqAt.bool_str a b t
  |_=>exact absurd (show false=true from fx) Bool.false_ne_true
 |int a =>
  obtain⟨t',rfl⟩:=ry;cases x with
  |aT=>cases rx;exact SeqAt.EqAt.int_none a t'
  |bl b=>cases rx;exact SeqAt.EqAt.int_bool a t' b
  |int b=>obtain⟨t,rfl⟩:=rx;exact SeqAt.EqAt.int_int a t' b t
  |str b=>obtain⟨t,rfl⟩:=rx;exact SeqAt.EqAt.int_str a t' b t
  |_=>exact absurd (show false=true from fx) Bool.false_ne_true
 |str a =>
  obtain⟨t',rfl⟩:=ry;cases x with
  |aT=>cases rx;exact SeqAt.EqAt.str_none a t'
  |bl b=>cases rx;exact SeqAt.EqAt.str_bool a t' b
  |int b=>obtain⟨t,rfl⟩:=rx;exact SeqAt.EqAt.str_int a t' b t
  |str b=>obtain⟨t,rfl⟩:=rx;exact SeqAt.EqAt.str_str a t' b t
  |_=>exact absurd (show false=true from fx) Bool.false_ne_true
 |_=>exact absurd (show false=true from fy) Bool.false_ne_true
noncomputable def g7 (x:V) (u:Value):Bool:=match u with
 | .none=>jh .aT x
 | .bool b=>jh (.bl b) x
 | .int i _=>jh (.int i) x
 | .str z _=>jh (.str z) x
 |_=>false
theorem OS {x y:V} (r:RelV y u) (f:E1 y=true):g7 x u=jh y x:=by
 cases y with
 |aT=>cases r;rfl
 |bl b=>cases r;rfl
 |int i=>obtain⟨t,rfl⟩:=r;rfl
 |str z=>obtain⟨t,rfl⟩:=r;rfl
 |_=>exact absurd (show false=true from f) Bool.false_ne_true
theorem E2 {x:V}:∀ {xs:Vr}{us:Vq},Vals xs us->xs.all E1=true->us.any (g7 x)=xs.any λy=>jh y x
 |_,_,.nil,_=>rfl
 |y::xs,u::us,.cons r t,f=>by
  rw[List.all_cons,Bool.and_eq_true]at f;rw[any_cons,any_cons,OS r f.1,E2 t f.2]
theorem Ds {A:Around}{s:Vt}{x:V}{v:Value} (rx:RelV x v) (fx:E1 x=true):∀ {xs:Vr}{us:Vq},Vals xs us->xs.all E1=true->∀u∈us,SeqAt.EqAt A s u v (g7 x u)
 |_,_,.nil,_=>λu hu=>by cases hu
 |y::xs,u::us,.cons r t,f=>λu' hu=>by
  rw[List.all_cons,Bool.and_eq_true]at f;rcases mem_cons.mp hu with rfl |hu
  ·rw[OS r f.1];exact Sk r rx f.1 fx
  ·exact Ds rx fx t f.2 u' hu
noncomputable def ip (x:V) (xs:Vr):Bool:=xs.any λy=>jh y x
def rIn (K:FG) (neg:Bool):R2:=λx y H Q=>∃p xs,y=.ref p/\(aJ K H p xs\/bZ K H p xs)/\E1 x=true/\xs.all E1=true/\Q (.bl (if neg then !ip x xs else ip x xs)) H
theorem Ms:df X (compareOp .In) (rIn X.K false):=by
 intro aa s σ H x y v u Q I rx ry h;obtain⟨p,xs,rfl,hq,fx,fs,q⟩:=h;cases ry;rcases hq with hq |hq
 ·obtain⟨its,r,pl,hz⟩:=I.list hq;refine SeqAt.in_listAt (g7 x) pl.isList (λw hw=>Ds rx fx r fs w (by simpa using hw)) ⟨.bl _,H,I,Zj,?_⟩;rw[show its.toArray.any (g7 x)=its.any (g7 x) by simp,E2 r fs];exact q
 ·obtain⟨its,r,pl,hz⟩:=I.tuple hq;refine SeqAt.in_tupleAt (g7 x) pl (λw hw=>Ds rx fx r fs w (by simpa using hw)) ⟨.bl _,H,I,Zj,?_⟩;rw[show its.toArray.any (g7 x)=its.any (g7 x) by simp,E2 r fs];exact q
theorem Iy:df X (compareOp .NotIn) (rIn X.K true):=by
 intro aa s σ H x y v u Q I rx ry h;obtain⟨p,xs,rfl,hq,fx,fs,q⟩:=h;cases ry;rcases hq with hq |hq
 ·obtain⟨its,r,pl,hz⟩:=I.list hq;refine SeqAt.notIn_listAt (g7 x) pl.isList (λw hw=>Ds rx fx r fs w (by simpa using hw)) ⟨.bl _,H,I,Zj,?_⟩;rw[show its.toArray.any (g7 x)=its.any (g7 x) by simp,E2 r fs];exact q
 ·obtain⟨its,r,pl,hz⟩:=I.tuple hq;refine SeqAt.notIn_tupleAt (g7 x) pl (λw hw=>Ds rx fx r fs w (by simpa using hw)) ⟨.bl _,H,I,Zj,?_⟩;rw[show its.toArray.any (g7 x)=its.any (g7 x) by simp,E2 r fs];exact q
theorem E3:Be X (.builtin "len") (λxs H Q=>∃p ys,xs=[.ref p]/\(aJ X.K H p ys\/bZ X.K H p ys)/\Q (.int ys.length) H):=by
 intro aa s σ H xs us Q I r h;obtain⟨p,ys,rfl,hq,q⟩:=h;obtain⟨u,rfl,rx⟩:=CZ r;cases rx;have hn:=Fc;rcases hq with hq |hq
 ·obtain⟨its,r',pl,hz⟩:=I.list hq;have a0:=r'.length;exact Calls.call_len_list pl.isList (by simp only[size_toArray] <;> omega) ⟨.int ys.length,H,I.tok _,⟨s.toks+1,by rw[size_toArray,a0]⟩,q⟩
 ·obtain⟨its,r',pl,hz⟩:=I.tuple hq;have a0:=r'.length;exact len_tuple pl (by simp only[size_toArray] <;> omega) ⟨.int ys.length,H,I.tok _,⟨s.toks+1,by rw[size_toArray,a0]⟩,q⟩
theorem Bb:Be X (.builtin "len") (λxs H Q=>∃z,xs=[.str z]/\z.length<=sizeLine/\Q (.int z.length) H):=by
 intro aa s σ H xs us Q I r h;obtain⟨z,rfl,hz,q⟩:=h;obtain⟨u,rfl,t,rfl⟩:=CZ r;have hn:=Fc;exact len_str qe ⟨.int z.length,H,I.tok _,⟨_,Zj⟩,q⟩
theorem E4:Be X (.type "list") (λxs H Q=>∃p ys,xs=[.ref p]/\(aJ X.K H p ys\/bZ X.K H p ys)/\∀l,H l=none->Q (.ref l) (upd H l (.lst ys))):=by
 intro aa s σ H xs us Q I r h;obtain⟨p,ys,rfl,hq,q⟩:=h;obtain⟨u,rfl,rx⟩:=CZ r;cases rx
 have fin:∀(its:Vq),Vals ys its->ys.length<=sizeLine->∀(h':Heap) (c':Nat),(∀b o',s.heap.get? b=some o'->h'.get? b=some o') ->
   h'.get? s.heap.objs.size=some { cls:=.type "list", dict:=none,data:=.seq its.toArray c',slots:=#[] }->EP X aa σ Q (.ref s.heap.objs.size) { s with heap:=h' }:=λits r' hz h' c' kp e =>
  ⟨.ref s.heap.objs.size,_,I.laid (t':=s.toks) kp (ZA _) (show aP X.prog X.w _ h' _ (.lst ys)from⟨hz,its,c',r',e⟩),rfl,q _ (I.aF.fresh (ZA _))⟩
 rcases hq with hq |hq
 ·obtain⟨its,r',pl,hz⟩:=I.list hq;have a0:=r'.length;obtain⟨o,ho,hc,n,hd⟩:=pl.isList;exact call_list_seq p (.inl Zj) ho hc hd (λh' c' kp e=>fin its r' hz h' c' kp e) (by simp only[size_toArray] <;> omega)
 ·obtain⟨its,r',pl,hz⟩:=I.tuple hq;have a0:=r'.length;obtain⟨o,ho,hc,n,hd⟩:=pl;exact call_list_seq p (.inr Zj) ho hc hd (λh' c' kp e=>fin its r' hz h' c' kp e) (by simp only[size_toArray] <;> omega)
def tyV (K:FG) (T:String) (x:V) (H:Hp):Prop:=match x with
 | .str _=>T = "str"
 | .int _=>T = "int"
 | .ref p=>(T = "list" /\ ∃xs,aJ K H p xs)\/(T = "tuple" /\ ∃o,K.lookup p=some o/\o.cls=.type "tuple" /\ o.dict=none) \/
   (T = "dict" /\ ((∃kvs,H p=some (.dK kvs))\/∃kvs,H p=some (.dT kvs)))\/(T = "set" /\ ∃S n,H p=some (.set S n))
 |_=>False
theorem OT {s:Vt}{T:String}{x:V}{v:Value} (I:Inv X aa σ H s) (r:RelV x v) (ty:tyV X.K T x H) :
  s.TypeIs v T/\∀a,v=.ref a->∃ob,s.heap.get? a=some ob/\ob.dict=none:=by
 cases x with
 |str z =>
  obtain⟨t,rfl⟩:=r;cases (show T = "str" from ty);exact⟨typeIs_str s z t,λ_ e=>nomatch e⟩
 |int i =>
  obtain⟨t,rfl⟩:=r;cases (show T = "int" from ty);exact⟨typeIs_int s i t,λ_ e=>nomatch e⟩
 |ref p =>
  cases r;rcases ty with⟨rfl,xs,hq⟩ |⟨rfl,o,hk,hc,hd⟩ |⟨rfl,hk⟩ |⟨rfl,S,n,hk⟩
  ·obtain⟨its,_,pl,_⟩:=I.list hq;refine⟨pl.isList.typeIs,λa e=>?_⟩;cases e;obtain⟨o,n,e,c,hd,_⟩:=pl;exact⟨o,e,hd⟩
  ·refine⟨⟨o,I.cX p o hk,hc⟩,λa e=>?_⟩;cases e;exact⟨o,I.cX _ o hk,hd⟩
  ·have z:∃o,s.heap.get? p=some o/\o.ExactDict:=by
    rcases hk with⟨kvs,hk⟩ |⟨kvs,hk⟩
    ·obtain⟨_,_,_,_,o,_,_,e,ex,_⟩:=I.aF p _ hk;exact⟨o,e,ex⟩
    ·obtain⟨_,_,_,_,o,_,_,e,ex,_⟩:=I.aF p _ hk;exact⟨o,e,ex⟩
   obtain⟨o,e,ex⟩:=z;refine⟨⟨o,e,ex.1⟩,λa e2=>?_⟩;cases e2;exact⟨o,e,ex.2.1⟩
  ·obtain⟨o,_,_,_,e,ex,_⟩:=I.aF p _ hk;refine⟨⟨o,e,ex.1⟩,λa e2=>?_⟩;cases e2;exact⟨o,e,ex.2.1⟩
 |_=>exact False.elim ty
def VM (K:FG) (T:String) (r:V->Vr->Hp->VK->Prop) (to:TE):TE:=λσ H Q=>to σ H λx H1=>tyV K T x H1/\r x [] H1 Q
def tBM (K:FG) (T:String) (r:V->Vr->Hp->VK->Prop) (to:TE) (t:TA):TE:=λσ H Q=>to σ H λx H1=>tyV K T x H1/\t σ H1 λxs H2=>r x xs H2 Q
variable {o:Expr}{es:List Expr}{to:TE}{t:TA}{name:Str}{apos dY:Pos}{T id:String}{r:V->Vr->Hp->VK->Prop}
theorem K1 (pa:PlainAttrs T) (slot:Slot T name id) (hty:typeOf (.builtin id)=pure (.type "method_descriptor")) (hm:gJ X id r) (ho:PE X o to)
  (bh:attributeBase o name X.env (eval o X.env)=eval o X.env:=by rfl) (bp:(apos.endLine==dY.line)=true:=by rfl):PE X (.Call (.Attribute o name apos) [] [] dY) (VM X.K T r to):=by
 intro aa s σ H Q I h;refine wpAny_Call_method0_late bh bp (aH (ho aa s σ H _ I h) λv s1 ⟨x,H1,I1,r1,ty,q1⟩=>?_);obtain⟨h1,h2⟩:=OT I1 r1 ty;exact⟨T,id,pa,slot,hty,h1,h2,Calls.callWith_builtin Zj (PySem.evalArgs_none (hm aa s1 σ H1 x [] v [] Q I1 r1 .nil q1))⟩
theorem Cb (pa:PlainAttrs T) (slot:Slot T name id) (hty:typeOf (.builtin id)=pure (.type "method_descriptor")) (hm:gJ X id r) (ho:PE X o to) (ha:PA X (e::es) t)
  (bh:attributeBase o name X.env (eval o X.env)=eval o X.env:=by rfl)
  (hfew:((backTo dY (starEach (e::es) X.env)).all (λx=>!x.1)&&(backToKw dY (keywordEach [] X.env)).all (λx=>x.1.isSome)
   && decide ((e::es).length+([]:List Keyword).length+(if ([]:List Keyword).isEmpty then 0 else 1)<30))=true:=by rfl)
  (bp:(apos.endLine==dY.line)=true:=by rfl) (hs:starEach (e::es) X.env=(false,eval e X.env)::starEach es X.env:=by rfl) (hplain:(backTo dY (starEach es X.env)).any (·.1)=false:=by rfl) :
  PE X (.Call (.Attribute o name apos) (e::es) [] dY) (tBM X.K T r to t):=by
 intro aa s σ H Q I h;refine wpAny_Call_method_late bh hfew bp Zj (aH (ho aa s σ H _ I h) λv s1 ⟨x,H1,I1,r1,ty,q1⟩=>?_);obtain⟨h1,h2⟩:=OT I1 r1 ty;refine⟨T,id,pa,slot,hty,h1,h2,?_⟩;have hA:=ha dY aa s1 σ H1 _ I1 q1;rw[hs]at hA ⊢;refine Calls.callWith_builtin (by show(false||(backTo dY (starEach es X.env)).any (·.1))=false;rw[hplain] <;> rfl) (Calls.evalArgs_plain ?_);exact aH hA λus s2 ⟨vs,H2,I2,r2,q2⟩=>hm aa s2 σ H2 x vs v us Q I2 r1 r2 q2
end
def MtM (X:Cx) (id:String) (r:V->Vr->Hp->VK->Prop):Prop :=
 ∀(aa:LO) (s:Vt) (σ:St) (H:Hp) (x:V) (xs:Vr) (v:Value) (us:Vq) (Q:VK),Inv X aa σ H s->RelV x v->Vals xs us->r x xs H Q ->
  wpAny (model X.prog X.w) X.A (call (.builtin id) (v::us)) (EP X aa σ Q) X.xe s
theorem Vals.one:∀ {x:V}{us:Vq},Vals [x] us->∃u,us=[u]/\RelV x u
 |_,_,.cons r .nil=>⟨_,rfl,r⟩
theorem Vals.zero:∀ {us:Vq},Vals [] us->us=[]
 |_,.nil=>rfl
theorem Vals.dropLast {xs:Vr}{us:Vq} (h:Vals xs us):Vals xs.dropLast us.dropLast:=by
 induction h with
 |nil=>exact .nil
 |cons r t ih =>
  cases t with
  |nil=>exact .nil
  |cons q t'=>exact .cons r ih
theorem K2 {α:Type} (l:List α):l.eraseIdx (l.length - 1)=l.dropLast:=by
 induction l with
 |nil=>rfl
 |cons a r ih =>
  cases r with
  |nil=>rfl
  |cons b r =>
   have e:(a::b::r).length - 1=((b::r).length - 1)+1:=by
    have h1:(a::b::r).length=r.length+2:=rfl;have h2:(b::r).length=r.length+1:=rfl;omega
   rw[e,List.eraseIdx_cons_succ,ih]
   all_goals rfl
section
variable {s:Vt}{l b:Vs}{ys zs:Vr}
theorem Inv.lset {its its':Vq}{n:Nat}{f:Array Value->Array Value}{t':Nat} (I:Inv X aa σ H s) (hH:H l=some (.lst xs))
  (e:s.heap.get? l=some { cls:=.type "list", data:=.seq its.toArray n }) (hf:f its.toArray=its'.toArray) (hv:Vals ys its') (hz:ys.length<=sizeLine) :
  Inv X aa σ (upd H l (.lst ys)) { s with heap:=s.heap.update l (Obj.mapSeq f),toks:=t' }:=by
 have q:=PySem.IsL.update e f;rw[hf]at q;refine I.write (x:=l) (e:=l) (by rw[hH];exact trivial) (.inl Zj) (λb' u hb hu=>(ZX s.heap (Obj.mapSeq f) (Ne.symm hb)).trans hu) ⟨_,q⟩ ?_;exact⟨hz,its',_,hv,q⟩
theorem Inv.lnew {its:Vq}{t':Nat} (I:Inv X aa σ H s) (hv:Vals ys its) (hz:ys.length<=sizeLine) :
  Inv X aa σ (upd H s.heap.objs.size (.lst ys)) { s with heap:=s.heap.push { cls:=.type "list", data:=.seq its.toArray },toks:=t' } :=
 I.laid (λ_ _ q=>ZY _ q) (ZA _) ⟨hz,its,0,hv,ZP _ rfl⟩
theorem Inv.fresh (I:Inv X aa σ H s):H s.heap.objs.size=none:=I.aF.fresh (ZA _)
theorem Inv.lstM (I:Inv X aa σ H s) (hH:H l=some (.lst xs)):xs.length<=sizeLine/\∃(its:Vq) (n:Nat),Vals xs its/\xs.length=its.length/\s.heap.get? l=some { cls:=.type "list", data:=.seq its.toArray n }:=by
 obtain⟨z,its,n,r,e⟩:=I.aF l _ hH;exact⟨z,its,n,r,r.length,e⟩
theorem OU {n:Nat} (h:n<=sizeLine):Builtin.List.listTooLong n=false:=by
 unfold Builtin.List.listTooLong;exact ZQ qe
end
section
def L5:V->Vr->Hp->VK->Prop:=λx vs H Q=>∃l xs y,x=.ref l/\vs=[y]/\H l=some (.lst xs)/\xs.length<sizeLine/\Q .aT (upd H l (.lst (xs++[y])))
theorem Aw:MtM X "list.append" L5:=by
 intro aa s σ H x vs v us Q I rx rv h;obtain⟨l,xs,y,rfl,rfl,hH,hz,q⟩:=h;cases rx;obtain⟨u,rfl,ru⟩:=rv.one;obtain⟨z,its,n,r,hl,e⟩:=I.lstM hH;refine call_meets F.slot_list_append ⟨_,e,Zj⟩ F.entry_list_append (F.args_list_append_2 _ _) (PySem.list_append l its.toArray n u (by rw[size_toArray];omega)) ⟨e,?_⟩;refine⟨.aT,_,I.lset (its':=its++[u]) hH e (by simp) (r.append (.cons ru .nil)) ?_,Zj,q⟩;rw[ZJ,length_singleton];omega
def VN:V->Vr->Hp->VK->Prop:=λx vs H Q=>∃l xs y,x=.ref l/\vs=[]/\H l=some (.lst xs)/\xs[xs.length - 1]?=some y/\Q y (upd H l (.lst xs.dropLast))
theorem OV:MtM X "list.pop" VN:=by
 intro aa s σ H x vs v us Q I rx rv h;obtain⟨l,xs,y,rfl,rfl,hH,hy,q⟩:=h;cases rx;have hus:=rv.zero;subst hus;obtain⟨z,its,n,r,hl,e⟩:=I.lstM hH;obtain⟨u,hu,ru⟩:=r.get hy
 have hy':its.toArray[its.toArray.size - 1]?=some u:=by
  show its.toArray[its.length - 1]?=some u;rw[←Array.getElem?_toList,←hl];exact hu
 refine call_meets F.slot_list_pop ⟨_,e,Zj⟩ F.entry_list_pop (F.args_list_pop_1 _) (MeetsSeq.list_pop_last l its.toArray n u hy' (by rw[size_toArray];omega)) ⟨e,?_⟩;refine⟨y,_,I.lset (its':=its.dropLast) hH e ?_ r.dropLast ?_,ru,q⟩
 ·show its.toArray.eraseIdxIfInBounds (its.toArray.size - 1)=its.dropLast.toArray;rw[size_toArray,List.eraseIdxIfInBounds_toArray,K2]
 ·rw[List.length_dropLast];omega
def VP:R2:=λx y H Q=>∃l b xs zs,x=.ref l/\y=.ref b/\H l=some (.lst xs)/\H b=some (.lst zs)/\xs.length+zs.length<=sizeLine/\∀p,H p=none->Q (.ref p) (upd H p (.lst (xs++zs)))
theorem Iz:df X (binaryOp .Add) VP:=by
 intro aa s σ H x y v u Q I rx ry h;obtain⟨l,b,xs,zs,rfl,rfl,hH,hB,hz,q⟩:=h;cases rx;cases ry;obtain⟨z,its,n,r,hl,e⟩:=I.lstM hH;obtain⟨z2,gj,n2,r2,eN,e2⟩:=I.lstM hB;refine PySem.P.add_list e e2 ?_ (by rw[size_toArray,size_toArray];omega);have ea:its.toArray++gj.toArray=(its++gj).toArray:=by simp
 rw[ea];exact⟨.ref _,_,I.lnew (t':=s.toks) (r.append r2) (by rw[ZJ];omega),Zj,q _ I.fresh⟩
end
section
variable {κ:Type} [DecidableEq κ]
noncomputable def A4 (kvs:List (κ×V)) (k:κ):Option V:=(kvs.find? λkv=>decide (kv.1=k)).map (·.2)
noncomputable def Bn (kvs:List (κ×V)) (k:κ) (v:V):List (κ×V) :=
 if (kvs.any λkv=>decide (kv.1=k))=true then kvs.map (λkv=>if kv.1=k then (kv.1,v)else kv)else kvs++[(k,v)]
theorem DE {p:κ×V}{r:List (κ×V)}{k:κ} (e:p.1=k):A4 (p::r) k=some p.2:=by simp[A4,find?_cons,e]
theorem DF {p:κ×V}{r:List (κ×V)}{k:κ} (e:¬ p.1=k):A4 (p::r) k=A4 r k:=by simp[A4,find?_cons,e]
theorem E5 (k:κ):∀kvs:List (κ×V),(kvs.any λkv=>decide (kv.1=k))=(A4 kvs k).isSome
 | []=>rfl
 |p::r=>by
  rw[any_cons];by_cases e:p.1=k
  ·simp only[DE e,ZN e,Bool.true_or,Option.isSome_some]
  ·rw[DF e,ZQ e,Bool.false_or];exact E5 k r
theorem Bo (kvs:List (κ×V)) (k:κ) (v:V):(Bn kvs k v).length<=kvs.length+1:=by
 unfold Bn;split
 ·rw[AK];omega
 ·rw[ZJ,length_cons,length_nil];omega
theorem HG {kvs:List (κ×V)}{k:κ} (v:V) (h:A4 kvs k=none):Bn kvs k v=kvs++[(k,v)]:=by
 unfold Bn;rw[E5,h];exact Zs qc
theorem eE.isSome_eq {o:Option V}{u:Option Value} (r:eE o u):o.isSome=u.isSome:=by
 cases o with
 |none=>cases u with
  |none=>rfl
  |some _=>exact(show False from r).elim
 |some _=>cases u with
  |none=>exact(show False from r).elim
  |some _=>rfl
theorem KV.val {kvs:List (κ×V)}{vs:List (κ×Value)} (r:KV kvs vs) (k:κ):eE (A4 kvs k) (valueAt vs k):=by
 unfold KV at r;induction r with
 |nil=>exact True.intro
 | @cons p q ps qs h t ih =>
  obtain⟨h1,h2⟩:=h;by_cases e:p.1=k
  ·have e':q.1=k:=h1.symm.trans e;have b:valueAt (q::qs) k=some q.2:=by simp[valueAt,find?_cons,e']
   rw[DE e,b];exact h2
  ·have e':¬ q.1=k:=λz=>e (h1.trans z);have b:valueAt (q::qs) k=valueAt qs k:=by simp[valueAt,find?_cons,e']
   rw[DF e,b];exact ih
theorem KV.any {kvs:List (κ×V)}{vs:List (κ×Value)} (r:KV kvs vs) (k:κ):(kvs.any λkv=>decide (kv.1=k))=vs.any λkv=>decide (kv.1=k):=by
 unfold KV at r;induction r with
 |nil=>rfl
 |cons h t ih=>rw[any_cons,any_cons,ih,h.1]
theorem KV.repl {kvs:List (κ×V)}{vs:List (κ×Value)} (r:KV kvs vs) (k:κ) {y:V} (ry:RelV y u) :
  KV (kvs.map λkv=>if kv.1=k then (kv.1,y)else kv) (vs.map λkv=>if kv.1=k then (kv.1,u)else kv):=by
 unfold KV at r ⊢;induction r with
 |nil=>exact .nil
 | @cons p q ps qs h t ih =>
  rw[map_cons,map_cons];refine .cons ?_ ih;obtain⟨h1,h2⟩:=h;by_cases e:p.1=k
  ·rw[Zr e,Zr (h1.symm.trans e)];exact⟨h1,ry⟩
  ·rw[Zs e,Zs (λz=>e (h1.trans z))];exact⟨h1,h2⟩
theorem KV.put {kvs:List (κ×V)}{vs:List (κ×Value)} (r:KV kvs vs) (k:κ) {y:V} (ry:RelV y u):KV (Bn kvs k y) (stored vs k u):=by
 unfold Bn stored;rw[r.any k];by_cases e:(vs.any λkv=>decide (kv.1=k))=true
 ·rw[Zr e,Zr e];exact r.repl k ry
 ·rw[Zs e,Zs e];exact Paired.snoc r ⟨Zj,ry⟩
theorem KV.length {kvs:List (κ×V)}{vs:List (κ×Value)} (r:KV kvs vs):kvs.length=vs.length:=Paired.length r
end
theorem F5 {k:Key} (r:RelV (kV k) u):(Ad P w).is k u=true:=by
 cases k with
 |inl i=>obtain⟨t,e⟩:=(show ∃t,u=Value.int i t from r);subst e;exact Ji P w i t
 |inr x=>obtain⟨t,e⟩:=(show ∃t,u=Value.str x t from r);subst e;exact Dm P w x t
theorem IM {P:Program}{w:World}:∀ {ks:List Key}{us:Vq},Vals (ks.map kV) us->ItemsAre (Ad P w) ks us
 | [],_,r=>by rw[map_nil]at r;cases r;exact .nil
 |k::ks,_,r=>by
  rw[map_cons]at r;cases r with
  |cons h t=>exact .cons (F5 h) (IM t)
abbrev KT (H:Hp):List (List Key×V)->List (List Key×Vs×Value)->Prop:=Paired λp q=>p.1=q.1/\H q.2.1=some (.tup (p.1.map kV))/\RelV p.2 q.2.2
theorem KT.val {kvs:List (List Key×V)}{xs:List (List Key×Vs×Value)} (r:KT H kvs xs) (k:List Key):eE (A4 kvs k) ((atKey xs k).map (·.2)):=by
 induction r with
 |nil=>exact True.intro
 | @cons p q ps qs h t ih =>
  obtain⟨h1,_,h2⟩:=h;by_cases e:p.1=k
  ·have e':q.1=k:=h1.symm.trans e;have b:atKey (q::qs) k=some q.2:=by simp[atKey,find?_cons,e']
   rw[DE e,b];exact h2
  ·have e':¬ q.1=k:=λz=>e (h1.trans z);have b:atKey (q::qs) k=atKey qs k:=by simp[atKey,find?_cons,e']
   rw[DF e,b];exact ih
theorem KT.repl {kvs:List (List Key×V)}{xs:List (List Key×Vs×Value)} (r:KT H kvs xs) (k:List Key) {y:V} (ry:RelV y u) :
  KT H (kvs.map λkv=>if kv.1=k then (kv.1,y)else kv) (xs.map (putAt k u)):=by
 induction r with
 |nil=>exact .nil
 | @cons p q ps qs h t ih =>
  rw[map_cons,map_cons];refine .cons ?_ ih;obtain⟨h1,h2,h3⟩:=h;unfold putAt;by_cases e:p.1=k
  ·rw[Zr e,Zr (h1.symm.trans e)];exact⟨h1,h2,ry⟩
  ·rw[Zs e,Zs (λz=>e (h1.trans z))];exact⟨h1,h2,h3⟩
theorem KT.put {kvs:List (List Key×V)}{xs:List (List Key×Vs×Value)} (r:KT H kvs xs) (k:List Key) {b:Vs}{y:V} (hb:H b=some (.tup (k.map kV))) (ry:RelV y u) :
  KT H (Bn kvs k y) (storedH xs k b u):=by
 have e:(kvs.any λkv=>decide (kv.1=k))=(atKey xs k).isSome:=by
  rw[E5,(r.val k).isSome_eq,Option.isSome_map]
 unfold Bn storedH;rw[e];by_cases q:(atKey xs k).isSome=true
 ·rw[Zr q,Zr q];exact r.repl k ry
 ·rw[Zs q,Zs q];exact Paired.snoc r ⟨Zj,hb,ry⟩
theorem KT.keeps {kvs:List (List Key×V)}{xs:List (List Key×Vs×Value)} (r:KT H kvs xs) (ht:∀b ys,H b=some (.tup ys)->H' b=some (.tup ys)):KT H' kvs xs :=
 Paired.mapP r λ_ _ z=>⟨z.1,ht _ _ z.2.1,z.2.2⟩
section
theorem R9 {u:HO} (ok:dg P w H h) (e:Rd H a u):aP P w H h a u:=e.ok ok
theorem DH {kvs:LK} (ok:dg P w H h) (e:Rd H a (.dK kvs)):kvs.length<=sizeLine/\(a==sysModules)=false/\∃vs,KV kvs vs/\h.DictOf (Ad P w) a vs :=
 show aP P w H h a (.dK kvs)from R9 ok e
theorem OW {kvs:LK} (ok:dg P w H h) (e:H a=some (.dK kvs)):kvs.length<=sizeLine/\(a==sysModules)=false/\∃vs,KV kvs vs/\h.DictOf (Ad P w) a vs:=DH ok (.inl e)
theorem HH {ks:List Key} (ok:dg P w H h) (e:H a=some (.tup (ks.map kV))):(tupleKind (Ad P w)).is h ks a:=by
 obtain⟨_,its,r,o,h1,h2,n,h3⟩:=(show aP P w H h a (.tup (ks.map kV))from ok a _ e);exact⟨o,its.toArray,n,h1,h2,h3,by simpa using IM r⟩
theorem IN {kvs:List (List Key×V)} (ok:dg P w H h) (e:Rd H a (.dT kvs)):kvs.length<=sizeLine/\(a==sysModules)=false /\
  ∃xs,KT H kvs xs/\h.DictOfH (tupleKind (Ad P w)) a xs:=by
 obtain⟨z,y,xs,r,o,es,ep,h1,h2,h3,h4,h5⟩:=(show aP P w H h a (.dT kvs)from R9 ok e);refine⟨z,y,xs,r,o,es,ep,h1,h2,h3,h4,λx hx=>?_,h5⟩
 have all:∀ {l:List (List Key×V)}{m:List (List Key×Vs×Value)},KT H l m->∀x∈m,(tupleKind (Ad P w)).is h x.1 x.2.1:=by
  intro l m q;induction q with
  |nil=>intro x hx;exact nomatch hx
  | @cons p q ps qs hq t ih =>
   intro x hx;rcases mem_cons.mp hx with e |hx
   ·subst e;exact HH ok (by rw[←hq.1];exact hq.2.1)
   ·exact ih x hx
 exact all r x hx
theorem UD {kvs:List (List Key×V)} (ok:dg P w H h) (e:H a=some (.dT kvs)):kvs.length<=sizeLine/\(a==sysModules)=false /\
  ∃xs,KT H kvs xs/\h.DictOfH (tupleKind (Ad P w)) a xs:=IN ok (.inl e)
end
def Js (H:Hp) (a:Vs) (y:V) (r:Option V):Prop :=
 (∃kvs k,Rd H a (.dK kvs)/\y=kV k/\r=A4 kvs k)\/∃kvs k b,Rd H a (.dT kvs)/\y=.ref b/\H b=some (.tup (k.map kV))/\r=A4 kvs k
def DPut (H:Hp) (a:Vs) (y v:V) (H':Hp):Prop :=
 (∃kvs k,H a=some (.dK kvs)/\y=kV k/\kvs.length<sizeLine/\H'=upd H a (.dK (Bn kvs k v))) \/
 ∃kvs k b,H a=some (.dT kvs)/\y=.ref b/\H b=some (.tup (k.map kV))/\kvs.length<sizeLine/\H'=upd H a (.dT (Bn kvs k v))
theorem DPut.k {H:Hp}{a:Vs}{kvs:LK}{k:Key}{v:V} (e:H a=some (.dK kvs)) (hl:kvs.length<sizeLine):DPut H a (kV k) v (upd H a (.dK (Bn kvs k v))):=.inl ⟨kvs,k,e,rfl,hl,rfl⟩
section
variable {s:Vt}{y v:V}{r:Value}{o:Option V}
theorem Inv.big (I:Inv X aa σ H s):sysModules<s.heap.objs.size:=by
 have h:mainGlobals<s.heap.objs.size:=(I.mod.glob.keeps I.bk).lt;exact Nat.lt_trans qc h
theorem Mu {Q:VS} (hu:A.units+1<cLine) (I:Inv X aa σ H s) (g:Js H a y (some v)) (ry:RelV y u) (h:∀w' s',Inv X aa σ H s'->RelV v w'->Q w' s') :
  wpAny (model X.prog X.w) A (getItem (.ref a) u) Q E s:=by
 rcases g with⟨kvs,k,e,ey,l⟩ |⟨kvs,k,b,e,ey,eb,l⟩
 ·subst ey;obtain⟨z,hd,vs,rel,dd⟩:=DH I.aF e;obtain⟨w',hw,iC⟩:=eE.some_of (v:=v) (o:=valueAt vs k) (by rw[l];exact rel.val k);exact wpAny_getItem_of (F5 ry) dd.mapOf hw (h w' _ (I.tok _) iC)
 ·subst ey;cases (show u=Value.ref b from ry);obtain⟨z,hd,xs,rel,dd⟩:=IN I.aF e;obtain⟨w',hw,iC⟩:=eE.some_of (v:=v) (o:=(atKey xs k).map (·.2)) (by rw[l];exact rel.val k);obtain⟨p,hp,am⟩:=Z6.mp hw;refine wpAny_getItem_heap (tupleKind_room_in1 hu) (HH I.aF eb) dd hp ?_;rw[am];exact h w' _ (I.tok _) iC
theorem VQ {Q:VS} (hu:A.units+1<cLine) (I:Inv X aa σ H s) (g:Js H a y o) (ry:RelV y u) (h:∀s',Inv X aa σ H s'->Q (.bool o.isSome) s') :
  wpAny (model X.prog X.w) A (compareOp .In u (.ref a)) Q E s:=by
 rcases g with⟨kvs,k,e,ey,l⟩ |⟨kvs,k,b,e,ey,eb,l⟩
 ·subst ey;obtain⟨z,hd,vs,rel,dd⟩:=DH I.aF e;refine wpAny_in_of (F5 ry) hd dd.mapOf ?_;rw[←(rel.val k).isSome_eq,←l];exact h _ (I.tok _)
 ·subst ey;cases (show u=Value.ref b from ry);obtain⟨z,hd,xs,rel,dd⟩:=IN I.aF e;refine wpAny_in_heap (tupleKind_room_in1 hu) (HH I.aF eb) hd dd ?_;have q:=(rel.val k).isSome_eq;rw[Option.isSome_map]at q;rw[←q,←l];exact h _ (I.tok _)
theorem QZ {Q:VS} (hu:A.units+1<cLine) (I:Inv X aa σ H s) (g:Js H a y o) (ry:RelV y u) (h:∀s',Inv X aa σ H s'->Q (.bool (!o.isSome)) s') :
  wpAny (model X.prog X.w) A (compareOp .NotIn u (.ref a)) Q E s:=by
 rcases g with⟨kvs,k,e,ey,l⟩ |⟨kvs,k,b,e,ey,eb,l⟩
 ·subst ey;obtain⟨z,hd,vs,rel,dd⟩:=DH I.aF e;refine wpAny_notIn_of (F5 ry) hd dd.mapOf ?_;rw[←(rel.val k).isSome_eq,←l];exact h _ (I.tok _)
 ·subst ey;cases (show u=Value.ref b from ry);obtain⟨z,hd,xs,rel,dd⟩:=IN I.aF e;refine wpAny_notIn_heap (tupleKind_room_in1 hu) (HH I.aF eb) hd dd ?_;have q:=(rel.val k).isSome_eq;rw[Option.isSome_map]at q;rw[←q,←l];exact h _ (I.tok _)
theorem Gi {h':Heap}{t':Nat}{ob:HO} (I:Inv X aa σ H s) (mu:Mut (H a)) (hs:Heap.SameBut a s.heap h') (he:∃q,h'.get? a=some q) (new:aP X.prog X.w (upd H a ob) h' a ob) :
  Inv X aa σ (upd H a ob) { s with heap:=h',toks:=t' } :=
 I.write (x:=a) (e:=a) mu (.inl rfl) (λb q hb z=>(hs.2 b hb).trans z) he new
theorem I0 {h':Heap}{kvs:LK}{vs:List (Key×Value)} (z:kvs.length<=sizeLine) (hd:(a==sysModules)=false) (rel:KV kvs vs) (dd:h'.DictOf (Ad P w) a vs) :
  aP P w H' h' a (.dK kvs):=⟨z,hd,vs,rel,dd⟩
theorem Mv {Q:Unit->Vt->Prop} (hu:A.units+1<cLine) (I:Inv X aa σ H s) (g:DPut H a y v H') (ry:RelV y u) (rv:RelV v r) (h:∀s',Inv X aa σ H' s'->Q () s') :
  wpAny (model X.prog X.w) A (setItem (.ref a) u r) Q E s:=by
 rcases g with⟨kvs,k,e,ey,l,eH⟩ |⟨kvs,k,b,e,ey,eb,l,eH⟩
 ·subst ey eH;obtain⟨z,hd,vs,rel,dd⟩:=OW I.aF e;have hz:vs.length<=sizeLine:=by rw[←rel.length];exact z
  have hl:(Bn kvs k v).length<=sizeLine:=by have:=Bo kvs k v;omega
  refine wpAny_setItem_pairs (hsz:=hz) (F5 ry) dd λh' iw hs=>h _ ?_;have he:∃q,h'.get? a=some q:=let ⟨q,_,_,hq,_⟩:=iw;⟨q,hq⟩
  exact Gi I (by rw[e];exact True.intro) hs he (I0 hl hd (rel.put k rv) iw)
 ·subst ey eH;cases (show u=Value.ref b from ry);obtain⟨z,hd,xs,rel,dd⟩:=UD I.aF e;have hz:xs.length<=sizeLine:=by rw[←Paired.length rel];exact z
  have hl:(Bn kvs k v).length<=sizeLine:=by have:=Bo kvs k v;omega
  refine wpAny_setItem_heap (hsz:=hz) (tupleKind_room_in1 hu) (HH I.aF eb) dd λh' iw hs=>h _ ?_;obtain⟨q,es,ep,hq,h2,h3,h4,_,h5⟩:=iw;refine Gi I (by rw[e];exact True.intro) hs ⟨q,hq⟩ ⟨hl,hd,_,(rel.put k eb rv).keeps λc ys ec=>?_,q,es,ep,hq,h2,h3,h4,h5⟩;rw[AE (Tt ec e (λz=>nomatch z))];exact ec
end
section
variable {s:Vt}{kvs:LK}{k:Key}
theorem UE {Q:VS} (I:Inv X aa σ H s) (e:Rd H a (.dK kvs)) (h:∀t s',Inv X aa σ H s'->Q (.int kvs.length t) s'):wpAny (model X.prog X.w) A (call (.builtin "len") [.ref a]) Q E s:=by
 obtain⟨z,hd,vs,rel,dd⟩:=DH I.aF e;refine call_len_dict hd dd (by rw[←rel.length];rw[sizeLine_eq]at z;omega) ?_;rw[←rel.length];exact h _ _ (I.tok _)
end
def UF (i:Expr):Prop:=∀ov iv,subscripted i false ov iv=operate [ov,iv] (getItem ov iv)
theorem Qa {prog:Program}{s:Vt}{env:Env}{value slice:Expr}{T id:String}{Q:VS}
  (hl:typeLookup (.type T) "__getitem__" = pure (some (.builtin id))) (hs:UF slice)
  (h:wpAny (model prog w) A (eval value env) (λo aN=>wpAny (model prog w) A (eval slice env) (λi s₂=>s₂.TypeIs o T/\wpAny (model prog w) A (getItem o i) Q E s₂) E aN) E s) :
  wpAny (model prog w) A (eval (.Subscript value slice pos) env) Q E s:=by
 refine Subscript_ (Zx h (λo aN dJ=>Zx dJ (λi s₂ h₂=>?_) λ_ _ x=>x) λ_ _ x=>x);obtain⟨hT,h₂⟩:=h₂;unfold subscriptTail;refine Zz ?_;rw[getitemInPython_of_ne hT.not_modules];refine Zz (wpAny_specialOf hT hl ?_)
 have fin:wpAny (model prog w) A (subscripted slice false o i) (λr s₃=>wpAny (model prog w) A (letTemporaryGo value o r >>= λ_=>pure r) Q E s₃) E s₂:=by
  rw[hs o i];exact wpAny_operating (Zx h₂ (λr s₃ h₃=>Zz (wpAny_letTemporaryGo (Zy h₃))) λ_ _ x=>x)
 first
  |exact Zy (Zz fin)
  |exact Zz (Zy (Zz fin))
  |exact Zz fin
theorem Jt {s:Vt}{y:V}{o:Option V} (I:Inv X aa σ H s) (g:Js H a y o):s.TypeIs (.ref a) "dict" := by
 rcases g with⟨kvs,k,e,_,_⟩ |⟨kvs,k,b,e,_,_,_⟩
 ·obtain⟨_,_,vs,_,dd⟩:=DH I.aF e;exact dd.typeIs
 ·obtain⟨_,_,xs,_,dd⟩:=IN I.aF e;exact dd.typeIs
inductive ExD (x:V) (H:Hp) (y:V) (k:V->Prop):Prop where
 |mk (a:Vs) (v:V) (h1:x=.ref a) (h2:Js H a y (some v)) (q:k v):ExD x H y k
def UG (td ty:TE):TE:=λσ H Q=>td σ H λx H1=>ty σ H1 λy H2=>ExD x H2 y λv=>Q v H2
def VR (ty td:TE):TE:=λσ H Q=>ty σ H λy H1=>td σ H1 λx H2=>∃a o,x=.ref a/\Js H2 a y o/\Q (.bl o.isSome) H2
def Qb (ty td:TE):TE:=λσ H Q=>ty σ H λy H1=>td σ H1 λx H2=>∃a o,x=.ref a/\Js H2 a y o/\Q (.bl (!o.isSome)) H2
def UH (td ty tv:TE):TS:=λD σ H=>tv σ H λv H1=>td σ H1 λx H2=>ty σ H2 λy H3=>∃a H4,x=.ref a/\DPut H3 a y v H4/\D.nx σ H4
section
variable {o i value:Expr}{pos' tpos:Pos}{td ty tv:TE}
theorem CL (hu:X.A.units+1<cLine) (ho:PE X o td) (hi:PE X i ty) (hs:UF i):PE X (.Subscript o i pos) (UG td ty):=by
 intro aa s σ H Q I h;refine Qa PySem.F.slot_dict_getitem.lookup hs (aH (ho aa s σ H _ I h) λu s1 ⟨x,H1,I1,rx,q1⟩=>aH (hi aa s1 σ H1 _ I1 q1) λiv s2 ⟨y,H2,I2,ry,a,v,ex,g,q2⟩=>?_);subst ex;obtain rfl:u=Value.ref a:=rx;exact⟨Jt I2 g,Mu hu I2 g ry λw' s3 I3 iC=>⟨v,H2,I3,iC,q2⟩⟩
theorem HI (hu:X.A.units+1<cLine) (hi:PE X i ty) (ho:PE X o td):PC X .In i o (VR ty td):=by
 intro aa s σ H Q I h;refine aH (hi aa s σ H _ I h) λiv s1 ⟨y,H1,I1,ry,q1⟩=>aH (ho aa s1 σ H1 _ I1 q1) λu s2 ⟨x,H2,I2,rx,a,ov,ex,g,q2⟩=>?_;subst ex;obtain rfl:u=Value.ref a:=rx;exact VQ hu I2 g ry λs3 I3=>⟨.bl ov.isSome,H2,I3,Zj,q2⟩
theorem Mw (hu:X.A.units+1<cLine) (hi:PE X i ty) (ho:PE X o td):PC X .NotIn i o (Qb ty td):=by
 intro aa s σ H Q I h;refine aH (hi aa s σ H _ I h) λiv s1 ⟨y,H1,I1,ry,q1⟩=>aH (ho aa s1 σ H1 _ I1 q1) λu s2 ⟨x,H2,I2,rx,a,ov,ex,g,q2⟩=>?_;subst ex;obtain rfl:u=Value.ref a:=rx;exact QZ hu I2 g ry λs3 I3=>⟨.bl (!ov.isSome),H2,I3,Zj,q2⟩
theorem L6 (hu:X.A.units+1<cLine) (ho:PE X o td) (hi:PE X i ty) (hv:PE X value tv) (hs:swapsWith value (some (.Subscript o i pos')) pos.line X.env=pure false) :
  PS X (.Assign [.Subscript o i pos'] value pos) (UH td ty tv):=by
 intro aa s σ H D I h;refine wpAny_Assign_Subscript (aH (hv aa s σ H _ I h) λr s1 ⟨v,H1,I1,rv,q1⟩=>aH (ho aa s1 σ H1 _ I1 q1) λu s2 ⟨x,H2,I2,rx,q2⟩=>aH (hi aa s2 σ H2 _ I2 q2) λiv s3 ⟨y,H3,I3,ry,a,H4,ex,g,q3⟩=>?_) hs;subst ex;obtain rfl:u=Value.ref a:=rx;exact Mv hu I3 g ry rv λs4 I4=>⟨σ,H4,I4,q3⟩
end
theorem Ju (h:Heap) (hb:sysModules<h.objs.size):aP P w H (h.push { cls:=.type "dict", data:=.dict #[] }) h.objs.size (.dK []) :=
 ⟨Nat.zero_le _,beq_eq_false_iff_ne.mpr (Ne.symm (ZF hb)),[],.nil,Heap.DictOf.new h⟩
def Sl:TE:=λ_ H Q=>∀p,H p=none->Q (.ref p) (upd H p (.dK []))
section
theorem Dt:PE X (.Dict [] [] pos) Sl:=λaa s σ H Q I h =>
 wpAny_Dict_empty ⟨.ref s.heap.objs.size,_,I.laid (a:=s.heap.objs.size) (o:=.dK []) (t':=s.toks) (λ_ _ q=>ZY _ q) (ZA _) (Ju s.heap I.big),rfl,h _ (I.aF.fresh (ZA _))⟩
end
def IsD (H:Hp) (a:Vs):Prop:=(∃kvs,Rd H a (.dK kvs))\/∃kvs,Rd H a (.dT kvs)
theorem OX {s:Vt} (I:Inv X aa σ H s) (d:IsD H a) :
  s.TypeIs (.ref a) "dict" /\ (∀b,Value.ref a=.ref b->∃ob,s.heap.get? b=some ob/\ob.dict=none)/\(a==sysModules)=false:=by
 rcases d with⟨kvs,e⟩ |⟨kvs,e⟩
 ·obtain⟨_,hd,vs,_,dd⟩:=DH I.aF e;refine⟨dd.typeIs,λb q=>?_,hd⟩;cases q;obtain⟨ob,_,_,h1,h2,_⟩:=dd;exact⟨ob,h1,h2.2.1⟩
 ·obtain⟨_,hd,xs,_,dd⟩:=IN I.aF e;refine⟨dd.typeIs,λb q=>?_,hd⟩;cases q;obtain⟨ob,_,_,h1,h2,_⟩:=dd;exact⟨ob,h1,h2.2.1⟩
end L2
namespace Att
open PySem PySem.W PySem.Calls PyProof.Rows
theorem Gd {P:Params}:∀(ns:List Int) (vs:Vq),WellAll P h vs (ns.map WData.int)->IntsAre vs ns:=by
 intro ns;induction ns with
 |nil =>
  intro vs w;rw[map_nil]at w;cases w;exact .nil
 |cons n ns ih =>
  intro vs w;rw[map_cons]at w;cases w with
  |cons a b =>
   cases a;exact .cons _ _ (ih _ b)
theorem Mx {l:OpenLaw}{n:Nat} (hn:l.most=some n) {P:Params}{args:List WData}{vals:Vq}
    (bj:l.row.toRowW.claim.pre args=true) (hwl:WellAll P h vals args) :
    ∃a vs ns,vals=[Value.ref a]/\args=[WData.list (ns.map WData.int)]/\h.get? a=some { cls:=.type "list", data:=.seq vs.toArray }/\IntsAre vs ns/\ns.length<=n:=by
  have aj:WShape.hasAll [] args [.list .int]=true:=(pre_splitW bj).1;have hc:l.pre.holds [] { args:=args }=true:=(pre_splitW bj).2;obtain⟨d,r,rfl,h1,h2⟩:=hasAllW_cons aj;obtain rfl:=hasAllW_nil h2;obtain⟨xs,rfl,h3⟩:=hasW_list h1;obtain⟨ns,rfl⟩:=items_int h3
  have a0:ns.length<=n:=by
    unfold OpenLaw.pre at hc
    have h4:(WTm.not (.lt (.lit (.int (n:Int))) (.len (.arg 0)))).holds [] { args:=[.list (ns.map .int)] }=true:=by
      have h4:=(holds_andW hc).1;rw[hn]at h4;exact h4
    have h5:=condW_of h4 (w_not (w_lt w_lit (w_len_list (w_arg rfl))));rw[AK]at h5;refine Nat.le_of_not_lt λq=>?_;have q':(n:Int)<((ns.length:Nat):Int):=by omega
    first
      | (rw[ZN q']at h5;exact absurd h5 qc)
      | (simp at h5;omega)
  cases hwl with
  |cons w1 w2 =>
    cases w2;cases w1 with
    |list ho bc=>exact⟨_,_,ns,rfl,rfl,ho,Gd ns _ bc,a0⟩
theorem My (l:OpenLaw) (args:List WData):l.row.toRowW.claim.post args (.bool true) args=true :=
 postW_of (r:=l.row.toRowW) (X:=(true==true))
  (show WShape.has [] (.bool true) .bool=true by first |rfl |decide |simp[WShape.has,WShape.arms,WShape.armsAll])
  (show(WTm.eq .res (.lit (.bool true))).value [] { args:=args,res:=some (.bool true),after:=args }=some (.bool (true==true))from w_eq_bool (w_res rfl) w_lit) rfl
theorem attach_call {l:OpenLaw}{n:Nat}{q:Program}{loose:Vp}{XP:(Str->Option Value)->Heap->Prop}{YP:World->Heap->Prop}{d:DefRec}
  (hn:l.most=some n) (hdf:d.params.defaults=[])
  (call:∀(w:World) (aI aN:Vt) (mg mb:SV) (fa:Vs) (o:Obj) (pm cd doc:Value) (a:Vs) (vs:Vq) (ns:List Int),
   Ground q loose [] XP w aI mg mb aN.heap->YP w aN.heap ->
   aN.heap.get? fa=some o->o.data=.func (docDef d.name d.params d.body d.scope pm cd doc)->aN.heap.CodeRec cd d.name->mg d.name=some (.ref fa) ->
   aN.heap.get? a=some { cls:=.type "list", data:=.seq vs.toArray }->IntsAre vs ns->ns.length<=n->aN.gens=#[] ->
   codeAny (model l.prog w) callerA (.call (.ref fa) ⟨[.ref a],[]⟩) (λr s'=>r=.ok (.ret (.bool true))/\OldK aN.heap s'.heap/\s'.os=aN.os/\AllBare s'.gens) aN) :
  WalkO q loose XP YP l.row.toRowW d [] (λf vs=>PySem.call f vs):=by
 intro w aI aN mg mb G Y fa o pm cd doc dV kV ho hd fJ hD hmg hg args vals as bj hlay hrd hwl hlo;obtain rfl:dV=.none:=Dflts.none hD hdf;obtain rfl:kV=.none:=Dflts.noKw hD;obtain⟨a,vs,ns,rfl,rfl,ci,bn,a0⟩:=Mx hn bj hwl;refine enter_call (codeAny_mono (call w aI aN mg mb fa o pm cd doc a vs ns G Y ho (fd_plain hd) fJ hmg ci bn a0 hg) λr s' hq=>?_);obtain⟨rfl,h2,h3,h4⟩:=hq;exact⟨.inl ⟨.bool true,.bool true,[],rfl,λ_=>rfl,.bool true,My l _,λ_=>⟨List.Pairwise.nil,λ_ hm=>(nomatch hm)⟩⟩,h2,h3,h4⟩
end Att
namespace L2
open PySem PySem.Spec PyProof.Rows
theorem EG:∀ {vs:Vq}{ns:List Int},IntsAre vs ns->Vals (ns.map V.int) vs
 |_,_,.nil=>.nil
 |_,_,.cons n t h=>.cons ⟨t,rfl⟩ (EG h)
noncomputable def inClass (s:Stmt) (j:Nat):Stmt:=match s with
 | .ClassDef _ _ _ body _ _ _ _ _ _ _=>body.getD j (.Pass ⟨0,0,0,0⟩)
 |_=>.Pass ⟨0,0,0,0⟩
noncomputable def defArgs (s:Stmt):Arguments:=match s with
 | .FunctionDef _ a _ _ _ _ _ _ _ _=>a
 |_=>{ posonlyargs:=[],args:=[],vararg:=none,kwonlyargs:=[],kw_defaults:=[],kwarg:=none,defaults:=[] }
noncomputable def defBody (s:Stmt):List Stmt:=match s with
 | .FunctionDef _ _ b _ _ _ _ _ _ _=>b
 |_=>[]
noncomputable def defScope (s:Stmt):Scope:=match s with
 | .FunctionDef _ _ _ _ _ _ sc _ _ _=>sc
 |_=>{ kind:=.function,names:=[],isGenerator:=false,isCoroutine:=false }
abbrev aL:gx:=λ_ _ _ _ _ _=>False
abbrev E0:XK:=λ_ _ _=>False
theorem AL:BJ aL X E0:=λ_ _ _ _ _ _ _ h=>h.elim
structure aQ (K:FG) (x qual:Str) (st:Stmt) (f:Vs) (fd:FuncData):Prop where
 ex:∃(oc:Value) (od:Option Vs) (kV doc pm:Value) (an:Option Vs) (ae ct:Value) (gd:Array (Option Value)),
  fd=W.fnOf x qual (defArgs st) (defBody st) (defScope st) .none kV doc pm an ae ct/\K.lookup f=some ⟨oc,od,.func fd,gd⟩/\W.codeIn K ae qual=true
 kp:W.keepIn K (.ref f)=true
section
theorem aQ.ok {qual:Str}{st:Stmt}{fd:FuncData}{ps:Vp}{k:Nat}{sp:Sp} (F:aQ K x qual st f fd) (S:AH N ps (defScope st)) (len:∀vs H Q E,sp vs H Q E->vs.length=ps.length)
  (bg:∀(ae:Value) (A:Around) (outer:List Env) (s:Vt) (H:Hp) (vs:Vr) (Q:VK) (E:XK),aD k (A.deeper (envOfC qual (defScope st) s.heap.objs.size f ae))->sp vs H Q E ->
   ∃t,eI (Au aL P w K mg base N qual (defScope st) f ae A outer s H E).dZ (defBody st) t/\t { nx:=λ_ H'=>Q .aT H',rt:=Q } (Ca N vs) H):aB P w K mg base aL (k+1) f fd ps sp:=by
 obtain⟨oc,od,kV,doc,pm,an,ae,ct,gd,rfl,lk,fJ⟩:=F.ex;refine Lz lk fJ S len λA outer s H vs Q E hr ic=>?_;obtain⟨t,h,q⟩:=bg ae A outer s H vs Q E hr ic;exact⟨t,h.dZ,q⟩
structure BdC (P:Program) (w:World) (K:FG) (mg:SV) (base:Heap) (f:Vs) (qual:Str) (st:Stmt) (N ps:Vp) (k:Nat) (vs:Vr) (H:Hp) (Q:VK) (E:XK):Prop where
 len:vs.length=ps.length
 ok:∀(ae:Value) (A:Around) (outer:List Env) (s:Vt),aD k (A.deeper (envOfC qual (defScope st) s.heap.objs.size f ae)) ->
  ∃t,eI (Au aL P w K mg base N qual (defScope st) f ae A outer s H E |>.dZ) (defBody st) t/\t { nx:=λ_ H'=>Q .aT H',rt:=Q } (Ca N vs) H
theorem aQ.m {qual:Str}{st:Stmt}{fd:FuncData}{ps:Vp}{k:Nat}{sp:Sp} (F:aQ K x qual st f fd) (S:AH N ps (defScope st)) (h:∀vs H Q E,sp vs H Q E->BdC P w K mg base f qual st N ps k vs H Q E) :
  aB P w K mg base aL (k+1) f fd ps sp:=F.ok S (λvs H Q E q=>(h vs H Q E q).len) λc A o s H vs Q E r q=>(h vs H Q E q).ok c A o s r
theorem aQ.binds {qual:Str}{st:Stmt}{fd:FuncData}{ps:Vp} (F:aQ K x qual st f fd)
  (h:∀(kV doc pm:Value) (an:Option Vs) (ae ct:Value) (us:Vq),us.length=ps.length->bindArgs (W.fnOf x qual (defArgs st) (defBody st) (defScope st) .none kV doc pm an ae ct) ⟨us,[]⟩=pure (ps.zip us)):Binds K fd ps []:=by
 obtain⟨oc,od,kV,doc,pm,an,ae,ct,gd,rfl,lk,fJ⟩:=F.ex;exact .all (h kV doc pm an ae ct)
theorem fun_mk {qual:Str}{st:Stmt}{oc:Value}{od an:Option Vs}{gd:Array (Option Value)}{kV doc pm ae ct:Value} (l:K.lookup f=some ⟨oc,od,.func (W.fnOf x qual (defArgs st) (defBody st) (defScope st) .none kV doc pm an ae ct),gd⟩)
  (c:W.codeIn K ae qual=true) (k:W.keepIn K (.ref f)=true):aQ K x qual st f (W.fnOf x qual (defArgs st) (defBody st) (defScope st) .none kV doc pm an ae ct):=⟨⟨oc,od,kV,doc,pm,an,ae,ct,gd,rfl,l,c⟩,k⟩
end
theorem Cc {k:Nat} (hr:aD k A):A.units+1<cLine:=Nat.lt_of_le_of_lt (Nat.add_le_add_left (by decide:1<=64) _) hr.units
theorem AQ {n:Nat} (h:n<=1000):n<sizeLine:=Nat.lt_of_le_of_lt h qc
section
theorem pv (i:Nat) (hN:X.N[i]?=some x:=by rfl) (hv:Vis X.env.scope x:=by first |exact Or.inl rfl |exact Or.inr (Or.inl rfl) |exact Or.inr (Or.inr rfl)) (hd:(x==("__debug__" : Str))=false:=by decide)
  (fJ:(x==("__classdict__" : Str))=false:=by decide):PE X (.Name x pos) (C5 i):=OD hN hv hd fJ
theorem Mz:Be X (.builtin "len") (λxs H Q=>∃a kvs,xs=[V.ref a]/\H a=some (.dK kvs)/\Q (.int kvs.length) H):=by
 intro aa s σ H xs us Q I r h;obtain⟨a,kvs,rfl,ha,q⟩:=h;obtain⟨u,rfl,ru⟩:=CZ r;cases ru;exact UE I (.inl ha) λt s' I'=>⟨.int kvs.length,H,I',⟨t,Zj⟩,q⟩
end
theorem AX {A B:Prop} (h:B):if false=true then A else B:=by
 rw[Zs Bool.false_ne_true];exact h
theorem Af {A B:Prop} (h:A):if true=true then A else B:=by
 rw[Zr rfl];exact h
theorem Bj {c A B:Prop} [Decidable c] (h1:c->A) (h2:¬ c->B):if c then A else B:=by
 by_cases h:c
 ·rw[Zr h];exact h1 h
 ·rw[Zs h];exact h2 h
theorem IP {c A B:Prop} [Decidable c] (hc:c) (h:B):if (!decide c)=true then A else B:=by
 rw[ZN hc];exact AX h
def aA (H H':Hp):Prop:=∀b o,H b=some o->H' b=some o
theorem aA.refl (H:Hp):aA H H:=λ_ _ h=>h
theorem aA.trans {H1 H2:Hp} (a:aA H H1) (b:aA H1 H2):aA H H2:=λc o h=>b c o (a c o h)
theorem aA.seq (e:aA H H') (h:aJ K H a xs):aJ K H' a xs:=by
 rcases h with (h |⟨o,h⟩) |h
 ·exact .inl (.inl (e _ _ h))
 ·exact .inl (.inr ⟨o,e _ _ h⟩)
 ·exact .inr h
section
variable {κ:Type} [DecidableEq κ]
theorem Qc {kvs:List (κ×V)}{k:κ}{v:V} (h:A4 kvs k=some v):k∈kvs.map (·.1):=by
 have q:(kvs.any λkv=>decide (kv.1=k))=true:=by
  rw[E5,h]
  all_goals rfl
 obtain⟨p,hp,e⟩:=any_eq_true.mp q;exact Zt.mpr ⟨p,hp,ZW e⟩
theorem L7:∀ {l:List κ}{k:κ},l.Nodup->¬ k∈l->(l++[k]).Nodup
 | [],k,_,_=>by simp
 |a::r,k,h,hk=>by
  obtain⟨h1,h2⟩:=Zu.mp h;show(a::(r++[k])).Nodup;refine Zu.mpr ⟨λm=>?_,L7 h2 λm=>hk (mem_cons.mpr (Or.inr m))⟩;rcases mem_append.mp m with q |q
  ·exact h1 q
  ·exact hk (mem_cons.mpr (Or.inl (mem_singleton.mp q).symm))
end
end L2
end
section
variable {X:L2.Cx}{H:L2.Hp}{H':L2.Hp}{pos:PySem.Pos}{σ:L2.St}{P:PySem.Program}{w:PySem.World}{A:PySem.Around}{aa:LO}{x:PySem.Str}{a:PySem.Addr}{K:FG}{C:PySem.Addr}{E:VS}{h:PySem.Heap}{us:List PySem.Value}{f:PySem.Addr}{u:PySem.Value}{xs:List L2.V}{e:PySem.Expr}{te:L2.TE}{base:PySem.Heap}{N:List PySem.Str}{mg:SV}
section
namespace L2
open PySem PySem.Spec PyProof.Rows
theorem Inv.track {s:Vt}{o:HO} (I:Inv X aa σ H s) (hn:H a=none) (hL:a≠X.env.locals) (h1:a∈X.ex\/X.aI.heap.objs.size<=a)
  (h2:∀x c,X.env.cells.lookup x=some c->c≠a) (h3:∀p∈X.pn++aa,p.1≠a) (new:aP X.prog X.w (upd H a o) s.heap a o):Inv X aa σ (upd H a o) s:=by
 have aw:∀b u,H b=some u->b≠a:=λb u e=>AJ e hn
 refine I.step (h':=s.heap) (H':=upd H a o) (g':=s.gens) (t':=s.toks) (d':=s.drawn) (ch:=[a])
  (λb hb=>by have e:b=a:=by simpa using hb
             subst e;exact⟨h1,hL,h2,h3⟩)
  (λb o _ _ _ e _=>e) (λb o _ _ _ e _=>⟨o.slots,e⟩) (λb o hc e n=>by rw[AE (by simpa using hc)];exact n)
  (λb o _ e=>⟨o,e⟩) (λb xs e=>by rw[AE (aw b _ e)];exact e) (λb o u e=>by rw[AE (aw b _ e)];exact e)
  (λb ps e=>⟨#[],by rw[AE (aw b _ e),e];simp⟩) (λm h=>h) (λb u e=>?_) I.bare
 by_cases hb:b=a
 ·subst hb;rw[U]at e;cases e;exact new
 ·rw[AE hb]at e;exact(I.aF b u e).fc (λc v _ q=>q) (λc q=>by rw[AE (aw c _ q)];exact q) λc xs q=>by rw[AE (aw c _ q)];exact q
structure aU (jx sc:Scope) (N N':Vp) (ix:List (Option Nat)):Prop where
 kind:sc.kind=.function
 nocell:∀y∈sc.names,y.2≠ .cell
 free:∀y∈sc.names,y.2=.free->jx.names.lookup y.1=some .cell\/jx.names.lookup y.1=some .free
 loc:∀y∈sc.names,y.2=.local->sc.names.lookup y.1=some .local
 len:ix.length=N'.length
 slot:∀(j:Nat) (x:Str) (i:Nat),N'[j]?=some x->ix[j]?=some (some i)->N[i]?=some x/\sc.names.lookup x=some .free
noncomputable def SA (sc:Scope) (N:Vp) (x:Str):Option Nat->Bool
 |none=>true
 |some i=>decide (N[i]?=some x)&&decide (sc.names.lookup x=some .free)
noncomputable def DV (sc:Scope) (N:Vp):Vp->List (Option Nat)->Bool
 | [],[]=>true
 |x::r,o::os=>SA sc N x o&&DV sc N r os
 |_,_=>false
noncomputable def IQ (jx sc:Scope) (N N':Vp) (ix:List (Option Nat)):Bool :=
 decide (sc.kind=.function)&&(sc.names.all λy=>decide (y.2≠ .cell)&&(decide (y.2≠ .free) ||decide (jx.names.lookup y.1=some .cell) ||decide (jx.names.lookup y.1=some .free)) &&
  (decide (y.2≠ .local) ||decide (sc.names.lookup y.1=some .local)))&&DV sc N N' ix
theorem HJ {sc:Scope}{N:Vp}:∀ {N':Vp}{ix:List (Option Nat)},DV sc N N' ix=true->ix.length=N'.length
 | [],[],_=>rfl
 | [],_::_,h=>by simp[DV]at h
 |_::_,[],h=>by simp[DV]at h
 |x::r,o::os,h=>by
  simp only[DV,Bool.and_eq_true]at h;simp only[length_cons,HJ h.2]
theorem IR {sc:Scope}{N:Vp}:∀ {N':Vp}{ix:List (Option Nat)},DV sc N N' ix=true->∀(j:Nat) (x:Str) (i:Nat),N'[j]?=some x->ix[j]?=some (some i)->N[i]?=some x/\sc.names.lookup x=some .free
 | [],_,_,_,_,_,e,_=>by simp at e
 |_::_,[],h,_,_,_,_,_=>by simp[DV]at h
 |y::r,o::os,h,j,x,i,e1,e2=>by
  simp only[DV,Bool.and_eq_true]at h;cases j with
  |zero =>
   simp only[List.getElem?_cons_zero,Option.some.injEq]at e1 e2;subst e1 e2;have h1:=h.1;simp only[SA,Bool.and_eq_true,decide_eq_true_eq]at h1;exact h1
  |succ j =>
   simp only[List.getElem?_cons_succ]at e1 e2;exact IR h.2 j x i e1 e2
theorem aU.of {jx sc:Scope}{N':Vp}{ix:List (Option Nat)} (h:IQ jx sc N N' ix=true):aU jx sc N N' ix:=by
 simp only[IQ,Bool.and_eq_true,decide_eq_true_eq,List.all_eq_true,Bool.or_eq_true]at h;obtain⟨⟨h1,h2⟩,h3⟩:=h;refine⟨h1,λy hy=>(h2 y hy).1.1,λy hy e=>?_,λy hy e=>?_,HJ h3,IR h3⟩
 ·rcases (h2 y hy).1.2 with (z |z) |z
  ·exact absurd e z
  ·exact .inl z
  ·exact .inr z
 ·rcases (h2 y hy).2 with z |z
  ·exact absurd e z
  ·exact z
noncomputable abbrev Ea (env:Env):Str×NameKind->Str×NameKind:=λ(n,k)=>if (k==NameKind.free&&env.scope.kind == .function&&env.kindOf n==some .cell)then (n,NameKind.cell)else (n,k)
theorem Jv (env:Env) (y:Str×NameKind):(Ea env y).1=y.1:=by
 obtain⟨n,k⟩:=y;simp only[Ea];split <;> rfl
theorem M0 (env:Env) (n:Str):(Ea env (n,.free)).2=.cell\/(Ea env (n,.free)).2=.free:=by
 simp only[Ea];split
 ·exact .inl rfl
 ·exact .inr rfl
theorem Qd (env:Env) (y:Str×NameKind) (h:y.2≠ .free):Ea env y=y:=by
 obtain⟨n,k⟩:=y;have e:(k==NameKind.free)=false:=by simpa using h
 simp only[Ea,e,Bool.false_and,Bool.false_eq_true,if_false]
theorem ER {env:Env}:∀ {names:List (Str×NameKind)}{x:Str},names.lookup x=some .free->(names.map (Ea env)).lookup x=some .cell\/(names.map (Ea env)).lookup x=some .free
  | [],_,h=>by simp at h
  | (n,k)::r,x,h=>by
    rw[map_cons]
    have e:Ea env (n,k)=(n,(Ea env (n,k)).2):=by
      have:=Jv env (n,k);exact Prod.ext this rfl
    rw[e];cases hx:x==n with
    |true =>
      simp only[ZB,hx]at h ⊢;cases h;rcases M0 env n with z |z
      · rw[z];exact .inl rfl
      · rw[z];exact .inr rfl
    |false =>
      simp only[ZB,hx]at h ⊢;exact ER h
theorem F6 {env:Env}:∀ {names:List (Str×NameKind)}{x:Str},(∀y∈names,y.2≠ .cell)->((names.map (Ea env)).lookup x=some .cell\/(names.map (Ea env)).lookup x=some .free)->(x,NameKind.free)∈names
  | [],_,_,h=>by simp at h
  | (n,k)::r,x,hc,h=>by
    rw[map_cons]at h;have e:Ea env (n,k)=(n,(Ea env (n,k)).2):=Prod.ext (Jv env (n,k)) rfl;rw[e]at h;cases hx:x==n with
    |true =>
      simp only[ZB,hx]at h;have exn:x=n:=by simpa using hx
      subst exn;by_cases hk:k=.free
      · subst hk;exact ZK
      · rw[Qd env (x,k) hk]at h
        rcases h with z |z
        · have:k=.cell:=by simpa using z
          exact absurd this (hc (x,k) ZK)
        · have:k=.free:=by simpa using z
          exact absurd this hk
    |false =>
      simp only[ZB,hx]at h;exact ZT _ (F6 (λy hy=>hc y (ZT _ hy)) h)
theorem JA {env:Env}{f:Str×NameKind->List (Str×Vs)->Sem (ForInStep (List (Str×Vs)))}
  (h1:∀y acc,y.2≠ .free->f y acc=pure (.yield acc)) (h2:∀y acc c,y.2=.free->env.cells.lookup y.1=some c->f y acc=pure (.yield ((y.1,c)::acc))) :
  ∀(names:List (Str×NameKind)) (acc:List (Str×Vs)),(∀y∈names,y.2=.free->∃c,env.cells.lookup y.1=some c)->(∀x c,acc.lookup x=some c->env.cells.lookup x=some c) ->
   ∃cl,forIn names acc f=(pure cl:Sem _)/\(∀x c,cl.lookup x=some c->env.cells.lookup x=some c)/\(∀y∈names,y.2=.free->∃c,cl.lookup y.1=some c)/\∀x c,acc.lookup x=some c->∃c',cl.lookup x=some c'
 | [],acc,_,ha=>⟨acc,rfl,ha,λ_ hy=>(nomatch hy),λx c e=>⟨c,e⟩⟩
 |y::r,acc,hn,ha=>by
  have hr:∀z∈r,z.2=.free->∃c,env.cells.lookup z.1=some c:=λz hz=>hn z (ZT _ hz);by_cases hy:y.2=.free
  ·obtain⟨c,hc⟩:=hn y ZK hy
   obtain⟨cl,e,p1,p2,p3⟩:=JA h1 h2 r ((y.1,c)::acc) hr λx d e=>by
    cases hx:x==y.1 with
    |true =>
     simp only[ZB,hx,Option.some.injEq]at e;have:x=y.1:=by simpa using hx
     rw[this,←e];exact hc
    |false =>
     simp only[ZB,hx]at e;exact ha x d e
   refine⟨cl,by rw[List.forIn_cons,h2 y acc c hy hc,pure_bind];exact e,p1,λz hz hf=>?_,λx d e=>?_⟩
   ·rcases mem_cons.mp hz with rfl |hz
    ·exact p3 z.1 c (by simp[ZB])
    ·exact p2 z hz hf
   ·cases hx:x==y.1 with
    |true=>exact p3 x c (by simp[ZB,hx])
    |false=>exact p3 x d (by simp only[ZB,hx];exact e)
  ·obtain⟨cl,e,p1,p2,p3⟩:=JA h1 h2 r acc hr ha;refine⟨cl,by rw[List.forIn_cons,h1 y acc hy,pure_bind];exact e,p1,λz hz hf=>?_,p3⟩;rcases mem_cons.mp hz with rfl |hz
   ·exact absurd hf hy
   ·exact p2 z hz hf
theorem JB {env:Env}{scope:Scope} (hn:∀y∈scope.names,y.2=.free->∃c,env.cells.lookup y.1=some c) :
  ∃cl,closureFor scope env=pure cl/\(∀x c,cl.lookup x=some c->env.cells.lookup x=some c)/\∀y∈scope.names,y.2=.free->∃c,cl.lookup y.1=some c:=by
 obtain⟨cl,e,p1,p2,_⟩:=JA (env:=env) (f:=λ(x:Str×NameKind) (r:List (Str×Vs))=>if (x.2==NameKind.free)=true then (cellOf env x.1 >>= λa=>pure (ForInStep.yield ((x.1,a)::r)))else pure (ForInStep.yield r)) (λy acc hy=>by
  have:(y.2==NameKind.free)=false:=by simpa using hy
  rw[this,Zs Bool.false_ne_true]) (λy acc c hy hc=>by
  have h0:(y.2==NameKind.free)=true:=by rw[hy];rfl
  rw[Zr h0];simp only[cellOf,hc]
  rfl) scope.names [] hn λx c e=>by simp at e
 refine⟨cl,?_,p1,p2⟩;have e0:closureFor scope env=(forIn scope.names [] (λ(x:Str×NameKind) (r:List (Str×Vs))=>if (x.2==NameKind.free)=true then (cellOf env x.1 >>= λa=>pure (ForInStep.yield ((x.1,a)::r)))else pure (ForInStep.yield r)) >>= λcs=>pure cs):=rfl;rw[e0,e];rfl
noncomputable def Aj (X:Cx) (N':Vp) (scope:Scope) (cl:List (Str×Vs)) (s:Vt) (H:Hp) (C:Vs) (fp:List Vs) (pn:LO):Cx where
 prog:=X.prog
 w:=X.w
 K:=X.K
 mg:=X.mg
 base:=X.base
 A:=X.A
 N:=N'
 aI:=s
 eJ:=H
 env:=compEnvC scope cl C X.env
 outer:=X.stack
 stack:=X.stack
 ex:=fp
 fn:=λ_=>false
 calm:=X.calm
 pn:=pn
 xe:=λ_ _=>False
noncomputable def Bq (ix:List (Option Nat)) (σ:St):St:=ix.map λo=>o.bind λi=>(σ[i]?).join
theorem Qe {ix:List (Option Nat)}{j:Nat}{v:V} (h:(Bq ix σ)[j]?=some (some v)):∃i,ix[j]?=some (some i)/\σ[i]?=some (some v):=by
 unfold Bq at h;rw[ZH]at h;cases e:ix[j]? with
 |none=>rw[e]at h;cases h
 |some o =>
  rw[e]at h;simp only[Option.map_some,Option.some.injEq]at h;cases o with
  |none=>cases h
  |some i =>
   refine⟨i,rfl,?_⟩;simp only[Option.bind_some]at h;cases q:σ[i]? with
   |none=>rw[q]at h;cases h
   |some u=>rw[q]at h;simp only[Option.join_some]at h;rw[h]
section
variable {s:Vt}{N':Vp}{ix:List (Option Nat)}{scope:Scope}{cl:List (Str×Vs)}{fp:List Vs}
theorem Qf (I:Inv X aa σ H s) (hf:aU X.env.scope scope X.N N' ix) (c1:∀x c,cl.lookup x=some c->X.env.cells.lookup x=some c) (c2:∀y∈scope.names,y.2=.free->∃c,cl.lookup y.1=some c)
  (hC:s.heap.objs.size<=C) (iq:∀b∈fp,EL X aa H b) (aX:∀b∈fp,b<s.heap.objs.size):(Aj X N' scope cl s H C fp (X.pn++aa)).Ok where
 mod:=I.mod
 kind:=hf.kind
 glob:=I.ok.glob
 blt:=I.ok.blt
 above:=hC
 inj:=λx y c e1 e2=>I.ok.inj x y c (c1 x c e1) (c1 y c e2)
 has:=λx h=>by
  have hm:(x,NameKind.free)∈scope.names:=F6 (env:=X.env) hf.nocell h;exact c2 (x,.free) hm rfl
 i7:=λx c h=>by cases h
 hd:=I.ok.hd
 frames:=I.ok.frames
 gc:=.inl rfl
 exf:=λb hb=>⟨ZF (Z2 (aX b hb) hC),λx c e=>(iq b hb).2.2.2.2.1 x c (c1 x c e)⟩
 bs:=I.bs
 gX:=Nat.le_trans I.ok.gX I.sz
 gB:=λb o e hb=>by
  rcases (iq b hb).2.2.2.1 with z |z
  ·exact I.ok.gB b o e z
  ·exact absurd (Z2 (Z2 (lt_size e) I.ok.gX) z) (ZI _)
 fY:=λb hb z=>by
  rcases mem_cons.mp (I.d9 b z)with e |e
  ·exact(iq b hb).2.1 e
  ·exact(iq b hb).2.2.1 e
 dj:=I.stack
 ij:=I.stkFree
theorem Eb (I:Inv X aa σ H s) (hf:aU X.env.scope scope X.N N' ix) (c1:∀x c,cl.lookup x=some c->X.env.cells.lookup x=some c) (c2:∀y∈scope.names,y.2=.free->∃c,cl.lookup y.1=some c)
  (hC:s.heap.objs.size<=C) (iq:∀b∈fp,EL X aa H b) (aX:∀b∈fp,b<s.heap.objs.size) {dJ:Heap}{tk:Nat}{m:SV} (old:∀b o,s.heap.get? b=some o->dJ.get? b=some o) (jC:dJ.Ns C m) :
  Inv (Aj X N' scope cl s H C fp (X.pn++aa)) [] (Bq ix σ) H { s with heap:=dJ,toks:=tk } where
 ok:=Qf I hf c1 c2 hC iq aX
 os:=rfl
 bare:=I.bare
 base:=Un.kept old
 loc:=⟨m,jC,λj x v e1 e2 e3=>by
  obtain⟨i,ei,ev⟩:=Qe e2;obtain⟨hN,bt⟩:=hf.slot j x i e1 ei;obtain⟨mX,_,hl⟩:=I.loc
  have hm:(x,NameKind.free)∈scope.names:=by
   have:∀ {l:List (Str×NameKind)}{k:NameKind},l.lookup x=some k->(x,k)∈l:=λ{l k}=>by
    induction l with
    |nil=>intro e;simp at e
    |cons y r ih =>
     intro e;obtain⟨n,kk⟩:=y;cases hx:x==n with
     |true =>
      simp only[ZB,hx,Option.some.injEq]at e;have:x=n:=by simpa using hx
      subst this e;exact ZK
     |false =>
      simp only[ZB,hx]at e;exact ZT _ (ih e)
   exact this bt
  have hk:=hf.free _ hm rfl;obtain⟨u,r,q⟩:=hl i x v hN ev (.inr hk);refine⟨u,r,.inr ⟨ER (env:=X.env) bt,?_⟩⟩;obtain⟨c,hc⟩:=c2 _ hm rfl;refine⟨c,hc,?_⟩;rcases q with⟨k,_⟩ |⟨_,c',iO,z⟩
  ·have k':X.env.scope.names.lookup x=some .local:=k;rcases hk with a |a <;> (rw[k']at a;cases a)
  ·rw[c1 x c hc]at iO;cases iO
   exact z.keeps old⟩
 cell:=λx c e=>by
  obtain⟨v,z⟩:=I.cell x c (c1 x c e);exact⟨v,z.keeps old⟩
 free:=I.aF.fresh hC
 cQ:=λx c e=>I.cQ x c (c1 x c e)
 pin:=λp hp=>by
  have hp':p∈X.pn++aa:=by
   have z:=hp;rw[Zv]at z;exact z
  obtain⟨e,n,ne,nf,d⟩:=I.pin p hp';refine⟨old _ _ e,n,ZF (Z2 (lt_size e) hC),λz=>?_,d⟩;rcases mem_cons.mp (I.d9 p.1 z)with q |q
  ·exact ne q
  ·exact nf q
 aF:=I.aF.kept old
 len:=by
  show(Bq ix σ).length=N'.length;unfold Bq;rw[AK];exact hf.len
theorem EH {pins':LO}{aO:St}{s':Vt} (I:Inv X aa σ H s) (iq:∀b∈fp,EL X aa H b) (J:Inv (Aj X N' scope cl s H C fp (X.pn++aa)) pins' aO H' s'):Inv X aa σ H' s' :=
 I.call' (ch:=fp) J.os J.base J.aF J.bare λb hb=>⟨(iq b hb).2.2.2.1,(iq b hb).2.1,(iq b hb).2.2.2.2.1,(iq b hb).2.2.2.2.2⟩
end
def iA (X:Cx) (ifs:List Expr) (t:TT):Prop :=
 ∀(aa:LO) (s:Vt) (σ:St) (H:Hp) (Q:Bool->Hp->Prop),Inv X aa σ H s->t σ H Q ->
  wpAny (model X.prog X.w) X.A (forIn ifs true λc r=>if r=true then do let ok ←isTrue c X.env (eval c X.env);pure (ForInStep.yield ok)else pure (ForInStep.yield r)) (TP X aa σ Q) X.xe s
def VU:TT:=λ_ H Q=>Q true H
theorem BM:iA X [] VU:=λaa s σ H Q I h=>wpAny_tests_nil ⟨H,I,h⟩
theorem Gj {c:Expr}{t:TT} (h:PT X c t):iA X [c] t:=λaa s σ H Q I q=>wpAny_tests_one (h aa s σ H Q I q)
def Du (wi:TI) (g:TG) (tt:TT) (te:TE) (ix:List (Option Nat)) (R:Vr->Hp->Prop):St->Hp->Prop:=λσ H=>wi σ H λJ H1=>∃W:Nat->Nat->Vr->Hp->Prop,(∃m,W 0 m [] H1)/\∀i m ys H,W i m ys H ->
 (J.stop i H/\ys.length<=sizeLine/\R ys H) \/
 (J.go i H/\∃N:Vr->Hp->Prop,(∀cW H',N cW H'->cW.length<=sizeLine/\∃m',m'<m/\W (i+1) m' cW H') /\
  ∀x H',J.hX i H x H'->g x (Bq ix σ) H' λcS H2=>tt cS H2 λb H3=>if b=true then te cS H3 λy H4=>N (ys++[y]) H4 else N ys H3)
def jk (X:Cx) (tg:Expr) (ix:List (Option Nat)) (g:TG):Prop :=
 ∀(aa:LO) (s:Vt) (σ:St) (H:Hp) (v:V) (u:Value) (Q:St->Hp->Prop),Inv X aa (Bq ix σ) H s->RelV v u->g v (Bq ix σ) H Q ->
  wpAny (model X.prog X.w) X.A (assign tg X.env u) (λ_ s'=>∃aO H',Inv X aa aO H' s'/\(∀(j:Nat) (v:V),(Bq ix σ)[j]?=some (some v)->aO[j]?=some (some v))/\Q aO H') X.xe s
theorem HK {gK:List (Option Nat)} (h:PG X (.Name x pos) (C1 0)):jk X (.Name x pos) (none::gK) (C1 0):=by
 intro aa s σ H v u Q I r q;refine aH (h aa s _ H v u (λaO H'=>(∀(j:Nat) (v:V),(Bq (none::gK) σ)[j]?=some (some v)->aO[j]?=some (some v))/\Q aO H') I r ⟨λj w e=>?_,q⟩) λ_ s' ⟨aO,H',I',k,q⟩=>⟨aO,H',I',k,q⟩;cases j with
 |zero=>cases e
 |succ j=>exact e
theorem OY {tg:Expr}{gK:List (Option Nat)} (h:PG X tg (QP K 2 (G5 (C1 0) (G5 (C1 1) QO)))):jk X tg (none::none::gK) (QP K 2 (G5 (C1 0) (G5 (C1 1) QO))):=by
 intro aa s σ H v u Q I r q;obtain⟨a,xs,e1,e2,e3,v1,r1,e4,v2,r2,e5,e6,q⟩:=q;refine aH (h aa s _ H v u (λaO H'=>(∀(j:Nat) (v:V),(Bq (none::none::gK) σ)[j]?=some (some v)->aO[j]?=some (some v))/\Q aO H') I r ⟨a,xs,e1,e2,e3,v1,r1,e4,v2,r2,e5,e6,λj w e=>?_,q⟩) λ_ s' ⟨aO,H',I',k,q⟩=>⟨aO,H',I',k,q⟩
 match j with
 |0=>cases e
 |1=>cases e
 |j+2=>exact e
structure UI (RD:Cx->Prop) (P:Program) (w:World) (K:FG) (tg:Expr) (J:It) (fp:List Vs) (it:Vs) (tn:Nat->Heap->Prop):Prop where
 obj:∀i h,tn i h->∀b∈fp,∃o,h.get? b=some o/\∀v,o.data≠ .cell v
 keep:∀i h h',tn i h->(∀b∈fp,∀o,h.get? b=some o->h'.get? b=some o)->tn i h'
 item:∀(X:Cx),X.prog=P->X.w=w->X.K=K->RD X->∀(i:Nat) (aa:LO) (s:Vt) (σ:St) (H:Hp) (E:VS),Inv X aa σ H s->(∀b∈fp,EL X aa H b)->tn i s.heap->J.go i H ->
  wpAny (model P w) X.A (pyNext (.ref it)) (λr s1=>∃u,r=some u/\wpAny (model P w) X.A (letOwnedTupleGo tg (.ref it) u) (λ_ s2=>∃x H',Inv X aa σ H' s2/\RelV x u/\J.hX i H x H'/\tn (i+1) s2.heap/\∀b∈fp,H' b=none) E s1) E s
 done:∀(X:Cx),X.prog=P->X.w=w->X.K=K->RD X->∀(i:Nat) (aa:LO) (s:Vt) (σ:St) (H:Hp) (E:VS),Inv X aa σ H s->(∀b∈fp,EL X aa H b)->tn i s.heap->J.stop i H ->
  wpAny (model P w) X.A (pyNext (.ref it)) (λr s1=>r=none/\Inv X aa σ H s1) E s
 self:∀(A:Around) (i:Nat) (s:Vt) (Q:VS) (E:VS),tn i s.heap->Q (.ref it) s->wpAny (model P w) A (pyIter (.ref it)) Q E s
def PIg (RD:Cx->Prop) (X:Cx) (tg iter:Expr) (wi:TI):Prop:=∀(aa:LO) (s:Vt) (σ:St) (H:Hp) (R:It->Hp->Prop),Inv X aa σ H s->wi σ H R ->
 wpAny (model X.prog X.w) X.A (eval iter X.env) (λv s1=>wpAny (model X.prog X.w) X.A (pyIter v) (λjy s2=>∃(it:Vs) (fp:List Vs) (tn:Nat->Heap->Prop) (J:It) (H':Hp),jy=.ref it/\Inv X aa σ H' s2/\UI RD X.prog X.w X.K tg J fp it tn/\tn 0 s2.heap/\(∀b∈fp,EL X aa H' b)/\R J H') X.xe s1) X.xe s
theorem PI.g {tg iter:Expr}{wi:TI} (h:PI X tg iter wi):PIg (λX=>X.calm=true) X tg iter wi:=λaa s σ H R I q =>
 aH (h aa s σ H R I q) λv s1 z=>aH z λjy s2 ⟨it,fp,tn,J,H',e,I',T,r⟩=>⟨it,fp,tn,J,H',e,I',⟨T.obj,T.keep,T.item,T.done,T.self⟩,r⟩
section
variable {tg iter elt:Expr}{ifs:List Expr}{scope:Scope}{pos':Pos}{N':Vp}{ix:List (Option Nat)}{wi:TI}{g:TG}{tt:TT}
theorem DI {α:Type}{M:Model}{t:Sem α}{Q:α->Vt->Prop}{s:Vt} (h:wpAny M A t Q (λ_ _=>False) s):wpAny M A t Q E s :=
 Zx h (λ_ _ q=>q) λ_ _ z=>z.elim
theorem M1 {RD:Cx->Prop}{use:Option (Value->Sem Unit)}{Qv:VS} (hf:aU X.env.scope scope X.N N' ix) (hc:∀cl s H C fp aa,RD (Aj X N' scope cl s H C fp (X.pn++aa))) (hi:PIg RD X tg iter wi)
  (hg:∀cl s H C fp pn,jk (Aj X N' scope cl s H C fp pn) tg ix g) (ht:∀cl s H C fp pn,iA (Aj X N' scope cl s H C fp pn) ifs tt) (he:∀cl s H C fp pn,PE (Aj X N' scope cl s H C fp pn) elt te)
  (hs:∀x,foldedSetIterable iter X.env x=pure x) {aa:LO}{s:Vt}{σ:St}{H:Hp}{R:Vr->Hp->Prop} (I:Inv X aa σ H s) (h:Du wi g tt te ix R σ H)
  (bw:∀s' ys H' D C m,Inv X aa σ (upd H' D (.lst ys)) s'->R ys H'->H' D=none->s'.heap.Ns C m->X.aI.heap.objs.size<=C->C≠X.env.locals->(∀x c,X.env.cells.lookup x=some c->c≠C)->(∀p∈X.pn++aa,p.1≠C) ->
   upd H' D (.lst ys) C=none->compPost (model X.prog X.w) X.A X.xe use Qv (.ref D) C (.ok .next) s') :
  wpAny (model X.prog X.w) X.A (comprehension (.ListComp elt [⟨tg,iter,ifs,0⟩] scope pos) scope X.env pos' (newList []) false (eval iter X.env) use) Qv X.xe s:=by
 obtain⟨cl,bx,c1,c2⟩:=JB (env:=X.env) (scope:=scope) λy hy hyf=>by
  have:=hf.free y hy hyf;exact I.ok.has y.1 this
 refine wpAny_comprehension_free (use:=use) Zj hs bx hf.kind hf.loc (aH (hi aa s σ H _ I h) λv s1 h1=>aH h1 λjy s2 h2=>?_);obtain⟨it,fp,tn,J,H2,e,I2,T,gz,f2,W,⟨m0,w0⟩,turn⟩:=h2;subst e
 have aX:∀b∈fp,b<s2.heap.objs.size:=λb hb=>by
  obtain⟨o,e,_⟩:=T.obj _ _ gz b hb;exact lt_size e
 refine wpAny_newObj_type (wpAny_newFunctionEnv hf.nocell (by intro y hy;simp at hy) (λdJ c8 cJ=>?_) hf.kind)
 dsimp only at c8 cJ ⊢
 generalize iS:s2.heap.push { cls:=.type "list", dict:=none,data:=.seq ([]:Vq).toArray }=HP at c8 cJ ⊢;have hC:HP.objs.size=s2.heap.objs.size+1:=by rw[←iS,size_push]
 have gN:s2.heap.objs.size≠HP.objs.size:=by rw[hC];exact ZF (Nat.lt_succ_self _)
 have dz:s2.heap.objs.size<=HP.objs.size:=by rw[hC];exact Nat.le_succ _
 have hCne:∀b,b<s2.heap.objs.size->b≠HP.objs.size:=λb hb=>by rw[hC];exact ZF (Nat.lt_succ_of_lt hb)
 have old:∀b o,s2.heap.get? b=some o->dJ.get? b=some o:=λb o e=>cJ.extBut b o (hCne b (lt_size e)) (ZY _ (iS ▸ ZY _ e));have bo:dJ.get? s2.heap.objs.size=some { cls:=.type "list", dict:=none,data:=.seq ([]:Vq).toArray }:=cJ.extBut _ _ gN (ZY _ (iS ▸ ZP _ rfl));generalize hCC:HP.objs.size=C at *;generalize eB:s2.heap.objs.size=D at *;have IX:=Eb (N':=N') (fp:=fp) I2 hf c1 c2 (by rw[eB];exact dz) f2 (by rw[eB];exact aX) (tk:=s2.toks+([]:List (Str×Value)).length) old c8;have hDn:H2 D=none:=I2.aF.fresh (by rw[eB];exact ZA _)
 have gM:D∉ cw X.stack:=λz=>by
  rcases mem_cons.mp (I2.d9 D z)with q |q
  ·have:=I2.lt;rw[←q,eB]at this;exact ZI _ this
  ·exact I2.nofs (by rw[eB];exact ZA _) q
 have c9:∀x c,X.env.cells.lookup x=some c->c<D:=λx c e=>by
  obtain⟨v,z⟩:=I2.cell x c e;rw[←eB];exact z.lt
 have er:∀p∈X.pn++aa,p.1<D:=λp hp=>by rw[←eB];exact lt_size (I2.pin p hp).1
 have jv:X.aI.heap.objs.size<=D:=by rw[←eB];exact I2.sz
 have fk:X.env.locals<D:=by rw[←eB];exact I2.lt
 let X':Cx:=Aj X N' scope cl s2 H2 C fp (X.pn++aa)
 have eX:∀ {H':Hp}{ob:Obj},(∀b∈fp,H' b=none)->∀b∈fp,EL X' [(D,ob)] H' b:=λ{H' ob} hn b hb=>by
  refine⟨hn b hb,ZF (Z2 (aX b hb) dz),λz=>?_,.inl hb,λx c e=>(f2 b hb).2.2.2.2.1 x c (c1 x c e),λp hp=>?_⟩
  ·exact IX.ok.fY b hb z
  ·rcases mem_append.mp hp with z |z
   ·exact(f2 b hb).2.2.2.2.2 p z
   ·have e:p=(D,ob):=by simpa using z
    subst e;exact Nat.ne_of_gt (aX b hb)
 have pinD:∀ {aO:St}{H':Hp}{s':Vt}{ob:Obj},Inv X' [] aO H' s'->s'.heap.get? D=some ob->H' D=none->(∀v,ob.data≠ .cell v)->Inv X' [(D,ob)] aO H' s':=λ{aO H' s' ob} Ia e n d =>
  Ia.cy λp hp=>by
   have q:p=(D,ob):=by simpa using hp
   subst q;exact⟨e,n,gN,gM,d⟩
 have loop:∀s3:Vt,s3={ s2 with heap:=dJ,toks:=s2.toks+([]:List (Str×Value)).length } ->
   codeAny (model X.prog X.w) X.A (.compLoop (.ListComp elt [⟨tg,iter,ifs,0⟩] scope pos) 0 (.ref it) (.ref D) (compEnvC scope cl C X.env)) (compPost (model X.prog X.w) X.A X.xe use Qv (.ref D) C) s3:=by
  rintro s3 rfl
  refine codeAny_loop Zj (λn s'=>∃i ys its k H',Inv X' [(D,({ cls:=.type "list", data:=.seq (List.toArray its) k }:Obj))] (Bq ix σ) H' s'/\tn i s'.heap/\(∀b∈fp,H' b=none)/\W i n ys H'/\Vals ys its)
   (λn s4 hI=>?_) m0 ⟨0,[],[],_,H2,pinD IX bo hDn (λv z=>by cases z),T.keep _ _ _ gz (λb _ o e=>old b o e),λb hb=>(f2 b hb).1,w0,.nil⟩
  obtain⟨i,ys,its,k,H4,I4,jt,jE,w4,rv⟩:=hI;show wpAny _ X.A ((compTurn (.ListComp elt [⟨tg,iter,ifs,0⟩] scope pos) 0 (.ref it) (.ref D) (compEnvC scope cl C X.env)).onRaise (λx=>do noteFrame x (compEnvC scope cl C X.env);theTreesLotGoes x)) _ _ s4;refine wpAny_noted ?_;rw[compTurn_list];refine DI ?_;rcases turn i n ys H4 w4 with⟨stop,hz,r⟩ |⟨go,N,hN,step⟩
  ·refine Zz (ZL (Zz (aH (T.done X' Zj Zj Zj (hc _ _ _ _ _ _) i _ s4 _ H4 _ I4 (eX jE) jt stop) λr' s5 ⟨hr,I5⟩=>?_)));subst hr;have pD:=I5.pin (D,_) (ZU _ ZK);have Ib:Inv X aa σ H4 s5:=EH I2 f2 I5;have Ic:Inv X aa σ (upd H4 D (.lst ys)) s5:=Ib.track pD.2.1 (Nat.ne_of_gt fk) (.inr jv) (λx c e=>ZF (c9 x c e)) (λp hp=>ZF (er p hp)) ⟨hz,its,k,rv,pD.1⟩;obtain⟨m5,n5,_⟩:=I5.loc
   refine Zy (bw s5 ys H4 D C m5 Ic r pD.2.1 n5 (Nat.le_trans jv dz) (Nat.ne_of_gt (Z2 fk dz)) (λx c e=>ZF (Z2 (c9 x c e) dz))
    (λp hp=>ZF (Z2 (er p hp) dz)) ?_)
   rw[AE (Ne.symm gN)];exact I5.free
  ·refine Zz (ZL (Zz (aH (T.item X' Zj Zj Zj (hc _ _ _ _ _ _) i _ s4 _ H4 _ I4 (eX jE) jt go) λr' s5 ⟨u,hr,h5⟩=>?_)));subst hr;refine Zz (aH h5 λ_ s6 ⟨x,H6,I6,r6,y6,iK,fr6⟩=>?_);have I6':=I6.pinned (eX fr6) (T.obj _ _ iK);refine Zz (aH (hg _ _ _ _ _ _ _ s6 _ H6 x u _ I6' r6 (step x H6 y6)) λ_ s7 ⟨eZ,H7,I7,k7,q7⟩=>?_);refine Zz (aH (ht _ _ _ _ _ _ _ s7 eZ H7 _ I7 q7) λb s8 ⟨H8,I8,q8⟩=>?_)
   have again:∀ {H9:Hp}{s9:Vt}{cW:Vr}{its':Vq}{k':Nat},Inv X' ([(D,({ cls:=.type "list", data:=.seq (List.toArray its') k' }:Obj))]++Bs fp s6.heap) eZ H9 s9->Vals cW its' ->
     (∃m',m'<n/\W (i+1) m' cW H9)->∃m,m<n/\∃i ys its k H',Inv X' [(D,({ cls:=.type "list", data:=.seq (List.toArray its) k }:Obj))] (Bq ix σ) H' s9/\tn i s9.heap/\(∀b∈fp,H' b=none)/\W i m ys H'/\Vals ys its:=by
    intro H9 s9 cW its' k' I9 rv' ⟨m',hm,w9⟩;refine⟨m',hm,i+1,cW,its',k',H9,I9.unpinned.weak (I4.len.trans I9.len.symm) k7,T.keep _ _ _ iK λb hb o e=>(I9.pin (b,o) (ZU _ (ZU _ (BX hb e)))).1,λb hb=>?_,w9,rv'⟩;obtain⟨o,e,d⟩:=T.obj _ _ iK b hb;exact(I9.pin (b,o) (ZU _ (ZU _ (BX hb e)))).2.1
   cases b with
   |false =>
    rw[Zs Bool.false_ne_true]at q8;exact Zy ⟨Zj,again I8 rv (hN _ _ q8).2⟩
   |true =>
    rw[Zr rfl]at q8;refine Zz (Zz (aH (he _ _ _ _ _ _ _ s8 eZ H8 _ I8 q8) λy s9 ⟨z,H9,I9,r9,q9⟩=>?_))
    have hz:ys.length<sizeLine:=by
     have:=(hN _ _ q9).1;rw[ZJ,length_singleton]at this;omega
    have pD:=I9.pin (D,_) (ZU _ (ZR _ ZK));have a0:=rv.length;refine Zz (call_meets F.slot_list_append ⟨_,pD.1,Zj⟩ F.entry_list_append (F.args_list_append_2 _ _) (PySem.list_append D its.toArray k y (by rw[size_toArray];omega)) ⟨pD.1,Zy (Zy ⟨Zj,?_⟩)⟩);have eq':its.toArray.push y=(its++[y]).toArray:=by simp
    obtain⟨k',q⟩:∃k',(s9.heap.update D (Obj.mapSeq (·.push y))).get? D=some { cls:=.type "list", data:=.seq (its++[y]).toArray k' }:=⟨_,by rw[←eq'];exact PySem.IsL.update pD.1 (·.push y)⟩;have Iw:Inv X' (Bs fp s6.heap) eZ H9 s9:=I9.cy λp hp=>I9.pin p (ZU _ (ZU _ hp))
    have It:Inv X' (Bs fp s6.heap) eZ H9 { s9 with heap:=s9.heap.update D (Obj.mapSeq (·.push y)),toks:=s9.toks }:=Iw.turned (it:=D) (λb o hb e=>(ZX s9.heap (Obj.mapSeq (·.push y)) (Ne.symm hb)).trans e) pD.2.1 gN
     (.inr (by show s2.heap.objs.size<=D;rw[eB];exact ZA _)) (λx c e=>ZF (c9 x c (c1 x c e))) (λp hp=>by
      rcases mem_append.mp hp with z' |z'
      ·exact ZF (er p z')
      ·exact ZF (aX p.1 (EF z').1))
    refine again (its':=its++[y]) (k':=k') (It.cy λp hp=>?_) (rv.append (.cons r9 .nil)) (hN _ _ q9).2;rcases mem_append.mp hp with z' |z'
    ·have e:p=(D,({ cls:=.type "list", data:=.seq (its++[y]).toArray k' }:Obj)):=by simpa using z'
     subst e;exact⟨q,pD.2.1,gN,gM,λv z=>by cases z⟩
    ·exact It.pin p (ZU _ z')
 exact codeAny_compStart_list (loop _ Zj) (T.self _ 0 _ _ _ (T.keep _ _ _ gz λb _ o e=>old b o e) (loop _ Zj))
theorem M2 {RD:Cx->Prop} (hf:aU X.env.scope scope X.N N' ix) (hc:∀cl s H C fp aa,RD (Aj X N' scope cl s H C fp (X.pn++aa))) (hi:PIg RD X tg iter wi)
  (hg:∀cl s H C fp pn,jk (Aj X N' scope cl s H C fp pn) tg ix g) (ht:∀cl s H C fp pn,iA (Aj X N' scope cl s H C fp pn) ifs tt) (he:∀cl s H C fp pn,PE (Aj X N' scope cl s H C fp pn) elt te)
  (hs:∀x,foldedSetIterable iter X.env x=pure x:=by intro _;rfl) :
  PE X (.ListComp elt [⟨tg,iter,ifs,0⟩] scope pos) (λσ H Q=>Du wi g tt te ix (λys H'=>∀p,H' p=none->Q (.ref p) (upd H' p (.lst ys))) σ H):=by
 intro aa s σ H Q I h;rw[eval_ListComp];refine M1 (use:=none) hf hc hi hg ht he hs I h λs' ys H' D C m I' r hD hn h1 h2 h3 h4 h5=>?_;refine⟨m,hn,λjg hs''=>⟨.ref D,_,I'.turned (it:=C) (t':=s'.toks) (λb o hb e=>(hs''.2 b hb).trans e) h5 h2 (.inr h1) h3 h4,Zj,r D hD⟩⟩
theorem Jw (hf:aU X.env.scope scope X.N N' ix) (hc:X.calm=true) (hi:PI X tg iter wi)
  (hg:∀cl s H C fp pn,jk (Aj X N' scope cl s H C fp pn) tg ix g) (ht:∀cl s H C fp pn,iA (Aj X N' scope cl s H C fp pn) ifs tt) (he:∀cl s H C fp pn,PE (Aj X N' scope cl s H C fp pn) elt te)
  (hs:∀x,foldedSetIterable iter X.env x=pure x:=by intro _;rfl) :
  PE X (.ListComp elt [⟨tg,iter,ifs,0⟩] scope pos) (λσ H Q=>Du wi g tt te ix (λys H'=>∀p,H' p=none->Q (.ref p) (upd H' p (.lst ys))) σ H):=M2 hf (λ_ _ _ _ _ _=>hc) hi.g hg ht he hs
end
abbrev g2 (K:FG):TG:=QP K 2 (G5 (C1 0) (G5 (C1 1) QO))
section
variable {iter elt:Expr}{ifs:List Expr}{scope:Scope}{px py pt:Pos}{wi:TI}{tt:TT}{y:Str}{kt:Nat}
theorem BE (Nc:Vp) (gK:List (Option Nat)) (hf:IQ X.env.scope scope X.N (x::Nc) (none::gK)=true) (iX:(x::Nc).Nodup) (hx:scope.names.lookup x=some .local) (hc:X.calm=true) (hi:PI X (.Name x px) iter wi)
  (ht:∀cl s H C fp pn,iA (Aj X (x::Nc) scope cl s H C fp pn) ifs tt) (he:∀cl s H C fp pn,PE (Aj X (x::Nc) scope cl s H C fp pn) elt te) (hs:∀x,foldedSetIterable iter X.env x=pure x:=by intro _;rfl) :
  PE X (.ListComp elt [⟨.Name x px,iter,ifs,0⟩] scope pos) (λσ H Q=>Du wi (C1 0) tt te (none::gK) (λys H'=>∀p,H' p=none->Q (.ref p) (upd H' p (.lst ys))) σ H) :=
 Jw (aU.of hf) hc hi (λcl s H C fp pn=>HK (Ar (i:=0) iX rfl (.inl (Z5 hx)) (.inr (Z5 hx)))) ht he hs
theorem HM (Nc:Vp) (gK:List (Option Nat)) (hf:IQ X.env.scope scope X.N (x::y::Nc) (none::none::gK)=true) (iX:(x::y::Nc).Nodup) (hx:scope.names.lookup x=some .local) (hy:scope.names.lookup y=some .local) (hc:X.calm=true)
  (hi:PI X (.Tuple [.Name x px,.Name y py] kt pt) iter wi)
  (ht:∀cl s H C fp pn,iA (Aj X (x::y::Nc) scope cl s H C fp pn) ifs tt) (he:∀cl s H C fp pn,PE (Aj X (x::y::Nc) scope cl s H C fp pn) elt te) (hs:∀x,foldedSetIterable iter X.env x=pure x:=by intro _;rfl) :
  PE X (.ListComp elt [⟨.Tuple [.Name x px,.Name y py] kt pt,iter,ifs,0⟩] scope pos) (λσ H Q=>Du wi (g2 X.K) tt te (none::none::gK) (λys H'=>∀p,H' p=none->Q (.ref p) (upd H' p (.lst ys))) σ H) :=
 Jw (aU.of hf) hc hi (λcl s H C fp pn=>OY (Dp (X:=Aj X (x::y::Nc) scope cl s H C fp pn) hc (Az (Ar (i:=0) iX rfl (.inl (Z5 hx)) (.inr (Z5 hx)))
  (Az (Ar (i:=1) iX rfl (.inl (Z5 hy)) (.inr (Z5 hy))) C2)))) ht he hs
end
theorem Bp {g:TG}{tt:TT}{ix:List (Option Nat)}{R:Vr->Hp->Prop}{H1:Hp} (Pv:Nat->Vr->Hp->Prop) (h0:Pv 0 [] H1) (hl:∀i ys H,i<=xs.length->Pv i ys H->aJ K H a xs) (hz:∀i ys H,Pv i ys H->ys.length<=1000)
  (hs:∀i x ys H,xs[i]?=some x->Pv i ys H->g x (Bq ix σ) H λcS H2=>tt cS H2 λb H3=>if b=true then te cS H3 λy H4=>Pv (i+1) (ys++[y]) H4 else Pv (i+1) ys H3) (hd:∀ys H,Pv xs.length ys H->R ys H) :
  ∃W:Nat->Nat->Vr->Hp->Prop,(∃m,W 0 m [] H1)/\∀i m ys H,W i m ys H ->
   ((jJ K a).stop i H/\ys.length<=sizeLine/\R ys H) \/
   ((jJ K a).go i H/\∃N:Vr->Hp->Prop,(∀cW H',N cW H'->cW.length<=sizeLine/\∃m',m'<m/\W (i+1) m' cW H') /\
    ∀x H',(jJ K a).hX i H x H'->g x (Bq ix σ) H' λcS H2=>tt cS H2 λb H3=>if b=true then te cS H3 λy H4=>N (ys++[y]) H4 else N ys H3):=by
 refine⟨λi m ys H=>m=xs.length - i/\i<=xs.length/\Pv i ys H,⟨_,Zj,Nat.zero_le _,h0⟩,?_⟩;rintro i m ys H ⟨rfl,hi,hp⟩;by_cases aX:i<xs.length
 ·have hx:xs[i]?=some xs[i]:=Z7 aX;refine .inr ⟨⟨xs,xs[i],hl i ys H hi hp,hx⟩,Pv (i+1),λcW H' q=>⟨Nat.le_of_lt (AQ (hz _ cW H' q)),xs.length - (i+1),qe,Zj,aX,q⟩,?_⟩;rintro x H' ⟨rfl,hy⟩
  have ex:x=xs[i]:=by
   have:=hy xs (hl i ys H' hi hp);rw[hx]at this;exact(Option.some.inj this).symm
  subst ex;exact hs i xs[i] ys H' hx hp
 ·have e:i=xs.length:=by omega
  subst e;exact .inl ⟨⟨xs,hl _ ys H hi hp,ZA _⟩,Nat.le_of_lt (AQ (hz _ ys H hp)),hd ys H hp⟩
theorem Dv {g:TG}{tt:TT}{ix:List (Option Nat)}{R:Vr->Hp->Prop}{H1:Hp} (Pv:Nat->Vr->Hp->Prop) (h0:Pv 0 [] H1) (hl:∀i ys H,i<=xs.length->Pv i ys H->bZ K H a xs) (hz:∀i ys H,Pv i ys H->ys.length<=1000)
  (hs:∀i x ys H,xs[i]?=some x->Pv i ys H->g x (Bq ix σ) H λcS H2=>tt cS H2 λb H3=>if b=true then te cS H3 λy H4=>Pv (i+1) (ys++[y]) H4 else Pv (i+1) ys H3) (hd:∀ys H,Pv xs.length ys H->R ys H) :
  ∃W:Nat->Nat->Vr->Hp->Prop,(∃m,W 0 m [] H1)/\∀i m ys H,W i m ys H ->
   ((Itt K a).stop i H/\ys.length<=sizeLine/\R ys H) \/
   ((Itt K a).go i H/\∃N:Vr->Hp->Prop,(∀cW H',N cW H'->cW.length<=sizeLine/\∃m',m'<m/\W (i+1) m' cW H') /\
    ∀x H',(Itt K a).hX i H x H'->g x (Bq ix σ) H' λcS H2=>tt cS H2 λb H3=>if b=true then te cS H3 λy H4=>N (ys++[y]) H4 else N ys H3):=by
 refine⟨λi m ys H=>m=xs.length - i/\i<=xs.length/\Pv i ys H,⟨_,Zj,Nat.zero_le _,h0⟩,?_⟩;rintro i m ys H ⟨rfl,hi,hp⟩;by_cases aX:i<xs.length
 ·have hx:xs[i]?=some xs[i]:=Z7 aX;refine .inr ⟨⟨xs,xs[i],hl i ys H hi hp,hx⟩,Pv (i+1),λcW H' q=>⟨Nat.le_of_lt (AQ (hz _ cW H' q)),xs.length - (i+1),qe,Zj,aX,q⟩,?_⟩;rintro x H' ⟨rfl,hy⟩
  have ex:x=xs[i]:=by
   have:=hy xs (hl i ys H' hi hp);rw[hx]at this;exact(Option.some.inj this).symm
  subst ex;exact hs i xs[i] ys H' hx hp
 ·have e:i=xs.length:=by omega
  subst e;exact .inl ⟨⟨xs,hl _ ys H hi hp,ZA _⟩,Nat.le_of_lt (AQ (hz _ ys H hp)),hd ys H hp⟩
theorem HN {lo:Int}{n:Nat}{g:TG}{tt:TT}{ix:List (Option Nat)}{R:Vr->Hp->Prop}{H1:Hp} (Pv:Nat->Vr->Hp->Prop) (h0:Pv 0 [] H1) (hz:∀i ys H,Pv i ys H->ys.length<=1000)
  (hs:∀(i:Nat) ys H,i<n->Pv i ys H->g (.int (lo+i)) (Bq ix σ) H λcS H2=>tt cS H2 λb H3=>if b=true then te cS H3 λy H4=>Pv (i+1) (ys++[y]) H4 else Pv (i+1) ys H3) (hd:∀ys H,Pv n ys H->R ys H) :
  ∃W:Nat->Nat->Vr->Hp->Prop,(∃m,W 0 m [] H1)/\∀i m ys H,W i m ys H ->
   ((Itr lo n).stop i H/\ys.length<=sizeLine/\R ys H) \/
   ((Itr lo n).go i H/\∃N:Vr->Hp->Prop,(∀cW H',N cW H'->cW.length<=sizeLine/\∃m',m'<m/\W (i+1) m' cW H') /\
    ∀x H',(Itr lo n).hX i H x H'->g x (Bq ix σ) H' λcS H2=>tt cS H2 λb H3=>if b=true then te cS H3 λy H4=>N (ys++[y]) H4 else N ys H3):=by
 refine⟨λi m ys H=>m=n - i/\i<=n/\Pv i ys H,⟨_,Zj,Nat.zero_le _,h0⟩,?_⟩;rintro i m ys H ⟨rfl,hi,hp⟩;by_cases aX:i<n
 ·refine .inr ⟨aX,Pv (i+1),λcW H' q=>⟨Nat.le_of_lt (AQ (hz _ cW H' q)),n - (i+1),qe,Zj,aX,q⟩,?_⟩;rintro x H' ⟨rfl,rfl⟩;exact hs i ys H' aX hp
 ·have e:i=n:=by omega
  subst e;exact .inl ⟨ZA _,Nat.le_of_lt (AQ (hz _ ys H hp)),hd ys H hp⟩
section
variable {s:Vt}{o:Obj}{kvs:LK}
theorem Inv.newOk (I:Inv X aa σ H s) {p:Vs} (hp:s.heap.objs.size<=p):H p=none/\p≠X.env.locals/\X.aI.heap.objs.size<=p/\(∀x c,X.env.cells.lookup x=some c->c≠p)/\∀q∈X.pn++aa,q.1≠p :=
 ⟨I.aF.fresh hp,Nat.ne_of_gt (Z2 I.lt hp),Nat.le_trans I.sz hp,λx c e=>by
  obtain⟨v,z⟩:=I.cell x c e
  exact ZF (Z2 z.lt hp),λq hq=>ZF (Z2 (lt_size (I.pin q hq).1) hp)⟩
theorem Inv.freeze (I:Inv X aa σ H s) (h:H a=some (.dK kvs)):∃o,Inv X aa σ (upd H a (.cH o (.dK kvs))) s:=by
 obtain⟨z,y,vs,r,ob,es,ep,e,rest⟩:=I.aF a _ h;refine⟨ob,?_⟩;exact I.write (x:=a) (e:=a) (o:=.cH ob (.dK kvs)) (h':=s.heap) (t':=s.toks) (by rw[h];exact trivial) (.inl Zj) (λb u _ q=>q) ⟨ob,e⟩ ⟨e,z,y,vs,r,ob,es,ep,e,rest⟩
theorem CC {sts:List Stmt}{t:TS} (h:eI X sts t):eI X sts (λD σ H=>∃a kvs,H a=some (.dK kvs)/\∀o,t D σ (upd H a (.cH o (.dK kvs)))):=by
 intro aa s σ H D I ⟨a,kvs,e,k⟩;obtain⟨o,I'⟩:=I.freeze e;exact h aa s σ _ D I' (k o)
noncomputable def M3 (o:Obj):Nat:=match o.data with
 | .dict _ ep=>ep
 |_=>0
theorem DJ (I:Inv X aa σ H s) (h:H a=some (.cH o (.dK kvs))):kvs.length<=sizeLine/\(a==sysModules)=false/\∃vs,KV kvs vs/\s.heap.DictAt (Ad X.prog X.w) a vs (M3 o):=by
 obtain⟨e,z,y,vs,r,ob,es,ep,e2,ex,d,rest⟩:=I.aF a _ h;rw[e]at e2;cases e2;refine⟨z,y,vs,r,o,es,e,ex,?_,rest⟩;show o.data=.dict es (M3 o);unfold M3;rw[d]
end
theorem KV.get {κ:Type}:∀ {kvs:List (κ×V)}{vs:List (κ×Value)}{i:Nat}{kv:κ×V},KV kvs vs->kvs[i]?=some kv->∃v,vs[i]?=some (kv.1,v)/\RelV kv.2 v
 |_,_,_,_,.nil,e=>by simp at e
 |_,_,0,_,.cons r _,e=>by
  simp only[List.getElem?_cons_zero,Option.some.injEq]at e;subst e;rename_i q _ _ _;exact⟨q.2,by rw[r.1];rfl,r.2⟩
 |_,_,i+1,kv,.cons _ t,e=>by
  obtain⟨u,h1,h2⟩:=KV.get (i:=i) (kv:=kv) (show KV _ _ from t) (by simpa using e);exact⟨u,by simpa using h1,h2⟩
theorem E6 {k:Key} (h:(Ad P w).is k u=true):RelV (kV k) u:=by
 rcases A2 (show Gy k u=true from h)with⟨i,t,rfl,rfl⟩ |⟨x,t,rfl,rfl⟩
 ·exact⟨t,Zj⟩
 ·exact⟨t,Zj⟩
noncomputable def Iti (a:Vs) (o:Obj) (kvs:LK):It:=⟨λi H=>H a=some (.cH o (.dK kvs))/\i<kvs.length,λi H x H'=>∃p kv,H p=none/\x=.ref p/\kvs[i]?=some kv/\H'=upd H p (.tup [kV kv.1,kv.2]),
 λi H=>H a=some (.cH o (.dK kvs))/\kvs.length<=i⟩
theorem K3 {elts:List Expr}{k0:Nat} (a it:Vs) (o:Obj) (kvs:LK) :
  Jl P w K (.Tuple elts k0 pos) (Iti a o kvs) [it] it (λi h=>∃ok ov,IsItemIter h it a i kvs.length (M3 o) ok ov) where
 mem:=by simp
 obj:=λi h st b hb=>by
  have e:b=it:=by simpa using hb
  subst e;obtain⟨ok,ov,e⟩:=st;exact⟨_,e,λv z=>by cases z⟩
 keep:=λi h h' st k=>by
  obtain⟨ok,ov,e⟩:=st;exact⟨ok,ov,k it (by simp) _ e⟩
 item:=by
  intro X hP hw hK hc i aa s σ H E I hf st hg;subst hP hw hK;obtain⟨ie,hi⟩:=hg;obtain⟨z,y,vs,rel,dd⟩:=DJ I ie;obtain⟨ok,ov,st⟩:=st;have a0:=rel.length;obtain⟨kv,gG⟩:∃kv,kvs[i]?=some kv:=⟨_,Z7 hi⟩;obtain⟨v,hv,rv⟩:=KV.get rel gG;obtain⟨f0,f1,f2,f3,f4,f5⟩:=hf it (by simp);rw[a0]at st;have aX:it<s.heap.objs.size:=lt_size st;refine wpAny_pyNext_items_item st dd hv λkey h' bv gA hp hsz keep=>?_;have I1:Inv X aa σ H { s with heap:=h' }:=I.turned (t':=s.toks) keep f0 f1 f3 f4 f5;obtain⟨n1,n2,n3,n4,n5⟩:=I.newOk (ZA s.heap.objs.size);have I2:Inv X aa σ (upd H s.heap.objs.size (.tup [kV kv.1,kv.2])) { s with heap:=h' }:=I1.track n1 n2 (.inr n3) n4 n5 ⟨by show 2<=sizeLine;decide,[key,v],.cons (E6 bv) (.cons rv .nil),_,hp,rfl,_,rfl⟩;have fi:(upd H s.heap.objs.size (.tup [kV kv.1,kv.2])) it=none:=by rw[AE (ZF aX)];exact f0
  refine⟨.ref s.heap.objs.size,Zj,wpAny_letOwnedTupleGo_items gA λjg st'' sb=>?_⟩;refine⟨.ref s.heap.objs.size,_,I2.turned (it:=it) (t':=s.toks) (λb o hb e=>(sb.2 b hb).trans e) fi f1 f3 f4 f5,Zj,⟨_,kv,n1,Zj,gG,Zj⟩,⟨key,v,by rw[a0];exact st''⟩,λb hb=>?_⟩;have e:b=it:=by simpa using hb
  rw[e];exact fi
 done:=by
  intro X hP hw hK hc i aa s σ H E I hf st hg;subst hP hw hK;obtain⟨ie,hi⟩:=hg;obtain⟨z,y,vs,rel,dd⟩:=DJ I ie;obtain⟨ok,ov,st⟩:=st;have a0:=rel.length;rw[a0]at st;obtain⟨f0,f1,f2,f3,f4,f5⟩:=hf it (by simp);exact wpAny_pyNext_items_end (I.ok.hd hc) st dd (List.getElem?_eq_none_iff.mpr qe) λh' eb=>⟨Zj,I.turned (t':=s.toks) (λb o hb e=>eb b o hb e) f0 f1 f3 f4 f5⟩
 self:=λ_ _ _ _ _ st h=>by
  obtain⟨ok,ov,e⟩:=st;exact W.kcp_self e h
def Sm (to:TE):TI:=λσ H R=>to σ H λx H1=>∃a o kvs,x=.ref a/\H1 a=some (.cH o (.dK kvs))/\R (Iti a o kvs) H1
theorem OZ {elts:List Expr}{k0:Nat}{o:Expr}{to:TE}{apos dY:Pos} (ho:PE X o to) (bh:attributeBase o "items" X.env (eval o X.env)=eval o X.env:=by rfl) (bp:(apos.endLine==dY.line)=true:=by rfl) :
  PI X (.Tuple elts k0 pos) (.Call (.Attribute o "items" apos) [] [] dY) (Sm to):=by
 intro aa s σ H R I h;refine wpAny_Call_method0_late bh bp (aH (ho aa s σ H _ I h) λv s1 ⟨x,H1,I1,r1,a,ob,kvs,ex,ie,q⟩=>?_);subst ex;cases r1;obtain⟨t1,t2,_⟩:=OX I1 (.inl ⟨kvs,.inr ⟨ob,ie⟩⟩);obtain⟨z,y,vs,rel,dd⟩:=DJ I1 ie;refine⟨"dict", "dict.items", PySem.F.plainAttrs_dict,PySem.F.slot_dict_items,PySem.F.type_dict_items,t1,t2,Calls.callWith_builtin rfl (PySem.evalArgs_none (call_meetsIn PySem.F.slot_dict_items t1 PySem.F.entry_dict_items (PySem.F.args_dict_items_1 _) (meets_dict_items (Ad X.prog X.w) a y) ⟨⟨vs,dd.dictOf⟩,?_⟩))⟩;have I2:Inv X aa σ H1 { s1 with heap:=s1.heap.push { cls:=.type "dict_items", data:=.fields #[.ref a] } }:=I1.kept (t':=s1.toks) λb o e=>ZY _ e;refine wpAny_pyIter_items (knd:=Ad X.prog X.w) (d:=a) (kvs:=vs) (ep:=M3 ob) ⟨_,ZP _ rfl,rfl,rfl⟩ (dd.push _) ?_;refine⟨_,[_],_,_,H1,rfl,I2.kept (t':=s1.toks) λb o e=>ZY _ e,K3 a _ ob kvs,⟨.none,.none,by rw[rel.length];exact ZP _ rfl⟩,λb hb=>?_,q⟩;have e:b=(s1.heap.push { cls:=.type "dict_items", data:=.fields #[.ref a] }).objs.size:=by simpa using hb
 subst e;exact I2.gD (ZA _) (I2.aF.fresh (ZA _))
noncomputable def jK (K:FG) (a:Vs):It:=⟨λi H=>∃xs x,aJ K H a xs/\xs[i]?=some x,λi H x H'=>∃p y,H p=none/\x=.ref p/\(∀xs,aJ K H a xs->xs[i]?=some y)/\H'=upd H p (.tup [.int i,y]),λi H=>∃xs,aJ K H a xs/\xs.length<=i⟩
theorem M4 {elts:List Expr}{k0:Nat} (a e it:Vs) (aw:e≠it) :
  Jl P w K (.Tuple elts k0 pos) (jK K a) [e,it] e (λi h=>∃old,IsEnum h e it i old/\h.IsListIter it a i) where
 mem:=by simp
 obj:=λi h st b hb=>by
  obtain⟨old,e1,o,e2,c,d⟩:=st;have iQ:b=e\/b=it:=by simpa using hb
  rcases iQ with rfl |rfl
  ·exact⟨_,e1,λv z=>by cases z⟩
  ·exact⟨o,e2,λv z=>by rw[d]at z;cases z⟩
 keep:=λi h h' st k=>by
  obtain⟨old,e1,e2⟩:=st;exact⟨old,k e (by simp) _ e1,e2.at λo q=>k it (by simp) o q⟩
 item:=by
  intro X hP hw hK hc i aa s σ H E I hf st hg;subst hP hw hK;obtain⟨xs,x,hq,hx⟩:=hg;obtain⟨its,rv,p,hz⟩:=I.list hq;obtain⟨u,hu,ru⟩:=rv.get hx;obtain⟨old,s1,s2⟩:=st;obtain⟨f0,f1,f2,f3,f4,f5⟩:=hf e (by simp);obtain⟨g0,g1,g2,g3,g4,g5⟩:=hf it (by simp);have aX:e<s.heap.objs.size:=lt_size s1;have hlt2:it<s.heap.objs.size:=by obtain⟨o,q,_⟩:=id s2;exact lt_size q
  refine wpAny_pyNext_enum_item s1 s2 p.isList (x:=u) (by simpa using hu) aw λh' gA st2' hp hsz keep=>?_
  have I1:Inv X aa σ H { s with heap:=h',toks:=s.toks+1 }:=by
   refine I.step (H':=H) (g':=s.gens) (d':=s.drawn) (ch:=[e,it]) (λb hb=>?_) (λb o _ _ hb q _=>keep b o (by simp at hb;exact hb.1) (by simp at hb;exact hb.2) q) (λb o _ _ hb q _=>⟨o.slots,keep b o (by simp at hb;exact hb.1) (by simp at hb;exact hb.2) q⟩)
    (λ_ _ _ _ n=>n) (λb o hb q=>⟨o,keep b o (by simp at hb;exact hb.1) (by simp at hb;exact hb.2) q⟩) (λ_ _ q=>q) (λ_ _ _ q=>q) (λb ps q=>⟨#[],by rw[q];simp⟩) (λm hm=>?_) (λb u q=>?_) I.bare
   ·have iQ:b=e\/b=it:=by simpa using hb
    rcases iQ with rfl |rfl
    ·exact⟨f3,f1,f4,f5⟩
    ·exact⟨g3,g1,g4,g5⟩
   ·obtain⟨oL,es,ep,jB,r⟩:=hm;exact⟨oL,es,ep,keep _ oL (Ne.symm f1) (Ne.symm g1) jB,r⟩
   ·have ne1:∀c v,H c=some v->c≠e/\c≠it:=λc v q=>⟨AJ q f0,AJ q g0⟩;refine(I.aF b u q).fc (λc v hc q'=>keep c v ?_ ?_ q') (λ_ q=>q) λ_ _ q=>q
    ·rcases hc with z |z
     ·rw[z];exact(ne1 b u q).1
     ·exact(ne1 c _ z).1
    ·rcases hc with z |z
     ·rw[z];exact(ne1 b u q).2
     ·exact(ne1 c _ z).2
  obtain⟨n1,n2,n3,n4,n5⟩:=I.newOk (ZA s.heap.objs.size);have I2:Inv X aa σ (upd H s.heap.objs.size (.tup [.int i,x])) { s with heap:=h',toks:=s.toks+1 }:=I1.track n1 n2 (.inr n3) n4 n5 ⟨by show 2<=sizeLine;decide,[.int i s.toks,u],.cons ⟨_,rfl⟩ (.cons ru .nil),_,hp,rfl,_,rfl⟩;have fe:(upd H s.heap.objs.size (.tup [.int i,x])) e=none:=by rw[AE (ZF aX)];exact f0
  have fi:(upd H s.heap.objs.size (.tup [.int i,x])) it=none:=by rw[AE (ZF hlt2)];exact g0
  refine⟨.ref s.heap.objs.size,Zj,wpAny_letOwnedTupleGo_enum gA λjg st'' sb=>?_⟩;refine⟨.ref s.heap.objs.size,_,I2.turned (it:=e) (t':=s.toks+1) (λb o hb q=>(sb.2 b hb).trans q) fe f1 f3 f4 f5,Zj,⟨_,x,n1,Zj,λys hy=>by rw[I.list_inj hy hq];exact hx,Zj⟩,⟨_,by exact_mod_cast st'',st2'.extBut sb.extBut (Ne.symm aw)⟩,λb hb=>?_⟩;have iQ:b=e\/b=it:=by simpa using hb
  rcases iQ with rfl |rfl
  ·exact fe
  ·exact fi
 done:=by
  intro X hP hw hK hc i aa s σ H E I hf st hg;subst hP hw hK;obtain⟨xs,hq,hx⟩:=hg;obtain⟨its,rv,p,hz⟩:=I.list hq;obtain⟨old,s1,s2⟩:=st;obtain⟨g0,g1,g2,g3,g4,g5⟩:=hf it (by simp);have hl:=rv.length;exact wpAny_pyNext_enum_end (I.ok.hd hc) s1 s2 p.isList (by simp;omega) λh' eb=>⟨Zj,I.turned (t':=s.toks) (λb o hb e=>eb b o hb e) g0 g1 g3 g4 g5⟩
 self:=λ_ _ _ _ _ st h=>by
  obtain⟨old,e1,_⟩:=st;exact wpAny_pyIter_enum e1 h
def UJ (K:FG) (tl:TA):TI:=λσ H R=>tl σ H λvs H1=>∃a,vs=[.ref a]/\(∃xs,aJ K H1 a xs)/\R (jK K a) H1
theorem JC {elts:List Expr}{k0:Nat}{p dY:Pos}{l:Expr}{tl:TA} (hg:Gl X "enumerate") (hm:X.mg "enumerate" = none) (hl:PA X [l] tl) (hs:starEach [l] X.env=[(false,eval l X.env)]:=by rfl) :
  PI X (.Tuple elts k0 pos) (.Call (.Name "enumerate" p) [l] [] dY) (UJ X.K tl):=by
 intro aa s σ H R I h;refine Z3 (EY (u:=.type "enumerate") I hg hm qb ?_);refine PyProof.Rows.callWith_type1 (aH (hl dY aa s σ H _ I h) λus s1 ⟨vs,H1,I1,r1,a,ev,⟨xs,hq⟩,q⟩=>?_) hs rfl;subst ev;obtain⟨u,rfl,ru⟩:=CZ r1;cases ru;obtain⟨its,rv,pl,hz⟩:=I1.list hq;refine call_enumerate_list pl.isList λh' he hi hsz keep=>?_;refine wpAny_pyIter_enum he ?_;have I2:Inv X aa σ H1 { s1 with heap:=h' }:=I1.kept (t':=s1.toks) keep;refine⟨_,[s1.heap.objs.size+1,s1.heap.objs.size],_,_,H1,rfl,I2,M4 a _ _ (Nat.succ_ne_self _),⟨_,he,hi⟩,λb hb=>?_,q⟩;have iQ:b=s1.heap.objs.size+1\/b=s1.heap.objs.size:=by simpa using hb
 rcases iQ with rfl |rfl
 ·exact I1.gD (Nat.le_succ _) (I1.aF.fresh (Nat.le_succ _))
 ·exact I1.gD (ZA _) (I1.aF.fresh (ZA _))
noncomputable def Its (x:Str):It:=⟨λi _=>i<x.cps.size,λi H v H'=>H'=H/\∃c,x.cps[i]?=some c/\v=.str ⟨#[c]⟩,λi _=>x.cps.size<=i⟩
theorem Oa {n:Str} (it:Vs) (x:Str) (t:Tok) :
  Jl P w K (.Name n pos) (Its x) [it] it (λi h=>h.IsStrIter it "str_ascii_iterator" x t i) where
 mem:=by simp
 obj:=λi h st b hb=>by
  have e:b=it:=by simpa using hb
  subst e;obtain⟨o,e,c,d⟩:=st;exact⟨o,e,λv z=>by rw[d]at z;cases z⟩
 keep:=λi h h' st k=>by
  obtain⟨o,e,r⟩:=st;exact⟨o,k it (by simp) o e,r⟩
 item:=by
  intro X hP hw hK hc i aa s σ H E I hf st hg;subst hP hw hK;have hi:i<x.cps.size:=hg;obtain⟨f0,f1,f2,f3,f4,f5⟩:=hf it (by simp);refine wpAny_pyNext_ascii_item st (Array.getElem?_eq_getElem hi) λh' gA sb=>?_;refine⟨_,Zj,Zy ⟨.str ⟨#[x.cps[i]]⟩,H,I.turned (t':=s.toks+1) (λb o hb e=>(sb.2 b hb).trans e) f0 f1 f3 f4 f5,⟨_,Zj⟩,⟨Zj,_,Array.getElem?_eq_getElem hi,Zj⟩,gA,λb hb=>(hf b hb).1⟩⟩
 done:=by
  intro X hP hw hK hc i aa s σ H E I hf st hg;subst hP hw hK;have hi:x.cps.size<=i:=hg;obtain⟨f0,f1,f2,f3,f4,f5⟩:=hf it (by simp);exact wpAny_pyNext_ascii_end (I.ok.hd hc) st (Array.getElem?_eq_none hi) λh' eb=>⟨Zj,I.turned (t':=s.toks) (λb o hb e=>eb b o hb e) f0 f1 f3 f4 f5⟩
 self:=λ_ _ _ _ _ st h=>wpAny_pyIter_striter_ascii st h
def VV (ts:TE):TI:=λσ H R=>ts σ H λv H1=>∃x,v=.str x/\x.cps.all (· < 128)=true/\R (Its x) H1
theorem Ob {n:Str}{ts:TE} (he:PE X e ts):PI X (.Name n pos) e (VV ts):=by
 intro aa s σ H R I h;refine aH (he aa s σ H _ I h) λv s1 ⟨z,H1,I1,r1,x,ez,ha,q⟩=>?_;subst ez;obtain⟨t,rfl⟩:=r1;refine wpAny_pyIter_ascii ha ?_;refine⟨s1.heap.objs.size,[s1.heap.objs.size],_,_,H1,Zj,I1.kept (t':=s1.toks) λb o e=>ZY _ e,Oa _ x t,⟨_,ZP _ Zj,Zj,Zj⟩,λb hb=>?_,q⟩;have e:b=s1.heap.objs.size:=by simpa using hb
 subst e;exact I1.gD (ZA _) (I1.aF.fresh (ZA _))
noncomputable def L8 (a p:Vs):HO:=.ext λh=>h.IsItemsView p a
noncomputable def L9 (a p:Vs):HO:=.ext λh=>h.IsValuesView p a
section
variable {o:Expr}{to:TE}{name:Str}{apos dY:Pos}{id:String}{r:V->Vr->Hp->VK->Prop}
theorem K4 (slot:Slot "dict" name id) (hty:typeOf (.builtin id)=pure (.type "method_descriptor")) (hm:gJ X id r) (ho:PE X o to)
  (bh:attributeBase o name X.env (eval o X.env)=eval o X.env:=by rfl) (bp:(apos.endLine==dY.line)=true:=by rfl) :
  PE X (.Call (.Attribute o name apos) [] [] dY) (λσ H Q=>to σ H λx H1=>∃a,x=.ref a/\IsD H1 a/\r x [] H1 Q):=by
 intro aa s σ H Q I h;refine wpAny_Call_method0_late bh bp (aH (ho aa s σ H _ I h) λv s1 ⟨x,H1,I1,r1,a,ex,d,q1⟩=>?_);subst ex;cases r1;obtain⟨t1,t2,_⟩:=OX I1 d;exact⟨"dict", id,PySem.F.plainAttrs_dict,slot,hty,t1,t2,Calls.callWith_builtin Zj (PySem.evalArgs_none (hm aa s1 σ H1 (.ref a) [] (.ref a) [] Q I1 Zj .nil q1))⟩
theorem Oc:gJ X "dict.items" (λx xs H Q=>∃a kvs,x=.ref a/\xs=[]/\Rd H a (.dK kvs)/\∀p,H p=none->Q (.ref p) (upd H p (L8 a p))):=by
 intro aa s σ H x xs v us Q I rx rs h;obtain⟨a,kvs,rfl,rfl,hd,q⟩:=h;cases rx;cases rs;obtain⟨z,y,vs,rel,dd⟩:=DH I.aF hd;refine call_meetsIn PySem.F.slot_dict_items dd.typeIs PySem.F.entry_dict_items (PySem.F.args_dict_items_1 _) (meets_dict_items (Ad X.prog X.w) a y) ⟨⟨vs,dd⟩,?_⟩;refine⟨.ref s.heap.objs.size,_,I.laid (t':=s.toks) (o:=L8 a s.heap.objs.size) (λb o e=>ZY _ e) (ZA _) ⟨⟨_,ZP _ Zj,Zj,Zj⟩,⟨_,ZP _ Zj⟩,λh1 h2 z k=>?_⟩,Zj,q _ (I.aF.fresh (ZA _))⟩;obtain⟨ob,e,r⟩:=z;exact⟨ob,k ob e,r⟩
theorem IS:gJ X "dict.values" (λx xs H Q=>∃a kvs,x=.ref a/\xs=[]/\Rd H a (.dK kvs)/\∀p,H p=none->Q (.ref p) (upd H p (L9 a p))):=by
 intro aa s σ H x xs v us Q I rx rs h;obtain⟨a,kvs,rfl,rfl,hd,q⟩:=h;cases rx;cases rs;obtain⟨z,y,vs,rel,dd⟩:=DH I.aF hd;refine call_meetsIn PySem.F.slot_dict_values dd.typeIs PySem.F.entry_dict_values (PySem.F.args_dict_values_1 _) (meets_dict_values (Ad X.prog X.w) a y) ⟨⟨vs,dd⟩,?_⟩;refine⟨.ref s.heap.objs.size,_,I.laid (t':=s.toks) (o:=L9 a s.heap.objs.size) (λb o e=>ZY _ e) (ZA _) ⟨⟨_,ZP _ Zj,Zj,Zj⟩,⟨_,ZP _ Zj⟩,λh1 h2 z k=>?_⟩,Zj,q _ (I.aF.fresh (ZA _))⟩;obtain⟨ob,e,r⟩:=z;exact⟨ob,k ob e,r⟩
theorem Cg {α β:Type}{F:α->β->Prop}:∀ {xs:List α}{ys:List β},xs.length=ys.length->(∀(j:Nat) x y,xs[j]?=some x->ys[j]?=some y->F x y)->Paired F xs ys
 | [],[],_,_=>.nil
 | [],_::_,h,_=>by simp at h
 |_::_,[],h,_=>by simp at h
 |x::xs,y::ys,h,k=>.cons (k 0 x y rfl rfl) (Cg (by simpa using h) λj a b ea eb=>k (j+1) a b (by simpa using ea) (by simpa using eb))
theorem K5 (hc:X.calm=true):Be X (.type "list") (λxs H Q=>∃a kvs,xs=[.ref a]/\Rd H a (.dK kvs)/\∀l,H l=none->Q (.ref l) (upd H l (.lst (kvs.map λkv=>kV kv.1)))):=by
 intro aa s σ H xs us Q I r h;obtain⟨a,kvs,rfl,hd,q⟩:=h;obtain⟨u,rfl,ru⟩:=CZ r;cases ru;obtain⟨z,y,vs,rel,dd⟩:=DH I.aF hd;obtain⟨ep,da⟩:=dd.dictAt;have hl:=rel.length;refine W.kdl_call (W.kdl_dict (knd:=Ad X.prog X.w) (kvs:=vs) (ep:=ep) y) (I.ok.hd hc) da (by rw[←hl];exact z) λh' tk acc c' keep e hit=>?_;refine⟨.ref s.heap.objs.size,_,I.laid (t':=tk) keep (ZA _) (show aP X.prog X.w _ h' _ (.lst (kvs.map λkv=>kV kv.1))from⟨by rw[AK];exact z,acc.toList,c',?_,by rw[Array.toArray_toList];exact e⟩),Zj,q _ (I.aF.fresh (ZA _))⟩
 refine Cg (by have e0:acc.toList.length=acc.size:=by simp
               rw[AK,e0,hit.1,hl]) λj v w' ev ew=>?_
 rw[Array.getElem?_toList]at ew;obtain⟨k,x,ex,hk⟩:=hit.2 j w' ew;rw[ZH]at ev;cases e2:kvs[j]? with
 |none=>rw[e2]at ev;cases ev
 |some kv =>
  rw[e2]at ev;simp only[Option.map_some,Option.some.injEq]at ev;obtain⟨v2,gg,_⟩:=KV.get rel e2;rw[ex]at gg;simp only[Option.some.injEq,Prod.mk.injEq]at gg;rw[←ev,←gg.1];exact E6 hk
theorem HQ (hc:X.calm=true):Be X (.type "list") (λxs H Q=>∃p a kvs,xs=[.ref p]/\H p=some (L9 a p)/\Rd H a (.dK kvs)/\∀l,H l=none->Q (.ref l) (upd H l (.lst (kvs.map (·.2))))):=by
 intro aa s σ H xs us Q I r h;obtain⟨p,a,kvs,rfl,hp,hd,q⟩:=h;obtain⟨u,rfl,ru⟩:=CZ r;cases ru;obtain⟨z,y,vs,rel,dd⟩:=DH I.aF hd;obtain⟨ep,da⟩:=dd.dictAt;obtain⟨hv,_⟩:=I.aF p _ hp;have hl:=rel.length;refine W.kdl_call (W.kdl_values (knd:=Ad X.prog X.w) (d:=a) (kvs:=vs) (ep:=ep)) (I.ok.hd hc) ⟨hv,da⟩ (by rw[←hl];exact z) λh' tk acc c' keep e hit=>?_;refine⟨.ref s.heap.objs.size,_,I.laid (t':=tk) keep (ZA _) (show aP X.prog X.w _ h' _ (.lst (kvs.map (·.2)))from⟨by rw[AK];exact z,acc.toList,c',?_,by rw[Array.toArray_toList];exact e⟩),Zj,q _ (I.aF.fresh (ZA _))⟩
 refine Cg (by have e0:acc.toList.length=acc.size:=by simp
               rw[AK,e0,hit.1,hl]) λj v w' ev ew=>?_
 rw[Array.getElem?_toList]at ew;obtain⟨k,ex⟩:=hit.2 j w' ew;rw[ZH]at ev;cases e2:kvs[j]? with
 |none=>rw[e2]at ev;cases ev
 |some kv =>
  rw[e2]at ev;simp only[Option.map_some,Option.some.injEq]at ev;obtain⟨v2,gg,rv2⟩:=KV.get rel e2;rw[ex]at gg;simp only[Option.some.injEq,Prod.mk.injEq]at gg;rw[←ev,gg.2];exact rv2
theorem JD (hc:X.calm=true):Be X (.builtin "sorted") (λxs H Q=>∃a kvs,xs=[.ref a]/\Rd H a (.dK kvs)/\kvs.length<64/\(∀kv∈kvs,∃i,kv.1=Sum.inl i) /\
  ∀(l:Vs) (ns:List Int),H l=none->ns.Perm (kvs.map λkv=>match kv.1 with |Sum.inl i=>i |Sum.inr _=>0)->ns.Pairwise (· <= ·)->Q (.ref l) (upd H l (.lst (ns.map V.int)))):=by
 intro aa s σ H xs us Q I r h;obtain⟨a,kvs,rfl,hd,h64,hk,q⟩:=h;obtain⟨u,rfl,ru⟩:=CZ r;cases ru;obtain⟨z,y,vs,rel,dd⟩:=DH I.aF hd;obtain⟨ep,da⟩:=dd.dictAt;have hl:=rel.length;refine Calls.call_function_entry kind_sorted plain_sorted entry_sorted (args_sorted1 _) ?_;unfold Builtin.«sorted»;refine Zz (m:=checkCount "sorted" 1 1 _) (Zy ?_);refine Zz (W.kdu_collect (A:=X.A.in1) (W.kdl_dict (knd:=Ad X.prog X.w) (kvs:=vs) (ep:=ep) y) (I.ok.hd hc) da (by rw[←hl];exact z) λh' tk acc keep hit=>?_)
 have au:acc.toList.length=kvs.length:=by
  have e0:acc.toList.length=acc.size:=by simp
  rw[e0,hit.1,hl]
 refine Zz (wpAny_newList ?_ (by rw[au];exact z))
 have bn:IntsAre acc.toList (kvs.map λkv=>match kv.1 with |Sum.inl i=>i |Sum.inr _=>0):=by
  refine DU (Cg (by rw[AK,AK,au]) λj v w' ev ew=>?_);rw[Array.getElem?_toList]at ew;obtain⟨k,x,ex,hkk⟩:=hit.2 j w' ew;rw[ZH,ZH]at ev;cases e2:kvs[j]? with
  |none=>rw[e2]at ev;cases ev
  |some kv =>
   rw[e2]at ev;simp only[Option.map_some,Option.some.injEq]at ev;obtain⟨v2,gg,_⟩:=KV.get rel e2;rw[ex]at gg;simp only[Option.some.injEq,Prod.mk.injEq]at gg;obtain⟨i,hi⟩:=hk kv (ZS e2);rw[gg.1,hi]at hkk;rw[←ev,hi];exact E6 hkk
 have I1:Inv X aa σ H { s with heap:=h',toks:=tk }:=I.kept keep;have jB:(h'.push { cls:=.type "list", data:=.seq acc.toList.toArray }).get? h'.objs.size=some (seqObj "list" acc.toList.toArray 0):=ZP _ rfl;refine Zz (ZM (wpAny_call_entry slot_list_sort ⟨_,jB,Zj⟩ entry_list_sort (list_sort_tree jB bn (by rw[au];exact h64) λout ns' a1 a2 a3=>⟨_,Zj,?_⟩) (args_list_sort _)));refine Zy ⟨_,Zj,?_⟩;have hn:H h'.objs.size=none:=I1.aF.fresh (ZA _);have a0:ns'.length=kvs.length:=by rw[a2.length_eq,AK]
 refine⟨.ref h'.objs.size,_,I1.laid (t':=tk) (o:=.lst (ns'.map V.int)) (h':=sortedHeap (h'.push { cls:=.type "list", data:=.seq acc.toList.toArray }) h'.objs.size acc.toList out) (λb o e=>?_) (ZA _) ⟨by rw[AK,a0];exact z,out.toList,?_⟩,Zj,q _ ns' hn a2 a3⟩
 ·rw[sortedHeap_old (ZF (lt_size e)) (lt_size (ZY _ e))];exact ZY _ e
 ·obtain⟨c,hcx⟩:=sortedHeap_at (out:=out) jB;exact⟨c,EG a1,by rw[Array.toArray_toList];exact hcx⟩
end
section
theorem Bu (hc:X.calm=true):Be X (.builtin "all") (λxs H Q=>∃(p:Vs) (bs:List Bool),xs=[.ref p]/\aJ X.K H p (bs.map V.bl)/\Q (.bl (bs.all id)) H):=by
 intro aa s σ H xs us Q I r h;obtain⟨p,bs,rfl,hq,q⟩:=h;obtain⟨u,rfl,ru⟩:=CZ r;cases ru;obtain⟨its,rv,pl,hz⟩:=I.list hq;have hp:p<s.heap.objs.size:=by obtain⟨o,n,e,_⟩:=id pl;exact lt_size e
 have a0:bs.length=its.length:=by have:=rv.length;rw[AK]at this;exact this
 refine call_all_walk (wpAny_pyIter_list pl.isList ?_);refine⟨_,_,_,_,_,_,λi=>bs.getD i false,Zj,Walks.list (A:=X.A.in1) (show X.A.in1.handled=none from I.ok.hd hc) _ p (ZF hp) its.toArray,⟨⟨_,ZP _ Zj,Zj,Zj⟩,pl.isList.at λo e=>ZY _ e⟩,λi v s' Q' E' hP hQ=>?_,λh' tk keep=>?_⟩
 ·have hv:its[i]?=some v:=by simpa using hP
  have hi:i<its.length:=(Z8.mp hv).1;have hb:bs[i]?=some (bs[i]'qe):=Z7 qe;obtain⟨u',hu',ru'⟩:=rv.get (i:=i) (x:=V.bl (bs[i]'qe)) (by rw[ZH,hb];rfl);rw[hv]at hu';cases hu';cases (show v=Value.bool _ from ru');refine Z0 ?_;have hQ':Q' (bs.getD i false) s':=hQ;rw[List.getD_eq_getElem?_getD,hb]at hQ';exact hQ'
 ·have I1:Inv X aa σ H { s with heap:=h',toks:=tk }:=I.kept λb o e=>keep b o (by simp;exact ZF (lt_size e)) (ZY _ e);refine⟨.bl _,H,I1,Zj,?_⟩
  have e:(List.range its.toArray.size).all (λi=>bs.getD i false)=bs.all id:=by
   rw[size_toArray,←a0,Bool.eq_iff_iff,List.all_eq_true,List.all_eq_true];constructor
   ·intro h b hb;obtain⟨i,hi,rfl⟩:=List.mem_iff_getElem.mp hb;have:=h i (mem_range.mpr hi);rw[List.getD_eq_getElem?_getD,Z7 hi]at this;exact this
   ·intro h i hi;have hi':=mem_range.mp hi;rw[List.getD_eq_getElem?_getD,Z7 hi'];exact h _ (List.getElem_mem hi')
  rw[e];exact q
theorem JE:gJ X "int.bit_length" (λx xs H Q=>∃i,x=.int i/\xs=[]/\Q (.int (Builtin.Int.intBits i)) H):=by
 intro aa s σ H x xs v us Q I rx rs h;obtain⟨i,rfl,rfl,q⟩:=h;obtain⟨t,rfl⟩:=rx;cases rs;exact call_int_bit_length ⟨.int _,H,I.tok _,⟨_,Zj⟩,q⟩
theorem Ch:df X (compareOp .LtE) (λx y H Q=>∃i j,x=.str i/\y=.str j/\Q (.bl (!decide (j.cps.toList<i.cps.toList))) H):=by
 intro aa s σ H x y v u Q I rx ry h;obtain⟨i,j,rfl,rfl,q⟩:=h;obtain⟨t,rfl⟩:=rx;obtain⟨t',rfl⟩:=ry;exact PySem.P.le_str (Ao I q Zj)
theorem Hy:gJ X "dict.setdefault" (λx xs H Q=>∃a kvs k v,x=.ref a/\xs=[kV k,v]/\H a=some (.dK kvs)/\kvs.length<sizeLine /\
  (∀w,A4 kvs k=some w->Q w H)/\(A4 kvs k=none->Q v (upd H a (.dK (Bn kvs k v))))):=by
 intro aa s σ H x xs u us Q I rx rs h;obtain⟨a,kvs,k,v,rfl,rfl,hd,hl,q1,q2⟩:=h;cases rx;obtain⟨uk,uv,rfl,rk,rv⟩:=Ey rs;obtain⟨z,y,vs,rel,dd⟩:=OW I.aF hd;refine call_meetsIn PySem.F.slot_dict_setdefault dd.typeIs PySem.F.entry_dict_setdefault (PySem.F.args_dict_setdefault_3 _ _ _) (PySem.kt_meets_setdefault (Ad X.prog X.w) a (F5 rk) y uv) ⟨vs,dd,by rw[←rel.length];exact z,λw' hw=>?_,λhn h' iw hs=>?_⟩
 ·have rr:=rel.val k;rw[hw]at rr;cases e:A4 kvs k with
  |none=>rw[e]at rr;exact False.elim rr
  |some w=>rw[e]at rr;exact⟨w,H,I.tok _,rr,q1 w e⟩
 ·have rr:=rel.val k;rw[hn]at rr
  have e:A4 kvs k=none:=by
   cases e:A4 kvs k with
   |none=>rfl
   |some w=>rw[e]at rr;exact False.elim rr
  have he:∃q,h'.get? a=some q:=let ⟨q,_,_,hq,_⟩:=iw;⟨q,hq⟩
  have gF:(Bn kvs k v).length<=sizeLine:=by have:=Bo kvs k v;omega
  exact⟨v,_,Gi I (by rw[hd];exact True.intro) hs he (I0 gF y (rel.put k rv) iw),rv,q2 e⟩
theorem Od:Be X (.builtin "isinstance") (λxs H Q=>∃v T t b,xs=[v,.ty T]/\dG X.K H v t/\W.kitOne X.K t (.type T)=some b/\Q (.bl b) H):=by
 intro aa s σ H xs us Q I r h;obtain⟨v,T,t,b,rfl,ty,hk,q⟩:=h;obtain⟨u,uT,rfl,ru,iW⟩:=Ey r;cases (show uT=Value.type T from iW);exact IG I ru ty hk λtk=>⟨.bl b,H,I.tok tk,Zj,q⟩
end
noncomputable def Jx (d:Int):List Int->Int
 | []=>d
 |n::r=>r.foldl max n
theorem IT (d:Int) (ns:List Int) (n:Int) (h:ns≠ []):Jx d (ns++[n])=max (Jx d ns) n:=by
 cases ns with
 |nil=>exact absurd rfl h
 |cons a r=>show(r++[n]).foldl max a=_;rw[foldl_append];rfl
theorem M5 (a v:Value):argsOk "max" ⟨[a],[(Str.ofString "default", v)]⟩:=by unfold argsOk;kernel_rfl
section
variable {prog:Program}{R:Result->Vt->Prop}{s:Vt}{p I S:Vs}{its:Vq}{ns:List Int}{d:Value}
noncomputable def Oe:Option (Int×Tok)->Array Value
 |none=>#[]
 |some (m,t)=>#[.int m t,.int m t]
theorem M6 (hh:A.handled=none) (bn:IntsAre its ns) (hpI:p≠I) (hSI:S≠I) (hpS:p≠S)
  (hR:∀h' tk v,(∀b o,b≠I->b≠S->s.heap.get? b=some o->h'.get? b=some o)->(ns=[]->v=d)->(ns≠ []->∃t,v=.int (Jx 0 ns) t)->R (.ok (.ret v)) { s with heap:=h',toks:=tk }) :
  ∀(k i:Nat) (h:Heap) (tk c:Nat) (b:Option (Int×Tok)),its.length - i=k->i<=its.length->h.IsListIter I p i->h.IsList p its.toArray->h.get? S=some { cls:=.type "list", data:=.seq (Oe b) c } ->
   (b=none->i=0)->(∀m t,b=some (m,t)->0<i/\m=Jx 0 (ns.take i))->(∀b' o,b'≠I->b'≠S->s.heap.get? b'=some o->h.get? b'=some o) ->
   codeAny (model prog w) A (.builtin "max.loop" ⟨[.ref I,.none,.ref S],[(Str.ofString "default", d)]⟩) R { s with heap:=h,toks:=tk }:=by
 have bz:(toString "max" ++ toString ".loop" : String) = "max.loop" := by decide
 have a0:=bn.length;intro k;induction k with
 |zero =>
  intro i h tk c b hk hi hit hl hS hb0 hb1 keep;have e:i=its.length:=by omega
  refine codeAny_builtin PySem.F.entry_max_loop ?_;rw[Around.under_plainId PySem.F.plain_max_loop _];show wpAny _ A.in1 (seqItems? (.ref S) >>= _) _ _ _;refine Zz (wpAny_seqItems hS rfl ?_);show wpAny _ A.in1 (tryCatch (pyNext (.ref I)) _ >>= _) _ _ _;refine Zz (wpAny_tryCatch (wpAny_pyNext_list_end (show A.in1.handled=none from hh) hit hl (by simp;omega) λh' eb=>?_));cases b with
  |none =>
   have hn:ns=[]:=by
    have:=hb0 rfl;exact List.eq_nil_of_length_eq_zero qe
   exact Zz (wpAny_rule (Zy (hR h' tk d (λb o h1 h2 q=>eb b o h1 (keep b o h1 h2 q)) (λ_=>rfl) λz=>absurd hn z)))
  |some mt =>
   obtain⟨m,t⟩:=mt;obtain⟨hpos,hm⟩:=hb1 m t rfl
   have aw:ns≠ []:=λz=>by
    have:its.length=0:=by rw[a0,z];rfl
    omega
   show wpAny _ A.in1 (updateSeq S (λ_=>#[]) >>= _) _ _ _;refine Zz (wpAny_updateSeq (eb S _ hSI hS) Zj (Zz (wpAny_letGo (Zy ?_))) fg);refine hR _ tk _ (λb o h1 h2 q=>(ZX _ _ (Ne.symm h2)).trans (eb b o h1 (keep b o h1 h2 q))) (λz=>absurd z aw) λ_=>⟨t,?_⟩;rw[hm,e,a0,ZE]
 |succ k ih =>
  intro i h tk c b hk hi hit hl hS hb0 hb1 keep;have aX:i<its.length:=by omega
  have hv:its[i]?=some its[i]:=Z7 aX
  obtain⟨n,t,hn,hvt⟩:∃n t,ns[i]?=some n/\its[i]=.int n t:=by
   have hi2:i<ns.length:=by omega
   obtain⟨u,hu,t,ru⟩:=(EG bn).get (i:=i) (x:=V.int ns[i]) (by rw[ZH,Z7 hi2];rfl);rw[hv]at hu;exact⟨ns[i],t,Z7 hi2,(Option.some.inj hu).trans ru⟩
  refine codeAny_builtin PySem.F.entry_max_loop ?_;rw[Around.under_plainId PySem.F.plain_max_loop _];show wpAny _ A.in1 (seqItems? (.ref S) >>= _) _ _ _;refine Zz (wpAny_seqItems hS Zj ?_);show wpAny _ A.in1 (tryCatch (pyNext (.ref I)) _ >>= _) _ _ _;refine Zz (wpAny_tryCatch (wpAny_pyNext_list_item hit hl (x:=.int n t) (by simpa[hvt]using hv) λh' hit' sb=>?_));have hS':h'.get? S=some { cls:=.type "list", data:=.seq (Oe b) c }:=(sb.2 S hSI).trans hS;have gF:h'.IsList p its.toArray:=hl.at λo q=>(sb.2 p hpI).trans q;have keep':∀b' o,b'≠I->b'≠S->s.heap.get? b'=some o->h'.get? b'=some o:=λb' o h1 h2 q=>(sb.2 b' h1).trans (keep b' o h1 h2 q);have etk:ns.take (i+1)=ns.take i++[n]:=by rw[ZG,hn];rfl
  have store:∀c0,(∀v,v=Value.int n t->(h'.update S (Obj.mapSeq λ_=>#[v,v])).get? S=some { cls:=.type "list", data:=.seq (Oe (some (n,t))) c0 })->n=Jx 0 (ns.take (i+1)) ->
    codeAny (model prog w) A (.builtin "max.loop" ⟨[.ref I,.none,.ref S],[(Str.ofString "default", d)]⟩) R { s with heap:=h'.update S (Obj.mapSeq λ_=>#[.int n t,.int n t]),toks:=tk }:=λc0 e0 em =>
   ih (i+1) _ tk c0 (some (n,t)) qe aX (hit'.at λo q=>(ZX _ _ hSI).trans q) (gF.at λo q=>(ZX _ _ (Ne.symm hpS)).trans q) (e0 _ rfl) (λz=>by cases z)
    (λm t' z=>by cases z;exact⟨Nat.succ_pos _,em⟩) λb' o h1 h2 q=>(ZX _ _ (Ne.symm h2)).trans (keep' b' o h1 h2 q)
  cases b with
  |none =>
   have hi0:=hb0 rfl;show wpAny _ A.in1 (updateSeq S (λ_=>#[Value.int n t,Value.int n t]) >>= _) _ _ _;refine Zz (wpAny_updateSeq hS' Zj ?_);rw[bz];refine Zy ⟨plainId_quiet PySem.F.plain_max_loop _,store _ (λv e=>by subst e;exact get?_update_seq hS' λ_=>#[_,_]) ?_⟩;rw[etk,hi0];rfl
  |some mt =>
   obtain⟨m,t0⟩:=mt;obtain⟨hpos,hm⟩:=hb1 m t0 rfl
   have aw:ns.take i≠ []:=λz=>by
    have:=congrArg List.length z;rw[ZD,length_nil]at this;omega
   show wpAny _ A.in1 (tryCatch (holding [Value.int n t,Value.int n t] (richCompare .Gt (.int n t) (.int m t0) >>= _)) _ >>= _) _ _ _
   refine Zz (wpAny_tryCatch (ZM (Zz (CmpOf.ints_gt (P:=λi v=>(i=0/\v=.int n t)\/(i=1/\v=.int m t0)) (λi=>if i=0 then n else m) (λi v h=>by
    rcases h with⟨rfl,rfl⟩ |⟨rfl,rfl⟩
    ·exact⟨t,Zj⟩
    ·exact⟨t0,Zj⟩) 0 1 _ _ _ _ _ (.inl ⟨Zj,Zj⟩) (.inr ⟨Zj,Zj⟩) ?_))))
   refine Zz (ZM (Z0 ?_));refine Zz (wpAny_letGo (Zy ?_));by_cases hgt:n>m
   ·have e1:(λ(i j:Nat)=>decide ((if i=0 then n else m)>if j=0 then n else m)) 0 1=true:=ZN hgt;rw[e1];simp only[if_true];refine Zz (wpAny_updateSeq hS' Zj (Zz (wpAny_letGo ?_)) fg);rw[bz];refine Zy ⟨plainId_quiet PySem.F.plain_max_loop _,store _ (λv e=>by subst e;exact get?_update_seq hS' λ_=>#[_,_]) ?_⟩;rw[etk,IT 0 _ n aw,←hm];omega
   ·have e1:(λ(i j:Nat)=>decide ((if i=0 then n else m)>if j=0 then n else m)) 0 1=false:=ZQ hgt;rw[e1];simp only[Bool.false_eq_true,if_false];refine Zz (wpAny_letGo ?_);rw[bz]
    refine Zy ⟨plainId_quiet PySem.F.plain_max_loop _,ih (i+1) _ tk c (some (m,t0)) qe aX hit' gF hS' (λz=>by cases z) (λm' t' z=>by
     cases z;refine⟨Nat.succ_pos _,?_⟩;rw[etk,IT 0 _ n aw,←hm]
     omega) keep'⟩
end
section
variable {c:Expr}{tc:TE}{p kp:Pos}
theorem Qg (hc:X.calm=true) (hg:Gl X "max") (hm:X.mg "max" = none) (he:PE X e te) (hcc:PE X c tc) (hs:starEach [e] X.env=(false,eval e X.env)::starEach [] X.env:=by rfl)
  (jb:backTo pos (starEach [e] X.env)=(false,eval e X.env)::backTo pos (starEach [] X.env):=by rfl) :
  PE X (.Call (.Name "max" p) [e] [⟨some "default", c,kp⟩] pos) (λσ H Q=>te σ H λx H1=>tc σ H1 λy H2=>∃(a:Vs) (ns:List Int) (d:Int),x=.ref a/\y=.int d/\aJ X.K H2 a (ns.map V.int)/\(ns=[]->Q (.int d) H2)/\(ns≠ []->Q (.int (Jx 0 ns)) H2)):=by
 intro aa s σ H Q I h;refine Z3 (EY (u:=.builtin "max") I hg hm boot_max ?_)
 let R3:V->V->Hp->Prop:=λx y H2=>∃(a:Vs) (ns:List Int) (d:Int),x=.ref a/\y=.int d/\aJ X.K H2 a (ns.map V.int)/\(ns=[]->Q (.int d) H2)/\(ns≠ []->Q (.int (Jx 0 ns)) H2)
 refine callWith_kw (aH ((AA he AB hs:PA X [e] (As te B6)) pos aa s σ H (λvs H1=>match vs with | [x]=>tc σ H1 (λy H2=>R3 x y H2) |_=>False) I h) λus s1 ⟨vs,H1,I1,r1,q1⟩=>?_) jb (by rw[jb];rfl)
 match vs,r1,q1 with
 | [x],r1,q1 =>
  refine aH ((Ez (nm:=some "default") (kpos:=kp) hcc HF:PK X [⟨some "default", c,kp⟩] (As tc B6)) pos aa s1 σ H1 (λvs H2=>match vs with | [y]=>R3 x y H2 |_=>False) I1 q1) λus2 s2 ⟨vs2,H2,I2,r2,q2⟩=>?_
  match vs2,r2,q2 with
  | [y],r2,q2 =>
   obtain⟨a,ns,d,rfl,rfl,hq,k1,k2⟩:=q2;obtain⟨u,rfl,ru⟩:=CZ r1;cases ru;obtain⟨ud,rfl,td,rud⟩:=CZ r2;subst rud;obtain⟨its,rv,pl,hz⟩:=I2.list hq;have hp:a<s2.heap.objs.size:=by obtain⟨o,n,e,_⟩:=id pl;exact lt_size e
   show wpAny _ _ (call (.builtin "max") [.ref a] [(Str.ofString "default", .int d td)]) _ _ _;refine PyProof.Rows.kmk_tree PySem.F.kind_max PySem.F.plain_max PySem.F.entry_max (M5 _ _) ?_;show wpAny _ X.A.in1 (Builtin.Builtins.bindParams "max" ["key", "default"] 0 ⟨[],[(Str.ofString "default", .int d td)]⟩ >>= _) _ _ _;refine Zz (wpAny_of_eq (show Builtin.Builtins.bindParams "max" ["key", "default"] 0 ⟨[],[(Str.ofString "default", Value.int d td)]⟩=pure [none,some (.int d td)]from Zj) ?_);refine Zz (Zy ?_);refine Zz (wpAny_pyIter_list pl.isList ?_);refine Zz (wpAny_newList ?_ (Nat.zero_le _));have bz:(toString "max" ++ toString ".loop" : String) = "max.loop" := by decide
   rw[bz];have hS:(s2.heap.push { cls:=.type "list_iterator", data:=.fields #[.ref a,.int 0 0] }).objs.size=s2.heap.objs.size+1:=size_push ..
   refine Zy ⟨plainId_quiet PySem.F.plain_max_loop _,M6 (its:=its) (ns:=ns) (s:=s2) (I.ok.hd hc) (DU rv) (ZF hp) (by rw[hS];exact Nat.succ_ne_self _) (by rw[hS];exact ZF (Nat.lt_succ_of_lt hp))
    (λh' tk v keep e1 e2=>?_) _ 0 _ _ 0 none rfl (Nat.zero_le _) ⟨_,ZY _ (ZP _ rfl),rfl,rfl⟩ (pl.isList.at λo q=>ZY _ (ZY _ q)) (ZP _ rfl) (λ_=>rfl) (λm t z=>by cases z) λb o h1 h2 q=>ZY _ (ZY _ q)⟩
   have I3:Inv X aa σ H2 { s2 with heap:=h',toks:=tk }:=I2.kept λb o q=>keep b o (ZF (lt_size q)) (by rw[hS];exact ZF (Nat.lt_succ_of_lt (lt_size q))) q;by_cases hn:ns=[]
   ·rw[e1 hn];exact⟨.int d,H2,I3,⟨td,Zj⟩,k1 hn⟩
   ·obtain⟨t,ev⟩:=e2 hn;rw[ev];exact⟨.int _,H2,I3,⟨t,Zj⟩,k2 hn⟩
end
def aK (H:Hp):List Vs->List (V×V)->Prop:=Paired λb p=>H b=some (.tup [p.1,p.2])
theorem aK.same {as:List Vs}{ps:List (V×V)} (s:∀b o,H b=some o->H' b=some o) (h:aK H as ps):aK H' as ps:=Paired.mapP h λ_ _ e=>s _ _ e
theorem Inv.trackTups {s:Vt}{as:List Vs}{ps:List (V×V)} (hr:Paired (λa (p:V×V)=>∃its,Vals [p.1,p.2] its/\IsTup s.heap a its.toArray) as ps):∀(H:Hp),Inv X aa σ H s->as.Pairwise (· < ·) ->
  (∀a∈as,H a=none/\a≠X.env.locals/\X.aI.heap.objs.size<=a/\(∀x c,X.env.cells.lookup x=some c->c≠a)/\∀q∈X.pn++aa,q.1≠a)->∃H',Inv X aa σ H' s/\aA H H'/\aK H' as ps:=by
 induction hr with
 |nil=>intro H I _ _;exact⟨H,I,aA.refl H,.nil⟩
 | @cons a p as ps h hr ih =>
  intro H I hp aF;obtain⟨its,hv,ht⟩:=h;obtain⟨p1,p2⟩:=List.pairwise_cons.mp hp;obtain⟨o1,o2,o3,o4,o5⟩:=aF a ZK;have I1:Inv X aa σ (upd H a (.tup [p.1,p.2])) s:=I.track o1 o2 (.inr o3) o4 o5 ⟨by show 2<=sizeLine;decide,its,hv,ht⟩;have s1:aA H (upd H a (.tup [p.1,p.2])):=λb u e=>by rw[AE (AJ e o1)];exact e
  obtain⟨H',I',s',t'⟩:=ih _ I1 p2 (λb hb=>by
   obtain⟨q1,q2⟩:=aF b (ZT _ hb)
   exact⟨by rw[AE (Nat.ne_of_gt (p1 b hb))];exact q1,q2⟩)
  exact⟨H',I',s1.trans s',.cons (s' _ _ U) t'⟩
theorem K6 (hc:X.calm=true):Be X (.type "list") (λxs H Q=>∃p a kvs,xs=[.ref p]/\H p=some (L8 a p)/\Rd H a (.dK kvs) /\
  ∀l as H',aA H H'->H l=none->H' l=some (.lst (as.map V.ref))->aK H' as (kvs.map λkv=>(kV kv.1,kv.2))->Q (.ref l) H'):=by
 intro aa s σ H xs us Q I r h;obtain⟨p,a,kvs,rfl,hp,hd,q⟩:=h;obtain⟨u,rfl,ru⟩:=CZ r;cases ru;obtain⟨z,y,vs,rel,dd⟩:=DH I.aF hd;obtain⟨ep,da⟩:=dd.dictAt;obtain⟨hv,_⟩:=I.aF p _ hp;have hl:=rel.length;refine W.kdx_call (knd:=Ad X.prog X.w) (kvs:=vs) (ep:=ep) (I.ok.hd hc) hv da (by rw[←hl];exact z) λh' tk acc c as keep e a0 G bo=>?_;have I1:Inv X aa σ H { s with heap:=h',toks:=tk }:=I.kept keep;obtain⟨n1,n2,n3,n4,n5⟩:=I.newOk (ZA s.heap.objs.size);have el:acc=(as.map Value.ref).toArray:=by rw[←bo]
 have I2:Inv X aa σ (upd H s.heap.objs.size (.lst (as.map V.ref))) { s with heap:=h',toks:=tk }:=I1.track n1 n2 (.inr n3) n4 n5 ⟨by rw[AK,a0,←hl];exact z,as.map Value.ref,c,Cg (by rw[AK,AK]) λj v w' ev ew=>by
  rw[ZH]at ev ew;cases e2:as[j]? with
  |none=>rw[e2]at ev;cases ev
  |some b=>rw[e2]at ev ew;cases ev;cases ew;rfl,by rw[←el];exact e⟩
 have hpp:Paired (λa (p:V×V)=>∃its,Vals [p.1,p.2] its/\IsTup h' a its.toArray) as (kvs.map λkv=>(kV kv.1,kv.2)):=(Cg (by rw[AK,a0,hl]) λj b pr eb i5=>by
   obtain⟨key,k,x,ex,hk,ho⟩:=G.pairs j b eb;rw[ZH]at i5;cases e2:kvs[j]? with
   |none=>rw[e2]at i5;cases i5
   |some kv =>
    rw[e2]at i5;simp only[Option.map_some,Option.some.injEq]at i5;obtain⟨v2,gg,rv2⟩:=KV.get rel e2;rw[ex]at gg;simp only[Option.some.injEq,Prod.mk.injEq]at gg;subst i5;refine⟨[key,x],.cons ?_ (.cons ?_ .nil),_,ho,Zj,_,Zj⟩
    ·show RelV (kV kv.1) key;rw[←gg.1];exact E6 hk
    ·show RelV kv.2 x
     rw[gg.2];exact rv2)
 obtain⟨H',I',s',t'⟩:=Inv.trackTups (s:={ s with heap:=h',toks:=tk }) hpp _ I2 G.rise (λb hb=>by
   have hgt:=G.above b hb;obtain⟨m1,m2,m3,m4,m5⟩:=I.newOk (Nat.le_of_lt hgt)
   exact⟨by rw[AE (Nat.ne_of_gt hgt)];exact m1,m2,m3,m4,m5⟩)
 exact⟨.ref s.heap.objs.size,H',I',Zj,q _ as H' (λb u e=>s' b u (by rw[AE (AJ e n1)];exact e)) n1 (s' _ _ U) t'⟩
mutual
def Cd (K:FG) (H:Hp):PyData->V->Prop
 | .none,v=>v=.aT
 | .bool b,v=>v=.bl b
 | .int i,v=>v=.int i
 | .str x,v=>v=.str x
 | .list ds,v=>∃a xs,v=.ref a/\aJ K H a xs/\BL K H ds xs
 | .tuple ds,v=>∃a xs,v=.ref a/\bZ K H a xs/\BL K H ds xs
 | .dict _,_=>False
def BL (K:FG) (H:Hp):List PyData->Vr->Prop
 | [],xs=>xs=[]
 |d::ds,xs=>∃x r,xs=x::r/\Cd K H d x/\BL K H ds r
end
section
variable {s:Vt}
mutual
theorem Inv.reads (I:Inv X aa σ H s):∀(d:PyData) (v:V) (u:Value),RelV v u->Cd X.K H d v->∃as,Reads s.heap u d as
 | .none,v,u,r,h=>by
  have e:v=.aT:=by simpa[Cd]using h
  subst e;cases r;exact⟨_,.none⟩
 | .bool b,v,u,r,h=>by
  have e:v=.bl b:=by simpa[Cd]using h
  subst e;cases r;exact⟨_,.bool b⟩
 | .int i,v,u,r,h=>by
  have e:v=.int i:=by simpa[Cd]using h
  subst e;obtain⟨t,rfl⟩:=r;exact⟨_,.int i t⟩
 | .str x,v,u,r,h=>by
  have e:v=.str x:=by simpa[Cd]using h
  subst e;obtain⟨t,rfl⟩:=r;exact⟨_,.str x t⟩
 | .list ds,v,u,r,h=>by
  rw[Cd]at h;obtain⟨a,xs,rfl,hq,hd⟩:=h;cases r;obtain⟨its,rv,⟨o,n,e,c,_,dd⟩,_⟩:=I.list hq;obtain⟨as,hr⟩:=I.readsAll ds xs its rv hd;exact⟨_,.list e c dd (by simpa using hr)⟩
 | .tuple ds,v,u,r,h=>by
  rw[Cd]at h;obtain⟨a,xs,rfl,hq,hd⟩:=h;cases r;obtain⟨its,rv,⟨o,e,c,n,dd⟩,_⟩:=I.tuple hq;obtain⟨as,hr⟩:=I.readsAll ds xs its rv hd;exact⟨_,.tuple e c dd (by simpa using hr)⟩
 | .dict kvs,v,u,r,h=>by
  rw[Cd]at h;exact h.elim
theorem Inv.readsAll (I:Inv X aa σ H s):∀(ds:List PyData) (xs:Vr) (us:Vq),Vals xs us->BL X.K H ds xs->∃as,ReadsAll s.heap us ds as
 | [],xs,us,r,h=>by
  have e:xs=[]:=by simpa[BL]using h
  subst e;cases r;exact⟨_,.nil⟩
 |d::ds,xs,us,r,h=>by
  rw[BL]at h;obtain⟨x,xr,rfl,h1,h2⟩:=h;cases r with
  |cons p q =>
   obtain⟨as,h3⟩:=I.reads d x _ p h1;obtain⟨bs,h4⟩:=I.readsAll ds xr _ q h2;exact⟨_,.cons h3 h4⟩
end
end
section
theorem Of (K:FG) (hK:X.K=K) (hu:X.A.units+64<cLine):df X (compareOp .Eq) (λx y H Q=>∃dx dy,Cd K H dx x/\Cd K H dy y/\SeqAt.shaped dx=true/\SeqAt.shaped dy=true/\Q (.bl (PyData.eqv dx dy)) H):=by
 subst hK;intro aa s σ H x y v u Q I rx ry h;obtain⟨dx,dy,h1,h2,s1,s2,q⟩:=h;obtain⟨as,r1⟩:=I.reads dx x v rx h1;obtain⟨bs,r2⟩:=I.reads dy y u ry h2;exact eq_dataH r1 r2 s1 s2 hu ⟨.bl _,H,I,Zj,q⟩
theorem Sn (K:FG) (hK:X.K=K) (hu:X.A.units+64<cLine):df X (compareOp .NotEq) (λx y H Q=>∃dx dy,Cd K H dx x/\Cd K H dy y/\SeqAt.shaped dx=true/\SeqAt.shaped dy=true/\Q (.bl (!PyData.eqv dx dy)) H):=by
 subst hK;intro aa s σ H x y v u Q I rx ry h;obtain⟨dx,dy,h1,h2,s1,s2,q⟩:=h;obtain⟨as,r1⟩:=I.reads dx x v rx h1;obtain⟨bs,r2⟩:=I.reads dy y u ry h2;exact ne_dataH r1 r2 s1 s2 hu ⟨.bl _,H,I,Zj,q⟩
theorem So (K:FG) (hK:X.K=K) (hu:X.A.units+64<cLine):df X (compareOp .Eq) (λx y H Q=>∃(a b:Vs) (ns ms:List Int),x=.ref a/\y=.ref b/\aJ K H a (ns.map V.int)/\aJ K H b (ms.map V.int)/\Q (.bl (decide (ns=ms))) H):=by
 subst hK;intro aa s σ H x y v u Q I rx ry h;obtain⟨a,b,ns,ms,rfl,rfl,h1,h2,q⟩:=h;cases rx;cases ry;obtain⟨is1,r1,p1,_⟩:=I.list h1;obtain⟨is2,r2,p2,_⟩:=I.list h2;exact W.ke_eq_ints p1.isList p2.isList (DU r1) (DU r2) hu ⟨.bl _,H,I,Zj,q⟩
def Og (C:Vs) (sp:Sp) (gV:Vr->Vr->Vr) (E:XK) (t tk:TA):TE:=λσ H Q=>t σ H λvs H1=>tk σ H1 λzs H2=>∀x dx,H2 x=none->H2 dx=none->dx≠x ->
 sp (gV (.ref x::vs) zs) (upd (upd H2 dx (.own x)) x (.ins C dx [])) (λv H3=>v=.aT/\Q (.ref x) H3) E
variable {k:Nat}{fd:FuncData}{ps ks:Vp}{sp:Sp}{p:Pos}{es:List Expr}{gf:List Keyword}{t tk:TA}{g:Vq->Vq->Vq}{gV:Vr->Vr->Vr}
theorem Jy (M:Mk X.K C f) (F:aB X.prog X.w X.K X.mg X.base aL k f fd ps sp) (hr:aD (k+1) X.A) (hg:Gl X x) (hm:X.mg x=some (.ref C)) (hb:Cm X.K fd ps ks g gV)
  (ha:PA X (e::es) t) (hkw:PK X gf tk) (bc:(backToKw pos (keywordEach gf X.env)).all (·.1.isSome)=true:=by rfl) (hks:(backToKw pos (keywordEach gf X.env)).filterMap (·.1)=ks:=by rfl)
  (fw:(x==("__debug__" : Str))=false:=by decide) (he:starEach (e::es) X.env=(false,eval e X.env)::starEach es X.env:=by rfl)
  (eQ:((backTo pos (starEach (e::es) X.env)).any (·.1)||(backToKw pos (keywordEach gf X.env)).any (·.1.isNone))=false:=by rfl) :
  PE X (.Call (.Name x p) (e::es) gf pos) (Og C sp gV E0 t tk):=by
 intro aa s σ H Q I h;refine Z3 (Br I hg hm ?_ fw);refine W.callWith_KW (h₀:=X.base) I.ok.mod.kin M.kp bc (aH (ha pos aa s σ H _ I h) λus s1 ⟨vs,H1,I1,r,q⟩=>?_) eQ he;refine aH (hkw pos aa s1 σ H1 _ I1 q) λws s2 ⟨zs,H2,I2,rz,q2⟩=>⟨I2.cX,?_⟩;rw[hks];have hq:=q2 (s2.heap.objs.size+1) s2.heap.objs.size (I2.aF.fresh (Nat.le_succ _)) (I2.aF.fresh (ZA _)) (ZF (Nat.lt_succ_self _));have I3:=Inv.made (C:=C) I2;have r2:Vals (gV (V.ref (s2.heap.objs.size+1)::vs) zs) (g (Value.ref (s2.heap.objs.size+1)::us) ws):=hb.rel (.cons rfl r) rz;have hl:(g (Value.ref (s2.heap.objs.size+1)::us) ws).length=ps.length:=by rw[←r2.length];exact F.len _ _ _ _ hq
 refine wpAny_call (HB (f:=f) I2.cX M.makes M.init (beq_iff_eq.mp M.fn) (codeAny_mono (F.run _ X.stack _ _ ⟨Value.ref (s2.heap.objs.size+1)::us,ks.zip ws⟩ _ _ _ E0 (hr.make C us (ks.zip ws)) (I3.gm.make C us (ks.zip ws)) (hb.to _ _ _ I3.cX hl) r2 hq) λr' s' fv=>?_));cases r' with
 |error e=>exact fv.elim
 |ok fl =>
  cases fl with
  |ret u =>
   obtain⟨v,H',I4,rv,ev,q3⟩:=I3.after fv;subst ev;exact⟨rv,⟨V.ref (s2.heap.objs.size+1),H',I4,Zj,q3⟩⟩
  |next=>exact False.elim fv
  |brk=>exact False.elim fv
  |cont=>exact False.elim fv
def VW (i j:Int):Prop:=Builtin.Int.intBits i<=2 ^ 20/\Builtin.Int.intBits j<=2 ^ 20
theorem JF:df X (binaryOp .Mult) (rI VW λi j=>.int (i*j)):=opI λ_ _ _ _ _ _ _ hc q=>mul_int q (IntMulOk.of_bits hc.1 hc.2)
def UK (i j:Int):Prop:=0<j/\Builtin.divisionGoesByPylong i j=false
theorem Oh:df X (binaryOp .FloorDiv) (rI UK λi j=>.int (i / j)):=opI λi j _ _ _ _ _ hc q=>by
 have h1:(0:Int)<j:=hc.1;exact floordiv_int qe (by rw[Int.fdiv_eq_ediv_of_nonneg i qe];exact q) (.inl hc.2)
end
section
variable {prog:Program}{s:Vt}{x y:Vs}{ox oy:Obj}{od od':Option Obj}
theorem JG {M:Model}{args:Vq}{Q:Option Value->Vt->Prop} (X:K.In s.heap) (I:W.InstAt s.heap x ox C od) (hs:W.findIn K (.ref C) "__ne__" = some (some (.builtin "object.__ne__")))
  (h:wpAny M A (call (.builtin "object.__ne__") (.ref x::args)) (λv=>Q (some v)) E s):wpAny M A (callSpecialIfBound? (.ref x) "__ne__" args) Q E s:=by
 simp only[callSpecialIfBound?,bindSpecialIfBound?];refine ZM (Zz (Zz (Zz (I.type.here ((W.looks_findIn X hs).here ?_)))));simp only[PySem.F.cmp_object.ne.bind];refine Zz (wpAny_askSetting (wpAny_ite ?_));have fin:wpAny M A (call (.builtin "object.__ne__") ([.ref x]++args) >>= λv=>pure (some v)) Q E s:=Zz (Zx h (λv s' h'=>Zy h') λ_ _ h'=>h');split
 ·exact Zz (Zy (Zy fin))
 ·exact wpAny_tryCatch (Zz (Zy (Zy fin)))
theorem Jz {Q:VS} (hu:A.units+1<cLine) (X:K.In s.heap) (I:W.InstAt s.heap x ox C od) (hm:W.mroIn K C (.type "object")=some true) (hr:W.findIn K (.ref C) "__eq__" = some (some (.ref f))) (hf:W.isFn K (.ref f)=true)
    (h:wpAny (model prog w) A.in1 (call (.ref f) [.ref x,.ref y]) (λv s'=>∃b,v=.bool b/\Q (.bool (!b)) s') E s):wpAny (model prog w) A (call (.builtin "object.__ne__") [.ref x,.ref y]) Q E s:=by
  refine wpAny_call (codeAny_call_builtin PySem.F.cmp_object.ne.plain PySem.F.cmpEntry_ne (W.check_slot (i := "object.__ne__") (owner := "object") (n := "__ne__") qb qb (I.type.andThen (W.looks_mroIn X hm)) (PySem.F.cmpArgs_ne _ _) ?_));unfold Builtin.«object.__ne__»
  repeat (first
    |with_reducible refine wpAny_cRoomFor (by show A.in1.units<cLine;exact hu) ?_
    | (refine Zz (m:=callSpecialIfBound? (.ref x) (Str.ofString "__eq__") [.ref y])
        (W.ifBound_K X I hr hf (Zx h (λr s' hr=>by
          obtain⟨b,rfl,hq⟩:=hr
          repeat (first |exact hq |exact⟨_,rfl,hq⟩ |exact Zy ⟨_,rfl,hq⟩ | (refine Zz (m:=truthy (.bool _)) (Z0 ?_)) |wp_step)) λ_ _ e=>e)))
    |wp_step)
theorem Sq {Q:VS} (hu:A.units+1<cLine) (X:K.In s.heap) (I:W.InstAt s.heap x ox C od) (J:W.InstAt s.heap y oy C od') (hm:W.mroIn K C (.type "object")=some true)
  (hn:W.findIn K (.ref C) "__ne__" = some (some (.builtin "object.__ne__"))) (hr:W.findIn K (.ref C) "__eq__" = some (some (.ref f))) (hf:W.isFn K (.ref f)=true)
  (h:wpAny (model prog w) A.in1 (call (.ref f) [.ref x,.ref y]) (λv s'=>∃b,v=.bool b/\Q (.bool (!b)) s') E s):wpAny (model prog w) A (compareOp .NotEq (.ref x) (.ref y)) Q E s:=by
 show wpAny _ _ (richCompare .NotEq (.ref x) (.ref y)) _ _ _
 have one:wpAny (model prog w) A (tryCompare (.ref x) (cmpInfo .NotEq).2.1 (.ref y)) (λr s'=>∃v,r=some v/\Q v s') E s:=by
  unfold tryCompare;refine Zz (JG X I hn (Jz hu X I hm hr hf (Zx h (λv s' hv=>?_) λ_ _ e=>e)));obtain⟨b,rfl,hq⟩:=hv;exact⟨b,Zj,Zy ⟨_,Zj,hq⟩⟩
 unfold richCompare;simp only[oneThing_ref];refine ZM (Zz (wpAny_cRoomFor (Nat.lt_of_succ_lt hu) ?_));refine Zz (I.type.here (Zz (J.type.here ?_)));rw[Zs (by simp)];refine Zz (Zy ?_);simp only[Bool.false_eq_true,if_false];refine Zz (Zx one (λr s' z=>?_) λ_ _ e=>e);obtain⟨v,rfl,hq⟩:=z;exact Zy hq
end
section
variable {k:Nat}{fd:FuncData}{sp:Sp}
def Sr (sp:Sp) (a b:Vs) (H:Hp) (Q:VK):Prop:=sp [.ref a,.ref b] H (λv H'=>∃t:Bool,v=.bl t/\Q (.bl t) H') E0
theorem Oi {s:Vt}{b:Vs}{Q:VK} (F:aB X.prog X.w X.K X.mg X.base aL k f fd ["self", "other"] sp) (hr:aD k A) (hA:eY X.prog X.w X.K X.mg X.base A X.stack s H) (hb:Binds X.K fd ["self", "other"] []) (I:Inv X aa σ H s) (h:Sr sp a b H Q) :
  wpAny (model X.prog X.w) A (call (.ref f) [.ref a,.ref b]) (λv s'=>∃t:Bool,v=.bool t/\EP X aa σ Q (.bool t) s') E s:=by
 refine wpAny_call (codeAny_mono (F.run A X.stack s H ⟨[.ref a,.ref b],[]⟩ [.ref a,.ref b] [.ref a,.ref b] _ E0 hr hA (hb s [.ref a,.ref b] I.cX rfl) (.cons rfl (.cons rfl .nil)) h) λr' s' hq=>?_);cases r' with
 |error e=>exact hq.elim
 |ok fl =>
  cases fl with
  |ret u =>
   obtain⟨v,H',I',rv,t,ev,q'⟩:=I.after hq;subst ev;cases rv;exact⟨t,Zj,.bl t,H',I',Zj,q'⟩
  |next=>exact False.elim hq
  |brk=>exact False.elim hq
  |cont=>exact False.elim hq
theorem Oj (F:aB X.prog X.w X.K X.mg X.base aL k f fd ["self", "other"] sp) (hr:aD k X.A) (hb:Binds X.K fd ["self", "other"] []) (hm:Fe X.K C "__eq__" f) :
  df X (compareOp .Eq) (λx y H Q=>∃a dx fs b,x=.ref a/\y=.ref b/\H a=some (.ins C dx fs)/\((∃dy gs,H b=some (.ins C dy gs))\/((∃xs,aJ X.K H b xs)/\W.subIn X.K (.type "list") (.ref C)=some false))/\Sr sp a b H Q):=by
 intro aa s σ H x y v u Q I rx ry h;obtain⟨a,dx,fs,b,rfl,rfl,ha,hy,q⟩:=h;cases rx;cases ry;obtain⟨m,Fm⟩:=I.fr;obtain⟨mA,om,_⟩:=C3 I.aF ha;obtain⟨od,ia,_⟩:=om.look;have run:=Oi (E:=X.xe) F hr I.gm hb I q;have hu:X.A.units<cLine:=Nat.lt_of_le_of_lt (Nat.le_add_right _ 64) hr.units
 have run2:wpAny (model X.prog X.w) X.A (call (.ref f) [.ref a,.ref b]) (W.CmpBack (EP X aa σ Q)) X.xe s:=by
  refine aH run λv s' hv=>?_;obtain⟨t,rfl,q⟩:=hv;exact q
 show wpAny _ _ (richCompare .Eq (.ref a) (.ref b)) _ _ _;rcases hy with⟨dy,gs,hy⟩ |⟨⟨xs,hy⟩,hn⟩
 ·obtain⟨mB,ob,_⟩:=C3 I.aF hy;obtain⟨odb,ib,_⟩:=ob.look;exact W.cmp_K hu Fm I.mod.kin ia ib.type (by simp[W.notFirst]) hm.at_ hm.fn run2
 ·obtain⟨its,rv,⟨o,n,e,c,dd,_⟩,_⟩:=I.list hy;have T:W.Looks (model X.prog X.w) s.heap (typeOf (.ref b)) (.type "list"):=c ▸ (W.Looks.ld e).andThen .now;exact W.cmp_K hu Fm I.mod.kin ia T (by simp[W.notFirst,hn]) hm.at_ hm.fn run2
theorem HR (F:aB X.prog X.w X.K X.mg X.base aL k f fd ["self", "other"] sp) (hr:aD (k+1) X.A) (hb:Binds X.K fd ["self", "other"] []) (hm:Fe X.K C "__eq__" f) (hn:W.findIn X.K (.ref C) "__ne__" = some (some (.builtin "object.__ne__"))) (ho:W.mroIn X.K C (.type "object")=some true) :
  df X (compareOp .NotEq) (λx y H Q=>∃a dx fs b dy gs,x=.ref a/\y=.ref b/\H a=some (.ins C dx fs)/\H b=some (.ins C dy gs)/\Sr sp a b H (λv H'=>∃t:Bool,v=.bl t/\Q (.bl (!t)) H')):=by
 intro aa s σ H x y v u Q I rx ry h;obtain⟨a,dx,fs,b,dy,gs,rfl,rfl,ha,hy,q⟩:=h;cases rx;cases ry;obtain⟨mA,om,_⟩:=C3 I.aF ha;obtain⟨od,ia,_⟩:=om.look;obtain⟨mB,ob,_⟩:=C3 I.aF hy;obtain⟨odb,ib,_⟩:=ob.look;have run:=Oi (E:=X.xe) F hr.in1 I.gm.in1 hb I q;have hu:X.A.units+1<cLine:=Nat.lt_of_le_of_lt (Nat.add_le_add_left qc _) hr.units;refine Sq hu I.cX ia ib ho hn hm.at_ hm.fn (aH run λv s' hv=>?_);obtain⟨t,rfl,v',H',I',rv,t',e,q⟩:=hv;subst e;cases rv;exact⟨t,Zj,.bl _,H',I',Zj,q⟩
end
theorem K7 (K:FG) (hK:X.K=K):Be X (.builtin "isinstance") (λxs H Q=>∃a p ys,xs=[.ref a,.ref p]/\(H a=some (.lst ys)\/H a=some (.tup ys))/\bZ K H p [.ty "list", .ty "tuple"]/\Q (.bl true) H):=by
 subst hK;intro aa s σ H xs us Q I r h;obtain⟨a,p,ys,rfl,ha,hp,q⟩:=h;obtain⟨u,uT,rfl,ru,iW⟩:=Ey r;cases ru;cases iW;obtain⟨its,rv,⟨o,e,c,n,dd⟩,_⟩:=I.tuple hp;obtain⟨ocl,odi,oda,gd⟩:=o;simp only at c dd;subst c;subst dd
 have ei:its=[Value.type "list", Value.type "tuple"]:=by
  cases rv with
  |cons r1 r2 =>
   cases r2 with
   |cons r3 r4 =>
    cases r4;cases (show _=Value.type "list" from r1);cases (show _=Value.type "tuple" from r3);rfl
 subst ei;have fin:∀tk,EP X aa σ Q (.bool true) { s with toks:=tk }:=λtk=>⟨.bl true,H,I.tok tk,rfl,q⟩;rcases ha with ha |ha
 ·obtain⟨_,_,m,_,h1⟩:=(show aP X.prog X.w H s.heap a (.lst ys)from I.aF a _ ha);exact W.kia_tup W.kitx_list I.cX ⟨_,h1,rfl⟩ e rfl (λz=>nomatch z) fin
 ·obtain⟨_,_,_,pp⟩:=(show aP X.prog X.w H s.heap a (.tup ys)from I.aF a _ ha);obtain⟨o,h1,h2,_⟩:=pp;exact W.kia_tup W.kitx_tuple I.cX ⟨o,h1,h2⟩ e rfl (λz=>nomatch z) fin
structure HS (fs:List Vs) (e:Vs) (oe:Obj) (vs:Array Value) (old:Vs->Prop) (h h':Heap):Prop where
 tb:∃T oT ts,h.objs.size<=T/\h'.get? T=some oT/\oT.data=.fields ts/\ts[3]?=some .none/\h'.get? e=some { oe with data:=.fields (vs.setIfInBounds 1 (.ref T)) }
 keep:∀b o,h.get? b=some o->b≠e->¬ old b->b∉ fs->h'.get? b=some o
 slot:∀b o,h.get? b=some o->b≠e->¬ old b->b∈fs->∃sl,h'.get? b=some { o with slots:=sl }
 there:∀b o,h.get? b=some o->∃o',h'.get? b=some o'
section
variable {M:Model}{s:Vt}
theorem Cn {o:Obj}{vs:Array Value} (hd:o.data=.fields vs) (f:Array Value->Array Value):Obj.mapFields f o={ o with data:=.fields (f vs) }:=by
 obtain⟨c,d,dt,sl⟩:=o;cases hd;rfl
theorem IU {b:Vs}{f:Obj->Obj} (hf:∀o,h.get? a=some o->(f o).isFreed=false):∀o,h.get? b=some o->∃o',(h.update a f).get? b=some o':=λo ho=>by
 by_cases q:b=a
 ·subst q;exact⟨_,ZV f ho (hf o ho)⟩
 ·exact⟨o,(ZX _ _ (Ne.symm q)).trans ho⟩
theorem MA {env:Env}{outer:List Env}{L e:Vs}{oe:Obj}{vs:Array Value}{head:Value}{hadNext:Bool}{Q:Unit->Vt->Prop}
  (hfr:A.frames=some (env::outer)) (hl:s.heap.FunFrames base (env::outer)) (hf:env.frame=some L) (he:s.heap.get? e=some oe) (hd:oe.data=.fields vs) (hsz:1<vs.size)
  (h:∀h',HS (cw (env::outer)) e oe vs (λ_=>False) s.heap h'->Q () { s with heap:=h' }) :
  wpAny M A (do let a ←frameOf env;let pl ←entryPlaceOf L hadNext;let b ←EntryCells.newEntry head a .none (rawInt L) .none pl;setField (.ref e) 1 b) (λ_ s'=>wpAny M A (setFlight (.ref e) none) Q E s') E s:=by
 have cc:e∉ cw (env::outer):=λhm=>by
  obtain⟨_,o,ho,hnf⟩:=hl.mem hm;rw[he]at ho;cases ho;exact hnf vs hd
 refine Zz (wpAny_frameOf_fun hfr hl hf λh1 x1=>Zz (wpAny_entryPlaceOf λpl eQ=>?_));unfold EntryCells.newEntry newFields;refine Zz (wpAny_newObj_type ?_ (eQ.sizeOk5 _ _ _ _ _));generalize hpg:([head,Value.ref L,.none,rawInt L,.none]++(if pl.isEmpty then replicate 6 Value.none else pl)).toArray=pg;have gv:3<pg.size:=by rw[←hpg];simp only[size_toArray,ZJ,length_cons,length_nil];omega
 have e1:h1.get? e=some oe:=(x1.2.1 e cc).trans he;have e2:=ZY (h:=h1) ⟨.type "traceback", none,.fields pg,#[]⟩ e1;refine wpAny_setField e2 hd hsz ?_;have ne:h1.objs.size≠e:=Nat.ne_of_gt (lt_size e1);have d3:=Obj.data_mapFields hd (·.setIfInBounds 1 (Value.ref h1.objs.size));have e3:=ZV (Obj.mapFields (·.setIfInBounds 1 (Value.ref h1.objs.size))) e2 (Obj.isFreed_of_fields d3);have t3:=(ZX (h1.push ⟨.type "traceback", none,.fields pg,#[]⟩) (Obj.mapFields (·.setIfInBounds 1 (Value.ref h1.objs.size))) (Ne.symm ne)).trans (ZP h1 rfl);unfold setFlight;refine Zz (wpAny_field e3 d3 (x:=.ref h1.objs.size) (by simp[hsz]) ?_);rw[Zr (show(Value.ref h1.objs.size != Value.none)=true from by simp)];refine wpAny_setField t3 Zj gv (h _ ?_)
 have other:∀b o,b≠e->h1.get? b=some o->∀(g:Obj->Obj),(((h1.push ⟨.type "traceback", none,.fields pg,#[]⟩).update e (Obj.mapFields (·.setIfInBounds 1 (Value.ref h1.objs.size)))).update h1.objs.size g).get? b=some o:=λb o hb aX g=>by
  rw[ZX _ _ (Nat.ne_of_gt (lt_size aX)),ZX _ _ (Ne.symm hb)];exact ZY _ aX
 refine⟨⟨h1.objs.size,_,_,Nat.le_of_eq x1.1.symm,ZV _ t3 (Obj.isFreed_of_fields (Obj.data_mapFields Zj _)),Obj.data_mapFields Zj _,by simp[gv],?_⟩,λb o hb n1 _ n3=>?_,λb o hb n1 _ n3=>?_,λb o hb=>?_⟩
 ·rw[ZX _ _ ne,e3,Cn hd]
 ·have hb1:h1.get? b=some o:=(x1.2.1 b n3).trans hb;exact other b o n1 hb1 _
 ·obtain⟨sl,hs⟩:=x1.2.2 b o hb;exact⟨sl,other b _ n1 hs _⟩
 ·obtain⟨sl,hs⟩:=x1.2.2 b o hb;by_cases q:b=e
  ·subst q;exact⟨_,(ZX _ _ ne).trans e3⟩
  ·exact⟨_,other b _ q hs _⟩
theorem J0 {env:Env}{outer:List Env}{L e:Vs}{oe:Obj}{vs:Array Value}{Q:Unit->Vt->Prop}
  (hfr:A.frames=some (env::outer)) (hl:s.heap.FunFrames base (env::outer)) (hf:env.frame=some L) (he:s.heap.get? e=some oe) (hd:oe.data=.fields vs) (h1:vs[1]?=some .none)
  (h:∀h',HS (cw (env::outer)) e oe vs (λ_=>False) s.heap h'->Q () { s with heap:=h' }):wpAny M A (leaving env (.ref e)) Q E s:=by
 unfold leaving noteFrame;simp only[hf];refine Zz (Zz (wpAny_field he hd h1 ?_));rw[Zs qc];exact MA hfr hl hf he hd (Z9.mp h1).1 h
theorem IV {env:Env}{outer:List Env}{L e T:Vs}{oe oT:Obj}{vs ts:Array Value}{Q:Unit->Vt->Prop}
  (hfr:A.frames=some (env::outer)) (hl:s.heap.FunFrames base (env::outer)) (hf:env.frame=some L) (he:s.heap.get? e=some oe) (hd:oe.data=.fields vs) (h1:vs[1]?=some (.ref T)) (hTe:T≠e)
  (hT:s.heap.get? T=some oT) (g6:oT.data=.fields ts) (h3:ts[3]?=some .none)
  (h:∀h',HS (cw (env::outer)) e oe vs (·=T) s.heap h'->Q () { s with heap:=h' }):wpAny M A (noteFrame (.ref e) env) (λ_ s2=>wpAny M A (setFlight (.ref e) none) Q E s2) E s:=by
 unfold noteFrame;simp only[hf];refine Zz (wpAny_field he hd h1 ?_);rw[Zr (show(Value.ref T != Value.none)=true from by simp)];refine Zz (wpAny_field hT g6 h3 ?_);rw[Zs (show ¬ ((Value.none==rawInt L)=true)from by simp[rawInt])];refine Zz (wpAny_setField hT g6 (Z9.mp h3).1 ?_);have fQ:∀b,b≠T->(s.heap.update T (Obj.mapFields (·.setIfInBounds 3 Value.none))).get? b=s.heap.get? b:=λb hb=>ZX _ _ (Ne.symm hb)
 have nr:∀b o,s.heap.get? b=some o->(∀vs,o.data≠ .fields vs)->b≠T:=λb o hb hn q=>by
  subst q;rw[hT]at hb;cases hb;exact hn ts g6
 refine MA (hfr:=hfr) (hl.of_keeps λb o hb hn=>⟨o,(fQ b (nr b o hb hn)).trans hb,Zj⟩) hf ((fQ e (Ne.symm hTe)).trans he) hd (Z9.mp h1).1 λh' x=>h h' ?_
 have fr:∀o,s.heap.get? T=some o->(Obj.mapFields (·.setIfInBounds 3 Value.none) o).isFreed=false:=λo ho=>by
  rw[hT]at ho;cases ho;exact Obj.isFreed_of_fields (Obj.data_mapFields g6 _)
 obtain⟨T',oT',ts',a1,a2⟩:=x.tb;refine⟨⟨T',oT',ts',by rw[Heap.size_update]at a1;exact a1,a2⟩,λb o hb n1 n2 n3=>x.keep b o ((fQ b n2).trans hb) n1 (λz=>z) n3,λb o hb n1 n2 n3=>x.slot b o ((fQ b n2).trans hb) n1 (λz=>z) n3,λb o hb=>?_⟩;obtain⟨o',gW⟩:=IU fr o hb;exact x.there b o' gW
theorem K8 {env:Env}{outer:List Env}{L e T:Vs}{oe oT:Obj}{vs ts:Array Value}{Q:Unit->Vt->Prop}
  (hfr:A.frames=some (env::outer)) (hl:s.heap.FunFrames base (env::outer)) (hf:env.frame=some L) (he:s.heap.get? e=some oe) (hd:oe.data=.fields vs) (h1:vs[1]?=some (.ref T)) (hTe:T≠e)
  (hT:s.heap.get? T=some oT) (g6:oT.data=.fields ts) (h3:ts[3]?=some .none)
  (h:∀h',HS (cw (env::outer)) e oe vs (·=T) s.heap h'->Q () { s with heap:=h' }):wpAny M A (leaving env (.ref e)) Q E s:=by
 unfold leaving;exact Zz (IV hfr hl hf he hd h1 hTe hT g6 h3 h)
end
noncomputable def Co (e C:Vs) (dx:Option Vs):HO:=.ext λh=>∃oe vs,h.get? e=some oe/\oe.cls=.ref C/\oe.dict=dx/\oe.data=.fields vs/\5<vs.size/\vs[2]?=some .none
structure Ol (P:Program) (w:World) (l:List Env) (H:Hp) (s:Vt) (e C:Vs) (dx:Option Vs) (H':Hp) (s':Vt):Prop where
 os:s'.os=s.os
 bare:AllBare s'.gens
 un:Un (cw l) [] H H' s.heap s'.heap
 aF:dg P w H' s'.heap
 at_:H' e=some (Co e C dx)
def Tb0 (e:Vs) (s':Vt):Prop:=∃oe vs,s'.heap.get? e=some oe/\oe.data=.fields vs/\vs[1]?=some .none
def iT (e:Vs) (H':Hp) (s s':Vt) (fl:Value):Prop:=∃oe vs T oT ts,s'.heap.get? e=some oe/\oe.data=.fields vs/\vs[1]?=some (.ref T)/\T≠e/\s'.heap.get? T=some oT/\oT.data=.fields ts/\ts[3]?=some fl/\H' T=none/\s.heap.get? T=none
def jo (P:Program) (w:World) (l:List Env) (H:Hp) (s:Vt) (e C:Vs) (dx:Option Vs) (H':Hp) (s':Vt):Prop:=Ol P w l H s e C dx H' s'/\iT e H' s s' .none
def cE (P:Program) (w:World):gx:=λouter H s E e s'=>∃ea C dx H',e=.ref ea/\jo P w outer H s ea C dx H' s'/\E (.ref C) dx H'
theorem MC {base h h':Heap}{fs:List Vs}{H H':Hp} (u:Un fs [] H H' h h'):∀ {l:List Env},(∀b∈cw l,b∈fs)->(∀b∈cw l,H b=none)->h.FunFrames base l->h'.FunFrames base l
 | [],_,_,_=>trivial
 |env::r,hs,hn,⟨hk,⟨L,o,hf,hb,ho,hd⟩,hr⟩=>by
  have hL:L∈cw (env::r):=by unfold cw;rw[ZO,hf];exact ZK
  have sub:∀b∈cw r,b∈cw (env::r):=λb z=>by unfold cw;rw[ZO,hf];exact ZT _ z
  obtain⟨sl,e⟩:=u.slot L o ho (hn L hL) (hs L hL) (by simp);exact⟨hk,⟨L,_,hf,hb,e,hd⟩,MC u (λb z=>hs b (sub b z)) (λb z=>hn b (sub b z)) hr⟩
section
variable {H1 H2:Hp}{s1 s2:Vt}{e:Vs}{dx:Option Vs}
structure Ec (X:Cx):Prop where
 gc:X.stack=X.env::X.outer
 fr:X.env.frame=some X.env.locals
 ex:X.ex=[]
theorem J1 {fs:List Vs}{oe:Obj}{vs:Array Value}{old:Vs->Prop}{h':Heap} (ok:dg P w H2 h) (L:HS fs e oe vs old h h') (hf:∀b∈fs,H2 b=none) (ho:∀b,old b->H2 b=none)
  (he:h.get? e=some oe) (hd:oe.data=.fields vs) (at_:H2 e=some (Co e C dx)):dg P w H2 h':=λb u q=>by
 have kp:∀c v,c≠e->(∃z,H2 c=some z)->h.get? c=some v->h'.get? c=some v:=λc v n ⟨z,hz⟩ hv=>L.keep c v hv n (λy=>by rw[ho c y]at hz;cases hz) λy=>by rw[hf c y]at hz;cases hz
 by_cases hb:b=e
 ·subst hb;rw[at_]at q;cases q;obtain⟨⟨oe',i8,a1,a2,a3,a4,a5,a6⟩,_,st⟩:=ok _ _ at_;rw[he]at a1;cases a1;rw[hd]at a4;cases a4;obtain⟨T,oT,ts,b1,b2,b3,b4,b5⟩:=L.tb;exact⟨⟨_,_,b5,a2,a3,Zj,by rw[Array.size_setIfInBounds];exact a5,by rw[Array.getElem?_setIfInBounds_ne qc];exact a6⟩,⟨_,b5⟩,st⟩
 ·refine(ok b u q).fc (λc v hc r=>?_) (λ_ z=>z) λ_ _ z=>z;rcases hc with rfl |hc
  ·exact kp c v hb ⟨u,q⟩ r
  ·refine kp c v (λz=>?_) ⟨_,hc⟩ r;subst z;rw[at_]at hc;cases hc
theorem J4 {oe:Obj}{vs:Array Value}{old:Vs->Prop}{h':Heap} (O:Ec X) (I:Inv X aa σ H1 s1) (F:Ol X.prog X.w X.stack H1 s1 e C dx H2 s2) (he:s2.heap.get? e=some oe) (hd:oe.data=.fields vs) (h1:1<vs.size)
  (hold:∀b,old b->H2 b=none/\s1.heap.get? b=none) (L:HS (cw X.stack) e oe vs old s2.heap h'):jo X.prog X.w X.outer X.eJ X.aI e C dx H2 { s2 with heap:=h' }:=by
 have b0:Un (cw X.outer) [] X.eJ H1 X.aI.heap s1.heap:=by have:=I.base;rw[O.ex]at this;exact this
 have free2:∀b∈cw X.stack,H2 b=none:=λb hb=>by
  obtain⟨_,o,ho,_⟩:=I.stack.mem hb;exact F.un.free b o ho (I.stkFree b hb) (by simp)
 have ne:∀b,H2 b=none->b≠e:=λb n z=>by subst z;rw[F.at_]at n;cases n
 have out:∀b o,X.aI.heap.get? b=some o->b∉ cw X.outer->b∉ cw X.stack:=λb o hb hn z=>by
  rw[O.gc]at z;unfold cw at z;rw[ZO,O.fr]at z;rcases mem_cons.mp z with z |z
  ·exact absurd (Z2 (lt_size hb) I.ok.above) (by rw[z];exact ZI _)
  ·exact hn z
 have up:∀b,b∈cw X.outer->b∈cw X.stack:=λb hb=>by
  rw[O.gc];unfold cw;rw[ZO,O.fr];exact ZT _ hb
 have nold:∀b o,X.aI.heap.get? b=some o->¬ old b:=λb o hb z=>by
  obtain⟨o',gW⟩:=b0.there b o hb (by simp);rw[(hold b z).2]at gW;cases gW
 have und:Un (cw X.outer) [] X.eJ H2 X.aI.heap h':=by
  refine⟨λb o q n hb _=>?_,λb o q n hb _=>?_,λb o q n _=>?_,λb o q _=>?_,λb xs q=>F.un.eM b xs (b0.eM b xs q),λb o xs q=>F.un.eD b o xs (b0.eD b o xs q),λb ps q=>?_⟩
  ·have q1:=b0.keep b o q n hb (by simp);have n1:=b0.free b o q n (by simp);have q2:=F.un.keep b o q1 n1 (out b o q hb) (by simp);exact L.keep b o q2 (ne b (F.un.free b o q1 n1 (by simp))) (nold b o q) (out b o q hb)
  ·obtain⟨sl,q1⟩:=b0.slot b o q n hb (by simp);have n1:=b0.free b o q n (by simp);obtain⟨fg,q2⟩:=F.un.slot b _ q1 n1 (up b hb) (by simp);obtain⟨sl3,q3⟩:=L.slot b _ q2 (ne b (F.un.free b _ q1 n1 (by simp))) (nold b o q) (up b hb);exact⟨sl3,q3⟩
  ·obtain⟨o1,q1⟩:=b0.there b o q (by simp);exact F.un.free b o1 q1 (b0.free b o q n (by simp)) (by simp)
  ·obtain⟨o1,q1⟩:=b0.there b o q (by simp);obtain⟨o2,q2⟩:=F.un.there b o1 q1 (by simp);exact L.there b o2 q2
  ·obtain⟨m1,e1⟩:=b0.d5 b ps q;obtain⟨m2,e2⟩:=F.un.d5 b _ e1;exact⟨m1++m2,by rw[e2,Array.append_assoc]⟩
 refine⟨⟨F.os.trans I.os,F.bare,und,J1 F.aF L free2 (λb z=>(hold b z).1) he hd F.at_,F.at_⟩,?_⟩;obtain⟨T,oT,ts,b1,b2,b3,b4,b5⟩:=L.tb;have hT:s2.heap.get? T=none:=Heap.get?_none_of_le b1;refine⟨_,_,T,oT,ts,b5,Zj,by simp[h1],λz=>?_,b2,b3,b4,F.aF.fresh b1,?_⟩
 ·subst z;rw[he]at hT;cases hT
 ·cases q:X.aI.heap.get? T with
  |none=>rfl
  |some o =>
   obtain⟨o1,q1⟩:=b0.there T o q (by simp);obtain⟨o2,q2⟩:=F.un.there T o1 q1 (by simp);rw[hT]at q2;cases q2
theorem DW (I:Inv X aa σ H1 s1) (F:Ol X.prog X.w X.stack H1 s1 e C dx H2 s2):s2.heap.FunFrames X.base X.stack:=MC F.un (λ_ z=>z) I.stkFree I.stack
theorem HU {E':VS} (O:Ec X) (I:Inv X aa σ H1 s1) (F:jo X.prog X.w X.stack H1 s1 e C dx H2 s2) :
  wpAny (model X.prog X.w) X.A (leaving X.env (.ref e)) (λ_ s3=>jo X.prog X.w X.outer X.eJ X.aI e C dx H2 s3) E' s2:=by
 obtain⟨B,oe,vs,T,oT,ts,a1,a2,a3,a4,a5,a6,a7,a8,a9⟩:=F;have fr:=DW I B;have hA:=I.ok.frames;rw[O.gc]at fr hA;refine K8 hA fr O.fr a1 a2 a3 a4 a5 a6 a7 λh' L=>?_;rw[←O.gc]at L;exact J4 O I B a1 a2 (Z9.mp a3).1 (λb z=>by subst z;exact⟨a8,a9⟩) L
theorem K9 {E':VS} (O:Ec X) (I:Inv X aa σ H1 s1) (B:Ol X.prog X.w X.stack H1 s1 e C dx H2 s2) (T:Tb0 e s2) :
  wpAny (model X.prog X.w) X.A (leaving X.env (.ref e)) (λ_ s3=>jo X.prog X.w X.outer X.eJ X.aI e C dx H2 s3) E' s2:=by
 obtain⟨oe,vs,a1,a2,a3⟩:=T;have fr:=DW I B;have hA:=I.ok.frames;rw[O.gc]at fr hA;refine J0 hA fr O.fr a1 a2 a3 λh' L=>?_;rw[←O.gc]at L;exact J4 O I B a1 a2 (Z9.mp a3).1 (λb z=>z.elim) L
end
theorem Om {CX:gx}{qual:Str}{scope:Scope}{cd:Value}{outer:List Env}{s:Vt}{E:XK} :
  Ec (Au CX P w K mg base N qual scope f cd A outer s H E):=⟨rfl,rfl,rfl⟩
theorem J5 {qual:Str}{scope:Scope}{cd:Value}{outer:List Env}{s:Vt}{E:XK} :
  BJ (cE P w) (Au (cE P w) P w K mg base N qual scope f cd A outer s H E) E:=by
 rintro aa σ H1 s1 e s2 I ⟨ea,C,dx,H2,rfl,F,q⟩;exact Zx (HU (X:=Au (cE P w) P w K mg base N qual scope f cd A outer s H E) Om I F) (λ_ s3 G=>⟨ea,C,dx,H2,Zj,G,q⟩) λ_ _ z=>z
def On (X:Cx) (E:XK):Prop:=∀(aa:LO) (σ:St) (H:Hp) (s:Vt) (e C:Vs) (dx:Option Vs) (H':Hp) (s':Vt),Inv X aa σ H s->Ol X.prog X.w X.stack H s e C dx H' s'->Tb0 e s'->E (.ref C) dx H'->X.xe (.ref e) s'
theorem Bv {qual:Str}{scope:Scope}{cd:Value}{outer:List Env}{s:Vt}{E:XK} :
  On (Au (cE P w) P w K mg base N qual scope f cd A outer s H E) E:=by
 intro aa σ H1 s1 ea C dx H2 s2 I F T q;exact Zx (K9 (X:=Au (cE P w) P w K mg base N qual scope f cd A outer s H E) Om I F T) (λ_ s3 G=>⟨ea,C,dx,H2,Zj,G,q⟩) λ_ _ z=>z
structure J6 (B:String) (bm:Vq):Prop where
 b:bm.contains (.type B)=true
 base:bm.contains (.type "BaseException")=true
 na:bm.contains (.type "AttributeError")=false
 nn:bm.contains (.type "NameError")=false
section
variable {M:Model}{g:Array GenState}{d:Drawn}{t:Nat}{os:OsState}
variable {nm qn:Str}{N:Vs}{bs bm jI:Vq}{ba:Bool}{sn:Vp}{sub:Vq}{ab:Bool}{col:Option Bool}{dd:Option Vs}{k0 k1 k2 k3 k5:Option Value}{B newId di:String}
theorem LA (F:ExcBaseFacts B newId di jI) (T:J6 B bm) {rest:Vq}{Q:Unit->Vt->Prop} (oC:h.get? C=some (excClassObj nm qn C N bs bm ba sn sub ab col dd k0 k1 k2 k3 k5 newId))
  (fin:Q () ⟨h,g,d,t,os⟩):wpAny M A (checkBuiltinCall newId ⟨.ref C::rest,[]⟩) Q E ⟨h,g,d,t,os⟩:=by
 have c1:(Value.ref C::bm).contains (.type B)=true:=by rw[contains_cons,T.b];simp
 have st:=F.noStar;simp only[checkBuiltinCall,F.newKind,F.newSplit,F.newRow]
 repeat (first |refine ZZ oC ?_ | (refine Z4 oC ?_;rw[c1]) |refine wpAny_staticBase_exc oC ?_ |refine wpAny_madeBy_exc oC ?_ |simp only[bne_self_eq_false,Bool.false_eq_true,if_false] |wp_step)
 exact fin
end
section
variable {prog:Program}{R:Result->Vt->Prop}{g:Array GenState}{d:Drawn}{t:Nat}{os:OsState}
variable {nm qn:Str}{N:Vs}{bs bm jI:Vq}{ba:Bool}{sn:Vp}{sub:Vq}{ab:Bool}{col:Option Bool}{dd:Option Vs}{k0 k1 k2 k3 k5:Option Value}{B newId di:String}
noncomputable abbrev LB (C:Vs) (h:Heap):Obj:={ cls:=.ref C,data:=.fields #[.ref h.objs.size,.none,.none,.none,.bool false,.none] }
noncomputable abbrev Dw (C:Vs) (rest:Vq) (h:Heap):Heap:=(h.push { cls:=.type "tuple", data:=.seq rest.toArray }).push (LB C h)
theorem Oo (F:ExcBaseFacts B newId di jI) (T:J6 B bm) {rest:Vq} (oC:h.get? C=some (excClassObj nm qn C N bs bm ba sn sub ab col dd k0 k1 k2 k3 k5 newId))
  (fin:R (.ok (.ret (.ref (h.objs.size+1)))) ⟨Dw C rest h,g,d,t,os⟩) (hz:rest.length<=sizeLine):codeAny (model prog w) A (.builtin newId ⟨.ref C::rest,[]⟩) R ⟨h,g,d,t,os⟩:=by
 have e1:=F.ends;have c1:(Value.ref C::bm).contains (.type B)=true:=by rw[contains_cons,T.b];simp
 have c2:(Value.ref C::bm).contains (.type "AttributeError")=false:=by rw[contains_cons,T.na];rfl
 have c3:(Value.ref C::bm).contains (.type "NameError")=false:=by rw[contains_cons,T.nn];rfl
 refine codeAny_builtinAt F.entry ?_;unfold Builtin.«BaseException.__new__»;refine PySem.wpAt_bind ?_;show PySem.wpAt _ _ _ (stack >>= _) _ _ _;refine PySem.wpAt_bind (PySem.wpAt_stack λp below=>PySem.wpAt_of_wpAny ?_)
 wp_walk
 refine PySem.wpAt_of_wpAny ?_;rw[F.owner]
 repeat (first |with_reducible refine wpAny_madeHere_exc F.canon oC ?_ |with_reducible refine ZZ oC ?_ | (with_reducible refine Z4 oC ?_;first |rw[c1] |rw[c2] |rw[c3]) |wp_step)
 show R _ _;rw[size_push];exact fin
theorem LD (F:ExcBaseFacts B newId di jI) (T:J6 B bm) {rest:Vq}{fI:Vs}{oI:Obj}{Q:Fin->Vt->Prop}
  (oC:h.get? C=some (excClassObj nm qn C N bs bm ba sn sub ab col dd k0 k1 k2 k3 k5 newId)) (li:W.Looks (model prog w) h (typeLookup (.ref C) "__init__") (some (.ref fI))) (oF:h.get? fI=some oI) (cF:oI.cls=.type "function") (hz:rest.length<=sizeLine)
  (fin:wpAny (model prog w) A (call (.ref fI) (.ref (h.objs.size+1)::rest)) (λr s'=>r=.none/\Q (.done (.ret (.ref (h.objs.size+1)))) s') E ⟨Dw C rest h,g,d,t,os⟩) :
  wpAny (model prog w) A (Builtin.«type.__call__» ⟨.ref C::rest,[]⟩) Q E ⟨h,g,d,t,os⟩:=by
 repeat (first |with_reducible refine ZZ oC ?_ |with_reducible refine wpAny_madeBy_exc oC ?_ |wp_step)
 refine codeAny_call_builtin_code (Code.quiet_builtin _ F.quiet) (LA F T oC (Oo F T oC ?_ hz));show wpAny _ _ _ _ _ _;have kp:∀b o,h.get? b=some o->(Dw C rest h).get? b=some o:=λb o z=>ZY _ (ZY _ z);have oC1:=kp _ _ oC;have ge:(Dw C rest h).get? (h.objs.size+1)=some (LB C h):=by unfold Dw;heap_get
 have c1:(Value.ref C::bm).contains (.ref C)=true:=by simp
 unfold isInstance
 repeat (first |with_reducible refine ZZ ge ?_ | (with_reducible refine Z4 oC1 ?_;rw[c1]) |wp_step)
 refine li A _ E ⟨Dw C rest h,g,d,t,os⟩ kp ?_;refine ZM (Zz ?_);unfold bindSpecial;refine Zz (wpAny_typeOf (T := "function") ⟨_,kp _ _ oF,cF⟩ ?_);rw[Zr qc];refine Zy (Zz (Zx fin (λr s' z=>?_) λ_ _ x=>x));obtain⟨rfl,hQ⟩:=z
 wp_walk
 exact hQ
theorem M7 (F:ExcBaseFacts B newId di jI) (T:J6 B bm) {rest:Vq}{fI:Vs}{oI:Obj}{Q:VS}
  (oC:h.get? C=some (excClassObj nm qn C N bs bm ba sn sub ab col dd k0 k1 k2 k3 k5 newId)) (li:W.Looks (model prog w) h (typeLookup (.ref C) "__init__") (some (.ref fI))) (oF:h.get? fI=some oI) (cF:oI.cls=.type "function") (hz:rest.length<=sizeLine)
  (fin:wpAny (model prog w) (A.under (.builtin "type.__call__" ⟨.ref C::rest,[]⟩)) (call (.ref fI) (.ref (h.objs.size+1)::rest)) (λr s'=>r=.none/\Q (.ref (h.objs.size+1)) s') E ⟨Dw C rest h,g,d,t,os⟩) :
  wpAny (model prog w) A (call (.ref C) rest) Q E ⟨h,g,d,t,os⟩:=by
 have f1:=tc_lookup;have f2:=tc_bind (.ref C);have hT:(⟨h,g,d,t,os⟩:Vt).TypeIs (.ref C) "type" := ⟨_,oC,rfl⟩;refine wpAny_call (codeAny_of_tree ?_);show wpAny _ _ (callAny (.ref C) _) _ _ _
 repeat (any_goals (first |assumption |with_reducible refine ZZ oC ?_ |wp_step))
 refine⟨Zj,?_⟩;exact codeAny_call_builtin_at (Code.quiet_builtin _ qb) entry_typeCall (wpAny_check_type_call_sub oC (LD F T oC li oF cF hz fin))
end
noncomputable def E7 (e C:Vs) (dx:Option Vs):HO:=.ext λh=>∃oe vs,h.get? e=some oe/\oe.cls=.ref C/\oe.dict=dx/\oe.data=.fields vs/\vs.size=6/\vs[1]?=some .none/\vs[2]?=some .none
noncomputable def BF (K:FG) (C:Vs):Bool:=match K.lookup C with
 |some ⟨.type "type", _,.cls cd,sl⟩=>(match cd.mro,sl.toList with
  | .ref C'::bm,[_,_,_,_,some (.builtin n),_]=>C'==C && !cd.hasDel&&n == "ValueError.__new__" && bm.contains (.type "BaseException")&&bm.contains (.type "ValueError") && !bm.contains (.type "AttributeError") && !bm.contains (.type "NameError")
  |_,_=>false)
 |_=>false
theorem Gk (X:K.In h) (q:BF K C=true):∃nm qn N bs bm ba sn sub ab col dd k0 k1 k2 k3 k5,h.get? C=some (excClassObj nm qn C N bs bm ba sn sub ab col dd k0 k1 k2 k3 k5 "ValueError.__new__")/\J6 "ValueError" bm:=by
 unfold BF at q;split at q
 ·rename_i dd cd sl ho;split at q
  ·rename_i C' bm k0 k1 k2 k3 n k5 hm hs;simp only[Bool.and_eq_true,beq_iff_eq,Bool.not_eq_true']at q;obtain⟨⟨⟨⟨⟨⟨rfl,hdel⟩,rfl⟩,hb⟩,ht⟩,ha⟩,hn⟩:=q;obtain⟨nm,bs,mro,ns,qn,hd,sn,sub,ab,col,del⟩:=cd
   dsimp only at hm hdel
   subst hm hdel;obtain⟨l⟩:=sl;simp only at hs;subst hs;exact⟨nm,qn,ns,bs,bm,hd,sn,sub,ab,col,dd,k0,k1,k2,k3,k5,X _ _ ho,⟨ht,hb,ha,hn⟩⟩
  ·cases q
 ·cases q
structure MkX (K:FG) (C f:Vs):Prop where
 cls:BF K C=true
 init:W.findIn K (.ref C) "__init__" = some (some (.ref f))
 fn:W.isFn K (.ref f)=true
 fo:∃o,K.lookup f=some o/\o.cls=.type "function"
 kp:W.keepIn K (.ref C)=true
section
variable {CX:gx}{k:Nat}{fd:FuncData}{ps:Vp}{sp:Sp}{dQ:Vr}{ds:Vq}{E:XK}{m:Str}{p apos:Pos}{o:Expr}{es:List Expr}{t:TA}
variable {s:Vt}
theorem M8 (C:Vs) (rest:Vq) (h:Heap):(Dw C rest h).get? (h.objs.size+1)=some (LB C h):=by unfold Dw;heap_get
theorem Inv.madeX (I:Inv X aa σ H s) (rest:Vq):Inv X aa σ (upd H (s.heap.objs.size+1) (E7 (s.heap.objs.size+1) C none)) { s with heap:=Dw C rest s.heap }:=by
 have kp:∀b o,s.heap.get? b=some o->(Dw C rest s.heap).get? b=some o:=λb o z=>ZY _ (ZY _ z);refine I.laid (t':=s.toks) kp (Nat.le_succ _) ?_;have ge:=M8 C rest s.heap;exact⟨⟨_,_,ge,Zj,Zj,Zj,Zj,Zj,Zj⟩,⟨_,ge⟩,λh1 h2 ⟨oe,vs,a,r⟩ k=>⟨oe,vs,k _ a,r⟩⟩
theorem M9 {Q:VK}{vs:Vr} (M:MkX X.K C f) (F:aB X.prog X.w X.K X.mg X.base CX k f fd ps sp) (hr:aD (k+1) X.A) (hb:Binds X.K fd ps ds) (hd:Vals dQ ds) (hx:BJ CX X E) (I:Inv X aa σ H s) (r:Vals vs us) (hz:vs.length<=1000)
  (h:∀x,H x=none->sp (.ref x::(vs++dQ)) (upd H x (E7 x C none)) (λv H2=>v=.aT/\Q (.ref x) H2) E):wpAny (model X.prog X.w) X.A (call (.ref C) us) (EP X aa σ Q) X.xe s:=by
 have hq:=h (s.heap.objs.size+1) (I.aF.fresh (Nat.le_succ _));have I2:=Inv.madeX (C:=C) I us;have r2:Vals (V.ref (s.heap.objs.size+1)::(vs++dQ)) (Value.ref (s.heap.objs.size+1)::(us++ds)):=.cons rfl (r.append hd)
 have hl:(Value.ref (s.heap.objs.size+1)::us++ds).length=ps.length:=by
  have e:=r2.length;rw[F.len _ _ _ _ hq]at e;exact e.symm
 obtain⟨nm,qn,N,bs,bm,ba,sn,sub,ab,col,dd,k0,k1,k2,k3,k5,oC,T⟩:=Gk I.cX M.cls;obtain⟨oF,lF,cF⟩:=M.fo;obtain⟨hh,g,d,tk,os⟩:=s;refine M7 PySem.F.excBase_ValueError T oC (W.looks_findIn I.cX M.init) (I.cX _ _ lF) cF (by rw[←r.length];exact Nat.le_of_lt (AQ hz)) ?_;refine wpAny_call (codeAny_mono (F.run _ X.stack _ _ ⟨_,[]⟩ (Value.ref (hh.objs.size+1)::(us++ds)) _ _ E (hr.make C us []) (I2.gm.make C us []) (hb _ (Value.ref (hh.objs.size+1)::us) I2.cX hl) r2 hq) λr s' fv=>?_);cases r with
 |error e=>exact hx aa σ _ _ e s' I2 fv
 |ok fl =>
  cases fl with
  |ret u =>
   obtain⟨v,H',I3,rv,ev,q3⟩:=I2.after fv;subst ev;exact⟨rv,⟨V.ref (hh.objs.size+1),H',I3,Zj,q3⟩⟩
  |next=>exact False.elim fv
  |brk=>exact False.elim fv
  |cont=>exact False.elim fv
def JH (C:Vs) (sp:Sp) (dQ:Vr) (E:XK) (t:TA):TE:=λσ H Q=>t σ H λvs H1=>vs.length<=1000/\∀x,H1 x=none->sp (.ref x::(vs++dQ)) (upd H1 x (E7 x C none)) (λv H2=>v=.aT/\Q (.ref x) H2) E
theorem BG (M:MkX X.K C f) (F:aB X.prog X.w X.K X.mg X.base CX k f fd ps sp) (hr:aD (k+1) X.A) (hg:Gl X x) (hm:X.mg x=some (.ref C)) (hb:Binds X.K fd ps ds) (hd:Vals dQ ds) (hx:BJ CX X E)
  (ha:PA X (e::es) t) (fw:(x==("__debug__" : Str))=false:=by decide) (he:starEach (e::es) X.env=(false,eval e X.env)::starEach es X.env:=by rfl) (eQ:(backTo pos (starEach es X.env)).any (·.1)=false:=by rfl) :
  PE X (.Call (.Name x p) (e::es) [] pos) (JH C sp dQ E t):=by
 intro aa s σ H Q I h;refine Z3 (Br I hg hm ?_ fw);refine W.callWith_K (h₀:=X.base) I.ok.mod.kin M.kp (aH (ha pos aa s σ H _ I h) λus s1 ⟨vs,H1,I1,r,q⟩=>⟨I1.cX,?_⟩) he eQ;exact M9 M F hr hb hd hx I1 r q.1 q.2
def JI (C:Vs) (te:TE) (E:XK):TS:=λ_ σ H=>te σ H λv H1=>∃e dx,v=.ref e/\H1 e=some (E7 e C dx)/\E (.ref C) dx (upd H1 e (Co e C dx))
theorem NA {H1:Hp}{e:Vs}{dx:Option Vs} (ok:dg P w H1 h) (at_:H1 e=some (E7 e C dx)):dg P w (upd H1 e (Co e C dx)) h:=by
 obtain⟨⟨oe,vs,a1,a2,a3,a4,a5,a6,a7⟩,_,_⟩:=ok _ _ at_;refine ok.write (x:=e) (e:=e) (by rw[at_];exact True.intro) (.inl Zj) (λb u _ q=>q) ⟨_,a1⟩ ⟨⟨oe,vs,a1,a2,a3,a4,qe,a7⟩,⟨_,a1⟩,λh1 h2 ⟨oe,vs,a,r⟩ k=>⟨oe,vs,k _ a,r⟩⟩
end
section
variable {M:Model}{s:Vt}{env:Env}
theorem J7 {x:Sem Value}{Q:Flow->Vt->Prop} (hh:A.handled=none)
  (h:wpAny M A x (λv s1=>∃e oe vs,v=.ref e/\s1.heap.get? e=some oe/\oe.cls=.ref C/\oe.data=.fields vs/\vs[1]?=some .none /\
   (∃nm qn N bs bm ba sn sub ab col dd k0 k1 k2 k3 k5 nid,s1.heap.get? C=some (excClassObj nm qn C N bs bm ba sn sub ab col dd k0 k1 k2 k3 k5 nid)/\bm.contains (.type "BaseException")=true)/\E (.ref e) s1) E s) :
  wpAny M A (raiseStmt env (some x) none) Q E s:=by
 unfold raiseStmt;refine Zz (Zx h (λv s1 z=>?_) λ_ _ y=>y);obtain⟨e,oe,vs,rfl,he,bf,hd,h1,⟨nm,qn,N,bs,bm,ba,sn,sub,ab,col,dd,k0,k1,k2,k3,k5,nid,oC,hb⟩,hE⟩:=z;have c1:(Value.ref C::bm).contains (.type "BaseException")=true:=by rw[contains_cons,hb,Bool.or_true]
 obtain⟨hp,g,d,tk,os⟩:=s1
 repeat (first | (with_reducible refine ZZ he ?_;rw[bf]) |with_reducible refine ZZ oC ?_ | (with_reducible refine Z4 oC ?_;rw[c1]) |wp_step)
 rw[hd];refine Zy ?_;rw[h1];refine Zy ?_;rw[Zs qc];exact Zy (wpAny_raiseNew_none hh hE)
end
section
variable {E:XK}{o:Expr}
theorem BH (hR:On X E) (hc:X.calm=true) (hC:BF X.K C=true) (he:PE X o te):PS X (.Raise (some o) none pos) (JI C te E):=by
 intro aa s σ H D I h;rw[arm_exec_Raise];refine Zz (ZL (J7 (C:=C) (I.ok.hd hc) (Zz (Zx (he aa s σ H _ I h) (λv s1 z=>Zz (ZL (Zy ?_))) λ_ _ y=>y))));obtain⟨u,H1,I1,ru,e,dx,rfl,at_,q⟩:=z;obtain rfl:v=.ref e:=ru;obtain⟨⟨oe,vs,a1,a2,a3,a4,a5,a6,a7⟩,_,_⟩:=I1.aF _ _ at_;obtain⟨nm,qn,N,bs,bm,ba,sn,sub,ab,col,dd,k0,k1,k2,k3,k5,oC,T⟩:=Gk I1.cX hC;refine⟨e,oe,vs,Zj,a1,a2,a4,a6,⟨nm,qn,N,bs,bm,ba,sn,sub,ab,col,dd,k0,k1,k2,k3,k5,_,oC,T.base⟩,?_⟩;refine hR aa σ H1 s1 e C dx _ s1 I1 ⟨Zj,I1.bare,Un.write (x:=e) (e:=e) (by rw[at_];exact True.intro) (.inl Zj) (λb u _ r=>r) ⟨_,a1⟩,NA I1.aF at_,U⟩ ⟨oe,vs,a1,a4,a6⟩ q
end
section
variable {prog:Program}{g:Array GenState}{d:Drawn}{t:Nat}{os:OsState}
variable {nm qn:Str}{N:Vs}{bs bm jI:Vq}{ba:Bool}{sn:Vp}{sub:Vq}{ab:Bool}{col:Option Bool}{dd:Option Vs}{k0 k1 k2 k3 k5:Option Value}{B newId di:String}
theorem J8 (F:ExcBaseFacts B newId di jI) (T:J6 B bm) {M:Model}{e:Vs}{oe:Obj}{rest:Vq}{Q:Unit->Vt->Prop}
  (oC:h.get? C=some (excClassObj nm qn C N bs bm ba sn sub ab col dd k0 k1 k2 k3 k5 newId)) (he:h.get? e=some oe) (bf:oe.cls=.ref C) (fin:Q () ⟨h,g,d,t,os⟩) :
  wpAny M A (checkBuiltinCall di ⟨.ref e::rest,[]⟩) Q E ⟨h,g,d,t,os⟩:=by
 have c1:(Value.ref C::bm).contains (.type B)=true:=by rw[contains_cons,T.b];simp
 have st:=F.noStar;simp only[checkBuiltinCall,F.initKind,F.initSplit,F.initRow]
 repeat (first | (with_reducible refine ZZ he ?_;rw[bf]) |with_reducible refine ZZ oC ?_ | (with_reducible refine Z4 oC ?_;rw[c1]) |wp_step)
 refine wpAny_onRaise ?_;rw[show ∀(a b:String) (n:Nat),Bind.check ⟨.positional, "*", B,.self,[⟨"args", .varPos,false⟩]⟩ a b n (List.map (λx=>x.fst) ({ pos:=Value.ref e::rest }:Args).kw)=pure ()from λa b n=>check_star_args _ _ _ _ _ _];exact Zy fin
theorem LF (F:ExcBaseFacts B newId di jI) (T:J6 B bm) {e:Vs}{oe:Obj}{vs:Array Value}{v0:Value}{rest:Vq}{Q:VS}
  (oC:h.get? C=some (excClassObj nm qn C N bs bm ba sn sub ab col dd k0 k1 k2 k3 k5 newId)) (he:h.get? e=some oe) (bf:oe.cls=.ref C) (hd:oe.data=.fields vs) (h0:vs[0]?=some v0) (hz:rest.length<=sizeLine)
  (fin:Q .none ⟨(h.push { cls:=.type "tuple", data:=.seq rest.toArray }).update e (Obj.mapFields (·.setIfInBounds 0 (.ref h.objs.size))),g,d,t,os⟩) :
  wpAny (model prog w) A (call (.builtin di) (.ref e::rest)) Q E ⟨h,g,d,t,os⟩:=by
 refine wpAny_call (codeAny_call_builtin F.init.plain F.initEntry (J8 F T oC he bf ?_));have e1:=ZY { cls:=.type "tuple", data:=.seq rest.toArray } he;unfold Builtin.«BaseException.__init__»
 wp_walk
 rw[hd];refine Zy ?_;rw[h0];refine Zy (Zz (wpAny_setField e1 hd (Z9.mp h0).1 ?_))
 have done:∀ {E':VS},wpAny (model prog w) A.in1 (match v0 with |Value.ref _=>letGo [v0] |_=>pure ()) (λ_ s'=>Q .none s') E' ⟨(h.push { cls:=.type "tuple", data:=.seq rest.toArray }).update e (Obj.mapFields (·.setIfInBounds 0 (.ref h.objs.size))),g,d,t,os⟩:=λ{E'}=>by
  cases v0 <;> first |exact Zy fin | (wp_walk;exact fin)
 exact Zx done (λ_ s' q=>Zy q) λ_ _ z=>z
end
theorem Op {o:HO} (h:H a=some o):upd H a o=H:=by
 funext b;unfold upd;split
 ·rename_i e;rw[e,h]
 ·rfl
theorem NB {x:V}:∀ {us:Vq},Vals (x::xs) us->∃u ls,us=u::ls/\RelV x u/\Vals xs ls
 |_::_,.cons a b=>⟨_,_,rfl,a,b⟩
section
variable {es:List Expr}{t:TA}{np apos:Pos}
def Ss (K:FG) (t:TA):TE:=λσ H Q=>t σ H λvs H1=>∃a C dx rest,vs=.ref a::rest/\rest.length<=1000/\BF K C=true/\H1 a=some (E7 a C dx)/\Q .aT H1
theorem Qh:typeOf (.type "ValueError")=pure (.type "type"):=by kernel_rfl
theorem Qi:Manifest.isStub "ValueError" = false:=by decide +kernel
theorem Qj (K:FG):W.findCls K (.type "ValueError") (.type "type") "__init__" = some (.val (.builtin "ValueError.__init__")):=by kernel_rfl
theorem Qk:W.handedIn (.builtin "ValueError.__init__")=true:=by decide +kernel
theorem MD:bootBuiltins "ValueError" = some (.type "ValueError"):=by decide +kernel
theorem Oq {pl:Sem Bool} (hg:Gl X "ValueError") (hm:X.mg "ValueError" = none) (ha:PA X (e::es) t) (he:starEach (e::es) X.env=(false,eval e X.env)::starEach es X.env:=by rfl) (eQ:(backTo pos (starEach es X.env)).any (·.1)=false:=by rfl)
  (ht:eval (.Call (.Attribute (.Name "ValueError" np) "__init__" apos) (e::es) [] pos) X.env=(do
   let ov ←eval (.Name "ValueError" np) X.env
   standAt apos.atName
   let (f,first) ←holding [ov] (getMethod ov "__init__" pl)
   callWith pos f first (backTo pos (starEach (e::es) X.env)) (backToKw pos (keywordEach [] X.env))):=by rfl) :
  PE X (.Call (.Attribute (.Name "ValueError" np) "__init__" apos) (e::es) [] pos) (Ss X.K t):=by
 intro aa s σ H Q I h;refine W.methodCall_KW (pl:=pl) ?_ ht;refine EY (u:=.type "ValueError") I hg hm MD ?_;obtain⟨m,Fm⟩:=I.fr;have L1:=λ(Q':Value×Vq->Vt->Prop) hq=>W.method_type (prog:=X.prog) (w:=X.w) (A:=X.A) (E:=X.xe) (K:=X.K) (T := "ValueError") (name := "__init__") (pl:=pl) (v:=.builtin "ValueError.__init__") (Q:=Q') Fm I.ok.mod.kin Qh Qi (Qj X.K) Qk hq;refine L1 _ ?_;refine PyProof.Rows.callWith_builtin1 (aH (ha pos aa _ σ H _ (I.tok _) h) λus s1 ⟨vs,H1,I1,r1,a,C,dx,rest,ev,hz,hC,at_,q⟩=>?_) he eQ;subst ev;obtain⟨nm,qn,N,bs,bm,ba,sn,sub,ab,col,dd,k0,k1,k2,k3,k5,oC,T⟩:=Gk I1.cX hC;obtain⟨⟨oe,ws,a1,a2,a3,a4,a5,a6,a7⟩,_,st⟩:=I1.aF _ _ at_;obtain⟨u0,ls,eu,ra,rr⟩:=NB r1;subst eu
 ·obtain rfl:=ra;obtain⟨hp,g,d,tk,os⟩:=s1;refine LF PySem.F.excBase_ValueError T oC a1 a2 a4 (v0:=ws[0]'qe) (by rw[Array.getElem?_eq_getElem]) (by rw[←rr.length];exact Nat.le_of_lt (AQ hz)) ?_;have J:=I1.kept (h':=hp.push { cls:=.type "tuple", data:=.seq ls.toArray }) (t':=tk) λb u z=>ZY _ z;have e1:=ZY { cls:=.type "tuple", data:=.seq ls.toArray } a1;have e2:=ZV (Obj.mapFields (·.setIfInBounds 0 (.ref hp.objs.size))) e1 (Obj.isFreed_of_fields (Obj.data_mapFields a4 _));rw[Cn a4]at e2
  have J2:=J.write (x:=a) (e:=a) (o:=E7 a C dx) (t':=tk) (by rw[at_];exact True.intro) (.inl rfl) (λb u n z=>(ZX _ _ (Ne.symm n)).trans z) ⟨_,e2⟩
   ⟨⟨_,_,e2,a2,a3,rfl,by rw[Array.size_setIfInBounds];exact a5,by rw[Array.getElem?_setIfInBounds_ne qc];exact a6,by rw[Array.getElem?_setIfInBounds_ne qc];exact a7⟩,⟨_,e2⟩,st⟩
  rw[Op at_]at J2;exact⟨.aT,H1,J2,Zj,q⟩
end
noncomputable def del (H:Hp) (a:Vs):Hp:=λb=>if b=a then none else H b
theorem J9:del H a a=none:=Zr rfl
theorem DX {b:Vs} (h:b≠a):del H a b=H b:=Zs h
section
variable {H1 H2:Hp}{s1 s2:Vt}{e:Vs}{dx:Option Vs}
theorem Os {fs:List Vs}{oe:Obj}{vs:Array Value}{old:Vs->Prop}{h2 h':Heap} (u:Un fs [] H1 H2 h h2) (L:HS fs e oe vs old h2 h') (at_:H2 e=some (Co e C dx)) (hold:∀b,old b->H2 b=none/\h.get? b=none):Un fs [] H1 (del H2 e) h h':=by
 have ne:∀b,H2 b=none->b≠e:=λb n z=>by subst z;rw[at_]at n;cases n
 have nold:∀b o,h.get? b=some o->¬ old b:=λb o hb z=>by rw[(hold b z).2]at hb;cases hb
 have ne2:∀b v,H2 b=some v->(∀φ,v≠ .ext φ)->b≠e:=λb v hv hn z=>by subst z;rw[at_]at hv;cases hv;exact hn _ rfl
 refine⟨λb o q n hb _=>?_,λb o q n hb _=>?_,λb o q n _=>?_,λb o q _=>?_,λb xs q=>?_,λb o xs q=>?_,λb ps q=>?_⟩
 ·exact L.keep b o (u.keep b o q n hb (by simp)) (ne b (u.free b o q n (by simp))) (nold b o q) hb
 ·obtain⟨sl,q1⟩:=u.slot b o q n hb (by simp);obtain⟨fg,q2⟩:=L.slot b _ q1 (ne b (u.free b o q n (by simp))) (nold b o q) hb;exact⟨fg,q2⟩
 ·have z:=u.free b o q n (by simp);rw[DX (ne b z)];exact z
 ·obtain⟨o1,q1⟩:=u.there b o q (by simp);exact L.there b o1 q1
 ·have z:=u.eM b xs q;rw[DX (ne2 b _ z λ_ y=>nomatch y)];exact z
 ·have z:=u.eD b o xs q;rw[DX (ne2 b _ z λ_ y=>nomatch y)];exact z
 ·obtain⟨m,z⟩:=u.d5 b ps q;exact⟨m,by rw[DX (ne2 b _ z λ_ y=>nomatch y)];exact z⟩
theorem Ql (ok:dg P w H2 h) (at_:H2 e=some (Co e C dx)):dg P w (del H2 e) h:=λb u q=>by
 have hb:b≠e:=λz=>by subst z;rw[J9]at q;cases q
 rw[DX hb]at q;have ne2:∀c v,H2 c=some v->(∀φ,v≠ .ext φ)->c≠e:=λc v hv hn z=>by subst z;rw[at_]at hv;cases hv;exact hn _ rfl
 exact(ok b u q).fc (λ_ _ _ z=>z) (λc z=>by rw[DX (ne2 c _ z λ_ y=>nomatch y)];exact z) λc xs z=>by rw[DX (ne2 c _ z λ_ y=>nomatch y)];exact z
structure Cgt (C:Vs) (dx:Option Vs) (e:Vs) (oe:Obj) (T:Vs) (oT:Obj):Prop where
 cls:oe.cls=.ref C
 dict:oe.dict=dx
 fld:∃vs,oe.data=.fields vs/\vs[1]?=some (.ref T)/\vs[2]?=some .none
 tb:∃ts,oT.data=.fields ts/\ts[3]?=some .none
end
noncomputable def E8 (K:FG) (C:Vs):Vq:=match K.lookup C with
 |some ⟨_,_,.cls cd,_⟩=>cd.mro
 |_=>[]
theorem KC (X:K.In h) (q:BF K C=true):∃nm qn N bs bm ba sn sub ab col dd k0 k1 k2 k3 k5,h.get? C=some (excClassObj nm qn C N bs bm ba sn sub ab col dd k0 k1 k2 k3 k5 "ValueError.__new__")/\J6 "ValueError" bm/\E8 K C=.ref C::bm:=by
 obtain⟨nm,qn,N,bs,bm,ba,sn,sub,ab,col,dd,k0,k1,k2,k3,k5,oC,T⟩:=Gk X q;refine⟨nm,qn,N,bs,bm,ba,sn,sub,ab,col,dd,k0,k1,k2,k3,k5,oC,T,?_⟩;unfold BF at q;unfold E8;split at q
 ·rename_i iw cd sl ho;rw[ho];have e:=X _ _ ho;rw[oC]at e;have e1:=Option.some.inj e;have e3:=congrArg Obj.data e1;injection e3 with e2
  rw[←e2]
 ·cases q
section
variable {M:Model}{g:Array GenState}{d:Drawn}{t:Nat}{os:OsState}
variable {nm qn nm' qn':Str}{N D N':Vs}{bs bm bs' bm':Vq}{ba hdct':Bool}{sn sn':Vp}{sub sub':Vq}{ab ab':Bool}{col col':Option Bool}{dd iw:Option Vs}{k0 k1 k2 k3 k5 l0 l1 l2 l3 l5:Option Value}{newId newId':String}
theorem JJ {e:Vs}{oe:Obj}{Q:Bool->Vt->Prop} (oC:h.get? C=some (excClassObj nm qn C N bs bm ba sn sub ab col dd k0 k1 k2 k3 k5 newId)) (oD:h.get? D=some (excClassObj nm' qn' D N' bs' bm' hdct' sn' sub' ab' col' iw l0 l1 l2 l3 l5 newId'))
  (he:h.get? e=some oe) (bf:oe.cls=.ref C) (bh:bm'.contains (.type "BaseException")=true) (hq:Q ((Value.ref C::bm).contains (.ref D)) ⟨h,g,d,t,os⟩):wpAny M A (excMatches (.ref e) (.ref D)) Q E ⟨h,g,d,t,os⟩:=by
 have hcB:(Value.ref D::bm').contains (.type "BaseException")=true:=by rw[contains_cons,bh,Bool.or_true]
 have f:=tc_notTuple;unfold excMatches;generalize hb:(Value.ref C::bm).contains (.ref D)=b at hq
 repeat (first | (with_reducible refine ZZ he ?_;rw[bf]) |with_reducible refine ZZ oD ?_ | (with_reducible refine Z4 oD ?_;rw[hcB]) | (with_reducible refine Z4 oC ?_;rw[hb]) |wp_step)
 cases b <;> (wp_walk;exact hq)
end
noncomputable def Ed (X:Cx) (e:Vs) (oe:Obj) (T:Vs) (oT:Obj):Cx:={ X with A:=X.A.mark (some (.ref e)),calm:=false,pn:=X.pn++[(e,oe),(T,oT)],xe:=λ_ _=>False }
section
variable {s:Vt}{e T:Vs}{oe oT:Obj}
theorem Inv.mark (I:Inv X ((e,oe)::(T,oT)::aa) σ H s):Inv (Ed X e oe T oT) aa σ H s :=
 ⟨⟨I.ok.mod,I.ok.kind,I.ok.glob,I.ok.blt,I.ok.above,I.ok.inj,I.ok.has,I.ok.i7,(λz=>by cases (show false=true from z)),I.ok.frames,I.ok.gc,I.ok.exf,I.ok.bs,I.ok.gX,I.ok.gB,I.ok.fY,I.ok.dj,I.ok.ij⟩,I.os,I.bare,I.base,I.loc,I.cell,I.free,I.cQ,
  λp hp=>I.pin p (by simpa[Ed]using hp),I.aF,I.len⟩
theorem Inv.unmark (ok:X.Ok) (I:Inv (Ed X e oe T oT) aa σ H s):Inv X ((e,oe)::(T,oT)::aa) σ H s :=
 ⟨ok,I.os,I.bare,I.base,I.loc,I.cell,I.free,I.cQ,λp hp=>I.pin p (by simpa[Ed]using hp),I.aF,I.len⟩
theorem Inv.less {q:LO} (I:Inv X (q++aa) σ H s):Inv X aa σ H s:=I.cy λp hp=>I.pin p (ZU _ (ZU _ hp))
theorem Inv.nameless {h':Heap}{m':SV}{tk:Nat} (I:Inv X aa σ H s) (hn:h'.Ns X.env.locals m') (hs:Heap.SameBut X.env.locals s.heap h'):Inv X aa (replicate σ.length none) H { s with heap:=h',toks:=tk }:=by
 obtain⟨m,⟨oL,_,_,jB,_⟩,_⟩:=id I.loc;refine⟨I.ok,I.os,I.bare,⟨λb o e n hb hx=>?_,λb o e n hb hx=>?_,I.base.free,λb o e hx=>?_,I.base.eM,I.base.eD,I.base.d5⟩,⟨_,hn,λj y v' e1 e2 e3=>?_⟩,λy c e=>?_,I.free,I.cQ,λp hp=>?_,λb ob e=>?_,by simpa using I.len⟩
 ·exact(hs.2 b (ZF (Z2 (lt_size e) I.ok.above))).trans (I.base.keep b o e n hb hx)
 ·obtain⟨sl,e1⟩:=I.base.slot b o e n hb hx;exact⟨sl,(hs.2 b (ZF (Z2 (lt_size e) I.ok.above))).trans e1⟩
 ·obtain⟨o',e1⟩:=I.base.there b o e hx;exact⟨o',(hs.2 b (ZF (Z2 (lt_size e) I.ok.above))).trans e1⟩
 ·rw[List.getElem?_replicate]at e2;split at e2 <;> cases e2
 ·obtain⟨w',z⟩:=I.cell y c e;exact⟨w',z.sameBut hs (I.jj y c e)⟩
 ·obtain⟨e,n,ne,nf,d⟩:=I.pin p hp;exact⟨(hs.2 p.1 ne).trans e,n,ne,nf,d⟩
 ·refine(I.aF b ob e).fc (λc w' hc q=>(hs.2 c ?_).trans q) (λ_ q=>q) λ_ _ q=>q;intro z;subst z;rcases hc with z |hc
  ·rw[←z,I.free]at e;cases e
  ·rw[I.free]at hc;cases hc
end
section
variable {Dn:Vs}{dx:Option Vs}{hs:List ExceptHandler}{t:Vs->TS}{np:Pos}{name:Option Str}{body:List Stmt}
theorem NC (e:Vs):Value.ref e≠byPass:=by intro q;cases q
theorem ND {s:Vt}{e T:Vs}{oe oT:Obj} (hC:BF X.K C=true) (hD:BF X.K Dn=true) (c:Cgt C dx e oe T oT) (I:Inv X ((e,oe)::(T,oT)::aa) σ H s) {Q:Bool->Vt->Prop}
  (h:Q ((E8 X.K C).contains (.ref Dn)) s):wpAny (model X.prog X.w) A (excMatches (.ref e) (.ref Dn)) Q E s:=by
 obtain⟨nm,qn,N,bs,bm,ba,sn,sub,ab,col,dd,k0,k1,k2,k3,k5,oC,T1,e1⟩:=KC I.cX hC;obtain⟨nm',qn',N',bs',bm',hdct',sn',sub',ab',col',iw,l0,l1,l2,l3,l5,oD,T2,e2⟩:=KC I.cX hD;have he:=(I.pin (e,oe) (by simp)).1;rw[e1]at h;obtain⟨hp,g,d,tk,os⟩:=s;exact JJ oC oD he c.cls T2.base h
end
noncomputable def E9 (X:Cx) (P0:LO) (xe:VS):Cx:={ X with pn:=X.pn++P0,xe:=xe }
section
variable {P0:LO}{xe:VS}{s:Vt}
theorem Cx.Ok.tr (ok:X.Ok):(E9 X P0 xe).Ok:=⟨ok.mod,ok.kind,ok.glob,ok.blt,ok.above,ok.inj,ok.has,ok.i7,ok.hd,ok.frames,ok.gc,ok.exf,ok.bs,ok.gX,ok.gB,ok.fY,ok.dj,ok.ij⟩
theorem Cx.Ok.untr (ok:(E9 X P0 xe).Ok):X.Ok:=⟨ok.mod,ok.kind,ok.glob,ok.blt,ok.above,ok.inj,ok.has,ok.i7,ok.hd,ok.frames,ok.gc,ok.exf,ok.bs,ok.gX,ok.gB,ok.fY,ok.dj,ok.ij⟩
theorem Inv.tr (I:Inv X P0 σ H s):Inv (E9 X P0 xe) [] σ H s:=⟨I.ok.tr,I.os,I.bare,I.base,I.loc,I.cell,I.free,I.cQ,λp hp=>I.pin p (by simpa[E9]using hp),I.aF,I.len⟩
theorem Inv.untr (I:Inv (E9 X P0 xe) aa σ H s):Inv X P0 σ H s:=⟨I.ok.untr,I.os,I.bare,I.base,I.loc,I.cell,I.free,I.cQ,λp hp=>I.pin p (by
 rcases mem_append.mp hp with z |z
 ·exact ZR _ (ZR _ z)
 ·exact ZR _ (ZU _ z)),I.aF,I.len⟩
end
structure Ee (K:FG) (C:Vs):Prop where
 ga:W.findIn K (.ref C) "__getattribute__" = some (some (.builtin "BaseException.__getattribute__"))
 gr:W.findIn K (.ref C) "__getattr__" = some none
 mb:W.mroIn K C (.type "BaseException")=some true
section
variable {prog:Program}{x:Vs}{ox:Obj}{od:Option Obj}{name:Str}{g:Array GenState}{d:Drawn}{t:Nat}{os:OsState}
theorem NE {M:Model}{nameV:Value}{Q:Unit->Vt->Prop} (p:Ee K C) (X:K.In h) (I:W.InstAt h x ox C od) (hq:Q () ⟨h,g,d,t,os⟩):wpAny M A (checkBuiltinCall "BaseException.__getattribute__" ⟨[.ref x,nameV],[]⟩) Q E ⟨h,g,d,t,os⟩:=by
 have hk:builtinKind "BaseException.__getattribute__" = some .slot:=by decide +kernel
 have hsplit:splitId "BaseException.__getattribute__" = some ("BaseException", "__getattribute__"):=by decide +kernel
 have ha:=F.args_bexc_ga (.ref x) nameV;have L0:=I.type (M:=M);have L1:=W.looks_mroIn (M:=M) X p.mb;simp only[checkBuiltinCall,hk,hsplit];refine Zz ?_
 ·unfold isInstance
  repeat (first |with_reducible refine L0.at ?_ |with_reducible refine L1.at ?_ |wp_step)
  exact hq
theorem NF {v:Value}{tk:Tok}{Q:Fin->Vt->Prop} (X:K.In h) (I:W.InstAt h x ox C od) (hf:W.findObj K C od name=some (.value v)) (hq:Q (.done (.ret v)) ⟨h,g,d,t,os⟩) :
  wpAny (model prog w) A (Builtin.«object.__getattribute__» ⟨[.ref x,.str name tk],[]⟩) Q E ⟨h,g,d,t,os⟩:=by
 have L0:=I.type (M:=model prog w);have L1:=W.looks_find (M:=model prog w) X I hf
 repeat (any_goals (first |assumption |with_reducible refine L0.at ?_ |with_reducible refine L1.at ?_ |wp_step))
theorem NG {tk:Tok}{Q:Fin->Vt->Prop} (X:K.In h) (I:W.InstAt h x ox C od) (hf:W.findObj K C od name=some (.bind (.builtin "getset_descriptor.__get__") (.builtin "object.__class__"))) (hm:W.mroIn K C (.type "object")=some true)
  (hq:Q (.done (.ret (.ref C))) ⟨h,g,d,t,os⟩) :
  wpAny (model prog w) A (Builtin.«object.__getattribute__» ⟨[.ref x,.str name tk],[]⟩) Q E ⟨h,g,d,t,os⟩:=by
 have L0:=I.type (M:=model prog w);have L1:=W.looks_find (M:=model prog w) X I hf
 repeat (any_goals (first |assumption |with_reducible refine L0.at ?_ |with_reducible refine L1.at ?_ |wp_step))
 exact W.class_get X I hm (Zy hq)
theorem Ot {tk:Tok}{v:Value}{R:Result->Vt->Prop} (p:Ee K C) (X:K.In h) (I:W.InstAt h x ox C od)
  (hb:∀(A':Around) (E':VS) (Q:Fin->Vt->Prop),Q (.done (.ret v)) ⟨h,g,d,t,os⟩->wpAny (model prog w) A' (Builtin.«object.__getattribute__» ⟨[.ref x,.str name tk],[]⟩) Q E' ⟨h,g,d,t,os⟩) (hq:R (.ok (.ret v)) ⟨h,g,d,t,os⟩) :
  codeAny (model prog w) A (.call (.builtin "BaseException.__getattribute__") ⟨[.ref x,.str name tk],[]⟩) R ⟨h,g,d,t,os⟩ :=
 codeAny_call_builtin F.excAttr_ValueError.ga.plain F.entry_bexc_ga (NE p X I (hb _ _ _ hq))
theorem Ou {tk:Tok}{v:Value}{fill expr:Bool}{Q:VS} (p:Ee K C) (X:K.In h) (I:W.InstAt h x ox C od) (hh:W.handedIn v=true)
  (hb:∀(A':Around) (E':VS) (Q:Fin->Vt->Prop),Q (.done (.ret v)) ⟨h,g,d,t,os⟩->wpAny (model prog w) A' (Builtin.«object.__getattribute__» ⟨[.ref x,.str name tk],[]⟩) Q E' ⟨h,g,d,t,os⟩) (hq:Q v ⟨h,g,d,t,os⟩) :
  wpAny (model prog w) A (getAttrBy (.ref x) (.str name tk) fill expr) Q E ⟨h,g,d,t,os⟩:=by
 have L0:=I.type (M:=model prog w);have L1:=W.looks_findIn (M:=model prog w) X p.ga;have L2:=W.looks_findIn (M:=model prog w) X p.gr;have f3:=F.excAttr_ValueError.ga.bind (.ref x);have hx0:(expr&&onTheHeap (Value.builtin "BaseException.__getattribute__"))=false:=by cases expr <;> rfl
 have hx2:(Value.builtin "BaseException.__getattribute__" == Value.builtin "object.__getattribute__")=false:=by decide +kernel
 have hx1:(onTheHeap (Value.ref C)&&Value.builtin "BaseException.__getattribute__" == Value.builtin "object.__getattribute__")=false:=by rw[hx2];rfl
 have ho:=W.handedOut_of hh
 repeat (any_goals (first |assumption |with_reducible refine L0.at ?_ |with_reducible refine L1.at ?_ |with_reducible refine L2.at ?_ |wp_step))
 refine Ot p X I hb ?_
 repeat (any_goals (first |assumption | (rw[ho];exact Zy hq) |wp_step))
theorem Ov {v:Value}{expr:Bool}{Q:VS} (p:Ee K C) (X:K.In h) (I:W.InstAt h x ox C od) (hf:W.findObj K C od name=some (.value v)) (hh:W.handedIn v=true) (hq:Q v ⟨h,g,d,t+1,os⟩) :
  wpAny (model prog w) A (getAttr (.ref x) name expr) Q E ⟨h,g,d,t,os⟩:=by
 unfold getAttr;refine Zz (wpAny_mkText ?_);exact Ou p X I hh (λA' E' Q' z=>NF X I hf z) hq
theorem KD {Q:Option Value->Vt->Prop} (p:Ee K C) (X:K.In h) (I:W.InstAt h x ox C od) (hf:W.findObj K C od "__class__" = some (.bind (.builtin "getset_descriptor.__get__") (.builtin "object.__class__"))) (hm:W.mroIn K C (.type "object")=some true)
  (hq:Q (some (.ref C)) ⟨h,g,d,t+1,os⟩):wpAny (model prog w) A (getAttr? (.ref x) "__class__") Q E ⟨h,g,d,t,os⟩:=by
 unfold getAttr? getAttrBy?;refine Zz (wpAny_mkText (Zz (wpAny_attempt ?_)));exact Ou (v:=.ref C) p X I Zj (λA' E' Q' z=>NG X I hf hm z) (Zy hq)
end
theorem Hz {name:Str}{od:Option Obj}{a g:Value} (hc:(W.clsIn K C).isSome=true) (ha:W.findIn K (.ref C) name=some (some a)) (hg:W.specialIn K a "__get__" = some (some g)) (ht:W.takesIn K a=some true):W.findObj K C od name=some (.bind g a):=by
 obtain⟨cd,hc⟩:=Option.isSome_iff_exists.mp hc;unfold W.findObj;rw[hc,Option.bind_some,ha,Option.bind_some];simp[hg,ht]
structure Su (K:FG) (C:Vs):Prop where
 hg:Ee K C
 hc:(W.clsIn K C).isSome=true
 ha:W.findIn K (.ref C) "__class__" = some (some (.builtin "object.__class__"))
 hn:W.specialIn K (.builtin "object.__class__") "__get__" = some (some (.builtin "getset_descriptor.__get__"))
 htk:W.takesIn K (.builtin "object.__class__")=some true
 hm:W.mroIn K C (.type "object")=some true
theorem Ow {x D:Vs}{ox:Obj}{od:Option Obj} (k:Su K D):W.KitX K (.ref x) (.ref D) (λh=>W.InstAt h x ox D od) where
 ty:=λ_ _ _ I=>I.type
 it:=λ_ _ X _=>by
  have iN:=k.hc;unfold W.clsIn at iN;split at iN
  ·rename_i c' d' cd' sl' ho;intro A' Q' E' s' k q;unfold isType loadHead;exact Zz (wpAny_loadPart (k _ _ (X _ _ ho)) (Zy q))
  ·cases iN
 ne:=λh tp dd its n sl X htp=>by
  have iN:=k.hc;refine Bool.eq_false_iff.mpr λq=>?_;have e:D=tp:=Value.ref.inj (beq_iff_eq.mp q);subst e;unfold W.clsIn at iN;split at iN
  ·rename_i c' d' cd' sl' ho;have z:=(X _ _ ho).symm.trans htp;cases z
  ·cases iN
 ca:=λ{prog w A E Q s} X I h=>by
  obtain⟨hh,g,d,t,os⟩:=s;exact KD k.hg X I (Hz k.hc k.ha k.hn k.htk) k.hm h
noncomputable def jm (f:Vs) (o:Obj):HO:=.ext λh=>h.get? f=some o
noncomputable def F7 (c:Vs) (qual:Str):HO:=.ext λh=>h.CodeRec (.ref c) qual
noncomputable def ES (P:Program) (w:World) (K:FG) (mg:SV) (base:Heap) (N:Vp) (qual:Str) (scope:Scope) (f:Vs) (cd:Value) (cl:List (Str×Vs)) (A:Around) (outer:List Env) (s:Vt) (H:Hp) (E:XK):Cx where
 prog:=P
 w:=w
 K:=K
 mg:=mg
 base:=base
 A:=A.deeper (W.envX qual scope s.heap.objs.size f cd cl)
 N:=N
 aI:=s
 eJ:=H
 env:=W.envX qual scope s.heap.objs.size f cd cl
 outer:=outer
 stack:=W.envX qual scope s.heap.objs.size f cd cl::outer
 ex:=[]
 calm:=true
 fn:=λ_=>false
 pn:=[]
 xe:=λe s'=>wpAny (model P w) (A.deeper (W.envX qual scope s.heap.objs.size f cd cl)) (leaving (W.envX qual scope s.heap.objs.size f cd cl) e) (λ_ s''=>cE P w outer H s E e s'') (λe' s''=>cE P w outer H s E e' s'') s'
structure HV (N:Vp) (scope:Scope) (cl:List (Str×Vs)) (σ:St) (H:Hp) (h:Heap):Prop where
 inj:∀x y c,cl.lookup x=some c->cl.lookup y=some c->x=y
 has:∀x,(scope.names.lookup x=some .cell\/scope.names.lookup x=some .free)->∃c,cl.lookup x=some c
 cell:∀x c,cl.lookup x=some c->(∃v,h.IsCell c v)/\H c=none
 val:∀(i:Nat) x v,N[i]?=some x->σ[i]?=some (some v)->scope.names.lookup x=some .free/\∃u c,RelV v u/\cl.lookup x=some c/\h.IsCell c (some u)
 len:σ.length=N.length
section
variable {qual name:Str}{scope:Scope}{c':Vs}{cd:Value}{cl:List (Str×Vs)}{outer:List Env}{s:Vt}{E:XK}
theorem VX:Ec (ES P w K mg base N qual scope f cd cl A outer s H E):=⟨rfl,rfl,rfl⟩
theorem Dl:BJ (cE P w) (ES P w K mg base N qual scope f cd cl A outer s H E) E:=by
 rintro aa σ H1 s1 e s2 I ⟨ea,C,dx,H2,rfl,F,q⟩;exact Zx (HU (X:=ES P w K mg base N qual scope f cd cl A outer s H E) VX I F) (λ_ s3 G=>⟨ea,C,dx,H2,Zj,G,q⟩) λ_ _ z=>z
theorem LG {h1:Heap}{m0:SV}{tk:Nat} (hk0:scope.kind=.function) (hd:A.handled=none) (e0:eY P w K mg base A outer s H) (C:HV N scope cl σ H s.heap) (jC:h1.Ns s.heap.objs.size m0) (hk:∀b o,s.heap.get? b=some o->h1.get? b=some o) :
  Inv (ES P w K mg base N qual scope f cd cl A outer s H E) [] σ H { s with heap:=h1,toks:=tk }:=by
 have ja:∀b:Vs,b∉ (ES P w K mg base N qual scope f cd cl A outer s H E).ex:=λb z=>absurd (show b∈([]:List Vs)from z) (by simp);have cellK:∀ {c:Vs}{v:Option Value},s.heap.IsCell c v->h1.IsCell c v:=λ{c v} ⟨o,ho,hd⟩=>⟨o,hk _ _ ho,hd⟩
 refine⟨⟨e0.mod,hk0,Zj,Zj,ZA _,C.inj,C.has,λy c z _=>(by cases (show false=true from z)),λ_=>hd,Around.frames_deeper e0.frames,.inr ⟨Zj,Zj⟩,λb z=>absurd z (ja b),e0.bs,e0.gX,λb _ _=>ja b,λb z=>absurd z (ja b),e0.dj,e0.ij⟩,
  rfl,e0.bare,Un.kept hk,⟨m0,jC,λi x v h1 h2 h3=>?_⟩,λy c h=>?_,e0.aF.fresh (ZA _),λy c h=>(C.cell y c h).2,λp hp=>absurd (show p∈([]:LO)from hp) (by simp),e0.aF.kept hk,C.len⟩
 ·obtain⟨k,u,c,r,e,z⟩:=C.val i x v h1 h2;exact⟨u,r,.inr ⟨.inr k,c,e,cellK z⟩⟩
 ·obtain⟨⟨v,z⟩,_⟩:=C.cell y c h;exact⟨v,cellK z⟩
theorem Ox {k:Nat}{params:Arguments}{body:Expr}{pm eO:Value}{Q:VK}{tb:TE} (hr:aD k A) (e0:eY P w K mg base A outer s H) (C:HV N scope cl σ H s.heap)
  (ho:s.heap.get? f=some (W.kla_obj name qual params body scope cl pm c' eO)) (fJ:s.heap.CodeRec (.ref c') qual) (bi:bindArgs (W.kla_fn name qual params body scope cl pm (.ref c') eO) ⟨[],[]⟩=pure [])
  (hco:scope.isCoroutine=false) (bq:scope.isGenerator=false) (hk:scope.kind=.function) (be:∀x∈scope.names,x.2≠ .cell)
  (hb:PE (ES P w K mg base N qual scope f (.ref c') cl A outer s H E) body tb) (h:tb σ H Q):codeAny (model P w) A (.call (.ref f) ⟨[],[]⟩) (CR (cE P w) outer P w H s Q E) s:=by
 have lim:s.heap.NoLimit:=e0.mod.nolimit.keeps λb o e=>(e0.bs b o e).1;refine W.kla_callFunE hr.depth ho rfl hco bq rfl fJ ?_;rw[bi];refine Zy (wpAny_newFunctionEnv be (λy hy=>nomatch hy) (λdJ jC hsb=>⟨lim.fresh _ hsb,?_⟩) hk);show codeAny _ _ (.expr body (W.envX qual scope s.heap.objs.size f (.ref c') cl)) _ _;have hk₁:∀b o,s.heap.get? b=some o->dJ.get? b=some o:=λb o e=>hsb.extBut b o (ZF (lt_size e)) (ZY _ e);have I:Inv (ES P w K mg base N qual scope f (.ref c') cl A outer s H E) [] σ H _:=LG (tk:=s.toks+([]:List (Str×Value)).length) hk hr.hd e0 C jC hk₁;exact W.kla_codeExpr (Zx (hb [] _ σ H Q I h) (λv s' ⟨x,H',J,rv,q⟩=>⟨x,H',J.os,J.bare,J.base,J.aF,rv,q⟩) λe s' z=>z)
end
section
variable {s:Vt}
theorem Inv.cells {scope:Scope}{cl:List (Str×Vs)}{iH:St} (I:Inv X aa σ H s) (C:HV N scope cl iH X.eJ X.aI.heap) (iY:∀x c,cl.lookup x=some c->c∉ X.fs) (hex:X.ex=[]):HV N scope cl iH H s.heap:=by
 have kp:∀x c v,cl.lookup x=some c->X.aI.heap.IsCell c v->s.heap.IsCell c v:=λx c v e ⟨o,ho,hd⟩=>⟨o,I.base.keep c o ho (C.cell x c e).2 (iY x c e) (by rw[hex];simp),hd⟩;refine⟨C.inj,C.has,λx c e=>?_,λi x v h1 h2=>?_,C.len⟩
 ·obtain⟨⟨v,z⟩,n⟩:=C.cell x c e;obtain⟨o,ho,_⟩:=id z;exact⟨⟨v,kp x c v e z⟩,I.base.free c o ho n (by rw[hex];simp)⟩
 ·obtain⟨k,u,c,r,e,z⟩:=C.val i x v h1 h2;exact⟨k,u,c,r,e,kp x c _ e z⟩
def KF (i:Nat) (f c':Vs) (qual:Str) (o:Obj) (iH:St) (tb:TE):TE:=λσ H Q=>σ[i]?=some (some (.ref f))/\H f=some (jm f o)/\H c'=some (F7 c' qual)/\tb iH H Q
theorem LH {i k:Nat}{name qual:Str}{p:Pos}{Nl:Vp}{scope:Scope}{cl:List (Str×Vs)}{iH:St}{c':Vs}{params:Arguments}{body:Expr}{pm eO:Value}{tb:TE}{E:XK}
  (hN:X.N[i]?=some x) (hv:Vis X.env.scope x) (hr:aD k X.A) (C:HV Nl scope cl iH X.eJ X.aI.heap) (iY:∀x c,cl.lookup x=some c->c∉ X.fs) (hex:X.ex=[]) (hx:BJ (cE X.prog X.w) X E)
  (bi:bindArgs (W.kla_fn name qual params body scope cl pm (.ref c') eO) ⟨[],[]⟩=pure [])
  (hco:scope.isCoroutine=false) (bq:scope.isGenerator=false) (hk:scope.kind=.function) (be:∀x∈scope.names,x.2≠ .cell)
  (hb:∀s H,PE (ES X.prog X.w X.K X.mg X.base Nl qual scope f (.ref c') cl X.A X.stack s H E) body tb) (hd:(x==("__debug__" : Str))=false:=by decide) (fJ:(x==("__classdict__" : Str))=false:=by decide) :
  PE X (.Call (.Name x p) [] [] pos) (KF i f c' qual (W.kla_obj name qual params body scope cl pm c' eO) iH tb):=by
 intro aa s σ H Q I h;obtain⟨h1,h2,h3,h4⟩:=h;refine Z3 (aH (OD hN hv hd fJ aa s σ H (λv H'=>v=.ref f/\H'=H) I ⟨_,h1,rfl,rfl⟩) λu s1 ⟨v,H1,I1,r,ev,eH⟩=>?_);subst ev eH;obtain rfl:u=Value.ref f:=r;obtain⟨ho,_,_⟩:=I1.aF _ _ h2;obtain⟨hc,_,_⟩:=I1.aF _ _ h3;refine callWith_meth0 rfl ho (wpAny_call (codeAny_mono (Ox hr I1.gm (I1.cells C iY hex) ho hc bi hco bq hk be (hb s1 H1) h4) λr s' hq=>?_));cases r with
 |error e=>exact hx aa σ H1 s1 e s' I1 hq
 |ok fl =>
  cases fl with
  |ret u=>exact I1.after hq
  |next=>exact False.elim hq
  |brk=>exact False.elim hq
  |cont=>exact False.elim hq
end
section
variable {CX:gx}
theorem aQ.at {qual:Str}{st:Stmt}{fd:FuncData}{ps:Vp}{k:Nat}{outer:List Env}{s:Vt}{args:Args}{vs:Vr}{Q:VK}{E:XK} (F:aQ K x qual st f fd) (S:AH N ps (defScope st)) (hl:vs.length=ps.length)
  (hr:aD (k+1) A) (e0:eY P w K mg base A outer s H) (hb:BindsTo s fd args (ps.zip us)) (r:Vals vs us)
  (bg:∀ae,aD k (A.deeper (envOfC qual (defScope st) s.heap.objs.size f ae))->∃t,eI (Au CX P w K mg base N qual (defScope st) f ae A outer s H E) (defBody st) t/\t { nx:=λ_ H'=>Q .aT H',rt:=Q } (Ca N vs) H) :
  codeAny (model P w) A (.call (.ref f) args) (CR CX outer P w H s Q E) s:=by
 obtain⟨oc,od,kV,doc,pm,an,ae,ct,gd,rfl,lk,fJ⟩:=F.ex;have KX:K.In s.heap:=e0.mod.kin.keeps λb o z=>(e0.bs b o z).1;have lim:s.heap.NoLimit:=e0.mod.nolimit.keeps λb o z=>(e0.bs b o z).1
 have hk:∀y∈ps.zip us,(defScope st).names.lookup y.1=some .local\/((defScope st).names.lookup y.1=some .cell/\((cellsFrom (s.heap.objs.size+1) (defScope st).names []).lookup y.1).isSome=true):=λ⟨n,v⟩ hy=>by
  rcases S.par n (of_mem_zip hy).1 with q |q
  ·exact .inl q
  ·exact .inr ⟨q,W.cellsFrom_some _ _ _ (.inl q)⟩
 refine codeAny_call_function hr.depth (KX _ _ lk) rfl S.co S.gen rfl (W.codeRec_of KX fJ) (hb _ _ _ _ (wpAny_newFunctionEnv_cells S.kind hk λenv ee s1 x=>?_));subst ee;refine⟨lim.keeps x.toInCall.keep,codeAny_func ?_⟩;obtain⟨t,ht,hq⟩:=bg ae (hr.deeper _);have I:Inv (Au CX P w K mg base N qual (defScope st) f ae A outer s H E) [] (Ca N vs) H s1:=IL S hr.hd e0 hl r x;refine Zx (ht [] s1 (Ca N vs) H _ I hq) (λfl s' z=>?_) λ_ _ z=>z;cases fl with
 |ret u =>
  obtain⟨v,aO,H',J,rv,q⟩:=z;exact⟨v,H',J.os,J.bare,J.base,J.aF,rv,q⟩
 |next =>
  obtain⟨aO,H',J,q⟩:=z;exact⟨.aT,H',J.os,J.bare,J.base,J.aF,Zj,q⟩
 |brk =>
  obtain⟨_,_,_,q⟩:=z;exact q.elim
 |cont =>
  obtain⟨_,_,_,q⟩:=z;exact q.elim
end
theorem Ge {q:Pos}{c:Value} (aw:(q.line==pos.line&&q.col==pos.col)=false) (l:Vq) (h:TriplesOk l):codeAmong q (l++[rawInt pos.line,rawInt pos.col,c])=codeAmong q l:=by
 fun_induction TriplesOk l with
 |case1 =>
  have:((pos.line:Int)==(q.line:Int)&&(pos.col:Int)==(q.col:Int))=false:=by
   rw[Bool.and_eq_false_iff]at aw ⊢;rcases aw with z |z
   ·left;rw[beq_eq_false_iff_ne]at z ⊢;omega
   ·right;rw[beq_eq_false_iff_ne]at z ⊢;omega
  simp[codeAmong,rawInt,this]
 |case2 a t b u x rest ih =>
  simp only[List.cons_append,codeAmong];split
  ·rfl
  ·exact ih h
 |case3 l h1 h2=>exact h.elim
def aG (H:Hp) (P0:Vs) (qual:Str) (ls:List Pos):Prop:=∃ps,H P0=some (.fb ps)/\TriplesOk ps.toList/\∀q∈ls,codeAmong q ps.toList=none\/∃c',codeAmong q ps.toList=some (.ref c')/\H c'=some (F7 c' qual)
def MF (P0:Vs) (H H':Hp):Prop:=∀b u,b≠P0->H b=some u->H' b=some u
structure Oy (X:Cx) (c P0:Vs):Prop where
 code:X.env.code=.ref c
 hd:W.CodeHd X.base c P0
 bu:X.base.BuiltinsAt X.mg P0
section
variable {s:Vt}{c P0:Vs}{ls:List Pos}{cG:Pos}
def UL (P0:Vs) (qual:Str) (ls:List Pos) (o:Vs->Value->Obj):TE:=λσ H Q=>aG H P0 qual ls/\∀f c' eO H',H f=none->MF P0 H H'->aG H' P0 qual ls->H' f=some (jm f (o c' eO))->H' c'=some (F7 c' qual)->Q (.ref f) H'
theorem Qm {c':Vs}{qual:Str} (r:h.CodeRec (.ref c') qual):aP P w H h c' (F7 c' qual):=by
 obtain⟨c1,oc,vs,t,e,ho,hd,hq⟩:=id r;cases e;exact⟨r,⟨_,ho⟩,λh1 h2 ⟨c2,o2,v2,t2,e2,a,b⟩ k=>by cases e2;exact⟨_,o2,v2,t2,Zj,k _ a,b⟩⟩
theorem SB {o:Obj} (r:h.get? f=some o):aP P w H h f (jm f o):=⟨r,⟨_,r⟩,λh1 h2 a k=>k _ a⟩
theorem Sv {params:Arguments}{body:Expr}{scope:Scope}{cD:List (Str×Vs)} (L:Oy X c P0) (hm:cG∈ls) (aw:∀q∈ls,q=cG\/(q.line==cG.line&&q.col==cG.col)=false)
  (ah:closureFor scope X.env=pure cD) (cj:defaultsOf params X.env=([],[])) :
  PE X (.Lambda params body scope cG) (UL P0 (X.env.qual ++ "<lambda>") ls (λc' eO=>W.kla_obj "<lambda>" (X.env.qual ++ "<lambda>") params body scope cD ((X.mg "__name__").getD .none) c' eO)):=by
 intro aa s σ H Q I h;obtain⟨⟨ps,hP,ht,hls⟩,k⟩:=h;have bk:∀b o,X.base.get? b=some o->s.heap.get? b=some o:=λb o e=>(I.bs b o e).1;have hPg:s.heap.get? P0=some (W.tabObj ps):=I.aF _ _ hP;have hgs:s.heap.Ns mainGlobals X.mg:=I.ok.mod.glob.keeps bk
 have hgP:mainGlobals≠P0:=λq=>by
  obtain⟨o,es,ep,e,_⟩:=I.ok.mod.glob;have n:=(I.bs _ _ e).2;rw[q,hP]at n;cases n
 have C:=L.hd.keeps bk
 have B:s.heap.BuiltinsAt X.mg P0:=by
  obtain⟨bm,o,a1,a2,a3,a4,a5,a6⟩:=L.bu;exact⟨bm,o,a1,a2,a3,a4,bk _ _ a5,a6⟩
 refine W.kla_eval cj ?_;rcases hls cG hm with hn |⟨c',hf,iO⟩
 ·refine W.kla_makeFunction (mg:=X.mg) ah I.ok.glob hgs L.code C hPg ht hn hgP B λc' eO h' tk hx hge aX hrec av=>?_;have kp:∀b o,b≠P0->s.heap.get? b=some o->(h'.push (W.kla_obj "<lambda>" (X.env.qual ++ "<lambda>") params body scope cD ((X.mg "__name__").getD .none) c' eO)).get? b=some o:=λb o n e=>ZY _ (hx b o n e);have lt:∀b u,H b=some u->b<s.heap.objs.size:=λb u e=>I.aF.lt e;have iY:s.heap.objs.size<=h'.objs.size:=Nat.le_trans hge (Nat.le_of_lt aX);have hPl:P0<s.heap.objs.size:=lt _ _ hP;have hcP:c'≠P0:=λz=>by rw[z]at hge;exact absurd hPl (Nat.not_lt_of_le hge)
  have hfP:h'.objs.size≠P0:=λz=>by rw[z]at iY;exact absurd hPl (Nat.not_lt_of_le iY)
  have hcf:c'≠h'.objs.size:=ZF aX;generalize b9:upd (upd (upd H P0 (.fb (ps++#[rawInt cG.line,rawInt cG.col,.ref c']))) c' (F7 c' (X.env.qual ++ "<lambda>"))) h'.objs.size (jm h'.objs.size (W.kla_obj "<lambda>" (X.env.qual ++ "<lambda>") params body scope cD ((X.mg "__name__").getD .none) c' eO))=H'
  have gZ:∀b,b<s.heap.objs.size->b≠P0->H' b=H b:=λb hb n=>by
   rw[←b9,AE (ZF (Z2 hb iY)),AE (ZF (Z2 hb hge)),AE n]
  have atP:H' P0=some (.fb (ps++#[rawInt cG.line,rawInt cG.col,.ref c'])):=by rw[←b9,AE (Ne.symm hfP),AE (Ne.symm hcP),U]
  have atc:H' c'=some (F7 c' (X.env.qual ++ "<lambda>")):=by rw[←b9,AE hcf,U]
  have atf:H' h'.objs.size=some (jm h'.objs.size (W.kla_obj "<lambda>" (X.env.qual ++ "<lambda>") params body scope cD ((X.mg "__name__").getD .none) c' eO)):=by rw[←b9,U]
  have ntbl:∀b u,H b=some u->(∀qs,u≠ .fb qs)->b≠P0:=λb u e n z=>by subst z;rw[hP]at e;cases e;exact n _ rfl
  have un:Un X.fs [] H H' s.heap (h'.push (W.kla_obj "<lambda>" (X.env.qual ++ "<lambda>") params body scope cD ((X.mg "__name__").getD .none) c' eO)):=by
   have nP:∀b,H b=none->b≠P0:=λb n z=>by subst z;rw[hP]at n;cases n
   refine⟨λb o q n _ _=>kp b o (nP b n) q,λb o q n _ _=>⟨o.slots,kp b o (nP b n) q⟩,λb o q n _=>by rw[gZ b (lt_size q) (nP b n)];exact n,λb o q _=>?_,λb xs e=>?_,λb o u e=>?_,λb qs e=>?_⟩
   ·by_cases z:b=P0
    ·subst z;exact⟨_,ZY _ av⟩
    ·exact⟨o,kp b o z q⟩
   ·rw[gZ b (lt _ _ e) (ntbl b _ e λ_ y=>nomatch y)];exact e
   ·rw[gZ b (lt _ _ e) (ntbl b _ e λ_ y=>nomatch y)];exact e
   ·by_cases z:b=P0
    ·subst z;rw[hP]at e;cases e;exact⟨_,atP⟩
    ·exact⟨#[],by rw[gZ b (lt _ _ e) z,e];simp⟩
  have aF:dg X.prog X.w H' (h'.push (W.kla_obj "<lambda>" (X.env.qual ++ "<lambda>") params body scope cD ((X.mg "__name__").getD .none) c' eO)):=λb u e=>by
   by_cases z1:b=h'.objs.size
   ·subst z1;rw[atf]at e;cases e;exact SB (ZP _ Zj)
   by_cases z2:b=c'
   ·subst z2;rw[atc]at e;cases e;obtain⟨c1,oc,vs,t,ec,ho,hd⟩:=hrec;exact Qm ⟨c1,oc,vs,t,ec,ZY _ ho,hd⟩
   by_cases z3:b=P0
   ·subst z3;rw[atP]at e;cases e;exact ZY _ av
   ·have e':H b=some u:=by rw[←b9,AE z1,AE z2,AE z3]at e;exact e
    refine(I.aF b u e').fc (λb2 o hb q=>kp b2 o ?_ q) (λb2 q=>?_) λb2 xs q=>?_
    ·rcases hb with z |z
     ·rw[z];exact z3
     ·exact ntbl b2 _ z λ_ y=>nomatch y
    ·rw[gZ b2 (lt _ _ q) (ntbl b2 _ q λ_ y=>nomatch y)];exact q
    ·rw[gZ b2 (lt _ _ q) (ntbl b2 _ q λ_ y=>nomatch y)];exact q
  have I':=I.un (t':=tk) un aF;refine⟨.ref h'.objs.size,H',I',Zj,k _ c' eO H' (I.aF.fresh iY) (λb u n e=>by rw[gZ b (lt _ _ e) n];exact e) ⟨_,atP,?_,λq hq=>?_⟩ atf atc⟩
  ·rw[Array.toList_append];exact TriplesOk_snoc _ _ _ _ ht
  ·rw[Array.toList_append];rcases aw q hq with z |z
   ·subst z;exact .inr ⟨c',codeAmong_snoc _ ht hn,atc⟩
   ·show codeAmong q (ps.toList++[rawInt cG.line,rawInt cG.col,.ref c'])=none\/_;rw[Ge z _ ht];rcases hls q hq with y |⟨c2,y1,y2⟩
    ·exact .inl y
    ·exact .inr ⟨c2,y1,by rw[gZ c2 (lt _ _ y2) (ntbl c2 _ y2 λ_ y=>nomatch y)];exact y2⟩
 ·refine W.kla_makeFunctionHit (mg:=X.mg) ah I.ok.glob hgs L.code C hPg ht hf B λeO h' tk hk hsz=>?_;have I':=I.laid (t':=tk) (a:=h'.objs.size) (o:=jm h'.objs.size (W.kla_obj "<lambda>" (X.env.qual ++ "<lambda>") params body scope cD ((X.mg "__name__").getD .none) c' eO)) (λb o e=>ZY _ (hk b o e)) hsz (SB (ZP _ rfl));have fr:H h'.objs.size=none:=I.aF.fresh hsz
  have sm:∀b u,H b=some u->upd H h'.objs.size (jm h'.objs.size (W.kla_obj "<lambda>" (X.env.qual ++ "<lambda>") params body scope cD ((X.mg "__name__").getD .none) c' eO)) b=some u:=λb u e=>by
   rw[AE (AJ e fr)];exact e
  refine⟨.ref h'.objs.size,_,I',rfl,k _ c' eO _ fr (λb u _ e=>sm b u e) ⟨ps,sm _ _ hP,ht,λq hq=>?_⟩ U (sm _ _ iO)⟩;rcases hls q hq with y |⟨c2,y1,y2⟩
  ·exact .inl y
  ·exact .inr ⟨c2,y1,sm _ _ y2⟩
end
section
theorem aQ.okX {qual:Str}{st:Stmt}{fd:FuncData}{ps:Vp}{k:Nat}{sp:Sp} (F:aQ K x qual st f fd) (S:AH N ps (defScope st)) (len:∀vs H Q E,sp vs H Q E->vs.length=ps.length)
  (bg:∀(ae:Value) (A:Around) (outer:List Env) (s:Vt) (H:Hp) (vs:Vr) (Q:VK) (E:XK),aD k (A.deeper (envOfC qual (defScope st) s.heap.objs.size f ae))->sp vs H Q E ->
   ∃t,eI (Au (cE P w) P w K mg base N qual (defScope st) f ae A outer s H E) (defBody st) t/\t { nx:=λ_ H'=>Q .aT H',rt:=Q } (Ca N vs) H):aB P w K mg base (cE P w) (k+1) f fd ps sp:=by
 obtain⟨oc,od,kV,doc,pm,an,ae,ct,gd,rfl,lk,fJ⟩:=F.ex;exact Lz lk fJ S len λA outer s H vs Q E hr ic=>bg ae A outer s H vs Q E hr ic
structure BdX (P:Program) (w:World) (K:FG) (mg:SV) (base:Heap) (f:Vs) (qual:Str) (st:Stmt) (N ps:Vp) (k:Nat) (vs:Vr) (H:Hp) (Q:VK) (E:XK):Prop where
 len:vs.length=ps.length
 ok:∀(ae:Value) (A:Around) (outer:List Env) (s:Vt),aD k (A.deeper (envOfC qual (defScope st) s.heap.objs.size f ae)) ->
  ∃t,eI (Au (cE P w) P w K mg base N qual (defScope st) f ae A outer s H E) (defBody st) t/\t { nx:=λ_ H'=>Q .aT H',rt:=Q } (Ca N vs) H
theorem aQ.n {qual:Str}{st:Stmt}{fd:FuncData}{ps:Vp}{k:Nat}{sp:Sp} (F:aQ K x qual st f fd) (S:AH N ps (defScope st)) (h:∀vs H Q E,sp vs H Q E->BdX P w K mg base f qual st N ps k vs H Q E) :
  aB P w K mg base (cE P w) (k+1) f fd ps sp:=F.okX S (λvs H Q E q=>(h vs H Q E q).len) λc A o s H vs Q E r q=>(h vs H Q E q).ok c A o s r
structure FunD (K:FG) (x qual:Str) (st:Stmt) (f:Vs) (fd:FuncData):Prop where
 ex:∃(oc:Value) (od:Option Vs) (dV kV doc pm:Value) (an:Option Vs) (ae ct:Value) (gd:Array (Option Value)),
  fd=W.fnOf x qual (defArgs st) (defBody st) (defScope st) dV kV doc pm an ae ct/\K.lookup f=some ⟨oc,od,.func fd,gd⟩/\W.codeIn K ae qual=true
theorem FunD.ok {qual:Str}{st:Stmt}{fd:FuncData}{ps:Vp}{k:Nat}{sp:Sp} (F:FunD K x qual st f fd) (S:AH N ps (defScope st)) (len:∀vs H Q E,sp vs H Q E->vs.length=ps.length)
  (bg:∀(ae:Value) (A:Around) (outer:List Env) (s:Vt) (H:Hp) (vs:Vr) (Q:VK) (E:XK),aD k (A.deeper (envOfC qual (defScope st) s.heap.objs.size f ae))->sp vs H Q E ->
   ∃t,eI (Au aL P w K mg base N qual (defScope st) f ae A outer s H E).dZ (defBody st) t/\t { nx:=λ_ H'=>Q .aT H',rt:=Q } (Ca N vs) H):aB P w K mg base aL (k+1) f fd ps sp:=by
 obtain⟨oc,od,dV,kV,doc,pm,an,ae,ct,gd,rfl,lk,fJ⟩:=F.ex;refine Lz lk fJ S len λA outer s H vs Q E hr ic=>?_;obtain⟨t,h,q⟩:=bg ae A outer s H vs Q E hr ic;exact⟨t,h.dZ,q⟩
end
end L2
end
section
namespace L2
open PySem PySem.Spec PyProof.Rows Builtin Builtin.ObjectAttr
noncomputable def Ef (C M:Vs):Vq:=[.ref C,.ref M,.type "ValueError", .type "Exception", .type "BaseException", .type "object"]
section
variable {prog:Program}{s:Vt}{x M:Vs}{ox:Obj}{vs:Array Value}{name:Str}{v:Value}{cd:ClassData}
theorem Qn {R:Result->Vt->Prop}{tk:Tok} (X:K.In s.heap) (hx:s.heap.get? x=some ox) (ah:ox.cls=.ref C) (fm:ox.dict=none) (hf:ox.data=.fields vs) (hc:W.clsIn K C=some cd) (cb:cd.mro=Ef C M) (ba:cd.hasDict=true) (hn:W.findIn K (.ref C) name=some none)
  (h:∀(h':Heap) (iV:Nat),h'.get? x=some { ox with dict:=some s.heap.objs.size }->h'.Ns1 s.heap.objs.size (λy=>if y=name then some v else none)->(∀b o,b≠x->s.heap.get? b=some o->h'.get? b=some o)->R (.ok (.ret .none)) { s with heap:=h',toks:=iV }) :
  codeAny (model prog w) A (.call (.builtin "object.__setattr__") ⟨[.ref x,.str name tk,v],[]⟩) R s:=by
 have SF:=PySem.F.store_object;have I:W.InstAt s.heap x ox C none:=⟨hx,ah,by unfold W.notCls;rw[hf],by rw[fm];trivial⟩;have ne:cd.mro.isEmpty=false:=by rw[cb];rfl
 have sub:W.Looks (model prog w) s.heap (isInstance (.ref x) (.type "object")) true:=I.type.andThen (W.looks_mroIn X (by unfold W.mroIn;rw[hc,Option.bind_some,Zs (by rw[ne];decide),cb];simp[Ef]));refine codeAny_call_builtin SF.slot.plain SF.entry (@W.check_slot (model prog w) _ _ s "object.__setattr__" "object" "__setattr__" (.ref x) [.str name tk,v] [] _ SF.kind SF.split sub (SF.args (.ref x) (.str name tk) v) ?_);have hm:W.Looks (model prog w) s.heap (mroOf (.ref C)) cd.mro:=(W.looks_clsIn X hc).andThen .now;have L3:W.Looks (model prog w) s.heap (storeTaker? none) none:=.now;rw[W.osa_eq,refuse_eq];refine Zz (Zz (I.type.here (Zz (hm.here ?_))));rw[cb];unfold Ef;rw[refuseLoop_ref,refuseLoop_ref,PySem.F.store_ValueError.passes];refine Zy (Zz (I.type.here (Zz ((W.looks_findIn X hn).here (Zz (L3.here ?_))))));obtain⟨oc,odi,oda,gd⟩:=ox
 dsimp only at ah fm hf
 subst ah fm hf;refine Zz (Zy (Zz (Zz (wpAny_loadPart hx (Zz ((W.looks_clsIn X hc).here ?_))))));rw[ba];have hx₁:(s.heap.push { cls:=.type "dict", data:=.dict #[] }).get? x=some _:=ZY _ hx;have hxs:x≠s.heap.objs.size:=ZF (lt_size hx);obtain⟨hp,g,d,t,os⟩:=s
 dsimp only at hx hx₁ hxs h ⊢
 rw[Zs qc,Zs (by simp[typeHasDict])];refine Zz (wpAny_alloc' ?_);refine Zz (wpAny_update' hx₁ ?_);refine Zy ?_
 have hgd:((hp.push { cls:=.type "dict", data:=.dict #[] }).update x λo=>{ cls:=o.cls,dict:=some hp.objs.size,data:=o.data,slots:=o.slots }).get? hp.objs.size=some { cls:=.type "dict", data:=.dict #[] } :=
  (Heap.get?_update_ne _ _ _ _ hxs.symm).trans (Heap.get?_push_at rfl rfl)
 have iX:((hp.push { cls:=.type "dict", data:=.dict #[] }).update x λo=>{ cls:=o.cls,dict:=some hp.objs.size,data:=o.data,slots:=o.slots }).Ns hp.objs.size (λ_=>none) :=
  ⟨_,#[],_,hgd,rfl,λe he=>absurd he (by simp),λ_=>rfl⟩
 show wpAny _ _ (storeInDict hp.objs.size (.str name tk) name v) _ _ _;unfold storeInDict newKeyGuard;refine Zz (Zy (Zz (wpAny_nsSet1 (Heap.Ns1.of_empty iX) λh' hn' hs=>?_)));obtain⟨oD,esD,epD,hoD,hdD,iN⟩:=hn'.count (Within.cons name v Within.nil);refine Zz (wpAny_lookBehind hoD (by rw[hdD];exact pastItsLine_dict (Nat.le_trans iN (by rw[length_cons,length_nil,sizeLine_eq];omega))) ?_)
 wp_walk
 have hx':h'.get? x=some { cls:=.ref C,dict:=some hp.objs.size,data:=.fields vs,slots:=gd }:=(hs.2 x hxs).trans (ZV _ hx₁ rfl);exact h h' _ hx' hn' λb ob hbx hb=>(hs.2 b (ZF (lt_size hb))).trans ((Heap.get?_update_ne _ _ _ _ hbx).trans (ZY _ hb))
theorem Qo {Q:Unit->Vt->Prop} (X:K.In s.heap) (hx:s.heap.get? x=some ox) (ah:ox.cls=.ref C) (fm:ox.dict=none) (hf:ox.data=.fields vs) (hc:W.clsIn K C=some cd) (cb:cd.mro=Ef C M) (ba:cd.hasDict=true) (hn:W.findIn K (.ref C) name=some none)
  (hs:W.findIn K (.ref C) "__setattr__" = some (some (.builtin "object.__setattr__")))
  (h:∀(h':Heap) (iV:Nat),h'.get? x=some { ox with dict:=some s.heap.objs.size }->h'.Ns1 s.heap.objs.size (λy=>if y=name then some v else none)->(∀b o,b≠x->s.heap.get? b=some o->h'.get? b=some o)->Q () { s with heap:=h',toks:=iV }) :
  wpAny (model prog w) A (setAttr (.ref x) name v) Q E s:=by
 have I:W.InstAt s.heap x ox C none:=⟨hx,ah,by unfold W.notCls;rw[hf],by rw[fm];trivial⟩;exact W.set_plain X I hs (Qn (s:={ s with toks:=s.toks+1 }) X hx ah fm hf hc cb ba hn λh' iV a b c=>h h' iV a b c)
end
end L2
end
section
namespace L2
open PySem PySem.Spec PyProof.Rows
structure NH (K:FG) (C M:Vs) (f:Str):Prop where
 cls:∃cd,W.clsIn K C=some cd/\cd.mro=Ef C M/\cd.hasDict=true
 nf:W.findIn K (.ref C) f=some none
 sa:W.findIn K (.ref C) "__setattr__" = some (some (.builtin "object.__setattr__"))
section
variable {o value:Expr}{ta tv:TE}{f:Str}{pos':Pos}{M:Vs}
def UM (K:FG) (M:Vs) (ta tv:TE) (f:Str):TS:=λD σ H=>tv σ H λy H1=>ta σ H1 λx H2=>∃e C,x=.ref e/\H2 e=some (E7 e C none)/\NH K C M f /\
 ∀d,H2 d=none->d≠e->D.nx σ (upd (upd H2 e (E7 e C (some d))) d (.xd [(f,y)]))
theorem Gm (ha:PE X o ta) (hv:PE X value tv) (hs:swapsWith value (some (.Attribute o f pos')) pos.line X.env=pure false):PS X (.Assign [.Attribute o f pos'] value pos) (UM X.K M ta tv f):=by
 intro aa s σ H D I h;refine plainObj_wpAny_Assign_Attribute (aH (hv aa s σ H _ I h) λu s1 ⟨y,H1,I1,ry,q⟩=>aH (ha aa s1 σ H1 _ I1 q) λov s2 ⟨x,H2,I2,rx,e,C,ex,ea,S,q2⟩=>?_) hs;subst ex;obtain rfl:ov=Value.ref e:=rx;obtain⟨⟨oe,vs,a1,a2,a3,a4,a5,a6,a7⟩,_,_⟩:=I2.aF _ _ ea;obtain⟨cd,hc,hm,hd⟩:=S.cls;refine Qo I2.cX a1 a2 a3 a4 hc hm hd S.nf S.sa λh' iV hx hn hk=>?_;have hde:s2.heap.objs.size≠e:=Nat.ne_of_gt (lt_size a1);have fm:H2 s2.heap.objs.size=none:=I2.aF.fresh (ZA _);generalize hH':upd (upd H2 e (E7 e C (some s2.heap.objs.size))) s2.heap.objs.size (.xd [(f,y)])=H';have lt:∀b u,H2 b=some u->b<s2.heap.objs.size:=λb u z=>I2.aF.lt z;have gZ:∀b,b<s2.heap.objs.size->b≠e->H' b=H2 b:=λb hb n=>by rw[←hH',AE (ZF hb),AE n]
 have ate:H' e=some (E7 e C (some s2.heap.objs.size)):=by rw[←hH',AE (Ne.symm hde),U]
 have atd:H' s2.heap.objs.size=some (.xd [(f,y)]):=by rw[←hH',U]
 have next:∀b u,H2 b=some u->(∀φ,u≠ .ext φ)->b≠e:=λb u z n w=>by subst w;rw[ea]at z;cases z;exact n _ rfl
 have nn:∀b,H2 b=none->b≠e:=λb z w=>by subst w;rw[ea]at z;cases z
 have un:Un X.fs [] H2 H' s2.heap h':=by
  refine⟨λb ob z n _ _=>hk b ob (nn b n) z,λb ob z n _ _=>⟨ob.slots,hk b ob (nn b n) z⟩,λb ob z n _=>by rw[gZ b (lt_size z) (nn b n)];exact n,λb ob z _=>?_,λb xs z=>?_,λb ob w z=>?_,λb ps z=>⟨#[],?_⟩⟩
  ·by_cases w:b=e
   ·subst w;exact⟨_,hx⟩
   ·exact⟨ob,hk b ob w z⟩
  ·rw[gZ b (lt _ _ z) (next b _ z λ_ w=>nomatch w)];exact z
  ·rw[gZ b (lt _ _ z) (next b _ z λ_ w=>nomatch w)];exact z
  ·rw[gZ b (lt _ _ z) (next b _ z λ_ w=>nomatch w),z];simp
 have aF:dg X.prog X.w H' h':=λb w z=>by
  by_cases hb:b=s2.heap.objs.size
  ·subst hb;rw[atd]at z;cases z;refine⟨_,hn,λg=>?_⟩;by_cases hg:g=f
   ·subst hg;simp only[Zr rfl,ZB,beq_self_eq_true];exact ry
   ·have e1:(g==f)=false:=beq_eq_false_iff_ne.mpr hg;simp only[Zs hg,ZB,e1,List.lookup_nil];trivial
  by_cases hb2:b=e
  ·subst hb2;rw[ate]at z;cases z;exact⟨⟨_,vs,hx,a2,Zj,a4,a5,a6,a7⟩,⟨_,hx⟩,λh1 h2 ⟨oe,vs,a,r⟩ k=>⟨oe,vs,k _ a,r⟩⟩
  ·have z':H2 b=some w:=by rw[←hH',AE hb,AE hb2]at z;exact z
   refine(I2.aF b w z').fc (λb2 ob hc2 q=>hk b2 ob ?_ q) (λb2 q=>?_) λb2 xs q=>?_
   ·rcases hc2 with w2 |w2
    ·rw[w2];exact hb2
    ·exact next b2 _ w2 λ_ y=>nomatch y
   ·rw[gZ b2 (lt _ _ q) (next b2 _ q λ_ y=>nomatch y)];exact q
   ·rw[gZ b2 (lt _ _ q) (next b2 _ q λ_ y=>nomatch y)];exact q
 have I3:=I2.un (t':=iV) un aF;have q3:=q2 s2.heap.objs.size fm hde;rw[hH']at q3;exact⟨σ,H',I3,q3⟩
end
section
variable {CX:gx}{k:Nat}{fd:FuncData}{ps:Vp}{sp:Sp}{dQ:Vr}{ds:Vq}{E:XK}{name:Str}{np apos:Pos}{es:List Expr}{t:TA}{mc:Value}
theorem DY {pl:Sem Bool} (hg:Gl X x) (hm:X.mg x=some (.ref C)) (ga:W.specialIn X.K (.ref C) "__getattribute__" = some (some (.builtin "type.__getattribute__"))) (hr0:W.readsIn X.K C mc=true) (hf:W.findCls X.K (.ref C) mc name=some (.val (.ref f)))
  (F:aB X.prog X.w X.K X.mg X.base CX k f fd ps sp) (hr:aD k X.A) (hk:W.keepIn X.K (.ref f)=true) (hb:Binds X.K fd ps ds) (hd:Vals dQ ds) (hx:BJ CX X E) (ha:PA X (e::es) t) (fw:(x==("__debug__" : Str))=false:=by decide)
  (he:starEach (e::es) X.env=(false,eval e X.env)::starEach es X.env:=by rfl) (eQ:(backTo pos (starEach es X.env)).any (·.1)=false:=by rfl)
  (ht:eval (.Call (.Attribute (.Name x np) name apos) (e::es) [] pos) X.env=(do
   let ov ←eval (.Name x np) X.env
   standAt apos.atName
   let (f,first) ←holding [ov] (getMethod ov name pl)
   callWith pos f first (backTo pos (starEach (e::es) X.env)) (backToKw pos (keywordEach [] X.env))):=by rfl) :
  PE X (.Call (.Attribute (.Name x np) name apos) (e::es) [] pos) (HD sp dQ E t):=by
 intro aa s σ H Q I h;refine W.methodCall_KW (pl:=pl) ?_ ht;refine Br I hg hm ?_ fw;refine W.method_cls I.cX ga (W.cls_value I.cX hr0 hf Zj ?_);refine W.callWith_K (h₀:=X.base) I.ok.mod.kin hk (aH (ha pos aa _ σ H _ (I.tok _) h) λus s1 ⟨vs,H1,I1,r,q⟩=>⟨I1.cX,?_⟩) he eQ;exact Iv F hr hb hd hx I1 r q
end
section
variable {c:Str}{cp fp:Pos}{ck:Nat}
def UN (c:Str) (te:TE):TE:=λσ H Q=>te σ H λx H1=>((∃i,x=.int i/\i.natAbs.log2<1920)\/(∃z,x=.str z/\z.length<=1000)\/x=.aT)/\∀z,Q (.str z) H1
theorem Ax (a b:Str):(a++b).length=a.length+b.length:=strLen_append a b
theorem Gn (hc:c.length<=1000) (he:PE X e te):PE X (.JoinedStr [.Constant (.str c) ck cp,.FormattedValue e (-1) none fp] pos) (UN c te):=by
 intro aa s σ H Q I h;refine JoinedStr_many (joinParts_cons (Calls.Constant_str ?_));have l0:(Str.empty++c).length<=1000:=by rw[Ax];show 0+c.length<=1000;omega
 have sz:(3000:Nat)<=sizeLine:=by decide
 refine⟨Nat.le_trans l0 (Nat.le_trans qc sz),joinParts_cons ?_⟩;refine wpAny_FormattedValue_plain (aH (he aa _ σ H _ (I.tok _) h) λu s1 ⟨x,H1,I1,r,q,k⟩=>?_);rcases q with⟨i,rfl,hi⟩ |⟨z,rfl,hz⟩ |rfl
 ·obtain⟨t,rfl⟩:=r;refine PySem.wpAny_formatField_int hi ?_;have l1:(Str.ofString (toString i)).length<=1921:=by rw[PySem.ofString_length];exact int_text_length_le (k:=1920) qc hi
  have l2:((Str.empty++c)++Str.ofString (toString i)).length<=sizeLine:=by
   rw[Ax];omega
  exact⟨l2,joinParts_nil ⟨.str _,H1,(I1.tok _).tok _,⟨_,Zj⟩,k _⟩ l2⟩
 ·obtain⟨t,rfl⟩:=r
  have l2:((Str.empty++c)++z).length<=sizeLine:=by
   rw[Ax];omega
  have hz2:z.length<=sizeLine:=by omega
  exact PySem.wpAny_formatField_str ⟨l2,joinParts_nil ⟨.str _,H1,I1.tok _,⟨_,Zj⟩,k _⟩ l2⟩ ⟨l2,joinParts_nil ⟨.str _,H1,(I1.tok _).tok _,⟨_,Zj⟩,k _⟩ l2⟩ hz2
 ·obtain rfl:u=Value.none:=r
  have l2:((Str.empty++c)++("None" : Str)).length<=sizeLine:=by
   have:("None" : Str).length=4:=by decide +kernel
   rw[Ax];omega
  exact PySem.wpAny_formatField_none ⟨l2,joinParts_nil ⟨.str _,H1,(I1.tok _).tok _,⟨_,Zj⟩,k _⟩ l2⟩
end
structure UP (K:FG) (C:Vs) (f:Str):Prop where
 hg:Ee K C
 hh:W.hasDictIn K C=true
 ha:W.findIn K (.ref C) f=some none
structure du (X:Cx) (e C:Vs) (dx:Option Vs) (H2:Hp) (s2:Vt):Prop where
 os:s2.os=X.aI.os
 bare:AllBare s2.gens
 un:Un (cw X.outer) [] X.eJ H2 X.aI.heap s2.heap
 aF:dg X.prog X.w H2 s2.heap
 at_:H2 e=some (Co e C dx)
 fn:s2.heap.FunFrames X.base X.stack
 free:∀b∈cw X.stack,H2 b=none
 fr:X.A.frames=some X.stack
 new:∀b o,X.aI.heap.get? b=some o->b∉ cw X.outer->b∉ cw X.stack
 up:∀b,b∈cw X.outer->b∈cw X.stack
theorem IW {base h h':Heap}:∀ {l:List Env},(∀b∈cw l,∀o,h.get? b=some o->∃sl,h'.get? b=some { o with slots:=sl })->h.FunFrames base l->h'.FunFrames base l
 | [],_,_=>trivial
 |env::r,hs,⟨hk,⟨L,o,hf,hb,ho,hd⟩,hr⟩=>by
  have hL:L∈cw (env::r):=by unfold cw;rw[ZO,hf];exact ZK
  have sub:∀b∈cw r,b∈cw (env::r):=λb z=>by unfold cw;rw[ZO,hf];exact ZT _ z
  obtain⟨sl,e⟩:=hs L hL o ho;exact⟨hk,⟨L,_,hf,hb,e,hd⟩,IW (λb z=>hs b (sub b z)) hr⟩
section
variable {H1 H2:Hp}{s1 s2:Vt}{e:Vs}{dx:Option Vs}{fl:Value}
theorem Qp (O:Ec X) (I:Inv X aa σ H1 s1) (G:jo X.prog X.w X.stack H1 s1 e C dx H2 s2):du X e C dx H2 s2/\iT e H2 X.aI s2 .none:=by
 obtain⟨F,oe,vs,T,oT,ts,a1,a2,a3,a4,a5,a6,a7,a8,a9⟩:=G;have b0:Un (cw X.outer) [] X.eJ H1 X.aI.heap s1.heap:=by have:=I.base;rw[O.ex]at this;exact this
 have free2:∀b∈cw X.stack,H2 b=none:=λb hb=>by
  obtain⟨_,o,ho,_⟩:=I.stack.mem hb;exact F.un.free b o ho (I.stkFree b hb) (by simp)
 have out:∀b o,X.aI.heap.get? b=some o->b∉ cw X.outer->b∉ cw X.stack:=λb o hb hn z=>by
  rw[O.gc]at z;unfold cw at z;rw[ZO,O.fr]at z;rcases mem_cons.mp z with z |z
  ·exact absurd (Z2 (lt_size hb) I.ok.above) (by rw[z];exact ZI _)
  ·exact hn z
 have up:∀b,b∈cw X.outer->b∈cw X.stack:=λb hb=>by
  rw[O.gc];unfold cw;rw[ZO,O.fr];exact ZT _ hb
 refine⟨⟨F.os.trans I.os,F.bare,⟨λb o q n hb _=>?_,λb o q n hb _=>?_,λb o q n _=>?_,λb o q _=>?_,λb xs q=>F.un.eM b xs (b0.eM b xs q),λb o xs q=>F.un.eD b o xs (b0.eD b o xs q),λb ps q=>?_⟩,F.aF,F.at_,DW I F,free2,I.ok.frames,out,up⟩,⟨oe,vs,T,oT,ts,a1,a2,a3,a4,a5,a6,a7,a8,?_⟩⟩
 ·exact F.un.keep b o (b0.keep b o q n hb (by simp)) (b0.free b o q n (by simp)) (out b o q hb) (by simp)
 ·obtain⟨sl,q1⟩:=b0.slot b o q n hb (by simp);obtain⟨fg,q2⟩:=F.un.slot b _ q1 (b0.free b o q n (by simp)) (up b hb) (by simp);exact⟨fg,q2⟩
 ·obtain⟨o1,q1⟩:=b0.there b o q (by simp);exact F.un.free b o1 q1 (b0.free b o q n (by simp)) (by simp)
 ·obtain⟨o1,q1⟩:=b0.there b o q (by simp);exact F.un.there b o1 q1 (by simp)
 ·obtain⟨m1,e1⟩:=b0.d5 b ps q;obtain⟨m2,e2⟩:=F.un.d5 b _ e1;exact⟨m1++m2,by rw[e2,Array.append_assoc]⟩
 ·cases q:X.aI.heap.get? T with
  |none=>rfl
  |some o =>
   obtain⟨o1,q1⟩:=b0.there T o q (by simp);rw[a9]at q1;cases q1
theorem du.step (F:du X e C dx H2 s2) {h':Heap} (Z:Vs->Prop) (hZ:∀b,Z b->H2 b=none/\X.aI.heap.get? b=none/\b∉ cw X.stack)
  (he:∃oe vs,h'.get? e=some oe/\oe.cls=.ref C/\oe.dict=dx/\oe.data=.fields vs/\5<vs.size/\vs[2]?=some .none)
  (keep:∀b o,s2.heap.get? b=some o->b≠e->¬ Z b->b∉ cw X.stack->h'.get? b=some o) (slot:∀b o,s2.heap.get? b=some o->b∈cw X.stack->∃sl,h'.get? b=some { o with slots:=sl })
  (there:∀b o,s2.heap.get? b=some o->¬ Z b->∃o',h'.get? b=some o'):du X e C dx H2 { s2 with heap:=h' }:=by
 have ne:∀b,H2 b=none->b≠e:=λb n z=>by subst z;rw[F.at_]at n;cases n
 have nz:∀b o,X.aI.heap.get? b=some o->¬ Z b:=λb o q z=>by rw[(hZ b z).2.1]at q;cases q
 refine⟨F.os,F.bare,⟨λb o q n hb _=>?_,λb o q n hb _=>?_,F.un.free,λb o q h0=>?_,F.un.eM,F.un.eD,F.un.d5⟩,λb u q=>?_,F.at_,IW (λb hb o ho=>slot b o ho hb) F.fn,F.free,F.fr,F.new,F.up⟩
 ·exact keep b o (F.un.keep b o q n hb (by simp)) (ne b (F.un.free b o q n (by simp))) (nz b o q) (F.new b o q hb)
 ·obtain⟨sl,q1⟩:=F.un.slot b o q n hb (by simp);obtain⟨fg,q2⟩:=slot b _ q1 (F.up b hb);exact⟨fg,q2⟩
 ·obtain⟨o1,q1⟩:=F.un.there b o q h0;exact there b o1 q1 (nz b o q)
 ·by_cases hb:b=e
  ·subst hb;rw[F.at_]at q;cases q;obtain⟨oe,vs,b1,b2,b3,b4,b5,b6⟩:=he;obtain⟨_,_,st⟩:=F.aF _ _ F.at_;exact⟨⟨oe,vs,b1,b2,b3,b4,b5,b6⟩,⟨_,b1⟩,st⟩
  ·have kp:∀c v,c≠e->(∃z,H2 c=some z)->s2.heap.get? c=some v->h'.get? c=some v:=λc v n ⟨z,hz⟩ hv=>keep c v hv n (λy=>by rw[(hZ c y).1]at hz;cases hz) λy=>by rw[F.free c y]at hz;cases hz
   refine(F.aF b u q).fc (λc v hc r=>?_) (λ_ z=>z) λ_ _ z=>z;rcases hc with rfl |hc
   ·exact kp c v hb ⟨u,q⟩ r
   ·refine kp c v (λz=>?_) ⟨_,hc⟩ r;subst z;rw[F.at_]at hc;cases hc
theorem du.exc (F:du X e C dx H2 s2) {oe:Obj}{vs:Array Value} (h1:s2.heap.get? e=some oe) (h2:oe.data=.fields vs):oe.cls=.ref C/\oe.dict=dx/\5<vs.size/\vs[2]?=some .none:=by
 obtain⟨⟨oe',i8,a1,a2,a3,a4,a5,a6⟩,_,_⟩:=F.aF _ _ F.at_;rw[h1]at a1;cases a1;rw[h2]at a4;cases a4;exact⟨a2,a3,a5,a6⟩
theorem du.frN (F:du X e C dx H2 s2) {b:Vs}{o:Obj}{vs:Array Value} (h1:s2.heap.get? b=some o) (h2:o.data=.fields vs):b∉ cw X.stack:=λhm=>by
 obtain⟨_,o',ho,hnf⟩:=F.fn.mem hm;rw[h1]at ho;cases ho;exact hnf vs h2
theorem du.entry (F:du X e C dx H2 s2) {T:Vs}{oT:Obj}{ts:Array Value}{j:Nat}{v:Value} (hTe:T≠e) (hT:s2.heap.get? T=some oT) (g6:oT.data=.fields ts) (n:H2 T=none) (h0:X.aI.heap.get? T=none) :
  du X e C dx H2 { s2 with heap:=s2.heap.update T (Obj.mapFields (·.setIfInBounds j v)) }:=by
 have fQ:∀b,b≠T->(s2.heap.update T (Obj.mapFields (·.setIfInBounds j v))).get? b=s2.heap.get? b:=λb hb=>ZX _ _ (Ne.symm hb)
 have fr:∀o,s2.heap.get? T=some o->(Obj.mapFields (·.setIfInBounds j v) o).isFreed=false:=λo ho=>by
  rw[hT]at ho;cases ho;exact Obj.isFreed_of_fields (Obj.data_mapFields g6 _)
 obtain⟨⟨oe,vs,a1,a2,a3,a4,a5,a6⟩,_,_⟩:=F.aF _ _ F.at_;refine F.step (·=T) (λb z=>by subst z;exact⟨n,h0,F.frN hT g6⟩) ⟨oe,vs,(fQ e (Ne.symm hTe)).trans a1,a2,a3,a4,a5,a6⟩ (λb o q _ hz _=>(fQ b hz).trans q) (λb o q hb=>⟨o.slots,?_⟩) (λb o q _=>IU fr o q);exact(fQ b (λz=>by subst z;exact F.frN hT g6 hb)).trans q
end
section
variable {H1 H2:Hp}{s1 s2:Vt}{e:Vs}{dx:Option Vs}{fl:Value}
theorem KG {fr:Option Vs}{Q:Unit->Vt->Prop} (F:du X e C dx H2 s2) (T:iT e H2 X.aI s2 fl)
  (h:∀h',du X e C dx H2 { s2 with heap:=h' }->iT e H2 X.aI { s2 with heap:=h' } (fr.elim .none λf=>rawInt f)->Q () { s2 with heap:=h' }):wpAny (model X.prog X.w) X.A (setFlight (.ref e) fr) Q E s2:=by
 obtain⟨oe,vs,T,oT,ts,a1,a2,a3,a4,a5,a6,a7,a8,a9⟩:=T;unfold setFlight;refine Zz (wpAny_field a1 a2 a3 ?_);rw[Zr (show(Value.ref T != Value.none)=true from by simp)];have h3:=(Z9.mp a7).1;refine wpAny_setField a5 a6 h3 (h _ (F.entry a4 a5 a6 a8 a9) ?_);have fQ:∀b,b≠T->(s2.heap.update T (Obj.mapFields (·.setIfInBounds 3 (fr.elim .none λf=>rawInt f)))).get? b=s2.heap.get? b:=λb hb=>ZX _ _ (Ne.symm hb);exact⟨oe,vs,T,_,_,(fQ e (Ne.symm a4)).trans a1,a2,a3,a4,ZV _ a5 (Obj.isFreed_of_fields (Obj.data_mapFields a6 _)),Obj.data_mapFields a6 _,by simp[h3],a8,a9⟩
theorem Qq {env:Env}{L:Vs}{hadNext:Bool}{head:Value}{oe:Obj}{vs:Array Value}{Q:Unit->Vt->Prop} (O:Ec X) (F:du X e C dx H2 s2) (hf:X.env.frame=some L) (hfe:env.frame=some L) (he:s2.heap.get? e=some oe) (hd:oe.data=.fields vs)
  (h:∀h',du X e C dx H2 { s2 with heap:=h' }->iT e H2 X.aI { s2 with heap:=h' } (rawInt L)->(∀b o,s2.heap.get? b=some o->b≠e->b∉ cw X.stack->h'.get? b=some o)->Q () { s2 with heap:=h' }) :
  wpAny (model X.prog X.w) X.A (do let a ←PySem.frameOf env;let pl ←entryPlaceOf L hadNext;let b ←EntryCells.newEntry head a .none (rawInt L) .none pl;setField (.ref e) 1 b) Q E s2:=by
 have fn:=F.fn;have fr:=F.fr;rw[O.gc]at fn fr;have ef:PySem.frameOf env=PySem.frameOf X.env:=by unfold PySem.frameOf;rw[hf,hfe]
 rw[ef];obtain⟨c1,c2,c3,c4⟩:=F.exc he hd;have hsz:1<vs.size:=by omega
 have cc:e∉ cw X.stack:=F.frN he hd;refine Zz (wpAny_frameOf_fun fr fn hf λh1 x1=>Zz (wpAny_entryPlaceOf λpl eQ=>?_));rw[←O.gc]at x1;unfold EntryCells.newEntry newFields;refine Zz (wpAny_newObj_type ?_ (eQ.sizeOk5 _ _ _ _ _));generalize hpg:([head,Value.ref L,.none,rawInt L,.none]++(if pl.isEmpty then replicate 6 Value.none else pl)).toArray=pg;have gv:pg[3]?=some (rawInt L):=by rw[←hpg];simp
 have e1:h1.get? e=some oe:=(x1.2.1 e cc).trans he;have e2:=ZY (h:=h1) ⟨.type "traceback", none,.fields pg,#[]⟩ e1;refine wpAny_setField e2 hd hsz ?_;have ne:h1.objs.size≠e:=Nat.ne_of_gt (lt_size e1);have d3:=Obj.data_mapFields hd (·.setIfInBounds 1 (Value.ref h1.objs.size));have e3:=ZV (Obj.mapFields (·.setIfInBounds 1 (Value.ref h1.objs.size))) e2 (Obj.isFreed_of_fields d3);have t3:=(ZX (h1.push ⟨.type "traceback", none,.fields pg,#[]⟩) (Obj.mapFields (·.setIfInBounds 1 (Value.ref h1.objs.size))) (Ne.symm ne)).trans (ZP h1 rfl)
 have other:∀b o,b≠e->h1.get? b=some o->((h1.push ⟨.type "traceback", none,.fields pg,#[]⟩).update e (Obj.mapFields (·.setIfInBounds 1 (Value.ref h1.objs.size)))).get? b=some o:=λb o hb aX=>by
  rw[ZX _ _ (Ne.symm hb)];exact ZY _ aX
 have hs1:s2.heap.objs.size=h1.objs.size:=x1.1.symm;have kp:∀b o,s2.heap.get? b=some o->b≠e->b∉ cw X.stack->((h1.push ⟨.type "traceback", none,.fields pg,#[]⟩).update e (Obj.mapFields (·.setIfInBounds 1 (Value.ref h1.objs.size)))).get? b=some o:=λb o q n1 n3=>other b o n1 ((x1.2.1 b n3).trans q);refine h _ (F.step (λ_=>False) (λb z=>z.elim) ⟨_,_,e3,?_,?_,d3,by rw[Array.size_setIfInBounds];exact c3,by rw[Array.getElem?_setIfInBounds_ne qc];exact c4⟩ (λb o q n1 _ n3=>kp b o q n1 n3) (λb o q hb=>?_) (λb o q _=>?_)) ⟨_,_,h1.objs.size,_,pg,e3,d3,by simp[hsz],ne,t3,Zj,gv,?_,?_⟩ kp
 ·rw[Cn hd];exact c1
 ·rw[Cn hd];exact c2
 ·obtain⟨sl,hs⟩:=x1.2.2 b o q;exact⟨sl,other b _ (λz=>cc (z ▸ hb)) hs⟩
 ·obtain⟨sl,hs⟩:=x1.2.2 b o q;by_cases z:b=e
  ·subst z;exact⟨_,e3⟩
  ·exact⟨_,other b _ z hs⟩
 ·exact F.aF.fresh (by rw[hs1];exact ZA _)
 ·cases q:X.aI.heap.get? h1.objs.size with
  |none=>rfl
  |some o =>
   obtain⟨o1,q1⟩:=F.un.there _ o q (by simp);have:=lt_size q1;rw[hs1]at this;exact absurd this (ZI _)
theorem Oz {env:Env}{L:Vs}{Q:Unit->Vt->Prop} (O:Ec X) (F:du X e C dx H2 s2) (T:iT e H2 X.aI s2 fl) (hf:X.env.frame=some L) (hfe:env.frame=some L)
  (h:∀h',du X e C dx H2 { s2 with heap:=h' }->iT e H2 X.aI { s2 with heap:=h' } (rawInt L)->(∀b o,s2.heap.get? b=some o->(∀vs,o.data≠ .fields vs)->b∉ cw X.stack->h'.get? b=some o)->Q () { s2 with heap:=h' }) :
  wpAny (model X.prog X.w) X.A (noteFrame (.ref e) env) Q E s2:=by
 obtain⟨oe,vs,Ta,oT,ts,a1,a2,a3,a4,a5,a6,a7,a8,a9⟩:=id T;unfold noteFrame;simp only[hfe];refine Zz (wpAny_field a1 a2 a3 ?_);rw[Zr (show(Value.ref Ta != Value.none)=true from by simp)];refine Zz (wpAny_field a5 a6 a7 ?_);by_cases hz:(fl==rawInt L)=true
 ·rw[Zr hz];have hz':=beq_iff_eq.mp hz;subst hz';exact Zy (h s2.heap F ⟨oe,vs,Ta,oT,ts,a1,a2,a3,a4,a5,a6,a7,a8,a9⟩ λb o q _ _=>q)
 ·rw[Zs hz];have h3:=(Z9.mp a7).1;refine Zz (wpAny_setField a5 a6 h3 ?_);have fQ:∀b,b≠Ta->(s2.heap.update Ta (Obj.mapFields (·.setIfInBounds 3 Value.none))).get? b=s2.heap.get? b:=λb hb=>ZX _ _ (Ne.symm hb);refine Qq O (F.entry a4 a5 a6 a8 a9) hf hfe ((fQ e (Ne.symm a4)).trans a1) a2 λh' F' T' kp=>h h' F' T' λb o q hn hb=>?_;have hbT:b≠Ta:=λz=>by subst z;rw[a5]at q;cases q;exact hn ts a6
  have je:b≠e:=λz=>by subst z;rw[a1]at q;cases q;exact hn vs a2
  exact kp b o ((fQ b hbT).trans q) je hb
theorem Qr (O:Ec X) (F:du X e C dx H2 s2) (T:iT e H2 X.aI s2 fl):wpAny (model X.prog X.w) X.A (leaving X.env (.ref e)) (λ_ s3=>jo X.prog X.w X.outer X.eJ X.aI e C dx H2 s3) E s2:=by
 unfold leaving;refine Zz (Oz O F T O.fr O.fr λh' F' T' _=>KG F' T' λjg F'' T''=>?_);exact⟨⟨F''.os,F''.bare,F''.un,F''.aF,F''.at_⟩,T''⟩
end
def MH (X:Cx) (E:XK):Prop:=∀(e C:Vs) (dx:Option Vs) (H2:Hp) (s2:Vt) (fl:Value),du X e C dx H2 s2->iT e H2 X.aI s2 fl->E (.ref C) dx H2->X.xe (.ref e) s2
theorem Sw {qual:Str}{scope:Scope}{cd:Value}{outer:List Env}{s:Vt}{E:XK} :
  MH (Au (cE P w) P w K mg base N qual scope f cd A outer s H E) E:=λe C dx H2 s2 fl F T q =>
 Zx (Qr (X:=Au (cE P w) P w K mg base N qual scope f cd A outer s H E) Om F T) (λ_ s3 G=>⟨e,C,dx,H2,rfl,G,q⟩) λ_ _ z=>z
noncomputable def Bc (X:Cx) (E:XK) (N':Vp) (scope:Scope) (cl:List (Str×Vs)) (s:Vt) (H:Hp) (C:Vs) (fp:List Vs) (pn:LO):Cx:=(Aj X N' scope cl s H C fp pn).ft λx s' =>
 (∃aa σ,Inv X aa σ H s/\(∀b∈fp,EL X aa H b)/\pn=X.pn++aa) ->
 ∃ea C' dx H4,x=.ref ea/\du X ea C' dx H4 s'/\iT ea H4 X.aI s' .none/\E (.ref C') dx H4/\H4 C=none/\X.aI.heap.get? C=none/\C∉ cw X.stack/\∃m,s'.heap.Ns C m
theorem UQ {E:XK}{N':Vp}{scope:Scope}{cl:List (Str×Vs)}{s:Vt}{fp:List Vs}{pn:LO} (O:Ec X):BJ (cE X.prog X.w) (Bc X E N' scope cl s H C fp pn) E:=by
 rintro pins' aO H3 s3 x s4 J ⟨ea,C',dx,H4,rfl,F,q⟩ ⟨aa,σ,I2,iq,ay⟩;subst ay;have I3:=EH I2 iq J.dh;obtain⟨FZ,T⟩:=Qp O I3 F;have hCn:H3 C=none:=J.free;have hge:s.heap.objs.size<=C:=J.ok.above
 have hCf:C∉ cw X.stack:=λz=>by
  obtain⟨_,o,ho,_⟩:=J.ok.dj.mem z;exact absurd (Z2 (lt_size ho) hge) (ZI _)
 obtain⟨m,⟨oC,es,ep,hoC,r⟩,_⟩:=J.loc;refine⟨ea,C',dx,H4,rfl,FZ,T,q,F.1.un.free C oC hoC hCn (by simp),?_,hCf,m,oC,es,ep,F.1.un.keep C oC hoC hCn hCf (by simp),r⟩;cases z:X.aI.heap.get? C with
 |none=>rfl
 |some o=>exact absurd (Z2 (Z2 (lt_size z) I2.sz) hge) (ZI _)
section
variable {tg iter elt:Expr}{ifs:List Expr}{scope:Scope}{pos':Pos}{N':Vp}{ix:List (Option Nat)}{wi:TI}{g:TG}{tt:TT}
theorem LI {E:XK}{RD:Cx->Prop} (O:Ec X) (hz:MH X E) {use:Option (Value->Sem Unit)}{Qv:VS} (hf:aU X.env.scope scope X.N N' ix) (hc:∀cl s H C fp aa,RD (Bc X E N' scope cl s H C fp (X.pn++aa))) (hi:PIg RD X tg iter wi)
  (hg:∀cl s H C fp pn,jk (Bc X E N' scope cl s H C fp pn) tg ix g) (ht:∀cl s H C fp pn,iA (Bc X E N' scope cl s H C fp pn) ifs tt) (he:∀cl s H C fp pn,PE (Bc X E N' scope cl s H C fp pn) elt te)
  (hs:∀x,foldedSetIterable iter X.env x=pure x) {aa:LO}{s:Vt}{σ:St}{H:Hp}{R:Vr->Hp->Prop} (I:Inv X aa σ H s) (h:Du wi g tt te ix R σ H)
  (bw:∀s' ys H' D C m,Inv X aa σ (upd H' D (.lst ys)) s'->R ys H'->H' D=none->s'.heap.Ns C m->X.aI.heap.objs.size<=C->C≠X.env.locals->(∀x c,X.env.cells.lookup x=some c->c≠C)->(∀p∈X.pn++aa,p.1≠C) ->
   upd H' D (.lst ys) C=none->compPost (model X.prog X.w) X.A X.xe use Qv (.ref D) C (.ok .next) s') :
  wpAny (model X.prog X.w) X.A (comprehension (.ListComp elt [⟨tg,iter,ifs,0⟩] scope pos) scope X.env pos' (newList []) false (eval iter X.env) use) Qv X.xe s:=by
 obtain⟨cl,bx,c1,c2⟩:=JB (env:=X.env) (scope:=scope) λy hy hyf=>by
  have:=hf.free y hy hyf;exact I.ok.has y.1 this
 refine wpAny_comprehension_free (use:=use) Zj hs bx hf.kind hf.loc (aH (hi aa s σ H _ I h) λv s1 h1=>aH h1 λjy s2 h2=>?_);obtain⟨it,fp,tn,J,H2,e,I2,T,gz,f2,W,⟨m0,w0⟩,turn⟩:=h2;subst e
 have aX:∀b∈fp,b<s2.heap.objs.size:=λb hb=>by
  obtain⟨o,e,_⟩:=T.obj _ _ gz b hb;exact lt_size e
 refine wpAny_newObj_type (wpAny_newFunctionEnv hf.nocell (by intro y hy;simp at hy) (λdJ c8 cJ=>?_) hf.kind)
 dsimp only at c8 cJ ⊢
 generalize iS:s2.heap.push { cls:=.type "list", dict:=none,data:=.seq ([]:Vq).toArray }=HP at c8 cJ ⊢;have hC:HP.objs.size=s2.heap.objs.size+1:=by rw[←iS,size_push]
 have gN:s2.heap.objs.size≠HP.objs.size:=by rw[hC];exact ZF (Nat.lt_succ_self _)
 have dz:s2.heap.objs.size<=HP.objs.size:=by rw[hC];exact Nat.le_succ _
 have hCne:∀b,b<s2.heap.objs.size->b≠HP.objs.size:=λb hb=>by rw[hC];exact ZF (Nat.lt_succ_of_lt hb)
 have old:∀b o,s2.heap.get? b=some o->dJ.get? b=some o:=λb o e=>cJ.extBut b o (hCne b (lt_size e)) (ZY _ (iS ▸ ZY _ e));have bo:dJ.get? s2.heap.objs.size=some { cls:=.type "list", dict:=none,data:=.seq ([]:Vq).toArray }:=cJ.extBut _ _ gN (ZY _ (iS ▸ ZP _ rfl));generalize hCC:HP.objs.size=C at *;generalize eB:s2.heap.objs.size=D at *;have IX0:=Eb (N':=N') (fp:=fp) I2 hf c1 c2 (by rw[eB];exact dz) f2 (by rw[eB];exact aX) (tk:=s2.toks+([]:List (Str×Value)).length) old c8;have IX:=IX0.ft (Bc X E N' scope cl s2 H2 C fp (X.pn++aa)).xe;have hDn:H2 D=none:=I2.aF.fresh (by rw[eB];exact ZA _)
 have gM:D∉ cw X.stack:=λz=>by
  rcases mem_cons.mp (I2.d9 D z)with q |q
  ·have:=I2.lt;rw[←q,eB]at this;exact ZI _ this
  ·exact I2.nofs (by rw[eB];exact ZA _) q
 have c9:∀x c,X.env.cells.lookup x=some c->c<D:=λx c e=>by
  obtain⟨v,z⟩:=I2.cell x c e;rw[←eB];exact z.lt
 have er:∀p∈X.pn++aa,p.1<D:=λp hp=>by rw[←eB];exact lt_size (I2.pin p hp).1
 have jv:X.aI.heap.objs.size<=D:=by rw[←eB];exact I2.sz
 have fk:X.env.locals<D:=by rw[←eB];exact I2.lt
 let X':Cx:=Bc X E N' scope cl s2 H2 C fp (X.pn++aa)
 have eX:∀ {H':Hp}{ob:Obj},(∀b∈fp,H' b=none)->∀b∈fp,EL X' [(D,ob)] H' b:=λ{H' ob} hn b hb=>by
  refine⟨hn b hb,ZF (Z2 (aX b hb) dz),λz=>?_,.inl hb,λx c e=>(f2 b hb).2.2.2.2.1 x c (c1 x c e),λp hp=>?_⟩
  ·exact IX.ok.fY b hb z
  ·rcases mem_append.mp hp with z |z
   ·exact(f2 b hb).2.2.2.2.2 p z
   ·have e:p=(D,ob):=by simpa using z
    subst e;exact Nat.ne_of_gt (aX b hb)
 have pinD:∀ {aO:St}{H':Hp}{s':Vt}{ob:Obj},Inv X' [] aO H' s'->s'.heap.get? D=some ob->H' D=none->(∀v,ob.data≠ .cell v)->Inv X' [(D,ob)] aO H' s':=λ{aO H' s' ob} Ia e n d =>
  Ia.cy λp hp=>by
   have q:p=(D,ob):=by simpa using hp
   subst q;exact⟨e,n,gN,gM,d⟩
 have loop:∀s3:Vt,s3={ s2 with heap:=dJ,toks:=s2.toks+([]:List (Str×Value)).length } ->
   codeAny (model X.prog X.w) X.A (.compLoop (.ListComp elt [⟨tg,iter,ifs,0⟩] scope pos) 0 (.ref it) (.ref D) (compEnvC scope cl C X.env)) (compPost (model X.prog X.w) X.A X.xe use Qv (.ref D) C) s3:=by
  rintro s3 rfl
  refine codeAny_loop Zj (λn s'=>∃i ys its k H',Inv X' [(D,({ cls:=.type "list", data:=.seq (List.toArray its) k }:Obj))] (Bq ix σ) H' s'/\tn i s'.heap/\(∀b∈fp,H' b=none)/\W i n ys H'/\Vals ys its)
   (λn s4 hI=>?_) m0 ⟨0,[],[],_,H2,pinD IX bo hDn (λv z=>by cases z),T.keep _ _ _ gz (λb _ o e=>old b o e),λb hb=>(f2 b hb).1,w0,.nil⟩
  obtain⟨i,ys,its,k,H4,I4,jt,jE,w4,rv⟩:=hI;show wpAny _ X.A ((compTurn (.ListComp elt [⟨tg,iter,ifs,0⟩] scope pos) 0 (.ref it) (.ref D) (compEnvC scope cl C X.env)).onRaise (λx=>do noteFrame x (compEnvC scope cl C X.env);theTreesLotGoes x)) _ _ s4;refine wpAny_noted ?_;rw[compTurn_list];refine Zx (E:=X'.xe) ?_ (λ_ _ q=>q) (λx s' hx=>?conv)
  case conv =>
   obtain⟨ea,C',dx,H4',rfl,F,T',q,hCn,hC0,hCf,m,hN⟩:=hx ⟨aa,σ,I2,f2,rfl⟩;refine Oz O F T' O.fr (env:=compEnvC scope cl C X.env) O.fr λh' F' T'' kp=>?_;obtain⟨oC,es,ep,hoC,hdC,rN⟩:=hN;have hoC':=kp C oC hoC (λvs z=>by rw[hdC]at z;cases z) hCf;refine⟨m,⟨oC,es,ep,hoC',hdC,rN⟩,λjg sb cenv hcl'=>?_⟩;have fQ:∀b,b≠C->jg.get? b=h'.get? b:=λb hb=>sb.2 b hb;have heC:ea≠C:=λz=>by rw[←z,F.at_]at hCn;cases hCn
   obtain⟨oe,vs,T0,oT,ts,a1,a2,a3,a4,a5,a6,a7,a8,a9⟩:=T'';obtain⟨g1,g2,g3,g4⟩:=F'.exc a1 a2;have hTC:T0≠C:=λz=>by rw[z,hoC']at a5;cases a5;rw[hdC]at a6;cases a6
   have F3:du X ea C' dx H4' { s' with heap:=jg }:=F'.step (·=C) (λb z=>by subst z;exact⟨hCn,hC0,hCf⟩) ⟨oe,vs,(fQ ea heC).trans a1,g1,g2,a2,g3,g4⟩ (λb o q' _ hz' _=>(fQ b hz').trans q') (λb o q' hb=>⟨o.slots,(fQ b (λz=>hCf (z ▸ hb))).trans q'⟩) (λb o q' hz'=>⟨o,(fQ b hz').trans q'⟩);have T3:iT ea H4' X.aI { s' with heap:=jg } (rawInt X.env.locals):=⟨oe,vs,T0,oT,ts,(fQ ea heC).trans a1,a2,a3,a4,(fQ T0 hTC).trans a5,a6,a7,a8,a9⟩;unfold PySem.passOn;refine Zz (wpAny_field ((fQ ea heC).trans a1) a2 a3 ?_);rw[Zs (show ¬ ((Value.ref T0==Value.none)=true)from by simp)];exact Zz (KG F3 T3 λh4 F4 T4=>wpAny_throw (hz ea C' dx H4' _ _ F4 T4 q))
  rcases turn i n ys H4 w4 with⟨stop,hz,r⟩ |⟨go,N,hN,step⟩
  ·refine Zz (ZL (Zz (aH (T.done X' Zj Zj Zj (hc _ _ _ _ _ _) i _ s4 _ H4 _ I4 (eX jE) jt stop) λr' s5 ⟨hr,I5⟩=>?_)));subst hr;have pD:=I5.pin (D,_) (ZU _ ZK);have Ib:Inv X aa σ H4 s5:=EH I2 f2 I5.dh;have Ic:Inv X aa σ (upd H4 D (.lst ys)) s5:=Ib.track pD.2.1 (Nat.ne_of_gt fk) (.inr jv) (λx c e=>ZF (c9 x c e)) (λp hp=>ZF (er p hp)) ⟨hz,its,k,rv,pD.1⟩;obtain⟨m5,n5,_⟩:=I5.loc
   refine Zy (bw s5 ys H4 D C m5 Ic r pD.2.1 n5 (Nat.le_trans jv dz) (Nat.ne_of_gt (Z2 fk dz)) (λx c e=>ZF (Z2 (c9 x c e) dz))
    (λp hp=>ZF (Z2 (er p hp) dz)) ?_)
   rw[AE (Ne.symm gN)];exact I5.free
  ·refine Zz (ZL (Zz (aH (T.item X' Zj Zj Zj (hc _ _ _ _ _ _) i _ s4 _ H4 _ I4 (eX jE) jt go) λr' s5 ⟨u,hr,h5⟩=>?_)));subst hr;refine Zz (aH h5 λ_ s6 ⟨x,H6,I6,r6,y6,iK,fr6⟩=>?_);have I6':=I6.pinned (eX fr6) (T.obj _ _ iK);refine Zz (aH (hg _ _ _ _ _ _ _ s6 _ H6 x u _ I6' r6 (step x H6 y6)) λ_ s7 ⟨eZ,H7,I7,k7,q7⟩=>?_);refine Zz (aH (ht _ _ _ _ _ _ _ s7 eZ H7 _ I7 q7) λb s8 ⟨H8,I8,q8⟩=>?_)
   have again:∀ {H9:Hp}{s9:Vt}{cW:Vr}{its':Vq}{k':Nat},Inv X' ([(D,({ cls:=.type "list", data:=.seq (List.toArray its') k' }:Obj))]++Bs fp s6.heap) eZ H9 s9->Vals cW its' ->
     (∃m',m'<n/\W (i+1) m' cW H9)->∃m,m<n/\∃i ys its k H',Inv X' [(D,({ cls:=.type "list", data:=.seq (List.toArray its) k }:Obj))] (Bq ix σ) H' s9/\tn i s9.heap/\(∀b∈fp,H' b=none)/\W i m ys H'/\Vals ys its:=by
    intro H9 s9 cW its' k' I9 rv' ⟨m',hm,w9⟩;refine⟨m',hm,i+1,cW,its',k',H9,I9.unpinned.weak (I4.len.trans I9.len.symm) k7,T.keep _ _ _ iK λb hb o e=>(I9.pin (b,o) (ZU _ (ZU _ (BX hb e)))).1,λb hb=>?_,w9,rv'⟩;obtain⟨o,e,d⟩:=T.obj _ _ iK b hb;exact(I9.pin (b,o) (ZU _ (ZU _ (BX hb e)))).2.1
   cases b with
   |false =>
    rw[Zs Bool.false_ne_true]at q8;exact Zy ⟨Zj,again I8 rv (hN _ _ q8).2⟩
   |true =>
    rw[Zr rfl]at q8;refine Zz (Zz (aH (he _ _ _ _ _ _ _ s8 eZ H8 _ I8 q8) λy s9 ⟨z,H9,I9,r9,q9⟩=>?_))
    have hz:ys.length<sizeLine:=by
     have:=(hN _ _ q9).1;rw[ZJ,length_singleton]at this;omega
    have pD:=I9.pin (D,_) (ZU _ (ZR _ ZK));have a0:=rv.length;refine Zz (call_meets F.slot_list_append ⟨_,pD.1,Zj⟩ F.entry_list_append (F.args_list_append_2 _ _) (PySem.list_append D its.toArray k y (by rw[size_toArray];omega)) ⟨pD.1,Zy (Zy ⟨Zj,?_⟩)⟩);have eq':its.toArray.push y=(its++[y]).toArray:=by simp
    obtain⟨k',q⟩:∃k',(s9.heap.update D (Obj.mapSeq (·.push y))).get? D=some { cls:=.type "list", data:=.seq (its++[y]).toArray k' }:=⟨_,by rw[←eq'];exact PySem.IsL.update pD.1 (·.push y)⟩;have Iw:Inv X' (Bs fp s6.heap) eZ H9 s9:=I9.cy λp hp=>I9.pin p (ZU _ (ZU _ hp))
    have It:Inv X' (Bs fp s6.heap) eZ H9 { s9 with heap:=s9.heap.update D (Obj.mapSeq (·.push y)),toks:=s9.toks }:=Iw.turned (it:=D) (λb o hb e=>(ZX s9.heap (Obj.mapSeq (·.push y)) (Ne.symm hb)).trans e) pD.2.1 gN
     (.inr (by show s2.heap.objs.size<=D;rw[eB];exact ZA _)) (λx c e=>ZF (c9 x c (c1 x c e))) (λp hp=>by
      rcases mem_append.mp hp with z' |z'
      ·exact ZF (er p z')
      ·exact ZF (aX p.1 (EF z').1))
    refine again (its':=its++[y]) (k':=k') (It.cy λp hp=>?_) (rv.append (.cons r9 .nil)) (hN _ _ q9).2;rcases mem_append.mp hp with z' |z'
    ·have e:p=(D,({ cls:=.type "list", data:=.seq (its++[y]).toArray k' }:Obj)):=by simpa using z'
     subst e;exact⟨q,pD.2.1,gN,gM,λv z=>by cases z⟩
    ·exact It.pin p (ZU _ z')
 exact codeAny_compStart_list (loop _ Zj) (T.self _ 0 _ _ _ (T.keep _ _ _ gz λb _ o e=>old b o e) (loop _ Zj))
theorem NI {E:XK}{RD:Cx->Prop} (O:Ec X) (hz:MH X E) (hf:aU X.env.scope scope X.N N' ix) (hc:∀cl s H C fp aa,RD (Bc X E N' scope cl s H C fp (X.pn++aa))) (hi:PIg RD X tg iter wi)
  (hg:∀cl s H C fp pn,jk (Bc X E N' scope cl s H C fp pn) tg ix g) (ht:∀cl s H C fp pn,iA (Bc X E N' scope cl s H C fp pn) ifs tt) (he:∀cl s H C fp pn,PE (Bc X E N' scope cl s H C fp pn) elt te)
  (hs:∀x,foldedSetIterable iter X.env x=pure x:=by intro _;rfl) :
  PE X (.ListComp elt [⟨tg,iter,ifs,0⟩] scope pos) (λσ H Q=>Du wi g tt te ix (λys H'=>∀p,H' p=none->Q (.ref p) (upd H' p (.lst ys))) σ H):=by
 intro aa s σ H Q I h;rw[eval_ListComp];refine LI (use:=none) O hz hf hc hi hg ht he hs I h λs' ys H' D C m I' r hD hn h1 h2 h3 h4 h5=>?_;refine⟨m,hn,λjg hs''=>⟨.ref D,_,I'.turned (it:=C) (t':=s'.toks) (λb o hb e=>(hs''.2 b hb).trans e) h5 h2 (.inr h1) h3 h4,Zj,r D hD⟩⟩
end
section
variable {iter elt:Expr}{ifs:List Expr}{scope:Scope}{px py pt:Pos}{wi:TI}{tt:TT}{y:Str}{kt:Nat}
theorem NJ {E:XK} (O:Ec X) (hz:MH X E) (Nc:Vp) (gK:List (Option Nat)) (hf:IQ X.env.scope scope X.N (x::Nc) (none::gK)=true) (iX:(x::Nc).Nodup) (hx:scope.names.lookup x=some .local) (hc:X.calm=true) (hi:PI X (.Name x px) iter wi)
  (ht:∀cl s H C fp pn,iA (Bc X E (x::Nc) scope cl s H C fp pn) ifs tt) (he:∀cl s H C fp pn,PE (Bc X E (x::Nc) scope cl s H C fp pn) elt te) (hs:∀x,foldedSetIterable iter X.env x=pure x:=by intro _;rfl) :
  PE X (.ListComp elt [⟨.Name x px,iter,ifs,0⟩] scope pos) (λσ H Q=>Du wi (C1 0) tt te (none::gK) (λys H'=>∀p,H' p=none->Q (.ref p) (upd H' p (.lst ys))) σ H) :=
 NI O hz (aU.of hf) (λ_ _ _ _ _ _=>hc) hi.g (λcl s H C fp pn=>HK (Ar (i:=0) iX rfl (.inl (Z5 hx)) (.inr (Z5 hx)))) ht he hs
end
section
variable {CX:gx}{k:Nat}{fd:FuncData}{ps:Vp}{sp1 sp2:Sp}
theorem aB.or (F:aB P w K mg base CX k f fd ps sp1) (G:aB P w K mg base CX k f fd ps sp2):aB P w K mg base CX k f fd ps (λvs H Q E=>sp1 vs H Q E\/sp2 vs H Q E):=by
 refine⟨λvs H Q E h=>?_,λA outer s H args us vs Q E hr he hb hv h=>?_⟩
 ·rcases h with h |h
  ·exact F.len _ _ _ _ h
  ·exact G.len _ _ _ _ h
 ·rcases h with h |h
  ·exact F.run A outer s H args us vs Q E hr he hb hv h
  ·exact G.run A outer s H args us vs Q E hr he hb hv h
end
structure g9 (X:Cx) (e:Expr) (t:TE):Prop where
 h:PE X e t
structure gH (X:Cx) (es:List Expr) (t:TA):Prop where
 h:PA X es t
section
variable {es:List Expr}{t:TA}
theorem A5:gH X [] B6:=⟨AB⟩
theorem KH {b j pos} (h:gH X es t):gH X (.Constant (.int b) j pos::es) (As (tC (.int b)) t):=⟨AA AI h.h⟩
theorem EW {x j pos} (h:gH X es t):gH X (.Constant (.str x) j pos::es) (As (tC (.str x)) t):=⟨AA Al h.h⟩
theorem Dx {l k p} (he:g9 X (.Tuple l k p) te) (h:gH X es t):gH X (.Tuple l k p::es) (As te t):=⟨AA he.h h.h⟩
theorem Bw {k p} (h:gH X es t):g9 X (.Tuple es k p) (QU t):=⟨DS h.h⟩
end
structure PSw (X:Cx) (st:Stmt) (t:TS):Prop where
 h:PS X st t
structure gq (X:Cx) (st:List Stmt) (t:TS):Prop where
 h:eI X st t
structure PIw (X:Cx) (tg e:Expr) (t:TI):Prop where
 h:PI X tg e t
section
variable {st:Stmt}{rest:List Stmt}{t u:TS}{tg l iter:Expr}{tl:TE}
theorem O0:gq X [] R5:=⟨AR⟩
theorem JK (a:PSw X st t) (b:gq X rest u):gq X (st::rest) (Tw t u):=⟨AC a.h b.h⟩
theorem MJ (a:PSw X st t):gq X [st] t:=⟨AD a.h⟩
theorem Sx (h:g9 X l tl):PIw X tg l (R7 X.K tl):=⟨BS h.h⟩
theorem UR {body:List Stmt}{wi:TI}{g:TG}{tb:TS} (hp:PassesOwn (model X.prog X.w) X.A X.env X.xe) (hc:X.calm=true) (hi:PIw X tg iter wi) (hg:PG X tg g) (hb:gq X body tb)
  (hs:∀x,foldedSetIterable iter X.env x=pure x:=by intro _;rfl):PSw X (.For tg iter body [] pos) (T5 wi g tb):=⟨DR hp hc hi.h hg hb.h hs⟩
end
section
variable {CX:gx}{E:XK}
variable {k:Nat}{fd:FuncData}{ps ks:Vp}{sp:Sp}{p:Pos}{es:List Expr}{gf:List Keyword}{t tk:TA}{g:Vq->Vq->Vq}{gV:Vr->Vr->Vr}
theorem NK (M:Mk X.K C f) (F:aB X.prog X.w X.K X.mg X.base CX k f fd ps sp) (hr:aD (k+1) X.A) (hg:Gl X x) (hm:X.mg x=some (.ref C)) (hb:Cm X.K fd ps ks g gV) (hx:BJ CX X E)
  (ha:PA X (e::es) t) (hkw:PK X gf tk) (bc:(backToKw pos (keywordEach gf X.env)).all (·.1.isSome)=true:=by rfl) (hks:(backToKw pos (keywordEach gf X.env)).filterMap (·.1)=ks:=by rfl)
  (fw:(x==("__debug__" : Str))=false:=by decide) (he:starEach (e::es) X.env=(false,eval e X.env)::starEach es X.env:=by rfl)
  (eQ:((backTo pos (starEach (e::es) X.env)).any (·.1)||(backToKw pos (keywordEach gf X.env)).any (·.1.isNone))=false:=by rfl) :
  PE X (.Call (.Name x p) (e::es) gf pos) (Og C sp gV E t tk):=by
 intro aa s σ H Q I h;refine Z3 (Br I hg hm ?_ fw);refine W.callWith_KW (h₀:=X.base) I.ok.mod.kin M.kp bc (aH (ha pos aa s σ H _ I h) λus s1 ⟨vs,H1,I1,r,q⟩=>?_) eQ he;refine aH (hkw pos aa s1 σ H1 _ I1 q) λws s2 ⟨zs,H2,I2,rz,q2⟩=>⟨I2.cX,?_⟩;rw[hks];have hq:=q2 (s2.heap.objs.size+1) s2.heap.objs.size (I2.aF.fresh (Nat.le_succ _)) (I2.aF.fresh (ZA _)) (ZF (Nat.lt_succ_self _));have I3:=Inv.made (C:=C) I2;have r2:Vals (gV (V.ref (s2.heap.objs.size+1)::vs) zs) (g (Value.ref (s2.heap.objs.size+1)::us) ws):=hb.rel (.cons rfl r) rz;have hl:(g (Value.ref (s2.heap.objs.size+1)::us) ws).length=ps.length:=by rw[←r2.length];exact F.len _ _ _ _ hq
 refine wpAny_call (HB (f:=f) I2.cX M.makes M.init (beq_iff_eq.mp M.fn) (codeAny_mono (F.run _ X.stack _ _ ⟨Value.ref (s2.heap.objs.size+1)::us,ks.zip ws⟩ _ _ _ E (hr.make C us (ks.zip ws)) (I3.gm.make C us (ks.zip ws)) (hb.to _ _ _ I3.cX hl) r2 hq) λr' s' fv=>?_));cases r' with
 |error e=>exact hx aa σ _ _ e s' I3 fv
 |ok fl =>
  cases fl with
  |ret u =>
   obtain⟨v,H',I4,rv,ev,q3⟩:=I3.after fv;subst ev;exact⟨rv,⟨V.ref (s2.heap.objs.size+1),H',I4,Zj,q3⟩⟩
  |next=>exact False.elim fv
  |brk=>exact False.elim fv
  |cont=>exact False.elim fv
end
end L2
end
section
namespace PySem
open Sem (wp)
theorem HW {prog:Program}{s:Vt}{xs:Array Value}{o:Obj}{k:Nat}{Q:Option Value->Vt->Prop}
  (hx:s.heap.get? a=some o) (hc:o.cls=.type "list") (ce:o.data=.seq xs k) (hd:o.dict=none) (hA:A.handled=none)
  (h:∀h' tk,(∀b ob,s.heap.get? b=some ob->h'.get? b=some ob)->Q none { s with heap:=h',toks:=tk }) :
  wpAny (model prog w) A (getAttr? (.ref a) "keys") Q E s:=by
 obtain⟨c,dct,dat,sl⟩:=o;simp only at hc ce hd;subst hc ce hd;obtain⟨hp,g,d,tk,os⟩:=s;have hT:∀iV,(⟨hp,g,d,iV,os⟩:Vt).TypeIs (.ref a) "list" := λ_=>⟨_,hx,rfl⟩;have f1:=sub_AttributeError;have f3:=F.slot_list_getattribute.lookup;have f4:=F.slot_list_getattribute.bind (.ref a);have f5:=am_list_getattr_none;have hmiss:typeLookup (.type "list") "keys" = pure none:=by rw[typeLookup_type,builtinLookup_eq_fast];kernel_rfl
 unfold getAttr? getAttrBy? getAttrBy
 repeat (any_goals (first |assumption |exact hT _ | ((with_reducible show wpAny _ _ (call (Value.builtin "list.__getattribute__") _ _) _ _ _);refine call_meets F.slot_list_getattribute (hT _) am_entry_list_getattribute (F.args_list_getattribute_2 _ _) (meets_getattribute_miss_list a xs k sl "keys" _ hmiss qb) ⟨hx,hA,λh' iV e hx'=>?_⟩) |wp_step))
 obtain⟨t',u',he⟩:=hx'.there;show wpAny _ _ (getattributeRaised _ _ _ _ _ _ _) _ _ _;unfold getattributeRaised
 repeat (any_goals (first |assumption |wp_step))
 exact h _ _ hx'.keeps
end PySem
end
section
namespace L2
open PySem PySem.Spec PyProof.Rows
theorem Bx:entryFor table "dict.update.loop" = some Builtin.«dict.update.loop»:=entryFor_of_tree qd
theorem A0:plainId "dict.update.loop" = true:=by decide +kernel
noncomputable def Ay (kvs ps:LK):LK:=ps.foldl (λd p=>Bn d p.1 p.2) kvs
theorem HX:∀(ps kvs:LK),(Ay kvs ps).length<=kvs.length+ps.length
 | [],kvs=>ZA _
 |p::r,kvs=>by
  have h1:=HX r (Bn kvs p.1 p.2);have h2:=Bo kvs p.1 p.2;show(Ay (Bn kvs p.1 p.2) r).length<=_;rw[length_cons];omega
section
variable {R:Result->Vt->Prop}{it p:Vs}{bs:List Vs}{ps:LK}
theorem NL (hA:A.in1.handled=none) (hpa:p≠a) (hpit:p≠it) (hq:aJ X.K H a (bs.map V.ref)) (hl:bs.length=ps.length) (hb:∀(i:Nat) b q,bs[i]?=some b->ps[i]?=some q->b≠p/\bZ X.K H b [kV q.1,q.2]) (hz:ps.length<=1000)
  (hqs:∀kvs,aJ X.K (upd H p (.dK kvs)) a (bs.map V.ref)) (hts:∀kvs b xs,b≠p->bZ X.K H b xs->bZ X.K (upd H p (.dK kvs)) b xs) (f0:∀kvs,(upd H p (.dK kvs)) it=none) (f1:it≠X.env.locals) (f3:it∈X.ex\/X.aI.heap.objs.size<=it) (f4:∀(x:Str) (c:Vs),X.env.cells.lookup x=some c->c≠it) (f5:∀q:Vs×Obj,q∈X.pn++aa->q.1≠it) :
  ∀(k i:Nat) (s:Vt) (kvs:LK),ps.length - i=k->i<=ps.length->kvs.length<=i->Inv X aa σ (upd H p (.dK kvs)) s->s.heap.IsListIter it a i->(∀s',Inv X aa σ (upd H p (.dK (Ay kvs (ps.drop i)))) s'->R (.ok (.ret .none)) s') ->
   codeAny (model X.prog X.w) A (.builtin "dict.update.loop" ⟨[.ref p,.ref it,rawInt (i:Int),.none],[]⟩) R s:=by
 intro k;induction k with
 |zero =>
  intro i s kvs hk hi hkl I st hR;have hin:i=ps.length:=by omega
  obtain⟨its,rv,pl,_⟩:=I.list (hqs kvs);have a0:=rv.length;refine codeAny_builtin Bx ?_;rw[Around.under_plainId A0 _];show wpAny _ A.in1 (pyNext (.ref it) >>= _) _ _ s;refine Zz (wpAny_pyNext_list_end hA st pl.isList (by rw[AK]at a0;simp;omega) λh' eb=>?_);show wpAny _ A.in1 (Builtin.Dict.addKeywords p [] >>= _) _ _ _;refine Zz (Zy (Zy (hR _ ?_)));have e:Ay kvs (ps.drop i)=kvs:=by rw[hin,List.drop_length];rfl
  rw[e];exact I.turned (t':=s.toks) (λb o hb e=>eb b o hb e) (f0 kvs) f1 f3 f4 f5
 |succ k ih =>
  intro i s kvs hk hi hkl I st hR;have aX:i<ps.length:=by omega
  obtain⟨its,rv,pl,_⟩:=I.list (hqs kvs);have hbi:bs[i]?=some (bs[i]'qe):=Z7 qe;have hpi:ps[i]?=some ps[i]:=Z7 aX;obtain⟨hbp,hT⟩:=hb i _ _ hbi hpi;obtain⟨u,hu,ru⟩:=rv.get (i:=i) (x:=V.ref (bs[i]'qe)) (by rw[ZH,hbi];rfl);cases (show u=Value.ref _ from ru);refine codeAny_builtin Bx ?_;rw[Around.under_plainId A0 _];show wpAny _ A.in1 (pyNext (.ref it) >>= _) _ _ s;refine Zz (wpAny_pyNext_list_item st pl.isList (x:=Value.ref (bs[i]'qe)) (by simpa using hu) λh' gA sb=>?_);have I1:Inv X aa σ (upd H p (.dK kvs)) { s with heap:=h' }:=I.turned (t':=s.toks) (λb o hb e=>(sb.2 b hb).trans e) (f0 kvs) f1 f3 f4 f5;obtain⟨gj,rv2,⟨ot,et,ct,nt,dt⟩,_⟩:=I1.tuple (hts kvs _ _ hbp hT);obtain⟨uk,uv,e2,rk,rvv⟩:=Ey rv2;subst e2;show wpAny _ A.in1 (holding [Value.ref (bs[i]'qe)] _ >>= _) _ _ _;refine Zz (ZM ?_);have hp:(upd H p (.dK kvs)) p=some (.dK kvs):=U;obtain⟨z,hd,vs,rel,dd⟩:=OW I1.aF hp;have hvs:vs.length<=sizeLine:=by rw[←rel.length];exact z
  have hTy:Shared.TypeIs { s with heap:=h' } (.ref (bs[i]'qe)) "tuple" := ⟨_,et,ct⟩;refine Zz (wpAny_tryCatch ?_);unfold Builtin.Dict.pairItems;refine Zz (wpAny_typeOf hTy ?_);rw[Zr qc];obtain⟨oc,odd,oda,gd⟩:=ot;simp only at ct dt;subst ct dt;refine Zz (m:=seqItems? _) ?_;unfold seqItems?;refine Zz (wpAny_load et (Zy ?_));refine Zy ?_;show wpAny _ _ (holding [uk,uv] (dictSet p uk uv)) _ _ _;refine ZM (wpAny_dictSet_pairs (hsz:=hvs) (F5 rk) dd λh2 dd2 sb2=>?_);refine Zy ⟨plainId_quiet A0 _,?_⟩;have jc:(Bn kvs ps[i].1 ps[i].2).length<=i+1:=by have:=Bo kvs ps[i].1 ps[i].2;omega
  have I2:=Gi (t':=s.toks+1) I1 (by rw[hp];exact True.intro) sb2 (let ⟨q,_,_,fv,_⟩:=dd2;⟨q,fv⟩) (I0 (P:=X.prog) (w:=X.w) (H':=upd (upd H p (.dK kvs)) p (.dK (Bn kvs ps[i].1 ps[i].2))) (Nat.le_of_lt (AQ qe)) hd (rel.put ps[i].1 rvv) dd2);rw[Gg]at I2;have e3:ps.drop i=ps[i]::ps.drop (i+1):=List.drop_eq_getElem_cons aX;have:=ih (i+1) _ (Bn kvs ps[i].1 ps[i].2) qe qe jc I2 (gA.extBut sb2.extBut (Ne.symm hpit)) (λs' I'=>hR s' (by rw[e3];exact I'));exact this
theorem DZ (hc:X.calm=true):Be X (.type "dict") (λxs H Q=>∃(a:Vs) (bs:List Vs) (ps:LK),xs=[.ref a]/\aJ X.K H a (bs.map V.ref)/\bs.length=ps.length/\ps.length<=1000/\(∀(i:Nat) b q,bs[i]?=some b->ps[i]?=some q->bZ X.K H b [kV q.1,q.2]) /\
  ∀p,H p=none->Q (.ref p) (upd H p (.dK (Ay [] ps)))):=by
 intro aa s σ H xs us Q I r h;obtain⟨a,bs,ps,rfl,hq,hl,hz,hb,q⟩:=h;obtain⟨u,rfl,ru⟩:=CZ r;cases (show u=Value.ref a from ru);have hp0:H s.heap.objs.size=none:=I.aF.fresh (ZA _)
 have sH:∀o,aA H (upd H s.heap.objs.size o):=λo b v e=>by
  rw[AE (AJ e hp0)];exact e
 refine callType_codes (Q₁:=λobj aN=>obj=.ref s.heap.objs.size/\aN={ s with heap:=s.heap.push { cls:=.type "dict", data:=.dict #[] } }) PySem.F.kt_called_dict (PySem.F.kt_typeCall_dict_1 _) PySem.F.entry_dict_init (kt_code_dict_new _ ⟨Zj,Zj⟩) ?_;rintro obj aN ⟨rfl,rfl⟩;have I1:Inv X aa σ (upd H s.heap.objs.size (.dK [])) { s with heap:=s.heap.push { cls:=.type "dict", data:=.dict #[] } }:=I.laid (a:=s.heap.objs.size) (o:=.dK []) (t':=s.toks) (λ_ _ q=>ZY _ q) (ZA _) (Ju s.heap I.big);obtain⟨its,rv,pl,_⟩:=I1.list ((sH (.dK [])).seq hq);have hTd:Shared.TypeIs { s with heap:=s.heap.push { cls:=.type "dict", data:=.dict #[] } } (.ref s.heap.objs.size) "dict" := ⟨_,ZP _ rfl,rfl⟩;refine⟨hTd,PySem.F.args_dict_init_2 _ _,?_⟩;unfold Builtin.«dict.__init__»;refine Zz ?_;unfold Builtin.Dict.selfAndRest;refine Zz (wpAny_notOrdered_dict hTd ?_);show wpAny _ _ (pure (s.heap.objs.size,[Value.ref a])) _ _ _;refine Zy ?_;show wpAny _ _ (Builtin.Dict.updateFrom "dict.__init__" s.heap.objs.size (.ref a) [] .none) _ _ _;unfold Builtin.Dict.updateFrom;refine Zz (wpAny_typeOf pl.isList.typeIs ?_);rw[Zr qc];have hA:X.A.handled=none:=I.ok.hd hc;have hA2:X.A.in1.in1.handled=none:=hA;obtain⟨ol,nl,hol,ah,hdl,ce⟩:=id pl;obtain⟨its0,_,⟨o0,_,e0,_⟩,_⟩:=I.list hq;have au:a<s.heap.objs.size:=lt_size e0;refine Zz (HW hol ah ce hdl hA2 λh' tk keep=>?_);have I2:Inv X aa σ (upd H s.heap.objs.size (.dK [])) { s with heap:=h',toks:=tk }:=I1.kept keep;show wpAny _ _ (if (Option.isNone (none:Option Value))=true then _ else _) _ _ _;rw[Zr (show Option.isNone (none:Option Value)=true from rfl)];refine Zz (wpAny_rule ?_);refine Zz (wpAny_pyIter_list (pl.isList.at λo e=>keep _ o e) ?_)
 have hsz:s.heap.objs.size<h'.objs.size:=by
  have:=keep _ _ (ZP s.heap (o:={ cls:=.type "dict", data:=.dict #[] }) rfl);exact lt_size this
 have I3:Inv X aa σ (upd H s.heap.objs.size (.dK [])) { s with heap:=h'.push { cls:=.type "list_iterator", data:=.fields #[.ref a,.int 0 0] },toks:=tk }:=I2.kept (t':=tk) λb o e=>ZY _ e;have aw:s.heap.objs.size≠h'.objs.size:=ZF hsz;have hn0:(upd H s.heap.objs.size (.dK [])) h'.objs.size=none:=I2.aF.fresh (ZA _);obtain⟨_,f1,_,f3,f4,f5⟩:=I2.gD (ZA h'.objs.size) hn0;have hnb:∀(i:Nat) b q,bs[i]?=some b->ps[i]?=some q->b≠s.heap.objs.size/\bZ X.K H b [kV q.1,q.2]:=λi b q e1 e2=>⟨λz=>?_,hb i b q e1 e2⟩
 ·refine Zy ⟨plainId_quiet A0 _,?_⟩;refine NL (X:=X) (aa:=aa) (σ:=σ) (H:=H) (a:=a) (it:=h'.objs.size) (p:=s.heap.objs.size) (bs:=bs) (ps:=ps) (A:=X.A.in1) hA2 (λz=>?_) aw hq hl hnb hz (λkvs=>(sH _).seq hq) (λkvs b xs _ hT=>?_) (λkvs=>?_) f1 f3 f4 f5 (ps.length - 0) 0 _ [] qe (Nat.zero_le _) (ZA _) I3 ⟨_,ZP _ Zj,Zj,Zj⟩ (λs' I'=>⟨Zj,.ref s.heap.objs.size,_,I',Zj,q _ hp0⟩)
  ·exact absurd au (by rw[←z];exact ZI _)
  ·rcases hT with (h |⟨o,h⟩) |h
   ·exact .inl (.inl (sH _ _ _ h))
   ·exact .inl (.inr ⟨o,sH _ _ _ h⟩)
   ·exact .inr h
  ·rw[AE (Ne.symm aw)];rw[AE (Ne.symm aw)]at hn0;exact hn0
 ·obtain⟨gj,_,⟨o2,e2',_⟩,_⟩:=I.tuple (hb i b q e1 e2);exact absurd (lt_size e2') (by rw[z];exact ZI _)
end
def LJ (wi:TI) (g:TG) (tt:TT) (tk te:TE) (ix:List (Option Nat)) (R:LK->Hp->Prop):St->Hp->Prop:=λσ H=>wi σ H λJ H1=>∃W:Nat->Nat->LK->Hp->Prop,(∃m,W 0 m [] H1)/\∀i m ys H,W i m ys H ->
 (J.stop i H/\ys.length<=sizeLine/\R ys H) \/
 (J.go i H/\∃N:LK->Hp->Prop,(∀cW H',N cW H'->cW.length<=sizeLine/\∃m',m'<m/\W (i+1) m' cW H') /\
  ∀x H',J.hX i H x H'->g x (Bq ix σ) H' λcS H2=>tt cS H2 λb H3=>if b=true then tk cS H3 λyk H4=>te cS H4 λy H5=>∃k,yk=kV k/\N (Bn ys k y) H5 else N ys H3)
theorem NM (kvs:LK) (k:Key) (v:V):kvs.length<=(Bn kvs k v).length:=by
 unfold Bn;split
 ·rw[AK];exact ZA _
 ·rw[ZJ];omega
theorem Sy {s:Heap} (h:sysModules<s.objs.size):(s.objs.size==sysModules)=false:=by
 rw[beq_eq_false_iff_ne];exact Nat.ne_of_gt h
section
variable {N':Vp}{ix:List (Option Nat)}{scope:Scope}{tg iter kx vx:Expr}{ifs:List Expr}{wi:TI}{g:TG}{tt:TT}{tk:TE}{pos':Pos}
theorem LL {RD:Cx->Prop}{use:Option (Value->Sem Unit)}{Qv:VS} (hf:aU X.env.scope scope X.N N' ix) (hc:∀cl s H C fp aa,RD (Aj X N' scope cl s H C fp (X.pn++aa))) (hi:PIg RD X tg iter wi)
  (hg:∀cl s H C fp pn,jk (Aj X N' scope cl s H C fp pn) tg ix g) (ht:∀cl s H C fp pn,iA (Aj X N' scope cl s H C fp pn) ifs tt) (hk:∀cl s H C fp pn,PE (Aj X N' scope cl s H C fp pn) kx tk) (he:∀cl s H C fp pn,PE (Aj X N' scope cl s H C fp pn) vx te)
  (hs:∀x,foldedSetIterable iter X.env x=pure x) {aa:LO}{s:Vt}{σ:St}{H:Hp}{R:LK->Hp->Prop} (I:Inv X aa σ H s) (h:LJ wi g tt tk te ix R σ H)
  (bw:∀s' ys H' D C m,Inv X aa σ (upd H' D (.dK ys)) s'->R ys H'->H' D=none->s'.heap.Ns C m->X.aI.heap.objs.size<=C->C≠X.env.locals->(∀x c,X.env.cells.lookup x=some c->c≠C)->(∀p∈X.pn++aa,p.1≠C) ->
   upd H' D (.dK ys) C=none->compPost (model X.prog X.w) X.A X.xe use Qv (.ref D) C (.ok .next) s') :
  wpAny (model X.prog X.w) X.A (comprehension (.DictComp kx vx [⟨tg,iter,ifs,0⟩] scope pos) scope X.env pos' newDict false (eval iter X.env) use) Qv X.xe s:=by
 obtain⟨cl,bx,c1,c2⟩:=JB (env:=X.env) (scope:=scope) λy hy hyf=>by
  have:=hf.free y hy hyf;exact I.ok.has y.1 this
 refine wpAny_comprehension_free (use:=use) Zj hs bx hf.kind hf.loc (aH (hi aa s σ H _ I h) λv s1 h1=>aH h1 λjy s2 h2=>?_);obtain⟨it,fp,tn,J,H2,e,I2,T,gz,f2,W,⟨m0,w0⟩,turn⟩:=h2;subst e
 have aX:∀b∈fp,b<s2.heap.objs.size:=λb hb=>by
  obtain⟨o,e,_⟩:=T.obj _ _ gz b hb;exact lt_size e
 refine wpAny_newObj_type (wpAny_newFunctionEnv hf.nocell (by intro y hy;simp at hy) (λdJ c8 cJ=>?_) hf.kind)
 dsimp only at c8 cJ ⊢
 generalize iS:s2.heap.push { cls:=.type "dict", data:=.dict #[] }=HP at c8 cJ ⊢;have hC:HP.objs.size=s2.heap.objs.size+1:=by rw[←iS,size_push]
 have gN:s2.heap.objs.size≠HP.objs.size:=by rw[hC];exact ZF (Nat.lt_succ_self _)
 have dz:s2.heap.objs.size<=HP.objs.size:=by rw[hC];exact Nat.le_succ _
 have hCne:∀b,b<s2.heap.objs.size->b≠HP.objs.size:=λb hb=>by rw[hC];exact ZF (Nat.lt_succ_of_lt hb)
 have old:∀b o,s2.heap.get? b=some o->dJ.get? b=some o:=λb o e=>cJ.extBut b o (hCne b (lt_size e)) (ZY _ (iS ▸ ZY _ e));have bo:dJ.get? s2.heap.objs.size=some { cls:=.type "dict", data:=.dict #[] }:=cJ.extBut _ _ gN (ZY _ (iS ▸ ZP _ rfl));generalize hCC:HP.objs.size=C at *;generalize eB:s2.heap.objs.size=D at *;have IX:=Eb (N':=N') (fp:=fp) I2 hf c1 c2 (by rw[eB];exact dz) f2 (by rw[eB];exact aX) (tk:=s2.toks+([]:List (Str×Value)).length) old c8;have hDn:H2 D=none:=I2.aF.fresh (by rw[eB];exact ZA _)
 have gM:D∉ cw X.stack:=λz=>by
  rcases mem_cons.mp (I2.d9 D z)with q |q
  ·have:=I2.lt;rw[←q,eB]at this;exact ZI _ this
  ·exact I2.nofs (by rw[eB];exact ZA _) q
 have c9:∀x c,X.env.cells.lookup x=some c->c<D:=λx c e=>by
  obtain⟨v,z⟩:=I2.cell x c e;rw[←eB];exact z.lt
 have er:∀p∈X.pn++aa,p.1<D:=λp hp=>by rw[←eB];exact lt_size (I2.pin p hp).1
 have jv:X.aI.heap.objs.size<=D:=by rw[←eB];exact I2.sz
 have fk:X.env.locals<D:=by rw[←eB];exact I2.lt
 let X':Cx:=Aj X N' scope cl s2 H2 C fp (X.pn++aa)
 have eX:∀ {H':Hp}{ob:Obj},(∀b∈fp,H' b=none)->∀b∈fp,EL X' [(D,ob)] H' b:=λ{H' ob} hn b hb=>by
  refine⟨hn b hb,ZF (Z2 (aX b hb) dz),λz=>?_,.inl hb,λx c e=>(f2 b hb).2.2.2.2.1 x c (c1 x c e),λp hp=>?_⟩
  ·exact IX.ok.fY b hb z
  ·rcases mem_append.mp hp with z |z
   ·exact(f2 b hb).2.2.2.2.2 p z
   ·have e:p=(D,ob):=by simpa using z
    subst e;exact Nat.ne_of_gt (aX b hb)
 have pinD:∀ {aO:St}{H':Hp}{s':Vt}{ob:Obj},Inv X' [] aO H' s'->s'.heap.get? D=some ob->H' D=none->(∀v,ob.data≠ .cell v)->Inv X' [(D,ob)] aO H' s':=λ{aO H' s' ob} Ia e n d =>
  Ia.cy λp hp=>by
   have q:p=(D,ob):=by simpa using hp
   subst q;exact⟨e,n,gN,gM,d⟩
 have loop:∀s3:Vt,s3={ s2 with heap:=dJ,toks:=s2.toks+([]:List (Str×Value)).length } ->
   codeAny (model X.prog X.w) X.A (.compLoop (.DictComp kx vx [⟨tg,iter,ifs,0⟩] scope pos) 0 (.ref it) (.ref D) (compEnvC scope cl C X.env)) (compPost (model X.prog X.w) X.A X.xe use Qv (.ref D) C) s3:=by
  rintro s3 rfl
  refine codeAny_loop Zj (λn s'=>∃i ys vs ob H',Inv X' [(D,ob)] (Bq ix σ) H' s'/\tn i s'.heap/\(∀b∈fp,H' b=none)/\W i n ys H'/\KV ys vs/\s'.heap.DictOf (Ad X.prog X.w) D vs)
   (λn s4 hI=>?_) m0 ⟨0,[],[],_,H2,pinD IX bo hDn (λv z=>by cases z),T.keep _ _ _ gz (λb _ o e=>old b o e),λb hb=>(f2 b hb).1,w0,.nil,by rw[←eB];exact Heap.DictOf.at (Heap.DictOf.new s2.heap) λo e=>by rw[ZP _ rfl]at e;cases e;rw[eB];exact bo⟩
  obtain⟨i,ys,vs,ob,H4,I4,jt,jE,w4,rv,dd4⟩:=hI;have hDsys:(D==sysModules)=false:=by rw[←eB];exact Sy I2.big
  show wpAny _ X.A ((compTurn (.DictComp kx vx [⟨tg,iter,ifs,0⟩] scope pos) 0 (.ref it) (.ref D) (compEnvC scope cl C X.env)).onRaise (λx=>do noteFrame x (compEnvC scope cl C X.env);theTreesLotGoes x)) _ _ s4;refine wpAny_noted ?_;rw[compTurn_dict];refine DI ?_;rcases turn i n ys H4 w4 with⟨stop,hz,r⟩ |⟨go,N,hN,step⟩
  ·refine Zz (ZL (Zz (aH (T.done X' Zj Zj Zj (hc _ _ _ _ _ _) i _ s4 _ H4 _ I4 (eX jE) jt stop) λr' s5 ⟨hr,I5⟩=>?_)));subst hr;have pD:=I5.pin (D,_) (ZU _ ZK);have Ib:Inv X aa σ H4 s5:=EH I2 f2 I5;have pD4:=I4.pin (D,_) (ZU _ ZK);have dd5:=dd4.at (h':=s5.heap) λo e=>by rw[pD4.1]at e;cases e;exact pD.1
   have Ic:Inv X aa σ (upd H4 D (.dK ys)) s5:=Ib.track pD.2.1 (Nat.ne_of_gt fk) (.inr jv) (λx c e=>ZF (c9 x c e)) (λp hp=>ZF (er p hp)) (I0 hz hDsys rv dd5);obtain⟨m5,n5,_⟩:=I5.loc
   refine Zy (bw s5 ys H4 D C m5 Ic r pD.2.1 n5 (Nat.le_trans jv dz) (Nat.ne_of_gt (Z2 fk dz)) (λx c e=>ZF (Z2 (c9 x c e) dz))
    (λp hp=>ZF (Z2 (er p hp) dz)) ?_)
   rw[AE (Ne.symm gN)];exact I5.free
  ·refine Zz (ZL (Zz (aH (T.item X' Zj Zj Zj (hc _ _ _ _ _ _) i _ s4 _ H4 _ I4 (eX jE) jt go) λr' s5 ⟨u,hr,h5⟩=>?_)));subst hr;refine Zz (aH h5 λ_ s6 ⟨x,H6,I6,r6,y6,iK,fr6⟩=>?_);have I6':=I6.pinned (eX fr6) (T.obj _ _ iK);refine Zz (aH (hg _ _ _ _ _ _ _ s6 _ H6 x u _ I6' r6 (step x H6 y6)) λ_ s7 ⟨eZ,H7,I7,k7,q7⟩=>?_);refine Zz (aH (ht _ _ _ _ _ _ _ s7 eZ H7 _ I7 q7) λb s8 ⟨H8,I8,q8⟩=>?_)
   have again:∀ {H9:Hp}{s9:Vt}{cW:LK}{i8:List (Key×Value)}{ob':Obj},Inv X' ([(D,ob')]++Bs fp s6.heap) eZ H9 s9->KV cW i8->s9.heap.DictOf (Ad X.prog X.w) D i8 ->
     (∃m',m'<n/\W (i+1) m' cW H9)->∃m,m<n/\∃i ys vs ob H',Inv X' [(D,ob)] (Bq ix σ) H' s9/\tn i s9.heap/\(∀b∈fp,H' b=none)/\W i m ys H'/\KV ys vs/\s9.heap.DictOf (Ad X.prog X.w) D vs:=by
    intro H9 s9 cW i8 ob' I9 rv' iw ⟨m',hm,w9⟩;refine⟨m',hm,i+1,cW,i8,ob',H9,I9.unpinned.weak (I4.len.trans I9.len.symm) k7,T.keep _ _ _ iK λb hb o e=>(I9.pin (b,o) (ZU _ (ZU _ (BX hb e)))).1,λb hb=>?_,w9,rv',iw⟩;obtain⟨o,e,d⟩:=T.obj _ _ iK b hb;exact(I9.pin (b,o) (ZU _ (ZU _ (BX hb e)))).2.1
   have pD4:=I4.pin (D,_) (ZU _ ZK)
   have dAt:∀ {σ9:St}{H9:Hp}{s9:Vt},Inv X' ([(D,ob)]++Bs fp s6.heap) σ9 H9 s9->s9.heap.DictOf (Ad X.prog X.w) D vs:=λ{σ9 H9 s9} I9=>dd4.at λo e=>by
    rw[pD4.1]at e;cases e;exact(I9.pin (D,_) (ZU _ (ZR _ ZK))).1
   cases b with
   |false =>
    rw[Zs Bool.false_ne_true]at q8;exact Zy ⟨Zj,again I8 rv (dAt I8) (hN _ _ q8).2⟩
   |true =>
    rw[Zr rfl]at q8;refine Zz (Zz (aH (hk _ _ _ _ _ _ _ s8 eZ H8 _ I8 q8) λyk s8' ⟨zk,H8',I8',rk,q8'⟩=>?_));refine Zz (ZM (aH (he _ _ _ _ _ _ _ s8' eZ H8' _ I8' q8') λy s9 ⟨z,H9,I9,r9,kk,ek,q9⟩=>?_));subst ek;refine Zz (ZL ?_);have hz:(Bn ys kk z).length<=sizeLine:=(hN _ _ q9).1
    have hzv:vs.length<=sizeLine:=by
     have h1:=NM ys kk z;rw[←rv.length];omega
    have pD:=I9.pin (D,_) (ZU _ (ZR _ ZK));refine ZM (wpAny_dictSet_pairs (hsz:=hzv) (F5 rk) (dAt I9) λh2 dd2 sb2=>?_);obtain⟨ob2,es2,ep2,q,ex2,dt2,rest2⟩:=id dd2;have Iw:Inv X' (Bs fp s6.heap) eZ H9 s9:=I9.cy λp hp=>I9.pin p (ZU _ (ZU _ hp))
    have It:Inv X' (Bs fp s6.heap) eZ H9 { s9 with heap:=h2,toks:=s9.toks+1 }:=Iw.turned (it:=D) (λb o hb e=>(sb2.2 b hb).trans e) pD.2.1 gN
     (.inr (by show s2.heap.objs.size<=D;rw[eB];exact ZA _)) (λx c e=>ZF (c9 x c (c1 x c e))) (λp hp=>by
      rcases mem_append.mp hp with z' |z'
      ·exact ZF (er p z')
      ·exact ZF (aX p.1 (EF z').1))
    refine Zy ⟨rfl,again (ob':=ob2) (It.cy λp hp=>?_) (rv.put kk r9) dd2 (hN _ _ q9).2⟩;rcases mem_append.mp hp with z' |z'
    ·have e:p=(D,ob2):=by simpa using z'
     subst e;exact⟨q,pD.2.1,gN,gM,λv z=>by rw[dt2]at z;cases z⟩
    ·exact It.pin p (ZU _ z')
 exact codeAny_compStart_dict (loop _ Zj) (T.self _ 0 _ _ _ (T.keep _ _ _ gz λb _ o e=>old b o e) (loop _ Zj))
theorem O1 (hf:aU X.env.scope scope X.N N' ix) (hc:X.calm=true) (hi:PI X tg iter wi)
  (hg:∀cl s H C fp pn,jk (Aj X N' scope cl s H C fp pn) tg ix g) (ht:∀cl s H C fp pn,iA (Aj X N' scope cl s H C fp pn) ifs tt) (hk:∀cl s H C fp pn,PE (Aj X N' scope cl s H C fp pn) kx tk) (he:∀cl s H C fp pn,PE (Aj X N' scope cl s H C fp pn) vx te)
  (hs:∀x,foldedSetIterable iter X.env x=pure x:=by intro _;rfl) :
  PE X (.DictComp kx vx [⟨tg,iter,ifs,0⟩] scope pos) (λσ H Q=>LJ wi g tt tk te ix (λys H'=>∀p,H' p=none->Q (.ref p) (upd H' p (.dK ys))) σ H):=by
 intro aa s σ H Q I h;rw[arm_eval_DictComp];refine LL (use:=none) hf (λ_ _ _ _ _ _=>hc) hi.g hg ht hk he hs I h λs' ys H' D C m I' r hD hn h1 h2 h3 h4 h5=>?_;refine⟨m,hn,λjg hs''=>⟨.ref D,_,I'.turned (it:=C) (t':=s'.toks) (λb o hb e=>(hs''.2 b hb).trans e) h5 h2 (.inr h1) h3 h4,Zj,r D hD⟩⟩
variable {y:Str}{px:Pos}
theorem NN (Nc:Vp) (gK:List (Option Nat)) (hf:IQ X.env.scope scope X.N (x::Nc) (none::gK)=true) (iX:(x::Nc).Nodup) (hx:scope.names.lookup x=some .local) (hc:X.calm=true) (hi:PI X (.Name x px) iter wi)
  (ht:∀cl s H C fp pn,iA (Aj X (x::Nc) scope cl s H C fp pn) ifs tt) (hk:∀cl s H C fp pn,PE (Aj X (x::Nc) scope cl s H C fp pn) kx tk) (he:∀cl s H C fp pn,PE (Aj X (x::Nc) scope cl s H C fp pn) vx te)
  (hs:∀x,foldedSetIterable iter X.env x=pure x:=by intro _;rfl) :
  PE X (.DictComp kx vx [⟨.Name x px,iter,ifs,0⟩] scope pos) (λσ H Q=>LJ wi (C1 0) tt tk te (none::gK) (λys H'=>∀p,H' p=none->Q (.ref p) (upd H' p (.dK ys))) σ H) :=
 O1 (aU.of hf) hc hi (λcl s H C fp pn=>HK (Ar (i:=0) iX rfl (.inl (Z5 hx)) (.inr (Z5 hx)))) ht hk he hs
end
noncomputable def Itk (a:Vs) (o:Obj) (kvs:LK):It:=⟨λi H=>H a=some (.cH o (.dK kvs))/\i<kvs.length,λi H x H'=>H'=H/\∃kv,kvs[i]?=some kv/\x=kV kv.1,λi H=>H a=some (.cH o (.dK kvs))/\kvs.length<=i⟩
theorem NO {tg:Expr} (a it:Vs) (o:Obj) (kvs:LK) :
  Jl P w K tg (Itk a o kvs) [it] it (λi h=>h.IsKeyIter it a i kvs.length (M3 o)) where
 mem:=by simp
 obj:=λi h st b hb=>by
  have e:b=it:=by simpa using hb
  subst e;obtain⟨ob,e,c,d⟩:=st;exact⟨ob,e,λv z=>by rw[d]at z;cases z⟩
 keep:=λi h h' st k=>by
  obtain⟨ob,e,r⟩:=st;exact⟨ob,k it (by simp) _ e,r⟩
 item:=by
  intro X hP hw hK hc i aa s σ H E I hf st hg;subst hP hw hK;obtain⟨ie,hi⟩:=hg;obtain⟨z,y,vs,rel,dd⟩:=DJ I ie;have a0:=rel.length;obtain⟨kv,gG⟩:∃kv,kvs[i]?=some kv:=⟨_,Z7 hi⟩;obtain⟨v,hv,rv⟩:=KV.get rel gG;obtain⟨f0,f1,f2,f3,f4,f5⟩:=hf it (by simp);rw[a0]at st;refine wpAny_pyNext_dict_item st dd hv λkey h' bv gA sb=>?_;have I1:Inv X aa σ H { s with heap:=h' }:=I.turned (t':=s.toks) (λb o hb e=>(sb.2 b hb).trans e) f0 f1 f3 f4 f5;obtain⟨o',e',c',d'⟩:=id gA;exact⟨key,Zj,Lr (s:={ s with heap:=h' }) e' c' d' qc ⟨kV kv.1,H,I1,E6 bv,⟨Zj,kv,gG,Zj⟩,by rw[a0];exact gA,λb hb=>(hf b hb).1⟩⟩
 done:=by
  intro X hP hw hK hc i aa s σ H E I hf st hg;subst hP hw hK;obtain⟨ie,hi⟩:=hg;obtain⟨z,y,vs,rel,dd⟩:=DJ I ie;have a0:=rel.length;rw[a0]at st;obtain⟨f0,f1,f2,f3,f4,f5⟩:=hf it (by simp);exact wpAny_pyNext_dict_end (I.ok.hd hc) st dd (List.getElem?_eq_none_iff.mpr qe) λh' eb=>⟨Zj,I.turned (t':=s.toks) (λb o hb e=>eb b o hb e) f0 f1 f3 f4 f5⟩
 self:=λ_ _ _ _ _ st h=>wpAny_pyIter_keyiter st h
def US (to:TE):TI:=λσ H R=>to σ H λx H1=>∃a o kvs,x=.ref a/\H1 a=some (.cH o (.dK kvs))/\R (Itk a o kvs) H1
theorem Qs {tg o:Expr}{to:TE} (ho:PE X o to):PI X tg o (US to):=by
 intro aa s σ H R I h;refine aH (ho aa s σ H _ I h) λv s1 ⟨x,H1,I1,r1,a,ob,kvs,ex,ie,q⟩=>?_;subst ex;cases r1;obtain⟨z,y,vs,rel,dd⟩:=DJ I1 ie;refine wpAny_pyIter_dict y dd ?_;refine⟨_,[_],_,_,H1,Zj,I1.kept (t':=s1.toks) λb o e=>ZY _ e,NO a _ ob kvs,⟨_,ZP _ Zj,Zj,by rw[rel.length];rfl⟩,λb hb=>?_,q⟩;have e:b=s1.heap.objs.size:=by simpa using hb
 subst e;exact I1.gD (ZA _) (I1.aF.fresh (ZA _))
theorem LM {o:Obj}{kvs:LK}{g:TG}{tt:TT}{tk:TE}{ix:List (Option Nat)}{R:LK->Hp->Prop}{H1:Hp} (Pv:Nat->LK->Hp->Prop) (h0:Pv 0 [] H1) (hl:∀i ys H,Pv i ys H->H a=some (.cH o (.dK kvs))) (hz:∀i ys H,Pv i ys H->ys.length<=1000)
  (hs:∀i kv ys H,kvs[i]?=some kv->Pv i ys H->g (kV kv.1) (Bq ix σ) H λcS H2=>tt cS H2 λb H3=>if b=true then tk cS H3 λyk H4=>te cS H4 λy H5=>∃k,yk=kV k/\Pv (i+1) (Bn ys k y) H5 else Pv (i+1) ys H3) (hd:∀ys H,Pv kvs.length ys H->R ys H) :
  ∃W:Nat->Nat->LK->Hp->Prop,(∃m,W 0 m [] H1)/\∀i m ys H,W i m ys H ->
   ((Itk a o kvs).stop i H/\ys.length<=sizeLine/\R ys H) \/
   ((Itk a o kvs).go i H/\∃N:LK->Hp->Prop,(∀cW H',N cW H'->cW.length<=sizeLine/\∃m',m'<m/\W (i+1) m' cW H') /\
    ∀x H',(Itk a o kvs).hX i H x H'->g x (Bq ix σ) H' λcS H2=>tt cS H2 λb H3=>if b=true then tk cS H3 λyk H4=>te cS H4 λy H5=>∃k,yk=kV k/\N (Bn ys k y) H5 else N ys H3):=by
 refine⟨λi m ys H=>m=kvs.length - i/\i<=kvs.length/\Pv i ys H,⟨_,Zj,Nat.zero_le _,h0⟩,?_⟩;rintro i m ys H ⟨rfl,hi,hp⟩;by_cases aX:i<kvs.length
 ·refine .inr ⟨⟨hl i ys H hp,aX⟩,Pv (i+1),λcW H' q=>⟨Nat.le_of_lt (AQ (hz _ cW H' q)),kvs.length - (i+1),qe,Zj,aX,q⟩,?_⟩;rintro x H' ⟨rfl,kv,gG,rfl⟩;exact hs i kv ys _ gG hp
 ·have e:i=kvs.length:=by omega
  subst e;exact .inl ⟨⟨hl _ ys H hp,ZA _⟩,Nat.le_of_lt (AQ (hz _ ys H hp)),hd ys H hp⟩
section
theorem JL (l:Vs) (af:Array Value) (n:Nat) (b:Vs) (o2:Obj) (ag:Array Value) (n2:Nat) (hc:o2.cls=.type "tuple") (hd:o2.data=.seq ag n2) (hs0:¬(Bool.not af.isEmpty&&Builtin.List.listTooLong (af.size+ag.size))=true) (hs1:af.size<=sizeLine) (jb:af.size+ag.size<=sizeLine+1) :
  Meets (Builtin.«list.extend» ⟨[.ref l,.ref b],[]⟩) (λ_ R s=>s.heap.get? l=some { cls:=.type "list", dict:=none,data:=.seq af n,slots:=#[] }/\s.heap.get? b=some o2/\R (.ok (.ret Value.none)) { s with heap:=s.heap.update l (Obj.mapSeq λx=>x++ag),toks:=s.toks }) :=
 .of_wp λprog w A R s h=>by
  obtain⟨hp,g,d,tk,os⟩:=s;obtain⟨hl,hb,h⟩:=h;obtain⟨oc,od,oda,gd⟩:=o2;simp only at hc hd;subst hc hd;have q0:=AutoSeq1.idx_int;have q1:=AutoSeq1.sub_tuple_tuple;have q2:=AutoSeq1.sub_tuple_list;have q3:=AutoSeq1.sub_list_list;have q4:=AutoSeq1.sub_list_tuple
  have q5:(af++ag).size<=sizeLine+1:=by
   rw[Array.size_append];exact jb
  wp_walk using AutoSeq1.wpAny_loadPart' hl,AutoSeq1.wpAny_loadPart' hb,(wpAny_updateSeq hl rfl (hz:=hs1) (_hz':=q5))
  exact⟨_,Zj,h⟩
def O2:V->Vr->Hp->VK->Prop:=λx vs H Q=>∃l b xs zs,x=.ref l/\vs=[.ref b]/\H l=some (.lst xs)/\H b=some (.tup zs)/\xs.length+zs.length<=sizeLine/\Q .aT (upd H l (.lst (xs++zs)))
theorem LP:MtM X "list.extend" O2:=by
 intro aa s σ H x vs v us Q I rx rv h;obtain⟨l,b,xs,zs,rfl,rfl,hH,hB,hz,q⟩:=h;cases rx;obtain⟨u,rfl,ru⟩:=rv.one;cases ru;obtain⟨z,its,n,r,hl,e⟩:=I.lstM hH;obtain⟨gj,r2,⟨o2,e2,hc2,n2,hd2⟩,_⟩:=I.tuple (bZ.of hB);have eN:=r2.length;have hsz:its.toArray.size+gj.toArray.size<=sizeLine:=by rw[size_toArray,size_toArray];omega
 have hlong:¬ (!its.toArray.isEmpty&&Builtin.List.listTooLong (its.toArray.size+gj.toArray.size))=true:=by
  rw[OU hsz,Bool.and_false];exact Bool.false_ne_true
 refine call_meets F.slot_list_extend ⟨_,e,Zj⟩ F.entry_list_extend (F.args_list_extend_2 _ _)
  (JL l its.toArray n b o2 gj.toArray n2 hc2 hd2 hlong (by rw[size_toArray];omega) qe) ⟨e,e2,?_⟩
 refine⟨.aT,_,I.lset (its':=its++gj) hH e (by simp) (r.append r2) ?_,Zj,q⟩;rw[ZJ];omega
end
section
theorem JM (c:Nat):∀(n:Nat) (a:Array Nat),((replicate n (#[c]:Array Nat)).foldl (·++·) a).toList=a.toList++replicate n c
 |0,a=>by simp
 |n+1,a=>by
  rw[replicate_succ,foldl_cons,JM c n,replicate_succ,Array.toList_append,List.append_assoc];rfl
theorem JN:df X (binaryOp .Mult) (λx y H Q=>∃(c:Nat) (n:Int),x=.str ⟨#[c]⟩/\y=.int n/\1<=n/\n<=20/\∀z:Str,z.cps.toList=replicate n.toNat c->Q (.str z) H):=by
 intro aa s σ H x y v u Q I rx ry h;obtain⟨c,n,rfl,rfl,h1,h2,q⟩:=h;obtain⟨t,rfl⟩:=rx;obtain⟨t',rfl⟩:=ry;have hl:(⟨#[c]⟩:Str).length=1:=rfl;have h20:(20:Nat)<=sizeLine:=by decide
 have tl:Builtin.Str.tooLong ((⟨#[c]⟩:Str).length*n.toNat)=false:=by
  rw[hl];unfold Builtin.Str.tooLong;exact ZQ qe
 refine PySem.P.mul_str (by rw[ZQ qe,ZQ qe];rfl) (λ_ _=>by
  rw[hl];have e1:(1:Int)<=(2 ^ 63 - 1) / n:=(Int.le_ediv_iff_mul_le qe).mpr qe;show ¬ ((1:Nat):Int)>(2 ^ 63 - 1) / n
  omega) (λ_ _=>tl) ?_
 rw[Zs qe];by_cases e:n=1
 ·subst e;rw[Zr (by simp)];exact⟨.str _,H,I,⟨_,Zj⟩,q _ Zj⟩
 ·rw[Zs (by rw[hl];simp[e])];refine⟨?_,.str _,H,I.tok _,⟨_,Zj⟩,q _ ?_⟩
  ·have e1:=JM c n.toNat #[];have e2:=congrArg List.length e1;simp only[Array.length_toList,ZJ,length_replicate,length_nil]at e2;show((replicate n.toNat (#[c]:Array Nat)).foldl (·++·) #[]).size<=sizeLine;rw[e2];simp;omega
  ·show((replicate n.toNat (#[c]:Array Nat)).foldl (·++·) #[]).toList=_;rw[JM];rfl
end
section
variable {H1 H2:Hp}{s1 s2:Vt}{e:Vs}{dx:Option Vs}
structure Kp (X:Cx) (aa:LO) (e:Vs) (oe:Obj):Prop where
 sz:∀vs,oe.data=.fields vs->5<vs.size
 pin:∀p∈X.pn++aa,p.1≠e
 old:∀o,X.aI.heap.get? e=some o->X.eJ e=none->e∈X.ex
theorem Qt {E':VS}{Q:Unit->Vt->Prop} (O:Ec X) (I:Inv X aa σ H1 s1) (F:jo X.prog X.w X.stack H1 s1 e C dx H2 s2)
  (h:∀s3 oe T oT,Cgt C dx e oe T oT->Kp X aa e oe->Inv X ((e,oe)::(T,oT)::aa) σ (del H2 e) s3->Q () s3) :
  wpAny (model X.prog X.w) X.A (noteFrame (.ref e) X.env) (λ_ s3=>wpAny (model X.prog X.w) X.A (setFlight (.ref e) none) Q E' s3) E' s2:=by
 obtain⟨B,oe,vs,T,oT,ts,a1,a2,a3,a4,a5,a6,a7,a8,a9⟩:=F;have fr:=DW I B;have hA:=I.ok.frames;rw[O.gc]at fr hA;refine IV hA fr O.fr a1 a2 a3 a4 a5 a6 a7 λh' L=>?_;rw[←O.gc]at L;have hold:∀b,b=T->H2 b=none/\s1.heap.get? b=none:=λb z=>by subst z;exact⟨a8,a9⟩
 have free2:∀b∈cw X.stack,H2 b=none:=λb hb=>by
  obtain⟨_,o,ho,_⟩:=I.stack.mem hb;exact B.un.free b o ho (I.stkFree b hb) (by simp)
 have ok3:=J1 B.aF L free2 (λb z=>(hold b z).1) a1 a2 B.at_;obtain⟨T',oT',ts',b1,b2,b3,b4,b5⟩:=L.tb;obtain⟨⟨oe',i8,c1,c2,c3,c4,c5,c6⟩,_,_⟩:=B.aF _ _ B.at_;rw[a1]at c1;cases c1;rw[a2]at c4;cases c4;have I3:Inv X aa σ (del H2 e) { s2 with heap:=h' }:=I.call' (ch:=[]) B.os (Os B.un L B.at_ hold) (Ql ok3 B.at_) B.bare λb z=>nomatch z;have hT0:s2.heap.get? T'=none:=Heap.get?_none_of_le b1;have hTH:H2 T'=none:=B.aF.fresh b1;have hTe:T'≠e:=λz=>by subst z;rw[a1]at hT0;cases hT0
 have locs:∃o,s2.heap.get? X.env.locals=some o:=by
  obtain⟨m,⟨o,_,_,ho,_⟩,_⟩:=id I.loc;exact B.un.there _ o ho (by simp)
 have fsIn:∀b∈X.fs,∃o,s2.heap.get? b=some o:=λb hb=>by
  obtain⟨_,o,ho,_⟩:=I.dj.mem hb;exact B.un.there b o ho (by simp)
 have upfs:∀b∈X.fs,b∈cw X.stack:=λb hb=>by
  rw[O.gc];unfold cw;rw[ZO,O.fr];exact ZT _ hb
 refine h _ { oe with data:=.fields (vs.setIfInBounds 1 (.ref T')) } T' oT' ⟨c2,c3,⟨vs.setIfInBounds 1 (.ref T'),rfl,by simp[(Z9.mp a3).1],by rw[Array.getElem?_setIfInBounds_ne qc];exact c6⟩,⟨ts',b3,b4⟩⟩ ⟨λws q=>by cases q;rw[Array.size_setIfInBounds];exact c5,λp hp z=>?_,λo q1 q2=>?_⟩ (I3.cy λp hp=>?_)
 ·obtain⟨q1,q2,_⟩:=I.pin p hp;have:=B.un.free _ _ q1 q2 (by simp);rw[z,B.at_]at this;cases this
 ·refine Classical.byContradiction λq3=>?_;obtain⟨o1,q4⟩:=I.base.there e o q1 q3;have:=B.un.free _ _ q4 (I.base.free e o q1 q2 q3) (by simp);rw[B.at_]at this;cases this
 rcases mem_cons.mp hp with z |z
 ·subst z;refine⟨b5,J9,λz=>?_,λz=>?_,λv z=>by cases z⟩
  ·obtain⟨m,⟨o,_,_,ho,_⟩,_⟩:=id I.loc;have n1:=B.un.free _ _ ho I.free (by simp);rw[←z,B.at_]at n1;cases n1
  ·have n1:=free2 e (upfs e z);rw[B.at_]at n1;cases n1
 rcases mem_cons.mp z with z |z
 ·subst z;refine⟨b2,by rw[DX hTe];exact hTH,λz=>?_,λz=>?_,λv z=>by rw[b3]at z;cases z⟩
  ·obtain⟨o,ho⟩:=locs;rw[←z,hT0]at ho;cases ho
  ·obtain⟨o,ho⟩:=fsIn _ z;rw[hT0]at ho;cases ho
 ·exact I3.pin p (ZU _ z)
theorem Inv.addX {s:Vt}{oe:Obj} (I:Inv X aa σ H s) (k:Kp X aa e oe) (hn:H e=none) (ho:s.heap.get? e=some oe) (hc:oe.cls=.ref C) (hd:oe.dict=dx) (hf:∃vs,oe.data=.fields vs/\vs[2]?=some .none) (hl:e≠X.env.locals):Inv X aa σ (upd H e (Co e C dx)) s:=by
 obtain⟨vs,h1,h2⟩:=hf;have ne:∀b,H b≠none->b≠e:=λb q z=>by subst z;exact q hn
 have ne':∀ {b u},H b=some u->b≠e:=λ{b u} q=>ne b (by rw[q];exact λz=>nomatch z);refine⟨I.ok,I.os,I.bare,⟨I.base.keep,I.base.slot,λb o q n hx=>?_,I.base.there,λb xs q=>?_,λb o u q=>?_,λb ps q=>?_⟩,I.loc,I.cell,by rw[AE (Ne.symm hl)];exact I.free,λx c q=>?_,λp hp=>?_,λb u q=>?_,I.len⟩
 ·rw[AE λz=>hx (by subst z;exact k.old o q n)];exact I.base.free b o q n hx
 ·have:=I.base.eM b xs q;rw[AE (ne' this)];exact this
 ·have:=I.base.eD b o u q;rw[AE (ne' this)];exact this
 ·obtain⟨m,this⟩:=I.base.d5 b ps q;exact⟨m,by rw[AE (ne' this)];exact this⟩
 ·rw[AE λz=>?_]
  ·exact I.cQ x c q
  ·subst z;obtain⟨v,oc,e1,e2⟩:=I.cell x c q;rw[ho]at e1;cases e1;rw[h1]at e2;cases e2
 ·obtain⟨q1,q2,q3⟩:=I.pin p hp;exact⟨q1,by rw[AE (k.pin p hp)];exact q2,q3⟩
 ·by_cases z:b=e
  ·subst z;rw[U]at q;cases q;exact⟨⟨oe,vs,ho,hc,hd,h1,k.sz vs h1,h2⟩,⟨_,ho⟩,λh1 h2 ⟨oe,vs,a,r⟩ k=>⟨oe,vs,k _ a,r⟩⟩
  ·rw[AE z]at q;exact(I.aF b u q).fc (λ_ _ _ z=>z) (λc z=>by rw[AE (ne' z)];exact z) λc xs z=>by rw[AE (ne' z)];exact z
end
def SC (K:FG) (Dn:Vs) (D:Gc):XK:=λCv dx H2=>∃C,Cv=.ref C/\BF K C=true/\(E8 K C).contains (.ref Dn)=true/\∀e,H2 e=some (Co e C dx)->D.rt (.ref e) H2
def UT (K:FG) (Dn:Vs) (tb:XK->TS):TS:=λD σ H=>tb (SC K Dn D) { D with nx:=D.nx } σ H
section
variable {body:List Stmt}{p1 p2 p3 np:Pos}{tb:XK->TS}{n:Str}{i:Nat}{Dn:Vs}
theorem Qu (O:Ec X) (hb:∀P0 xe E,BJ (cE X.prog X.w) (E9 X P0 xe) E->eI (E9 X P0 xe) body (tb E)) (hN:X.N.Nodup) (hi:X.N[i]?=some n) (hl:X.env.scope.names.lookup n=some .local) (hD:BF X.K Dn=true) (hg:Gl X x) (hm:X.mg x=some (.ref Dn)) (fw:(x==("__debug__" : Str))=false:=by decide)
  (hv:∀X':Cx,X'.N=X.N->X'.env=X.env->PE X' (.Name n p1) (C5 i)) :
  PS X (.Try body [.ExceptHandler (some (.Name x np)) (some n) [.Return (some (.Name n p1)) p2] p3] [] [] pos) (UT X.K Dn tb):=by
 intro aa s σ H D I h;refine wpAny_Try_except ?_
 let E:XK:=SC X.K Dn D
 let xe:Value->Vt->Prop:=λev s2=>∃iJ H1 s1 ea C dx H2,ev=.ref ea/\Inv X aa iJ H1 s1/\jo X.prog X.w X.stack H1 s1 ea C dx H2 s2/\E (.ref C) dx H2
 have hp:BJ (cE X.prog X.w) (E9 X aa xe) E:=by
  rintro pins' iJ H1 s1 ev s2 I1 ⟨ea,C,dx,H2,rfl,F,q⟩;exact⟨iJ,H1,s1,ea,C,dx,H2,Zj,I1.untr,F,q⟩
 refine Zx (hb aa xe E hp [] s σ H _ I.tr h) (λfl s1 z=>?_) λev s2 z=>?_
 ·cases fl with
  |next =>
   obtain⟨aO,H',J,q⟩:=z;exact wpAny_execs_nil ⟨aO,H',J.untr,q⟩
  |brk=>obtain⟨aO,H',J,q⟩:=z;exact⟨aO,H',J.untr,q⟩
  |cont=>obtain⟨aO,H',J,q⟩:=z;exact⟨aO,H',J.untr,q⟩
  |ret u=>obtain⟨v,aO,H',J,r,q⟩:=z;exact⟨v,aO,H',J.untr,r,q⟩
 ·obtain⟨iJ,H1,s1,e,C,dx,H2,rfl,I1,F,C',eC,hC,hs',q⟩:=z;cases eC;refine Qt O I1 F λs3 oe T oT c k I3=>?_
  have I:Inv X ((e,oe)::(T,oT)::aa) (replicate X.N.length none) (del H2 e) s3:=I3.weak (by rw[length_replicate,I3.len]) λi v z=>by
   rw[List.getElem?_replicate]at z;split at z <;> cases z
  have q:=q e F.1.at_;refine wpAny_handleBy_cons (codeAny_handlers_test ?_) (NC e);refine Br (X:=Ed X e oe T oT) I.mark hg hm ?_ fw;refine ND hC hD c I ?_;rw[hs'];refine codeAny_handlers_suite_as ?_;obtain⟨vs,hd,h1,h2⟩:=c.fld;obtain⟨ts,g6,h3⟩:=c.tb;have he:=(I.pin (e,oe) (by simp)).1;have hT:=(I.pin (T,oT) (by simp)).1;refine wpAny_setFlight_none he hd h1 hT g6 (Z9.mp h3).1 ?_
  have I1:Inv X ((e,oe)::(T,oT)::aa) (replicate X.N.length none) (del H2 e) { s3 with heap:=s3.heap.update T (Obj.mapFields (·.setIfInBounds 3 .none)) }:=I.kept (t':=s3.toks) λb u q=>by
   by_cases z:b=T
   ·subst z;have e1:=ZV (Obj.mapFields (·.setIfInBounds 3 Value.none)) hT (Obj.isFreed_of_fields (Obj.data_mapFields g6 _));rw[Cn g6]at e1
    have e2:ts.setIfInBounds 3 Value.none=ts:=by
     obtain⟨l1,l2⟩:=Z9.mp h3;rw[Array.setIfInBounds,dif_pos l1]
     conv=>lhs;rw[←l2]
     exact Array.set_getElem_self l1
    rw[e2,←g6]at e1;rw[show s3.heap.get? b=some oT from hT]at q;cases q;exact e1
   ·exact(ZX _ _ (Ne.symm z)).trans q
  refine Eu (X:=Ed X e oe T oT) (v:=.ref e) I1.mark hN hi (.inl hl) Zj (λs4 I2=>?_) (.inr hl)
  have run:=AD (AN (pos:=p2) (hv (Ed X e oe T oT) rfl rfl)) aa s4 _ (del H2 e) { nx:=λ_ _=>False,rt:=λv H'=>v=.ref e/\H'=del H2 e } I2 ⟨_,by
   rw[List.getElem?_set_self (by rw[length_replicate];exact(Z8.mp hi).1)],rfl,rfl⟩
  refine Zx run (λfl s5 z=>?_) λ_ _ z=>z.elim;cases fl with
  |ret u =>
   obtain⟨v,aO,H',J,rv,rfl,rfl⟩:=z;have J':=J.unmark I.ok;obtain⟨m,hn,_⟩:=id J'.loc;have bf:(X.env.scope.kind == .class||(X.env.scope.kind == .module&&X.env.locals != X.env.globals))=false:=by rw[I.ok.kind];rfl
   refine wpAny_nameGoes hl hn bf λh' m' hn' hs'=>?_;have J2:=J'.nameless (tk:=s5.toks+1) hn' hs';obtain⟨g1,g2,g3,g4,g5⟩:=J2.pin (e,oe) (by simp);have J3:=(J2.less (q:=[(e,oe),(T,oT)])).addX k g2 g1 c.cls c.dict ⟨vs,hd,h2⟩ g3
   have eH:upd (del H2 e) e (Co e C dx)=H2:=by
    funext b;by_cases z:b=e
    ·subst z;rw[U];exact F.1.at_.symm
    ·rw[AE z,DX z]
   rw[eH]at J3;exact⟨.ref e,_,H2,J3,rv,q⟩
  |next =>
   obtain⟨_,_,_,q⟩:=z;exact q.elim
  |brk =>
   obtain⟨_,_,_,q⟩:=z;exact q.elim
  |cont =>
   obtain⟨_,_,_,q⟩:=z;exact q.elim
end
section
theorem NP (ok:dg P w H h) {d:Vs}{u:HO} (hu:H d=some u):∃o,h.get? d=some o:=by
 have q:=ok d u hu;cases u with
 |lst xs=>obtain⟨_,_,_,_,e⟩:=q;exact⟨_,e⟩
 |tup xs=>obtain⟨_,_,_,o,e,_⟩:=q;exact⟨o,e⟩
 |dK kvs=>obtain⟨_,_,_,_,o,_,_,e,_⟩:=q;exact⟨o,e⟩
 |dT kvs=>obtain⟨_,_,_,_,o,_,_,e,_⟩:=q;exact⟨o,e⟩
 |set S n=>obtain⟨o,_,_,_,e,_⟩:=q;exact⟨o,e⟩
 |ins C dx fs=>obtain⟨_,_,_,e,_⟩:=q;exact⟨_,e⟩
 |own y=>exact q
 |xd fs=>obtain⟨_,⟨o,_,_,e,_⟩,_⟩:=q;exact⟨o,e⟩
 |rng lo hi=>obtain⟨_,_,_,e⟩:=q;exact⟨_,e⟩
 |cH ob u=>exact⟨_,q.1⟩
 |fb ps=>exact⟨_,(show h.get? d=some _ from q)⟩
 |met f y=>exact⟨_,(show h.get? d=some _ from q)⟩
 |ext φ=>exact q.2.1
theorem O3 {s:Vt}{e:Vs}{dx:Option Vs} (I:Inv X aa σ H s) (he:H e=some (Co e C dx)) (hd:dx=none\/∃d u,dx=some d/\H d=some u):∃oe od,oe.dict=dx/\W.InstAt s.heap e oe C od:=by
 obtain⟨⟨oe,vs,a1,a2,a3,a4,a5,a6⟩,_,_⟩:=I.aF _ _ he;have no:W.notCls oe=true:=by unfold W.notCls;rw[a4]
 rcases hd with z |⟨d,u,z,hu⟩
 ·exact⟨oe,none,a3,a1,a2,no,by rw[a3,z];trivial⟩
 ·obtain⟨o,ho⟩:=NP I.aF hu;exact⟨oe,some o,a3,a1,a2,no,by rw[a3,z];exact ho⟩
theorem BA (K:FG) (hK:X.K=K):Be X (.builtin "isinstance") (λxs H Q=>∃e C dx v c b,xs=[.ref e,v]/\Su K C/\H e=some (Co e C dx)/\((∃D,v=.ref D/\c=.ref D)\/∃T,v=.ty T/\c=.type T)/\(dx=none\/∃d u,dx=some d/\H d=some u)/\W.kitOne K (.ref C) c=some b/\Q (.bl b) H):=by
 subst hK;intro aa s σ H xs us Q I r h;obtain⟨e,C,dx,v,c,b,rfl,k,he,hv,hd,hk,q⟩:=h;obtain⟨u,uT,rfl,ru,iW⟩:=Ey r;cases (show u=Value.ref e from ru);obtain⟨oe,od,_,J⟩:=O3 I he hd
 have hc:uT=c:=by
  rcases hv with⟨D,rfl,rfl⟩ |⟨T,rfl,rfl⟩
  ·exact iW
  ·exact iW
 subst hc;exact W.kia_one (Ow k) I.cX J hk (λz=>nomatch z) λtk=>⟨.bl b,H,I.tok tk,rfl,q⟩
def UU (K:FG) (f:Str) (ta:TE):TE:=λσ H Q=>ta σ H λx H1=>∃e C d fs v,x=.ref e/\H1 e=some (Co e C (some d))/\UP K C f/\H1 d=some (.xd fs)/\fs.lookup f=some v/\Q v H1
theorem Go {o:Expr}{f:Str}{ta:TE} (hK:X.K=K) (he:PE X o ta) (hb:attributeBase o f X.env (eval o X.env)=eval o X.env):PE X (.Attribute o f pos) (UU K f ta):=by
 subst hK;intro aa s σ H Q I h;refine Ly hb (aH (he aa s σ H _ I h) λu s1 ⟨x,H1,I1,rx,e,C,d,fs,v,ex,hE,g,hH,l,q⟩=>?_);subst ex;obtain rfl:u=Value.ref e:=rx;obtain⟨mA,hn,r⟩:=I1.aF _ _ hH;obtain⟨od,ho,hl⟩:=IE hn;obtain⟨w,hw,iC⟩:=eE.some_of (v:=v) (o:=mA f) (by rw[←l];exact r f);obtain⟨⟨oe,vs,a1,a2,a3,a4,a5,a6⟩,_,_⟩:=I1.aF _ _ hE;have J:W.InstAt s1.heap e oe C (some od):=⟨a1,a2,by unfold W.notCls;rw[a4],by rw[a3];exact ho⟩;exact Ov g.hg I1.cX J (W.findObj_own g.hh g.ha Zj (by rw[hl,hw])) (IF iC) ⟨v,H1,I1.tok _,iC,q⟩
end
def VY:V->Option Int->Option Int->Hp->VK->Prop:=λx lo hi H Q=>∃z,x=.str z/\z.length<=sizeLine/\Q (.str (Txt.slice z lo hi)) H
theorem ML {v:Value}{o:Option Int} (h:IsPart v o):∃l:Option (Int×Tok),v=partValue l/\o=l.map (·.1):=by
 cases h with
 |none=>exact⟨none,rfl,rfl⟩
 |int i t=>exact⟨some (i,t),rfl,rfl⟩
theorem O4:SlR X VY:=by
 intro aa s σ H x v vl vu lo hi sl Q I rx hs pl pu h;obtain⟨z,rfl,hz,q⟩:=h;obtain⟨t,rfl⟩:=rx;obtain⟨l,rfl,rfl⟩:=ML pl;obtain⟨u,rfl,rfl⟩:=ML pu;refine⟨"str", _,F.slot_str_getitem.lookup,typeIs_str s z t,?_⟩;exact wpAny_getItem_str_slice (l:=l) (u:=u) (st:=none) hs Zj (post_val_or_str ⟨Nat.le_trans (Txt.slice_le z _ _) hz,λt' k=>⟨.str (Txt.slice z _ _),H,I.tok k,⟨t',Zj⟩,q⟩⟩)
theorem H0:Be X (.type "int") (λxs H Q=>∃x n,xs=[.str x]/\x.length<=640/\intText? x=some n/\Q (.int n) H):=by
 intro aa s σ H xs us Q I r h;obtain⟨x,n,rfl,hl,hn,q⟩:=h;obtain⟨u,rfl,t,rfl⟩:=CZ r;exact W.KIN.call_text hn hl ⟨.int n,H,I.tok _,⟨_,Zj⟩,q⟩
structure PTw (X:Cx) (e:Expr) (t:TT):Prop where
 h:PT X e t
section
variable {a b c:Expr}{ta tb:TE}{tc:TT}{st:Stmt}{s1 s2 rest:List Stmt}{t u:TS}{es:List Expr}{ts:TA}
theorem KJ {i:Nat}{pos':Pos} (hN:X.N.Nodup) (hi:X.N[i]?=some x) (hx:Loc X.env.scope x) (he:g9 X e te) (hs:swapsWith e (some (.Name x pos')) pos.line X.env=pure false:=by rfl) (hf:X.fn x=true\/X.env.scope.names.lookup x=some .local:=by first |exact .inl rfl |exact .inr rfl) :
  PSw X (.Assign [.Name x pos'] e pos) (Sc te (C1 i)):=⟨Am hN hi hx he.h hs hf⟩
theorem HY {op:Operator}{r:R2} (ho:df X (binaryOp op) r) (ha:g9 X a ta) (hb:g9 X b tb):g9 X (.BinOp a op b pos) (il r ta tb):=⟨Ak ho ha.h hb.h⟩
theorem UV (hc:PTw X c tc) (ha:gq X s1 t) (hb:gq X s2 u):PSw X (.If c s1 s2 pos) (Tx tc t u):=⟨Ac hc.h ha.h hb.h⟩
theorem A6 (he:g9 X e te) (h:gH X es ts) (hs:starEach (e::es) X.env=(false,eval e X.env)::starEach es X.env:=by rfl):gH X (e::es) (As te ts):=⟨AA he.h h.h hs⟩
theorem JO {CX:gx}{k:Nat}{fd:FuncData}{ps:Vp}{sp:Sp}{ds:Vq}{dQ:Vr}{E:XK}{p:Pos} (F:aB X.prog X.w X.K X.mg X.base CX k f fd ps sp) (hr:aD k X.A) (hg:Gl X x) (hm:X.mg x=some (.ref f)) (hk:W.keepIn X.K (.ref f)=true) (hb:Binds X.K fd ps ds) (hd:Vals dQ ds) (hx:BJ CX X E)
  (ha:gH X (e::es) ts) (fw:(x==("__debug__" : Str))=false:=by decide) (he:starEach (e::es) X.env=(false,eval e X.env)::starEach es X.env:=by rfl) (eQ:(backTo pos (starEach es X.env)).any (·.1)=false:=by rfl) :
  g9 X (.Call (.Name x p) (e::es) [] pos) (HD sp dQ E ts):=⟨AO F hr hg hm hk hb hd hx ha.h fw he eQ⟩
theorem EX (h:gH X es ts):g9 X (.List es pos) (QV ts):=⟨CB h.h⟩
end
abbrev DcE:=Str×Tok×Int×Tok
def SD (P:Params) (e:DcE):DictEntry:=⟨PyData.keyHash P e.1,.str e.1 e.2.1,.int e.2.2.1 e.2.2.2⟩
noncomputable def dcObj (P:Params) (l:List DcE) (ep:Nat):Obj:=⟨.type "dict", none,.dict (l.map (SD P)).toArray ep,#[]⟩
noncomputable def gO (l:List DcE):LK:=l.map λe=>(Sum.inr e.1,.int e.2.2.1)
theorem UW {bd:Vs}{l:List DcE}{ep:Nat} (e:h.get? bd=some (dcObj w.params l ep)) (nd:(l.map (·.1)).Nodup):∃vs,KV (gO l) vs/\h.DictOf (Ad P w) bd vs:=by
 refine⟨l.map λe=>(Sum.inr e.1,.int e.2.2.1 e.2.2.2),?_,_,_,_,e,⟨Zj,Zj,Zj⟩,Zj,λx hx=>?_,?_,?_⟩
 ·unfold gO;clear e nd;induction l with
  |nil=>exact .nil
  |cons a r ih=>exact .cons ⟨rfl,_,rfl⟩ ih
 ·obtain⟨a,_,rfl⟩:=Zt.mp (List.mem_toArray.mp hx);exact⟨Sum.inr a.1,Dm P w _ _,Zj⟩
 ·show Pairs _ (l.map (SD w.params)).toArray.toList _;rw[List.toList_toArray];clear e nd;induction l with
  |nil=>exact .nil
  |cons a r ih=>exact .cons (Dm P w _ _) rfl ih
 ·rw[map_map];have:(l.map ((λx:Key×Value=>x.1) ∘ λe:DcE=>((Sum.inr e.1:Key),Value.int e.2.2.1 e.2.2.2)))=(l.map (·.1)).map (λx=>(Sum.inr x:Key)):=by rw[map_map];rfl
  rw[this];exact List.Pairwise.map _ (λa b iR z=>iR (Sum.inr.inj z)) nd
theorem LQ {mb:SV}{CX:gx}{k:Nat}{fa c P0 bd:Vs}{l:List DcE}{ep:Nat}{fd:FuncData}{sp:Sp}{aN:Vt}{vs:Vq}{ns:List Int}
  (KX:K.In aN.heap) (jC:aN.heap.Ns mainGlobals mg) (hb:aN.heap.Ns builtinsNs mb) (hbb:∀x:Str,x≠ "__name__" -> mb x=bootBuiltins x) (hlim:aN.heap.NoLimit) (hg:aN.gens=#[])
  (ha:aN.heap.get? a=some { cls:=.type "list", data:=.seq vs.toArray }) (hi:IntsAre vs ns) (hl:ns.length<=sizeLine) (hr:aD k callerA)
  (hP:aN.heap.get? P0=some (W.tabObj #[])) (hKP:K.lookup P0=none) (hC:W.CodeHd aN.heap c P0) (hB:aN.heap.BuiltinsAt mg P0)
  (hD:aN.heap.get? bd=some (dcObj w.params l ep)) (hKD:K.lookup bd=none) (hb5:5<=bd) (hdl:l.length<=1000) (fm:(l.map (·.1)).Nodup)
  (F:∀base:Heap,K.In base->base.Ns mainGlobals mg->W.CodeHd base c P0->base.BuiltinsAt mg P0->aB P w K mg base CX k fa fd [x] sp) (bi:∀(s:Vt) (u:Value),BindsTo s fd ⟨[u],[]⟩ [(x,u)])
  (ic:∀H:Hp,H P0=some (.fb #[])->Rd H bd (.dK (gO l))->aJ K H a (ns.map V.int)->sp [.ref a] H (λv _=>v=.bl true) λ_ _ _=>False)
  (hCX:∀H e s',CX [] H aN (λ_ _ _=>False) e s'->False) :
  codeAny (model P w) callerA (.call (.ref fa) ⟨[.ref a],[]⟩) (λr s'=>r=.ok (.ret (.bool true))/\OldK aN.heap s'.heap/\s'.os=aN.os/\AllBare s'.gens) aN:=by
 have rv:=EG hi;have lenV:=hi.length;have haP:a≠P0:=λz=>by subst z;rw[ha]at hP;cases hP
 have iR:a≠bd:=λz=>by subst z;rw[ha]at hD;cases congrArg Obj.data (Option.some.inj hD)
 have hPb:P0≠bd:=λz=>by subst z;rw[hP]at hD;cases congrArg Obj.data (Option.some.inj hD)
 have okD:∀H:Hp,aP P w H aN.heap bd (.cH (dcObj w.params l ep) (.dK (gO l))):=λH=>⟨hD,by unfold gO;rw[AK];exact Nat.le_of_lt (AQ hdl),by
  cases q:(bd==sysModules)with
  |false=>rfl
  |true =>
   rw[beq_iff_eq.mp q]at hb5
   exact absurd hb5 qc,UW hD fm⟩
 have core:∀H:Hp,(∀b,H b=none\/(∃o u,H b=some (.cH o u))\/b=P0)->H P0=some (.fb #[])->H bd=some (.cH (dcObj w.params l ep) (.dK (gO l)))->aJ K H a (ns.map V.int)->dg P w H aN.heap->(∀b,H b≠none->b=a\/b=P0\/b=bd)->(H a≠none->K.lookup a=none)->(∀b o u,H b=some (.cH o u)->aN.heap.get? b=some o) ->
   (∀(H':Hp) (s':Vt) (b:Vs) (o:Obj) (u:HO),H b=some (.cH o u)->dg P w H' s'.heap->H' b=some (.cH o u)->s'.heap.get? b=some o) ->
   codeAny (model P w) callerA (.call (.ref fa) ⟨[.ref a],[]⟩) (λr s'=>r=.ok (.ret (.bool true))/\OldK aN.heap s'.heap/\s'.os=aN.os/\AllBare s'.gens) aN:=by
  intro H hO hHP hHD hS aF hA hK ie hfz';have base_of:∀ {b:Vs}{o:Obj},aN.heap.get? b=some o->H b=none->(Gz aN.heap H).get? b=some o:=λe n=>OC e n
  have noS:∀ {b:Vs}{o:Obj},aN.heap.get? b=some o->(∀xs n,o.data≠ .seq xs n)->(∀es n,o.data≠ .dict es n)->o.cls≠ .none->H b=none:=λ{b o} e d1 d3 d2=>by
   cases q:H b with
   |none=>rfl
   |some u =>
    rcases hA b (by rw[q];simp)with e' |e' |e'
    ·subst e';rw[ha]at e;cases e;exact absurd Zj (d1 _ _)
    ·subst e';rw[hP]at e;cases e;exact absurd Zj d2
    ·subst e';rw[hD]at e;cases e;exact absurd Zj (d3 _ _)
  have ja:∀ {b:Vs}{o:Obj}{es:Array DictEntry}{ep:Nat},b<5->aN.heap.get? b=some o->o.data=.dict es ep->H b=none:=λ{b o es ep} hb e d=>by
   cases q:H b with
   |none=>rfl
   |some u =>
    rcases hA b (by rw[q];simp)with e' |e' |e'
    ·subst e';rw[ha]at e;cases e;cases (show Data.seq vs.toArray _=Data.dict es ep from d)
    ·subst e';rw[hP]at e;cases e;cases (show Data.fields #[]=Data.dict es ep from d)
    ·subst e';exact absurd hb (Nat.not_lt.mpr hb5)
  have nsK:∀ {b:Vs}{m:SV},b<5->aN.heap.Ns b m->(Gz aN.heap H).Ns b m:=λ{b m} hb ⟨o,es,ep,e,d,r⟩=>⟨o,es,ep,base_of e (ja hb e d),d,r⟩
  have hKb:K.In (Gz aN.heap H):=λb o e=>base_of (KX b o e) (by
   cases q:H b with
   |none=>rfl
   |some u =>
    rcases hA b (by rw[q];simp)with e' |e' |e'
    ·subst e';rw[hK (by rw[q];simp)]at e;cases e
    ·subst e';rw[hKP]at e;cases e
    ·subst e'
     rw[hKD]at e;cases e)
  have hM:Mod K mg (Gz aN.heap H):=⟨hKb,nsK qc jC,⟨mb,nsK qc hb,hbb⟩,let ⟨mc,h1,h2⟩:=hlim;⟨mc,nsK qc h1,h2⟩⟩
  have hCb:W.CodeHd (Gz aN.heap H) c P0:=by
   obtain⟨o,i8,file,tf,flags,tg,inF,text,tt,e,ah,hda,r⟩:=id hC;exact⟨o,i8,file,tf,flags,tg,inF,text,tt,base_of e (noS e (λxs n z=>by rw[hda]at z;cases z) (λxs n z=>by rw[hda]at z;cases z) (by rw[ah];exact λz=>nomatch z)),ah,hda,r⟩
  have hBb:(Gz aN.heap H).BuiltinsAt mg P0:=by
   obtain⟨bm,o,a1,a2,a3,a4,a5,a6,a7,a8⟩:=id hB;exact⟨bm,o,a1,a2,a3,a4,base_of a5 (noS a5 (λxs n z=>by rw[a8]at z;cases z) (λxs n z=>by rw[a8]at z;cases z) (by rw[a6];exact λz=>nomatch z)),a6,a7,a8⟩
  have e0:eY P w K mg (Gz aN.heap H) callerA [] aN H:=⟨rfl,hM,λb o e=>QN e,Nat.le_of_eq (Ml _ _),trivial,λb hb=>absurd (show b∈([]:List Vs)from hb) (by simp),aF,.of_eq hg⟩;refine codeAny_mono ((F _ hKb (nsK qc jC) hCb hBb).run callerA [] aN H ⟨[.ref a],[]⟩ [.ref a] [.ref a] _ _ hr e0 (bi aN (.ref a)) (.cons rfl .nil) (ic H hHP (.inr ⟨_,hHD⟩) hS)) λr s' h=>?_;cases r with
  |error e=>exact(hCX H e s' h).elim
  |ok fl =>
   cases fl with
   |next=>exact False.elim h
   |brk=>exact False.elim h
   |cont=>exact False.elim h
   |ret u =>
    obtain⟨v,H',os,bare,un,fH,r',q⟩:=h;have q':v=.bl true:=q;subst q';obtain rfl:u=Value.bool true:=r'
    have tabNow:∃more,s'.heap.get? P0=some (W.tabObj (#[]++more)):=by
     obtain⟨more,e⟩:=un.d5 P0 #[] hHP;exact⟨more,fH _ _ e⟩
    have rest:∀b o,b≠P0->aN.heap.get? b=some o->s'.heap.get? b=some o:=λb o hb e=>by
     cases q:H b with
     |none=>exact un.keep b o e q (by intro z;exact absurd (show b∈([]:List Vs)from z) (by simp)) (by simp)
     |some u =>
      rcases hO b with z |⟨ob,xs,z⟩ |z
      ·rw[q]at z;cases z
      ·have z2:=un.eD b ob _ z;have e1:=ie b ob _ z;rw[e]at e1;cases e1;exact hfz' H' s' b o xs z fH z2
      ·exact absurd z hb
    refine⟨Zj,⟨λb o e=>?_,λb o e=>?_⟩,os,bare⟩
    ·by_cases hb:b=P0
     ·subst hb;rw[hP]at e;cases e;obtain⟨more,e2⟩:=tabNow;exact .inr (.inl ⟨(hC.tab hP).isCodeTable,Zj,#[],more,Zj,e2⟩)
     ·exact .inl (rest b o hb e)
    ·by_cases hb:b=P0
     ·subst hb;obtain⟨more,e2⟩:=tabNow;exact⟨_,e2⟩
     ·exact⟨o,rest b o hb e⟩
 have fzD:∀(H':Hp) (s':Vt),dg P w H' s'.heap->H' bd=some (.cH (dcObj w.params l ep) (.dK (gO l)))->s'.heap.get? bd=some (dcObj w.params l ep):=λH' s' fH z=>by
  obtain⟨e1,_⟩:=fH bd _ z;exact e1
 have fzL:∀(H':Hp) (s':Vt),dg P w H' s'.heap->H' a=some (.cH { cls:=.type "list", data:=.seq vs.toArray } (.lst (ns.map V.int)))->s'.heap.get? a=some { cls:=.type "list", data:=.seq vs.toArray }:=λH' s' fH z=>by
  obtain⟨e1,_⟩:=fH a _ z;exact e1
 cases hk:K.lookup a with
 |some o =>
  have e:=KX a o hk;rw[ha]at e;cases e
  have cs:∀b u,(if b=P0 then some (HO.fb #[])else if b=bd then some (.cH (dcObj w.params l ep) (.dK (gO l)))else none)=some u->(b=P0/\u=.fb #[])\/(b=bd/\u=.cH (dcObj w.params l ep) (.dK (gO l))):=λb u z=>by
   by_cases h1:b=P0
   ·rw[Zr h1]at z;exact .inl ⟨h1,(Option.some.inj z).symm⟩
   ·rw[Zs h1]at z;by_cases h2:b=bd
    ·rw[Zr h2]at z;exact .inr ⟨h2,(Option.some.inj z).symm⟩
    ·rw[Zs h2]at z;cases z
  refine core (λb=>if b=P0 then some (.fb #[])else if b=bd then some (.cH (dcObj w.params l ep) (.dK (gO l)))else none) (λb=>?_) (Zr Zj) ((Zs (Ne.symm hPb)).trans (Zr Zj)) (.inr ⟨_,vs.toArray,_,hk,Zj,Zj,Zj,by rw[size_toArray,lenV];exact hl,by simpa using rv⟩) (λb u z=>?_) (λb z=>?_) (λz=>absurd ((Zs haP).trans (Zs iR)) z) (λb o u z=>?_) (λH' s' b o u z fH z'=>?_)
  ·by_cases h1:b=P0
   ·exact .inr (.inr h1)
   ·by_cases h2:b=bd
    ·exact .inr (.inl ⟨_,_,(Zs h1).trans (Zr h2)⟩)
    ·exact .inl ((Zs h1).trans (Zs h2))
  ·rcases cs b u z with⟨rfl,rfl⟩ |⟨rfl,rfl⟩
   ·exact hP
   ·exact okD _
  ·cases q:(if b=P0 then some (HO.fb #[])else if b=bd then some (.cH (dcObj w.params l ep) (.dK (gO l)))else none)with
   |none=>exact absurd q z
   |some u =>
    rcases cs b u q with⟨h,_⟩ |⟨h,_⟩
    ·exact .inr (.inl h)
    ·exact .inr (.inr h)
  ·rcases cs b _ z with⟨rfl,h⟩ |⟨rfl,h⟩
   ·cases h
   ·cases h;exact hD
  ·rcases cs b _ z with⟨rfl,h⟩ |⟨rfl,h⟩
   ·cases h
   ·cases h;exact fzD H' s' fH z'
 |none =>
  have cs:∀b u,(if b=P0 then some (HO.fb #[])else if b=bd then some (.cH (dcObj w.params l ep) (.dK (gO l)))else if b=a then some (.cH { cls:=.type "list", data:=.seq vs.toArray } (.lst (ns.map V.int)))else none)=some u->(b=P0/\u=.fb #[])\/(b=bd/\u=.cH (dcObj w.params l ep) (.dK (gO l)))\/(b=a/\u=.cH { cls:=.type "list", data:=.seq vs.toArray } (.lst (ns.map V.int))):=λb u z=>by
   by_cases h1:b=P0
   ·rw[Zr h1]at z;exact .inl ⟨h1,(Option.some.inj z).symm⟩
   ·rw[Zs h1]at z;by_cases h2:b=bd
    ·rw[Zr h2]at z;exact .inr (.inl ⟨h2,(Option.some.inj z).symm⟩)
    ·rw[Zs h2]at z;by_cases h3:b=a
     ·rw[Zr h3]at z;exact .inr (.inr ⟨h3,(Option.some.inj z).symm⟩)
     ·rw[Zs h3]at z;cases z
  refine core (λb=>if b=P0 then some (.fb #[])else if b=bd then some (.cH (dcObj w.params l ep) (.dK (gO l)))else if b=a then some (.cH { cls:=.type "list", data:=.seq vs.toArray } (.lst (ns.map V.int)))else none) (λb=>?_) (Zr Zj) ((Zs (Ne.symm hPb)).trans (Zr Zj)) (.inl (.inr ⟨{ cls:=.type "list", data:=.seq vs.toArray },(Zs haP).trans ((Zs iR).trans (Zr Zj))⟩)) (λb u z=>?_) (λb z=>?_) (λ_=>hk) (λb o u z=>?_) (λH' s' b o u z fH z'=>?_)
  ·by_cases h1:b=P0
   ·exact .inr (.inr h1)
   ·by_cases h2:b=bd
    ·exact .inr (.inl ⟨_,_,(Zs h1).trans (Zr h2)⟩)
    ·by_cases h3:b=a
     ·exact .inr (.inl ⟨_,_,(Zs h1).trans ((Zs h2).trans (Zr h3))⟩)
     ·exact .inl ((Zs h1).trans ((Zs h2).trans (Zs h3)))
  ·rcases cs b u z with⟨rfl,rfl⟩ |⟨rfl,rfl⟩ |⟨rfl,rfl⟩
   ·exact hP
   ·exact okD _
   ·exact⟨ha,by rw[AK];exact hl,vs,_,rv,ha⟩
  ·cases q:(if b=P0 then some (HO.fb #[])else if b=bd then some (.cH (dcObj w.params l ep) (.dK (gO l)))else if b=a then some (.cH { cls:=.type "list", data:=.seq vs.toArray } (.lst (ns.map V.int)))else none)with
   |none=>exact absurd q z
   |some u =>
    rcases cs b u q with⟨h,_⟩ |⟨h,_⟩ |⟨h,_⟩
    ·exact .inr (.inl h)
    ·exact .inr (.inr h)
    ·exact .inl h
  ·rcases cs b _ z with⟨rfl,h⟩ |⟨rfl,h⟩ |⟨rfl,h⟩
   ·cases h
   ·cases h;exact hD
   ·cases h;exact ha
  ·rcases cs b _ z with⟨rfl,h⟩ |⟨rfl,h⟩ |⟨rfl,h⟩
   ·cases h
   ·cases h;exact fzD H' s' fH z'
   ·cases h;exact fzL H' s' fH z'
theorem NQ {l:W.OpenLaw}{n k:Nat}{q:Program}{loose:Vp}{XP:(Str->Option Value)->Heap->Prop}{YP:World->Heap->Prop}{d:DefRec}{K:Params->FG}{CX:World->gx}{sp:World->Sp}{c P0 bd:Vs}{dl:List DcE}{ep:Nat}
  (hn:l.most=some n) (hn2:n<=sizeLine) (hdf:d.params.defaults=[]) (hr:aD k callerA) (hb5:5<=bd) (hdl:dl.length<=1000) (fm:(dl.map (·.1)).Nodup)
  (hY:∀(w:World) (h:Heap),YP w h->(K w.params).In h/\h.get? P0=some (W.tabObj #[])/\(K w.params).lookup P0=none/\W.CodeHd h c P0/\h.get? bd=some (dcObj w.params dl ep)/\(K w.params).lookup bd=none)
  (F:∀(w:World) (mg:SV) (fa:Vs) (h:Heap),(K w.params).In h->h.Ns mainGlobals mg->mg d.name=some (.ref fa) ->
   ∃fd:FuncData,(∀(s:Vt) (u:Value),BindsTo s fd ⟨[u],[]⟩ [(x,u)]) /\
    ∀base:Heap,(K w.params).In base->base.Ns mainGlobals mg->W.CodeHd base c P0->base.BuiltinsAt mg P0->aB l.prog w (K w.params) mg base (CX w) k fa fd [x] (sp w))
  (ic:∀(w:World) (H:Hp) (a:Vs) (ns:List Int),ns.length<=n->H P0=some (.fb #[])->Rd H bd (.dK (gO dl))->aJ (K w.params) H a (ns.map V.int)->sp w [.ref a] H (λv _=>v=.bl true) λ_ _ _=>False)
  (hCX:∀(w:World) (H:Hp) (s:Vt) (e:Value) (s':Vt),CX w [] H s (λ_ _ _=>False) e s'->False) :
  W.WalkO q loose XP YP l.row.toRowW d [] (λf vs=>PySem.call f vs):=by
 refine Att.attach_call hn hdf λw aI aN mg mb fa o pm cd doc a vs ns G Y ho hd fJ hmg ci bn a0 hg=>?_;obtain⟨KX,hP,hKP,hC,hD,hKD⟩:=hY w _ Y;obtain⟨fd,hb,hF⟩:=F w mg fa _ KX G.T.g hmg
 have hB:aN.heap.BuiltinsAt mg P0:=by
  obtain⟨bm,ob,b1,b2,b3,b4,b5,b6⟩:=G.T.bmain;refine⟨bm,ob,b1,b2,λz=>?_,λz=>?_,b3,b4,b5,b6⟩
  ·obtain⟨o',es,ep,e,hd',_⟩:=G.T.g;rw[z,e]at b3;cases b3;rw[hd']at b6;cases b6
  ·rw[z,hP]at b3;cases b3;cases b4
 exact LQ KX G.T.g G.T.b G.T.builtins G.T.nolimit hg ci bn (Nat.le_trans a0 hn2) hr hP hKP hC hB hD hKD hb5 hdl fm hF hb (λH hH hR hS=>ic w H a ns a0 hH hR hS) λH e s'=>hCX w H aN e s'
end L2
end
section
namespace MK
open PySem
theorem Gp (a b:Nat):Builtin.bitAnd (a:Int) (b:Int)=((a&&&b:Nat):Int):=by
 rw[PyProof.Rows.bitAnd_pp (Z1 _) (Z1 _)];simp
theorem O5 (a b:Nat):Builtin.bitOr (a:Int) (b:Int)=((a |||b:Nat):Int):=by
 have ha:¬ (0:Int)<=Builtin.bitNot (a:Int):=by unfold Builtin.bitNot;omega
 have hb:¬ (0:Int)<=Builtin.bitNot (b:Int):=by unfold Builtin.bitNot;omega
 unfold Builtin.bitOr;rw[PyProof.Rows.bitAnd_nn ha hb];have e:∀n:Nat,(Builtin.bitNot (Builtin.bitNot (n:Int))).toNat=n:=λn=>by unfold Builtin.bitNot;omega
 rw[e a,e b];unfold Builtin.bitNot;omega
theorem HZ (a b:Nat):Builtin.bitAnd (a:Int) (Builtin.bitNot (b:Int))=((a - (a&&&b):Nat):Int):=by
 rw[PyProof.Rows.bitAnd_not,Gp];have:a&&&b<=a:=Nat.and_le_left;omega
noncomputable def CA (l:List Nat):Nat:=l.foldl (· ||| ·) 0
theorem FA (k:Nat):∀(l:List Nat) (a:Nat),(l.foldl (· ||| ·) a).testBit k=(a.testBit k ||l.any (·.testBit k))
 | [],a=>by simp
 |x::r,a=>by rw[foldl_cons,FA k r,Nat.testBit_or,any_cons,Bool.or_assoc]
theorem IY (l:List Nat) (k:Nat):(CA l).testBit k=l.any (·.testBit k):=by
 unfold CA;rw[FA];simp
theorem LR (l:List Nat) (n:Nat):CA (l++[n])=CA l |||n:=by unfold CA;rw[foldl_append];rfl
noncomputable def Cp (n:Nat):Bool:=decide (0<n)&&decide (n&&&(n - 1)=0)
noncomputable def FB (m:Nat):Nat:=2 ^ (Builtin.Int.intBits (m:Int))
theorem F8 {m:Nat} (h:0<m):Builtin.Int.intBits (m:Int)=m.log2+1:=by
 unfold Builtin.Int.intBits;have:((m:Int)==0)=false:=by rw[beq_eq_false_iff_ne];omega
 rw[this];simp
end MK
end
end
variable {P:PySem.Program}{w:PySem.World}{K:FG}{mg:SV}{base:PySem.Heap}{f:PySem.Addr}{fd:PySem.FuncData}{H:L2.Hp}{H':L2.Hp}{ac:Aa}{ad:Aa}{C:PySem.Addr}{VC:PySem.Addr}{EC:PySem.Addr}
section
namespace Mk
open PySem L2 MK
noncomputable def top (i:Nat):Stmt:=PySem.Challenge.pw_markworks_k75_refusals_apart.main.body.getD i (.Pass ⟨0,0,0,0⟩)
noncomputable abbrev A7:Stmt:=inClass (top 2) 0
noncomputable abbrev FC:Stmt:=inClass (top 3) 0
noncomputable abbrev FD:Stmt:=inClass (top 7) 0
noncomputable abbrev FE:Stmt:=inClass (top 9) 0
noncomputable abbrev Ha:Stmt:=inClass (top 12) 0
noncomputable abbrev FF:Stmt:=top 19
noncomputable abbrev JP:Stmt:=top 20
noncomputable abbrev JQ:Stmt:=top 21
noncomputable abbrev Hb:Stmt:=top 22
noncomputable abbrev Ff:Stmt:=top 23
noncomputable abbrev Dy:Stmt:=top 24
noncomputable abbrev Fg:Stmt:=top 25
noncomputable abbrev Fh:Stmt:=top 26
noncomputable abbrev Eg:Stmt:=top 27
noncomputable abbrev Da:Stmt:=top 28
noncomputable abbrev Db:Stmt:=top 29
noncomputable abbrev DK:Stmt:=top 30
noncomputable abbrev Dz:Stmt:=top 31
noncomputable abbrev At:Stmt:=inClass (top 32) 0
noncomputable abbrev Fi:Stmt:=inClass (top 32) 1
noncomputable abbrev CM:Stmt:=inClass (top 32) 2
noncomputable abbrev Eh:Stmt:=inClass (top 32) 5
noncomputable abbrev Ei:Stmt:=inClass (top 32) 6
noncomputable abbrev Fj:Stmt:=inClass (top 32) 7
noncomputable abbrev JR:Stmt:=inClass (top 32) 8
noncomputable abbrev EI:Stmt:=top 35
noncomputable abbrev JS:Stmt:=top 36
noncomputable abbrev Ej:Stmt:=inClass (top 37) 0
noncomputable abbrev Dc:Stmt:=inClass (top 37) 1
noncomputable abbrev Ek:Stmt:=inClass (top 37) 2
noncomputable abbrev D0:Stmt:=inClass (top 37) 3
noncomputable abbrev El:Stmt:=inClass (top 37) 4
noncomputable abbrev He:Stmt:=inClass (top 37) 5
noncomputable abbrev KK:Stmt:=top 38
noncomputable abbrev D1:Stmt:=top 39
noncomputable abbrev DL:Stmt:=top 40
noncomputable abbrev Hf:Stmt:=top 41
noncomputable abbrev JT:Stmt:=top 44
noncomputable abbrev Hg:Stmt:=top 45
noncomputable abbrev CD:Stmt:=inClass (top 46) 0
noncomputable abbrev CV:Stmt:=inClass (top 46) 2
noncomputable abbrev Cq:Stmt:=inClass (top 46) 3
noncomputable abbrev Fk:Stmt:=inClass (top 46) 4
noncomputable abbrev Em:Stmt:=inClass (top 46) 5
noncomputable abbrev D2:Stmt:=inClass (top 46) 10
noncomputable abbrev Cr:Stmt:=inClass (top 46) 11
noncomputable abbrev Fl:Stmt:=top 51
noncomputable abbrev En:Stmt:=top 52
noncomputable abbrev JU:Stmt:=top 53
noncomputable abbrev Hh:Stmt:=top 54
noncomputable abbrev Dd:Stmt:=inClass (top 55) 0
noncomputable abbrev CG:Stmt:=inClass (top 55) 1
noncomputable abbrev CH:Stmt:=inClass (top 55) 2
noncomputable abbrev By:Stmt:=inClass (top 55) 3
noncomputable abbrev Bg:Stmt:=inClass (top 55) 4
noncomputable abbrev Bz:Stmt:=inClass (top 55) 5
noncomputable abbrev Ct:Stmt:=inClass (top 55) 6
noncomputable abbrev De:Stmt:=inClass (top 55) 7
noncomputable abbrev CN:Stmt:=top 56
noncomputable abbrev Fo:Stmt:=top 59
noncomputable abbrev Fp:Stmt:=inClass (top 65) 0
noncomputable abbrev Bk:Stmt:=inClass (top 65) 9
noncomputable abbrev Hi:Stmt:=top 67
noncomputable abbrev FH:Stmt:=top 68
noncomputable abbrev Ce:Stmt:=inClass (top 69) 0
noncomputable abbrev Bd:Stmt:=inClass (top 69) 3
noncomputable abbrev CO:Stmt:=inClass (top 69) 4
noncomputable abbrev MM:Stmt:=top 71
noncomputable abbrev Hj:Stmt:=top 73
noncomputable abbrev Fq:Stmt:=top 74
noncomputable abbrev Hk:Stmt:=top 75
noncomputable abbrev Eo:Stmt:=top 76
noncomputable abbrev Cf:Stmt:=top 77
noncomputable abbrev Fs:Stmt:=top 78
noncomputable abbrev BV:Stmt:=top 79
structure Fn (P:Program) (w:World) (K:FG) (mg:SV) (base:Heap) (x:Str) (k:Nat) (ps:Vp) (sp:Sp):Prop where
 ex:∃f fd,aB P w K mg base aL k f fd ps sp/\mg x=some (.ref f)/\W.keepIn K (.ref f)=true/\Binds K fd ps []
structure Bl (mg:SV):Prop where
 len:mg "len" = none
 eA:mg "isinstance" = none
 max:mg "max" = none
 min:mg "min" = none
 range:mg "range" = none
 list:mg "list" = none
 tuple:mg "tuple" = none
 sorted:mg "sorted" = none
 sum:mg "sum" = none
 all:mg "all" = none
 enum:mg "enumerate" = none
 int:mg "int" = none
 bool:mg "bool" = none
 str:mg "str" = none
noncomputable def A1 (ns:List Nat):Vr:=ns.map λ(n:Nat)=>V.int (n:Int)
section
inductive spIsMark (vs:Vr) (H:Hp) (Q:VK) (_E:XK):Prop where
 |mk (n:Nat) (aZ:vs=[.int (n:Int)]) (bG:Q (.bl (Cp n)) H)
theorem O6:AH ["number"] ["number"] (defScope JQ):=bH
theorem LU (n:Nat):(decide (0<(n:Int))&&decide (V.int (Builtin.bitAnd (n:Int) ((n:Int) - 1))=V.int 0))=Cp n:=by
 unfold Cp;rcases Nat.eq_zero_or_pos n with e |h
 ·subst e;rfl
 ·have e1:((n:Int) - 1)=((n - 1:Nat):Int):=by omega
  rw[e1,Gp];have e2:decide (0<(n:Int))=true:=ZN qe;have e3:decide (0<n)=true:=ZN h;rw[e2,e3];congr 1;rw[Bool.eq_iff_iff,decide_eq_true_eq,decide_eq_true_eq];constructor
  ·intro z;injection z with z;omega
  ·intro z;rw[z];rfl
theorem NR (F:aQ K "is_mark" "is_mark" JQ f fd):aB P w K mg base aL 1 f fd ["number"] spIsMark:=by
 refine F.m O6 λvs H Q E h=>?_;obtain⟨n,rfl,k⟩:=h;refine⟨Zj,λae A outer s hr=>?_⟩;refine⟨_,AD (AN (BQ (BU Lx (pv 0) AI (AT _)) (Bf (BU Cj (Ak Dr (pv 0) (Ak OI (pv 0) AI)) AI (AT _))))),?_⟩;rw[←LU]at k;refine⟨_,Zj,_,_,Zj,Zj,_,Zj,?_⟩;refine Bj (λh=>?_) (λh=>?_)
 ·rw[h,Bool.true_and]at k;exact⟨_,Zj,_,Zj,_,_,Zj,Zj,_,_,Zj,Zj,Zj,k⟩
 ·rw[Bool.eq_false_iff.mpr h,Bool.false_and]at k;exact k
inductive spUnionOf (K:FG) (vs:Vr) (H:Hp) (Q:VK) (_E:XK):Prop where
 |mk (a:Vs) (ns:List Nat) (aZ:vs=[.ref a]) (bG:aJ K H a (A1 ns)) (bJ:Q (.int (CA ns:Nat)) H)
theorem scUnionOf:AH ["numbers", "bits", "number"] ["numbers"] (defScope Hb):=bH
theorem MO {ns:List Nat}{i:Nat}{x:V} (h:(A1 ns)[i]?=some x):∃n,ns[i]?=some n/\x=V.int (n:Int):=by
 unfold A1 at h;rw[ZH]at h;cases e:ns[i]? with
 |none=>rw[e]at h;cases h
 |some n=>rw[e]at h;exact⟨n,Zj,(Option.some.inj h).symm⟩
theorem LV (F:aQ K "union_of" "union_of" Hb f fd):aB P w K mg base aL 1 f fd ["numbers"] (spUnionOf K):=by
 refine F.m scUnionOf λvs H Q E h=>?_;obtain⟨a,ns,rfl,hS,k⟩:=h;refine⟨Zj,λae A outer s hr=>?_⟩
 refine⟨_,AC (Am (i:=1) scUnionOf.nd Zj (Or.inl Zj) AI)
  (AC (DR PassesOwn.never rfl (BS (pv 0)) (Ar (i:=2) scUnionOf.nd rfl (Or.inl rfl))
   (AD (Kr (i:=1) scUnionOf.nd rfl (Or.inl rfl) (pv 2) (Sh:df _ _ _))))
  (AD (AN (pv 1)))),?_⟩
 refine⟨_,Zj,a,Zj,⟨_,hS⟩,DB (K:=K) (a:=a) (xs:=A1 ns) (λi σ H2=>∃v:Option V,σ=[some (.ref a),some (.int (CA (ns.take i):Nat)),v]/\H2=H) ⟨none,Zj,Zj⟩ (λi σ H2 _ ⟨_,_,e⟩=>e ▸ hS) ?_ ?_⟩
 ·rintro i x σ H2 hi ⟨v,rfl,rfl⟩;obtain⟨n,hn,rfl⟩:=MO hi;refine⟨_,Zj,_,Zj,_,_,Zj,Zj,?_⟩;refine⟨some (V.int (n:Int)),?_,Zj⟩;rw[ZG,hn,Option.toList_some,LR];show [some (V.ref a),some (V.int (Builtin.bitOr (CA (ns.take i):Nat) (n:Nat))),some (V.int (n:Int))]=_;rw[O5]
 ·rintro σ H2 ⟨v,rfl,rfl⟩;refine⟨_,Zj,?_⟩;have e:(A1 ns).length=ns.length:=by unfold A1;rw[AK]
  rw[e,ZE];exact k
end
end Mk
end
section
namespace L2
open PySem
theorem KL {x:Str}{g:TG}{tt:TT}{te:TE}{ix:List (Option Nat)}{R:Vr->Hp->Prop}{σ:St}{H1:Hp} (Pv:Nat->Vr->Hp->Prop) (h0:Pv 0 [] H1) (hz:∀i ys H,Pv i ys H->ys.length<=1000)
  (hs:∀(i c:Nat) ys H,x.cps[i]?=some c->Pv i ys H->g (.str ⟨#[c]⟩) (Bq ix σ) H λcS H2=>tt cS H2 λb H3=>if b=true then te cS H3 λy H4=>Pv (i+1) (ys++[y]) H4 else Pv (i+1) ys H3) (hd:∀ys H,Pv x.cps.size ys H->R ys H) :
  ∃W:Nat->Nat->Vr->Hp->Prop,(∃m,W 0 m [] H1)/\∀i m ys H,W i m ys H ->
   ((Its x).stop i H/\ys.length<=sizeLine/\R ys H) \/
   ((Its x).go i H/\∃N:Vr->Hp->Prop,(∀cW H',N cW H'->cW.length<=sizeLine/\∃m',m'<m/\W (i+1) m' cW H') /\
    ∀v H',(Its x).hX i H v H'->g v (Bq ix σ) H' λcS H2=>tt cS H2 λb H3=>if b=true then te cS H3 λy H4=>N (ys++[y]) H4 else N ys H3):=by
 refine⟨λi m ys H=>m=x.cps.size - i/\i<=x.cps.size/\Pv i ys H,⟨_,Zj,Nat.zero_le _,h0⟩,?_⟩;rintro i m ys H ⟨rfl,hi,hp⟩;by_cases aX:i<x.cps.size
 ·refine .inr ⟨aX,Pv (i+1),λcW H' q=>⟨Nat.le_of_lt (AQ (hz _ cW H' q)),x.cps.size - (i+1),qe,Zj,aX,q⟩,?_⟩;rintro v H' ⟨rfl,c,hc,rfl⟩;exact hs i c ys H' hc hp
 ·have e:i=x.cps.size:=by omega
  subst e;exact .inl ⟨ZA _,Nat.le_of_lt (AQ (hz _ ys H hp)),hd ys H hp⟩
end L2
namespace Mk
open PySem L2 MK
theorem Df:bootBuiltins "all" = some (.builtin "all"):=by decide +kernel
theorem BR:bootBuiltins "isinstance" = some (.builtin "isinstance"):=by decide +kernel
theorem NS:bootBuiltins "sorted" = some (.builtin "sorted"):=by decide +kernel
theorem Sz:bootBuiltins "min" = some (.builtin "min"):=by decide +kernel
theorem S0:bootBuiltins "max" = some (.builtin "max"):=by decide +kernel
theorem Ep:bootBuiltins "str" = some (.type "str"):=by decide +kernel
theorem O7:bootBuiltins "int" = some (.type "int"):=by decide +kernel
theorem Qw:bootBuiltins "bool" = some (.type "bool"):=by decide +kernel
theorem B0:bootBuiltins "tuple" = some (.type "tuple"):=by decide +kernel
theorem Bm:bootBuiltins "list" = some (.type "list"):=by decide +kernel
theorem AF {H1:Hp}{p:Vs}{o:HO} (s:aA H H1) (hp:H1 p=none):aA H (upd H1 p o):=λb u e=>by
 have e':=s b u e;rw[AE (AJ e' hp)];exact e'
noncomputable def EM (c:Nat):Bool:=decide (65<=c)&&decide (c<=90)
noncomputable def EQ (x:Str):Bool:=(decide (1<=x.length)&&decide (x.length<=6))&&x.cps.toList.all EM
section
theorem BI {X:Cx}{e:Expr}{te:TE}{T:String}{x:Str}{p p2 pos:Pos} (K:FG) (hK:X.K=K) (hg:Gl X "isinstance") (hm:X.mg "isinstance" = none) (hgT:Gl X x) (hmT:X.mg x=none) (hvT:bootBuiltins x=some (.type T)) (he:PE X e te)
  (hn:x≠ "__name__" := by decide) (fw:(x==("__debug__" : Str))=false:=by decide)
  (hs:starEach [e,.Name x p2] X.env=(false,eval e X.env)::starEach [.Name x p2] X.env:=by rfl) (eQ:(backTo pos (starEach [.Name x p2] X.env)).any (·.1)=false:=by rfl) (jb:starEach [.Name x p2] X.env=(false,eval (.Name x p2) X.env)::starEach [] X.env:=by rfl) :
  PE X (.Call (.Name "isinstance" p) [e,.Name x p2] [] pos) (tCB (λxs H Q=>∃v T t b,xs=[v,.ty T]/\dG K H v t/\W.kitOne K t (.type T)=some b/\Q (.bl b) H) (As te (As (tC (.ty T)) B6))):=by
 subst hK;exact AM Od hg hm BR (AA he (AA (Cz hgT hmT hvT Zj hn fw) AB jb) hs) qc qc hs eQ
theorem BP {X:Cx} (K:FG) (hK:X.K=K):IxR X (UA K):=hK ▸ QY
theorem Dg {X:Cx} (K:FG) (hK:X.K=K):IxR X (UB K):=hK ▸ Sj
theorem Av {X:Cx} (K:FG) (hK:X.K=K):Be X (.builtin "len") (λxs H Q=>∃p ys,xs=[.ref p]/\(aJ K H p ys\/bZ K H p ys)/\Q (.int ys.length) H):=hK ▸ E3
theorem MP {X:Cx}{e:Expr}{f:Str}{pos:Pos}{ta:TE} (K:FG) (hK:X.K=K) (he:PE X e ta) (hb:attributeBase e f X.env (eval e X.env)=eval e X.env):PE X (.Attribute e f pos) (T8 K ta f):=hK ▸ AU he hb
inductive spIsName (vs:Vr) (H:Hp) (Q:VK) (_E:XK):Prop where
 |mk (x:Str) (aZ:vs=[.str x]) (bG:x.cps.all (· < 128)=true) (bJ:x.length<=1000) (cY:∀H',aA H H'->Q (.bl (EQ x)) H')
theorem O8:AH ["thing"] ["thing"] (defScope JP):=bH
theorem O9 (c:Nat):(if (!decide ((⟨#[c]⟩:Str).cps.toList<("A" : Str).cps.toList))=true then (!decide (("Z" : Str).cps.toList<(⟨#[c]⟩:Str).cps.toList))else false)=EM c:=by
 have hA:("A" : Str).cps.toList=[65]:=by decide +kernel
 have hZ:("Z" : Str).cps.toList=[90]:=by decide +kernel
 rw[hA,hZ];show(if (!decide ([c]<[65]))=true then !decide ([90]<[c])else false)=EM c;unfold EM
 have e1:decide ([c]<[65])=decide (c<65):=by
  rw[Bool.eq_iff_iff,decide_eq_true_eq,decide_eq_true_eq,cons_lt_cons_iff];simp
 have e2:decide ([90]<[c])=decide (90<c):=by
  rw[Bool.eq_iff_iff,decide_eq_true_eq,decide_eq_true_eq,cons_lt_cons_iff];simp
 rw[e1,e2];by_cases h1:c<65 <;> by_cases h2:90<c <;> simp[h1,h2] <;> omega
theorem NT {t6:Tok} (F:aQ K "is_name" "is_name" JP f fd) (B:Bl mg) (hL:mg "LONGEST_NAME" = some (.int 6 t6)):aB P w K mg base aL 1 f fd ["thing"] spIsName:=by
 refine F.m O8 λvs H Q E h=>?_;obtain⟨x,rfl,ha,hz,k⟩:=h;refine⟨Zj,λae A outer s hr=>?_⟩
 refine⟨_,AC (Ac (PW.pt (B9 (Ah (Ae (BI K Zj Zj B.eA Zj B.str Ep (pv 0)))) (BW (Ah (Cl DD DD AI (AM Bb Zj B.len PySem.boot_len (AA (pv 0) AB)) (Ag (v:=.int 6) Zj hL ⟨t6,Zj⟩))))))
   (AD (AN CY)) AR)
  (AD (AN (AM (Bu rfl) rfl B.all Df (AA (BE [] [] qd qb qd rfl (Ob (pv 0)) (λ_ _ _ _ _ _=>BM) (λ_ _ _ _ _ _=>Ew Ch Ch Al (pv 0) Al)) AB)))),?_⟩
 refine⟨_,Zj,_,_,_,true,Zj,.str x,Zj,_,Zj,?_⟩;refine AX ?_;refine⟨_,Zj,x,Zj,Nat.le_of_lt (AQ hz),_,_,Zj,Zj,_,Zj,?_⟩;refine Bj (λh1=>?_) (λh1=>?_)
 ·have jf:1<=x.length:=by have:=ZW h1;omega
  refine⟨_,_,Zj,Zj,_,Zj,?_⟩;refine Bj (λh2=>?_) (λh2=>?_)
  ·have h2':¬ x.length<=6:=by
    intro z;rw[ZN (show(x.length:Int)<=6 by omega)]at h2;cases h2
   have e:EQ x=false:=by unfold EQ;simp[h2']
   have:=k H (aA.refl H);rw[e]at this;exact this
  ·have h2':x.length<=6:=Decidable.byContradiction λz=>h2 (by rw[ZQ (show ¬ (x.length:Int)<=6 by omega)];rfl);refine⟨_,Zj,x,Zj,ha,KL (x:=x) (λi ys H2=>H2=H/\ys=(x.cps.toList.take i).map λc=>V.bl (EM c)) ⟨Zj,Zj⟩ (λi ys H2 ⟨_,e⟩=>?_) ?_ ?_⟩
   ·rw[e,AK,ZD];have:x.cps.toList.length=x.length:=by rw[Array.length_toList];rfl
    omega
   ·rintro i c ys H2 hc ⟨rfl,rfl⟩;refine⟨_,Zj,_,_,Zj,Zj,_,Zj,?_⟩
    have fin:∀b,b=EM c->(H2=H2/\(x.cps.toList.take i).map (λc=>V.bl (EM c))++[V.bl b]=(x.cps.toList.take (i+1)).map λc=>V.bl (EM c)):=λb hb=>by
     refine⟨Zj,?_⟩;have iO:x.cps.toList[i]?=some c:=by rw[Array.getElem?_toList];exact hc
     rw[ZG,iO,Zw,hb];rfl
    have hu:=O9 c;refine Bj (λh3=>?_) (λh3=>?_)
    ·rw[Zr h3]at hu;exact⟨_,_,Zj,Zj,fin _ hu⟩
    ·rw[Zs h3]at hu;exact fin _ hu
   ·rintro ys H2 ⟨rfl,rfl⟩ p hp;have el:x.cps.toList.take x.cps.size=x.cps.toList:=take_of_length_le (by rw[Array.length_toList];exact ZA _);refine⟨p,x.cps.toList.map EM,Zj,aJ.of (by rw[U,el,map_map];rfl),?_⟩
    have e:EQ x=((x.cps.toList.map EM).all id):=by
     unfold EQ;rw[ZN jf,ZN h2',all_map];rfl
    rw[←e];exact k _ (AF (aA.refl _) hp)
 ·have jf:¬ 1<=x.length:=λz=>h1 (ZN qe);refine⟨_,Zj,?_⟩;refine Af ?_;have e:EQ x=false:=by unfold EQ;simp[jf]
  have:=k H (aA.refl H);rw[e]at this;exact this
end
inductive Th where
 |aT |num (n:Nat) |nms (ns:Vp)
def gP (H:Hp) (v:V):Th->Prop
 | .aT=>v=.aT
 | .num n=>v=.int (n:Int)
 | .nms ns=>∃a,v=.ref a/\H a=some (.tup (ns.map V.str))
noncomputable def FI (ns:List Nat):Nat:=ns.foldl max 0
noncomputable def look (ac:Aa) (x:Str):Nat:=((ac.find? λp=>decide (p.1=x)).map (·.2)).getD 0
noncomputable def Aq (ac:Aa):LK:=ac.map λp=>(Sum.inr p.1,V.int (p.2:Int))
noncomputable def F9 (ac:Aa):Th->Nat
 | .aT=>FB (FI (ac.map (·.2)))
 | .num n=>n
 | .nms ns=>CA (ns.map (look ac))
theorem Er (x:Str):∀ac:Aa,A4 (Aq ac) (Sum.inr x)=(ac.find? λp=>decide (p.1=x)).map λp=>V.int (p.2:Int)
 | []=>rfl
 |p::r=>by
  show A4 ((Sum.inr p.1,V.int (p.2:Int))::Aq r) (Sum.inr x)=_;by_cases e:p.1=x
  ·rw[DE (p:=(Sum.inr p.1,V.int (p.2:Int))) (by rw[←e]),List.find?_cons_of_pos (by simpa using e)];rfl
  ·rw[DF (p:=(Sum.inr p.1,V.int (p.2:Int))) (λz=>e (Sum.inr.inj z)),List.find?_cons_of_neg (by simpa using e)];exact Er x r
theorem NU {x:Str} (h:x∈ac.map (·.1)):(ac.find? λp=>decide (p.1=x)).isSome=true:=by
 obtain⟨p,hp,e⟩:=Zt.mp h;rw[List.find?_isSome];exact⟨p,hp,by simpa using e⟩
theorem GG {x:Str} (h:x∈ac.map (·.1)):A4 (Aq ac) (Sum.inr x)=some (V.int (look ac x:Int)):=by
 rw[Er];unfold look;obtain⟨p,hp⟩:=Option.isSome_iff_exists.mp (NU h);rw[hp];rfl
theorem B1 {x:Str} (h:x∉ ac.map (·.1)):A4 (Aq ac) (Sum.inr x)=none:=by
 rw[Er]
 have:(ac.find? λp=>decide (p.1=x))=none:=by
  rw[List.find?_eq_none];intro p hp e;exact h (Zt.mpr ⟨p,hp,by simpa using e⟩)
 rw[this];rfl
theorem FJ {m:Nat}:∀(l:List Nat) (a:Nat),a<m->(∀n∈l,n<m)->l.foldl max a<m
 | [],a,h,_=>h
 |x::r,a,h,k=>FJ r (max a x) (by have:=k x ZK;omega) λn hn=>k n (ZT _ hn)
theorem PD {ns:List Nat}{m:Nat} (h0:0<m) (h:∀n∈ns,n<m):FI ns<m:=FJ ns 0 h0 h
theorem PF (a b:Nat):max (a:Int) (b:Int)=((max a b:Nat):Int):=by omega
theorem Hl:∀(r:List Nat) (a:Nat),(r.map λn:Nat=>(n:Int)).foldl max (a:Int)=((r.foldl max a:Nat):Int)
 | [],_=>rfl
 |x::r,a=>by rw[map_cons,foldl_cons,PF,Hl r];rfl
theorem PH {ns:List Nat} (h:ns≠ []):Jx 0 (ns.map λn:Nat=>(n:Int))=(FI ns:Nat):=by
 cases ns with
 |nil=>exact absurd rfl h
 |cons a r =>
  show(r.map λn:Nat=>(n:Int)).foldl max (a:Int)=_;rw[Hl];unfold FI;rw[foldl_cons];have:max 0 a=a:=by omega
  rw[this]
theorem LW {m:Nat} (h:m<2 ^ 20):Builtin.Int.intBits (m:Int)<=20:=by
 rcases Nat.eq_zero_or_pos m with e |hm
 ·subst e;decide
 ·rw[F8 hm];have:m.log2<20:=(Nat.log2_lt qe).mpr h;omega
section
inductive spNextMark (K:FG) (vs:Vr) (H:Hp) (Q:VK) (_E:XK):Prop where
 |mk (a:Vs) (ns:List Nat) (aZ:vs=[.ref a]) (bG:aJ K H a (A1 ns)) (bJ:(∀n∈ns,n<2 ^ 20)) (cY:Q (.int (FB (FI ns):Nat)) H)
theorem LX:AH ["numbers"] ["numbers"] (defScope Fh):=bH
theorem MQ (ns:List Nat):A1 ns=(ns.map λn:Nat=>(n:Int)).map V.int:=by unfold A1;rw[map_map];rfl
theorem KM (F:aQ K "next_mark" "next_mark" Fh f fd) (B:Bl mg):aB P w K mg base aL 1 f fd ["numbers"] (spNextMark K):=by
 refine F.m LX λvs H Q E h=>?_;obtain⟨a,ns,rfl,hS,aX,k⟩:=h;refine⟨Zj,λae A outer s hr=>?_⟩;refine⟨_,AD (AN (Ak Sf AI (K1 PySem.F.plainAttrs_int PySem.F.slot_int_bit_length PySem.F.type_int_bit_length JE (Qg Zj Zj B.max (pv 0) AI)))),?_⟩;have hm:=PD (m:=2 ^ 20) qc aX
 have fin:∀m:Int,m=(FI ns:Nat)->tyV K "int" (.int m) H/\∃i,V.int m=.int i/\([]:Vr)=[]/\rI QR (λi j=>V.int (i*2 ^ j.toNat)) (V.int 1) (V.int (Builtin.Int.intBits i:Nat)) H Q:=λm e=>by
  subst e;refine⟨Zj,_,Zj,Zj,1,_,Zj,Zj,⟨Z1 _,?_,qc⟩,?_⟩
  ·have:=LW hm;omega
  ·have e:(1:Int)*2 ^ ((Builtin.Int.intBits (FI ns:Nat):Nat):Int).toNat=((FB (FI ns):Nat):Int):=by
    unfold FB;rw[Int.one_mul,Int.toNat_natCast];simp
   show Q (V.int (1*2 ^ ((Builtin.Int.intBits (FI ns:Nat):Nat):Int).toNat)) H;rw[e];exact k
 refine⟨_,Zj,a,ns.map (λn:Nat=>(n:Int)),0,Zj,Zj,by rw[←MQ];exact hS,λe=>?_,λe=>?_⟩
 ·have e':ns=[]:=List.map_eq_nil_iff.mp e;exact fin 0 (by rw[e'];rfl)
 ·have e':ns≠ []:=λz=>e (by rw[z];rfl);exact fin _ (PH e')
def Ci (K:FG):Sp:=λvs H Q _=>(∃(x:Str) (d:Vs) (kvs:LK),vs=[.str x,.ref d]/\Rd H d (.dK kvs)/\Q (.bl (A4 kvs (Sum.inr x:Key)).isSome) H) \/
 (∃(x:Str) (t:Vs) (xs:Vp),vs=[.str x,.ref t]/\bZ K H t (xs.map V.str)/\Q (.bl (ip (.str x) (xs.map V.str))) H)
theorem IZ:AH ["thing", "names"] ["thing", "names"] (defScope Dy):=bH
theorem Ie:∀xs:Vp,(xs.map V.str).all E1=true
 | []=>rfl
 |_::r=>Ie r
theorem LY (F:aQ K "is_one_of" "is_one_of" Dy f fd) (B:Bl mg):aB P w K mg base aL 1 f fd ["thing", "names"] (Ci K):=by
 refine F.ok IZ (λvs H Q E h=>?_) (λae A outer s H vs Q E hr h=>?_)
 ·rcases h with⟨x,d,kvs,rfl,_⟩ |⟨x,t,xs,rfl,_⟩ <;> rfl
 ·have hu:=Cc hr;rcases h with⟨x,d,kvs,rfl,hd,k⟩ |⟨x,t,xs,rfl,ht,k⟩
  ·refine⟨_,AD (AN (BQ (BI K Zj Zj B.eA Zj B.str Ep (pv 0)) (Bf (Kq (HI hu (pv 0) (pv 1)))))),?_⟩;refine⟨_,Zj,_,_,_,true,Zj,.str x,Zj,_,Zj,?_⟩;exact⟨_,Zj,_,Zj,d,_,Zj,.inl ⟨kvs,Sum.inr x,hd,Zj,Zj⟩,k⟩
  ·refine⟨_,AD (AN (BQ (BI K Zj Zj B.eA Zj B.str Ep (pv 0)) (Bf (BU Ms (pv 0) (pv 1) (by with_unfolding_all rfl))))),?_⟩;refine⟨_,Zj,_,_,_,true,Zj,.str x,Zj,_,Zj,?_⟩;exact⟨_,Zj,_,Zj,t,_,Zj,.inr ht,Zj,Ie xs,k⟩
inductive spIsNamesOf (vs:Vr) (H:Hp) (Q:VK) (_E:XK):Prop where
 |mk (a d:Vs) (ns:Vp) (kvs:LK) (aZ:vs=[.ref a,.ref d]) (bG:H a=some (.tup (ns.map V.str))) (bJ:ns.length<=1000) (cY:Rd H d (.dK kvs)) (dw:∀H',aA H H'->Q (.bl (decide (0<ns.length)&&ns.all λx=>(A4 kvs (Sum.inr x:Key)).isSome)) H')
theorem KN:AH ["parts", "ahead"] ["parts", "ahead"] (defScope Eg):=bH
theorem aA.rd {a:Vs}{u:HO} (s:aA H H') (h:Rd H a u):Rd H' a u:=by
 rcases h with h |⟨o,h⟩
 ·exact .inl (s _ _ h)
 ·exact .inr ⟨o,s _ _ h⟩
theorem JV (F:aQ K "is_names_of" "is_names_of" Eg f fd) (B:Bl mg) (GO:Fn P w K mg base "is_one_of" 1 ["thing", "names"] (Ci K)):aB P w K mg base aL 2 f fd ["parts", "ahead"] spIsNamesOf:=by
 obtain⟨fO,dO,GO,mO,kO,bO⟩:=GO.ex;refine F.m KN λvs H Q E h=>?_;obtain⟨a,d,ns,kvs,rfl,ha,hz,hd,k⟩:=h;refine⟨Zj,λae A outer s hr=>?_⟩;have hu:=Cc hr
 refine⟨_,AD (AN (BQ (BU Lx (AM E3 Zj B.len PySem.boot_len (AA (pv 0) AB)) AI (AT _))
  (Bf (AM (Bu rfl) rfl B.all Df (AA (BE ["ahead"] [some 1] qd qb qd rfl (HA (pv 0)) (λ_ _ _ _ _ _=>BM)
   (λ_ _ _ _ _ _=>AO GO hr rfl mO kO bO .nil AL (AA (pv 0) (AA (pv 1) AB)))) AB))))),?_⟩
 have hl:(ns.map V.str).length=ns.length:=AK _;refine⟨_,Zj,a,_,Zj,.inr (bZ.of ha),_,_,Zj,Zj,_,Zj,?_⟩;refine Bj (λh1=>?_) (λh1=>?_)
 ·have jf:0<ns.length:=by have:=ZW h1;rw[hl]at this;omega
  refine⟨_,Zj,a,Zj,⟨_,bZ.of ha⟩,Dv (K:=K) (a:=a) (xs:=ns.map V.str) (λi ys H2=>H2=H/\ys=(ns.take i).map λx=>V.bl (A4 kvs (Sum.inr x:Key)).isSome) ⟨Zj,Zj⟩ (λi ys H2 _ ⟨e,_⟩=>e ▸ bZ.of ha) (λi ys H2 ⟨_,e⟩=>?_) ?_ ?_⟩
  ·rw[e,AK,ZD];omega
  ·rintro i v ys H2 hi ⟨rfl,rfl⟩;rw[ZH]at hi
   obtain⟨x,hx,rfl⟩:∃x,ns[i]?=some x/\v=V.str x:=by
    cases e:ns[i]? with
    |none=>rw[e]at hi;cases hi
    |some x=>rw[e]at hi;exact⟨x,Zj,(Option.some.inj hi).symm⟩
   refine⟨_,Zj,_,Zj,.inl ⟨x,d,kvs,Zj,hd,Zj,?_⟩⟩;rw[ZG,hx,Zw];rfl
  ·rintro ys H2 ⟨rfl,rfl⟩ p hp;have el:ns.take (ns.map V.str).length=ns:=by rw[hl];exact ZE
   refine⟨p,ns.map λx=>(A4 kvs (Sum.inr x:Key)).isSome,Zj,aJ.of (by rw[U,el,map_map];rfl),?_⟩
   have e:(decide (0<ns.length)&&ns.all λx=>(A4 kvs (Sum.inr x:Key)).isSome)=(ns.map λx=>(A4 kvs (Sum.inr x:Key)).isSome).all id:=by
    rw[ZN jf,Bool.true_and,all_map];rfl
   rw[←e];exact k _ (AF (aA.refl _) hp)
 ·have jf:¬ 0<ns.length:=λz=>h1 (ZN (by rw[hl];omega));have:=k H (aA.refl H);rw[ZQ jf,Bool.false_and]at this;exact this
inductive spIsWhole (vs:Vr) (H:Hp) (Q:VK) (_E:XK):Prop where
 |mk (n:Int) (aZ:vs=[.int n]) (bG:Q (.bl true) H)
theorem NV:AH ["thing"] ["thing"] (defScope FF):=bH
structure KP (ac:Aa):Prop where
 len:ac.length<=10
 lt:∀p∈ac,p.2<2 ^ 20
 nd:(ac.map (·.1)).Nodup
 nm:∀p∈ac,EQ p.1=true/\p.1.cps.all (· < 128)=true/\p.1.length<=1000
def UX (ac:Aa):Th->Prop
 | .aT=>True
 | .num _=>True
 | .nms ns=>ns≠ []/\ns.length<=10/\∀x∈ns,x∈ac.map (·.1)
inductive spThing (vs:Vr) (H:Hp) (Q:VK) (_E:XK):Prop where
 |mk (tv:V) (th:Th) (d:Vs) (ac:Aa) (aZ:vs=[tv,.ref d]) (bG:gP H tv th) (bJ:Rd H d (.dK (Aq ac))) (cY:KP ac) (dw:UX ac th) (f9:∀H',aA H H'->Q (.int (F9 ac th:Nat)) H')
theorem Qx:AH ["thing", "ahead"] ["thing", "ahead"] (defScope Da):=bH
theorem PJ (ac:Aa):(Aq ac).map (·.2)=A1 (ac.map (·.2)):=by unfold Aq A1;rw[map_map,map_map];rfl
theorem PL (F:aQ K "thing_number" "thing_number" Da f fd) (B:Bl mg) (GN:Fn P w K mg base "next_mark" 1 ["numbers"] (spNextMark K)) (GI:Fn P w K mg base "is_names_of" 2 ["parts", "ahead"] spIsNamesOf)
  (GU:Fn P w K mg base "union_of" 1 ["numbers"] (spUnionOf K)) (GW:Fn P w K mg base "is_whole" 1 ["thing"] spIsWhole):aB P w K mg base aL 3 f fd ["thing", "ahead"] spThing:=by
 obtain⟨fN,dN,GN,mN,kN,bN⟩:=GN.ex;obtain⟨fI,dI,GI,mI,kI,bI⟩:=GI.ex;obtain⟨fU,dU,GU,mU,kU,bU⟩:=GU.ex;obtain⟨fW,dW,GW,mW,kW,bW⟩:=GW.ex;refine F.m Qx λvs H Q E h=>?_;obtain⟨tv,th,d,ac,rfl,hT,hd,DO,TO,k⟩:=h;refine⟨Zj,λae A outer s hr=>?_⟩;have hu:=Cc hr;have cZ:aD 1 _:=hr.mono qc
 refine⟨_,AC (Ac (C6 (EZ (pv 0))) (AD (AN (AO GN cZ Zj mN kN bN .nil AL (AA (A9 (HQ Zj) Zj B.list Bm (AA (K4 PySem.F.slot_dict_values PySem.F.type_dict_values IS (pv 1)) AB)) AB)))) AR)
  (AC (Ac (PW.pt (Do (Ae (BI K rfl rfl B.eA rfl B.tuple B0 (pv 0))) (C0 (Ae (AO GI hr rfl mI kI bI .nil AL (AA (pv 0) (AA (pv 1) AB)))))))
   (AD (AN (AO GU cZ rfl mU kU bU .nil AL (AA (BE ["ahead"] [some 1] qd qb qd rfl (HA (pv 0)) (λ_ _ _ _ _ _=>BM) (λ_ _ _ _ _ _=>CL hu (pv 1) (pv 0) (λ_ _=>rfl))) AB)))) AR)
  (AC (Ac (Ae (AO GW cZ rfl mW kW bW .nil AL (AA (pv 0) AB))) (AD (AN (pv 0))) AR)
  (AD Ap))),?_⟩
 refine⟨_,rfl,_,rfl,?_⟩;cases th with
 |aT =>
  have e:tv=.aT:=hT;subst e;refine Bj (λ_=>?_) (λz=>absurd Zj z);refine⟨_,Zj,d,Zj,.inl ⟨_,hd⟩,d,_,Zj,Zj,hd,λp hp=>?_⟩;refine⟨p,d,_,Zj,U,aA.rd (AF (aA.refl _) hp) hd,λl hl=>?_⟩;refine⟨l,ac.map (·.2),Zj,aJ.of (by rw[U,PJ]),λn hn=>?_,?_⟩
  ·obtain⟨q,hq,rfl⟩:=Zt.mp hn;exact DO.lt q hq
  ·exact k _ (AF (AF (aA.refl _) hp) hl)
 |num n =>
  have e:tv=.int (n:Int):=hT;subst e;refine Bj (λz=>absurd (ZW z) (by intro q;cases q)) (λ_=>?_);refine⟨_,Zj,_,_,_,false,Zj,.int _,qd,_,Zj,?_⟩;refine AX ?_;refine⟨_,Zj,n,Zj,_,Zj,?_⟩;refine Af ?_;exact⟨_,Zj,k H (aA.refl H)⟩
 |nms ns =>
  obtain⟨a,rfl,ha⟩:=hT;obtain⟨aw,jc,hin⟩:=TO;refine Bj (λz=>absurd (ZW z) (by intro q;cases q)) (λ_=>?_);refine⟨_,Zj,_,_,_,true,Zj,.tup ha,Zj,_,Zj,?_⟩;have hl:(ns.map V.str).length=ns.length:=AK _;refine⟨_,Zj,_,Zj,a,d,ns,Aq ac,Zj,ha,qe,hd,λH1 s1=>⟨_,Zj,?_⟩⟩
  have e1:(decide (0<ns.length)&&ns.all λx=>(A4 (Aq ac) (Sum.inr x:Key)).isSome)=true:=by
   rw[Bool.and_eq_true,decide_eq_true_eq,List.all_eq_true];refine⟨List.length_pos_iff.mpr aw,λx hx=>?_⟩;rw[GG (hin x hx)];rfl
  rw[e1];refine Af ?_;refine⟨_,Zj,a,Zj,⟨_,bZ.of (s1 _ _ ha)⟩,Dv (K:=K) (a:=a) (xs:=ns.map V.str) (λi ys H2=>H2=H1/\ys=A1 ((ns.take i).map (look ac))) ⟨Zj,Zj⟩ (λi ys H2 _ ⟨e,_⟩=>e ▸ bZ.of (s1 _ _ ha)) (λi ys H2 ⟨_,e⟩=>?_) ?_ ?_⟩
  ·rw[e];unfold A1;rw[AK,AK,ZD];omega
  ·rintro i v ys H2 hi ⟨rfl,rfl⟩;rw[ZH]at hi
   obtain⟨x,hx,rfl⟩:∃x,ns[i]?=some x/\v=V.str x:=by
    cases e:ns[i]? with
    |none=>rw[e]at hi;cases hi
    |some x=>rw[e]at hi;exact⟨x,Zj,(Option.some.inj hi).symm⟩
   refine⟨_,Zj,_,Zj,d,_,Zj,.inl ⟨Aq ac,Sum.inr x,aA.rd s1 hd,Zj,(GG (hin x (ZS hx))).symm⟩,Zj,?_⟩;rw[ZG,hx,Zw];unfold A1;rw[Zw];rfl
  ·rintro ys H2 ⟨rfl,rfl⟩ p hp;have el:ns.take (ns.map V.str).length=ns:=by rw[hl];exact ZE
   refine⟨p,ns.map (look ac),Zj,aJ.of (by rw[U,el]),?_⟩;exact k _ (AF s1 hp)
end
end Mk
end
section
namespace L2
open PySem
theorem KQ {a:Vs}{xs:Vr}{g:TG}{tb:TS}{D:Gc}{σ:St} (Pv:Nat->St->Hp->Prop) (h0:Pv 0 σ H) (hl:∀i σ H,i<=xs.length->Pv i σ H->aJ K H a xs)
  (hs:∀i x σ H p,xs[i]?=some x->Pv i σ H->H p=none->g (.ref p) σ (upd H p (.tup [.int i,x])) λcS H2=>tb { D with nx:=Pv (i+1),ct:=Pv (i+1),bk:=D.nx } cS H2) (hd:∀σ H,Pv xs.length σ H->D.nx σ H) :
  ∃W:Nat->Nat->St->Hp->Prop,(∃m,W 0 m σ H)/\∀i m σ H,W i m σ H ->
   ((jK K a).stop i H/\D.nx σ H)\/((jK K a).go i H/\∃N:St->Hp->Prop,(∀aO H',N aO H'->∃m',m'<m/\W (i+1) m' aO H')/\∀x H',(jK K a).hX i H x H'->g x σ H' λcS H2=>tb { D with nx:=N,ct:=N,bk:=D.nx } cS H2):=by
 refine⟨λi m σ H=>m=xs.length - i/\i<=xs.length/\Pv i σ H,⟨_,Zj,Nat.zero_le _,h0⟩,?_⟩;rintro i m σ H ⟨rfl,hi,hp⟩;by_cases aX:i<xs.length
 ·have hx:xs[i]?=some xs[i]:=Z7 aX;refine .inr ⟨⟨xs,xs[i],hl i σ H hi hp,hx⟩,Pv (i+1),λaO H' q=>⟨xs.length - (i+1),qe,Zj,aX,q⟩,?_⟩;rintro x H' ⟨p,y,hn,rfl,hy,rfl⟩
  have ex:y=xs[i]:=by
   have:=hy xs (hl i σ H hi hp);rw[hx]at this;exact(Option.some.inj this).symm
  subst ex;exact hs i xs[i] σ H p hx hp hn
 ·have e:i=xs.length:=by omega
  subst e;exact .inl ⟨⟨xs,hl _ σ H hi hp,ZA _⟩,hd σ H hp⟩
theorem NW {a:Vs}{o:Obj}{kvs:LK}{g:TG}{tb:TS}{D:Gc}{σ:St} (Pv:Nat->St->Hp->Prop) (h0:Pv 0 σ H) (hl:∀i σ H,Pv i σ H->H a=some (.cH o (.dK kvs)))
  (hs:∀i kv σ H p,kvs[i]?=some kv->Pv i σ H->H p=none->g (.ref p) σ (upd H p (.tup [kV kv.1,kv.2])) λcS H2=>tb { D with nx:=Pv (i+1),ct:=Pv (i+1),bk:=D.nx } cS H2) (hd:∀σ H,Pv kvs.length σ H->D.nx σ H) :
  ∃W:Nat->Nat->St->Hp->Prop,(∃m,W 0 m σ H)/\∀i m σ H,W i m σ H ->
   ((Iti a o kvs).stop i H/\D.nx σ H)\/((Iti a o kvs).go i H/\∃N:St->Hp->Prop,(∀aO H',N aO H'->∃m',m'<m/\W (i+1) m' aO H')/\∀x H',(Iti a o kvs).hX i H x H'->g x σ H' λcS H2=>tb { D with nx:=N,ct:=N,bk:=D.nx } cS H2):=by
 refine⟨λi m σ H=>m=kvs.length - i/\i<=kvs.length/\Pv i σ H,⟨_,Zj,Nat.zero_le _,h0⟩,?_⟩;rintro i m σ H ⟨rfl,hi,hp⟩;by_cases aX:i<kvs.length
 ·refine .inr ⟨⟨hl i σ H hp,aX⟩,Pv (i+1),λaO H' q=>⟨kvs.length - (i+1),qe,Zj,aX,q⟩,?_⟩;rintro x H' ⟨p,kv,hn,rfl,gG,rfl⟩;exact hs i kv σ H p gG hp hn
 ·have e:i=kvs.length:=by omega
  subst e;exact .inl ⟨⟨hl _ σ H hp,ZA _⟩,hd σ H hp⟩
end L2
namespace Mk
open PySem L2 MK
def VZ (x:Str):Prop:=EQ x=true/\x.cps.all (· < 128)=true/\x.length<=1000
structure SE (ac:Aa) (r:Str×Th):Prop where
 ahead:KP ac
 few:ac.length<10
 nm:VZ r.1
 new:r.1∉ ac.map (·.1)
 th:UX ac r.2
 lt:F9 ac r.2<2 ^ 20
noncomputable def C7 (rows:List (Str×Th)):Aa:=rows.foldl (λac r=>ac++[(r.1,F9 ac r.2)]) []
theorem NX (rows:List (Str×Th)) (r:Str×Th):C7 (rows++[r])=C7 rows++[(r.1,F9 (C7 rows) r.2)]:=by unfold C7;rw[foldl_append];rfl
def JW (rows:List (Str×Th)):Prop:=∀(i:Nat) r,rows[i]?=some r->SE (C7 (rows.take i)) r
inductive eT (H:Hp) (b:Vs) (r:Str×Th):Prop where
 |mk (tv:_) (aZ:H b=some (.tup [.str r.1,tv])) (bG:gP H tv r.2)
inductive RowsAt (H:Hp) (l:Vs) (rows:List (Str×Th)):Prop where
 |mk (as:List Vs) (aZ:H l=some (.lst (as.map V.ref))) (bG:Paired (eT H) as rows)
theorem gP.same {v:V}{th:Th} (s:aA H H') (h:gP H v th):gP H' v th:=by
 cases th with
 |aT=>exact h
 |num n=>exact h
 |nms ns=>obtain⟨a,e,h⟩:=h;exact⟨a,e,s _ _ h⟩
theorem eT.same {b:Vs}{r:Str×Th} (s:aA H H') (h:eT H b r):eT H' b r:=by
 obtain⟨tv,e,t⟩:=h;exact⟨tv,s _ _ e,t.same s⟩
theorem CI {α β:Type}{F:α->β->Prop}:∀ {xs:List α}{ys:List β}{i:Nat}{x:α},Paired F xs ys->xs[i]?=some x->∃y,ys[i]?=some y/\F x y
 |_,_,_,_,.nil,e=>by simp at e
 |_,_,0,_,.cons r _,e=>by simp at e;subst e;exact⟨_,Zj,r⟩
 |_,_,i+1,x,.cons _ t,e=>by
  obtain⟨u,h1,h2⟩:=CI (i:=i) (x:=x) t (by simpa using e);exact⟨u,by simpa using h1,h2⟩
theorem FK {H1:Hp}{d:Vs}{o:HO} (s:aA H H1) (hd:H d=none):aA H (upd H1 d o):=λb u e=>by
 rw[AE (AJ e hd)];exact s b u e
section
inductive spRow (vs:Vr) (H:Hp) (Q:VK) (_E:XK):Prop where
 |mk (b d:Vs) (r:Str×Th) (ac:Aa) (aZ:vs=[.ref b,.ref d]) (bG:eT H b r) (bJ:Rd H d (.dK (Aq ac))) (cY:SE ac r) (dw:∀H',aA H H'->Q (.int (F9 ac r.2:Nat)) H')
theorem fh:AH ["row", "ahead", "name", "thing", "number"] ["row", "ahead"] (defScope Db):=bH
theorem PM {tg:Tok} (F:aQ K "row_number" "row_number" Db f fd) (B:Bl mg) (hG:mg "GREATEST" = some (.int 1048575 tg)) (GN:Fn P w K mg base "is_name" 1 ["thing"] spIsName) (GT:Fn P w K mg base "thing_number" 3 ["thing", "ahead"] spThing) :
  aB P w K mg base aL 4 f fd ["row", "ahead"] spRow:=by
 obtain⟨fN,dN,GN,mN,kN,bN⟩:=GN.ex;obtain⟨fT,dT,GT,mT,kT,bT⟩:=GT.ex;refine F.m fh λvs H Q E h=>?_;obtain⟨b,d,r,ac,rfl,⟨tv,hb,hT⟩,hd,RO,k⟩:=h;refine⟨Zj,λae A outer s hr=>?_⟩;have hu:=Cc hr;have cZ:aD 1 _:=hr.mono qc
 refine⟨_,AC (Ac (PW.pt (B9 (Ah (Ae (BI K Zj Zj B.eA Zj B.tuple B0 (pv 0)))) (BW (AW Ck (AM (Av K Zj) Zj B.len PySem.boot_len (AA (pv 0) AB)) AI (AT _))))) (AD Ap) AR)
  (AC (Iq (pv 0) (Dp rfl (Az (Ar (i:=2) fh.nd rfl (Or.inl rfl)) (Az (Ar (i:=3) fh.nd rfl (Or.inl rfl)) C2))))
  (AC (Ac (PW.pt (B9 (Ah (Ae (AO GN cZ rfl mN kN bN .nil AL (AA (pv 2) AB)))) (BW (C6 (HI hu (pv 2) (pv 1)))))) (AD Ap) AR)
  (AC (Am (i:=4) fh.nd rfl (Or.inl rfl) (AO GT hr rfl mT kT bT .nil AL (AA (pv 3) (AA (pv 1) AB))))
  (AC (Ac (PW.pt (B9 (C6 (EZ (pv 4))) (BW (Ah (Cl DD DD AI (pv 4) (Ag (v:=.int 1048575) rfl hG ⟨tg,rfl⟩)))))) (AD Ap) AR)
  (AD (AN (pv 4))))))),?_⟩
 refine⟨_,Zj,_,_,_,true,Zj,.tup hb,Zj,_,Zj,?_⟩;refine AX ?_;refine⟨_,Zj,b,_,Zj,.inr (bZ.of hb),Zj,_,Zj,?_⟩;refine IP Zj ?_;refine⟨_,Zj,b,_,Zj,bZ.of hb,Zj,_,_,Zj,_,_,Zj,Zj,?_⟩;refine⟨_,Zj,r.1,Zj,RO.nm.2.1,RO.nm.2.2,λH1 s1=>⟨_,Zj,?_⟩⟩;rw[RO.nm.1];refine AX ?_;refine⟨_,Zj,_,Zj,d,_,Zj,.inl ⟨Aq ac,Sum.inr r.1,aA.rd s1 hd,Zj,(B1 RO.new).symm⟩,_,Zj,?_⟩;refine AX ?_;refine⟨_,Zj,_,Zj,tv,r.2,d,ac,Zj,hT.same s1,aA.rd s1 hd,RO.ahead,RO.th,λH2 s2=>?_⟩;refine⟨_,Zj,_,Zj,?_⟩;refine Bj (λz=>absurd (ZW z) (by intro q;cases q)) (λ_=>?_);refine⟨_,Zj,_,_,Zj,Zj,_,Zj,?_⟩;refine Bj (λ_=>?_) (λz=>absurd (ZN (Z1 _)) z);refine⟨_,_,Zj,Zj,_,Zj,?_⟩;have aX:=RO.lt;refine IP (show((F9 ac r.2:Nat):Int)<=1048575 by omega) ?_;exact⟨_,Zj,k _ (s1.trans s2)⟩
inductive spNumbered (vs:Vr) (H:Hp) (Q:VK) (_E:XK):Prop where
 |mk (l:Vs) (rows:List (Str×Th)) (aZ:vs=[.ref l]) (bG:RowsAt H l rows) (bJ:0<rows.length) (cY:rows.length<=10) (dw:JW rows) (f9:∀d H',aA H H'->H d=none->H' d=some (.dK (Aq (C7 rows)))->Q (.ref d) H')
theorem aW:AH ["rows", "numbers", "at", "row", "number"] ["rows"] (defScope DK):=bH
theorem Qy {x:Str}{n:Nat} (h:x∉ ac.map (·.1)):Bn (Aq ac) (Sum.inr x:Key) (V.int (n:Int))=Aq (ac++[(x,n)]):=by
 rw[HG _ (B1 h)];unfold Aq;rw[Zw];rfl
theorem Ft (ac:Aa):(Aq ac).length=ac.length:=AK _
theorem KR:∀rows:List (Str×Th),(C7 rows).length=rows.length:=λrows=>by
 have:∀(l:List (Str×Th)) (a:Aa),(l.foldl (λac r=>ac++[(r.1,F9 ac r.2)]) a).length=a.length+l.length:=by
  intro l;induction l with
  |nil=>intro a;rfl
  |cons x r ih=>intro a;rw[foldl_cons,ih,ZJ,length_cons,length_cons,length_nil];omega
 have e:=this rows [];rw[length_nil]at e;unfold C7;omega
theorem KS {tm:Tok} (F:aQ K "numbered" "numbered" DK f fd) (B:Bl mg) (hM:mg "MOST_ROWS" = some (.int 10 tm)) (GR:Fn P w K mg base "row_number" 4 ["row", "ahead"] spRow):aB P w K mg base aL 5 f fd ["rows"] spNumbered:=by
 obtain⟨fR,dR,GR,mR,kR,bR⟩:=GR.ex;refine F.m aW λvs H Q E h=>?_;obtain⟨l,rows,rfl,⟨as,hl,hP⟩,h0,h10,RO,k⟩:=h;refine⟨Zj,λae A outer s hr=>?_⟩;have hu:=Cc hr;have a0:as.length=rows.length:=hP.length
 refine⟨_,AC (Ac (PW.pt (B9 (Ah (Ae (BI K Zj Zj B.eA Zj B.list Bm (pv 0)))) (BW (Ah (Cl DD DD AI (AM (Av K Zj) Zj B.len PySem.boot_len (AA (pv 0) AB)) (Ag (v:=.int 10) Zj hM ⟨tm,Zj⟩)))))) (AD Ap) AR)
  (AC (Am (i:=1) aW.nd rfl (Or.inl rfl) Dt)
  (AC (DR PassesOwn.never rfl (JC rfl B.enum (AA (pv 0) AB)) (Dp rfl (Az (Ar (i:=2) aW.nd rfl (Or.inl rfl)) (Az (Ar (i:=3) aW.nd rfl (Or.inl rfl)) C2)))
   (AC (Am (i:=4) aW.nd rfl (Or.inl rfl) (AO GR hr rfl mR kR bR .nil AL (AA (pv 3) (AA (pv 1) AB))))
   (AC (Ac (C6 (EZ (pv 4))) (AD Ap) AR)
   (AD (L6 hu (pv 1) (Bi (Dg K rfl) (pv 3) AI (λ_ _=>rfl)) (pv 4) rfl)))))
  (AD (AN (pv 1))))),?_⟩
 refine⟨_,Zj,_,_,_,true,Zj,.lst hl,Zj,_,Zj,?_⟩;refine AX ?_;have jd:(as.map V.ref).length=rows.length:=by rw[AK,a0]
 refine⟨_,Zj,l,_,Zj,.inl (aJ.of hl),_,_,Zj,Zj,_,Zj,?_⟩;refine Bj (λ_=>?_) (λz=>absurd (ZN (by rw[jd];omega)) z);refine⟨_,_,Zj,Zj,_,Zj,?_⟩;refine IP (show(((as.map V.ref).length:Nat):Int)<=10 by rw[jd];omega) ?_;intro d fm
 refine⟨_,Zj,l,Zj,⟨_,aJ.of (AF (aA.refl _) fm _ _ hl)⟩,KQ (K:=K) (a:=l) (xs:=as.map V.ref) (λi σ H2=>∃v1 v2 v3:Option V,σ=[some (.ref l),some (.ref d),v1,v2,v3]/\aA H H2/\H2 d=some (.dK (Aq (C7 (rows.take i)))))
  ⟨none,none,none,rfl,AF (aA.refl _) fm,U⟩ (λi σ H2 _ ⟨_,_,_,_,s2,_⟩=>aJ.of (s2 _ _ hl)) ?_ ?_⟩
 ·rintro i y σ H2 p hi ⟨v1,v2,v3,rfl,s2,hd2⟩ hp;rw[ZH]at hi
  obtain⟨b,hb,rfl⟩:∃b,as[i]?=some b/\y=V.ref b:=by
   cases e:as[i]? with
   |none=>rw[e]at hi;cases hi
   |some x=>rw[e]at hi;exact⟨x,Zj,(Option.some.inj hi).symm⟩
  obtain⟨r,hr',hra⟩:=CI hP hb;have R1:=RO i r hr';have s3:aA H (upd H2 p (.tup [.int i,.ref b])):=AF s2 hp;have ig:(upd H2 p (.tup [.int i,.ref b])) d=some (.dK (Aq (C7 (rows.take i)))):=by rw[AE (AJ hd2 hp)];exact hd2
  refine⟨p,_,Zj,bZ.of U,Zj,_,_,Zj,_,_,Zj,Zj,?_⟩;refine⟨_,Zj,_,Zj,b,d,r,C7 (rows.take i),Zj,hra.same s3,.inl ig,R1,λH4 s4=>?_⟩;refine⟨_,Zj,_,Zj,?_⟩;refine Bj (λz=>absurd (ZW z) (by intro q;cases q)) (λ_=>?_);obtain⟨tv,ak,_⟩:=hra.same (s3.trans s4);refine⟨_,Zj,_,Zj,_,Zj,b,_,0,.str r.1,Zj,Zj,bZ.of ak,Zj,d,_,Zj,DPut.k (k:=Sum.inr r.1) (s4 _ _ ig) (AQ (by rw[Ft,KR,ZD];omega)),?_⟩;refine⟨_,_,_,Zj,FK (s3.trans s4) fm,?_⟩;rw[U,Qy R1.new,ZG,hr',Option.toList_some,NX]
 ·rintro σ H2 ⟨v1,v2,v3,rfl,s2,hd2⟩;rw[jd,ZE]at hd2;exact⟨_,Zj,k d H2 s2 fm hd2⟩
end
noncomputable def AZ (ac:Aa):List (Nat×Str):=ac.foldl (λfs p=>if (fs.map (·.1)).contains p.2 then fs else fs++[(p.2,p.1)]) []
noncomputable def C8 (fs:List (Nat×Str)):LK:=fs.map λq=>(Sum.inl (q.1:Int),V.str q.2)
noncomputable def Cu (fs:List (Nat×Str)) (n:Nat):Str:=((fs.find? λq=>decide (q.1=n)).map (·.2)).getD (Str.ofString "")
theorem GH (ac:Aa) (p:Str×Nat):AZ (ac++[p])=if ((AZ ac).map (·.1)).contains p.2 then AZ ac else AZ ac++[(p.2,p.1)]:=by unfold AZ;rw[foldl_append];rfl
theorem Fu (n:Nat):∀fs:List (Nat×Str),A4 (C8 fs) (Sum.inl (n:Int):Key)=(fs.find? λq=>decide (q.1=n)).map λq=>V.str q.2
 | []=>rfl
 |q::r=>by
  show A4 ((Sum.inl (q.1:Int),V.str q.2)::C8 r) (Sum.inl (n:Int))=_;by_cases e:q.1=n
  ·rw[DE (p:=(Sum.inl (q.1:Int),V.str q.2)) (by rw[←e]),List.find?_cons_of_pos (by simpa using e)];rfl
  ·rw[DF (p:=(Sum.inl (q.1:Int),V.str q.2)) (λz=>e (by have:=Sum.inl.inj z;omega)),List.find?_cons_of_neg (by simpa using e)];exact Fu n r
theorem Hm {fs:List (Nat×Str)}{n:Nat} (h:n∈fs.map (·.1)):(fs.find? λq=>decide (q.1=n)).isSome=true:=by
 obtain⟨q,hq,e⟩:=Zt.mp h;rw[List.find?_isSome];exact⟨q,hq,by simpa using e⟩
theorem KU {fs:List (Nat×Str)}{n:Nat} (h:n∈fs.map (·.1)):A4 (C8 fs) (Sum.inl (n:Int):Key)=some (V.str (Cu fs n)):=by
 rw[Fu];unfold Cu;obtain⟨q,hq⟩:=Option.isSome_iff_exists.mp (Hm h);rw[hq];rfl
theorem Ig {fs:List (Nat×Str)}{n:Nat} (h:n∉ fs.map (·.1)):A4 (C8 fs) (Sum.inl (n:Int):Key)=none:=by
 rw[Fu]
 have:(fs.find? λq=>decide (q.1=n))=none:=by
  rw[List.find?_eq_none];intro q hq e;exact h (Zt.mpr ⟨q,hq,by simpa using e⟩)
 rw[this];rfl
theorem PP {fs:List (Nat×Str)}{n:Nat}{x:Str} (h:n∉ fs.map (·.1)):Bn (C8 fs) (Sum.inl (n:Int):Key) (V.str x)=C8 (fs++[(n,x)]):=by
 rw[HG _ (Ig h)];unfold C8;rw[Zw];rfl
theorem Es (ac:Aa):(AZ ac).length<=ac.length:=by
 have:∀(l:Aa) (a:List (Nat×Str)),(l.foldl (λfs p=>if (fs.map (·.1)).contains p.2 then fs else fs++[(p.2,p.1)]) a).length<=a.length+l.length:=by
  intro l;induction l with
  |nil=>intro a;exact ZA _
  |cons x r ih =>
   intro a;rw[foldl_cons];refine Nat.le_trans (ih _) ?_;split
   ·rw[length_cons];omega
   ·rw[ZJ,length_cons,length_cons,length_nil];omega
 have e:=this ac [];rw[length_nil]at e;unfold AZ;omega
theorem D3 (ac:Aa):∀(a:List (Nat×Str)),(a.map (·.1)).Nodup->(∀n∈a.map (·.1),n∈(ac.foldl (λfs p=>if (fs.map (·.1)).contains p.2 then fs else fs++[(p.2,p.1)]) a).map (·.1)) /\
  ((ac.foldl (λfs p=>if (fs.map (·.1)).contains p.2 then fs else fs++[(p.2,p.1)]) a).map (·.1)).Nodup/\(∀p∈ac,p.2∈(ac.foldl (λfs p=>if (fs.map (·.1)).contains p.2 then fs else fs++[(p.2,p.1)]) a).map (·.1)) /\
  (∀q∈ac.foldl (λfs p=>if (fs.map (·.1)).contains p.2 then fs else fs++[(p.2,p.1)]) a,q∈a\/(q.2,q.1)∈ac):=by
 induction ac with
 |nil=>intro a ha;exact⟨λn hn=>hn,ha,λp hp=>(nomatch hp),λq hq=>.inl hq⟩
 |cons p r ih =>
  intro a ha;rw[foldl_cons];by_cases hc:(a.map (·.1)).contains p.2=true
  ·rw[Zr hc];obtain⟨i1,i2,i3,i4⟩:=ih a ha;refine⟨i1,i2,λq hq=>?_,λq hq=>?_⟩
   ·rcases mem_cons.mp hq with rfl |hq
    ·exact i1 _ (by simpa using hc)
    ·exact i3 q hq
   ·rcases i4 q hq with z |z
    ·exact .inl z
    ·exact .inr (ZT _ z)
  ·rw[Zs hc];have hnot:p.2∉ a.map (·.1):=λz=>hc (by simpa using z);obtain⟨i1,i2,i3,i4⟩:=ih (a++[(p.2,p.1)]) (by rw[Zw];exact L7 ha hnot);refine⟨λn hn=>i1 n (by rw[Zw];exact ZR _ hn),i2,λq hq=>?_,λq hq=>?_⟩
   ·rcases mem_cons.mp hq with rfl |hq
    ·exact i1 _ (by rw[Zw];exact ZU _ (by simp))
    ·exact i3 q hq
   ·rcases i4 q hq with z |z
    ·rcases mem_append.mp z with z |z
     ·exact .inl z
     ·have:q=(p.2,p.1):=by simpa using z
      subst this;exact .inr ZK
    ·exact .inr (ZT _ z)
theorem NY (ac:Aa):((AZ ac).map (·.1)).Nodup:=(D3 ac [] nodup_nil).2.1
theorem NZ {p:Str×Nat} (h:p∈ac):p.2∈(AZ ac).map (·.1):=(D3 ac [] nodup_nil).2.2.1 p h
theorem Ih {q:Nat×Str} (h:q∈AZ ac):(q.2,q.1)∈ac:=by
 rcases (D3 ac [] nodup_nil).2.2.2 q h with z |z
 ·cases z
 ·exact z
section
inductive spFirsts (vs:Vr) (H:Hp) (Q:VK) (_E:XK):Prop where
 |mk (d:Vs) (o:Obj) (ac:Aa) (aZ:vs=[.ref d]) (bG:H d=some (.cH o (.dK (Aq ac)))) (bJ:ac.length<=100) (cY:∀e H',aA H H'->H e=none->H' e=some (.dK (C8 (AZ ac)))->Q (.ref e) H')
theorem scFirsts:AH ["numbers", "firsts", "name", "number"] ["numbers"] (defScope Dz):=bH
theorem PQ {i:Nat}{kv:Key×V} (h:(Aq ac)[i]?=some kv):∃p,ac[i]?=some p/\kv=(Sum.inr p.1,V.int (p.2:Int)):=by
 unfold Aq at h;rw[ZH]at h;cases e:ac[i]? with
 |none=>rw[e]at h;cases h
 |some p=>rw[e]at h;exact⟨p,Zj,(Option.some.inj h).symm⟩
theorem Na (F:aQ K "first_names" "first_names" Dz f fd):aB P w K mg base aL 1 f fd ["numbers"] spFirsts:=by
 refine F.m scFirsts λvs H Q E h=>?_;obtain⟨d,o,ac,rfl,hd,hz,k⟩:=h;refine⟨Zj,λae A outer s hr=>?_⟩
 refine⟨_,AC (Am (i:=1) scFirsts.nd Zj (Or.inl Zj) Dt)
  (AC (DR PassesOwn.never rfl (OZ (pv 0)) (Dp rfl (Az (Ar (i:=2) scFirsts.nd rfl (Or.inl rfl)) (Az (Ar (i:=3) scFirsts.nd rfl (Or.inl rfl)) C2)))
   (AD (Ai (Cb PySem.F.plainAttrs_dict PySem.F.slot_dict_setdefault PySem.F.type_dict_setdefault Hy (pv 1) (AA (pv 3) (AA (pv 2) AB))))))
  (AD (AN (pv 1)))),?_⟩
 intro e he
 refine⟨_,Zj,d,o,Aq ac,Zj,AF (aA.refl _) he _ _ hd,NW (a:=d) (o:=o) (kvs:=Aq ac) (λi σ H2=>∃v1 v2:Option V,σ=[some (.ref d),some (.ref e),v1,v2]/\aA H H2/\H2 e=some (.dK (C8 (AZ (ac.take i)))))
  ⟨none,none,rfl,AF (aA.refl _) he,U⟩ (λi σ H2 ⟨_,_,_,s2,_⟩=>s2 _ _ hd) ?_ ?_⟩
 ·rintro i kv σ H2 p gG ⟨v1,v2,rfl,s2,he2⟩ hp;obtain⟨pr,gC,rfl⟩:=PQ gG;have s3:aA H (upd H2 p (.tup [.str pr.1,.int (pr.2:Int)])):=AF s2 hp;have he3:(upd H2 p (.tup [.str pr.1,.int (pr.2:Int)])) e=some (.dK (C8 (AZ (ac.take i)))):=by rw[AE (AJ he2 hp)];exact he2
  have et:ac.take (i+1)=ac.take i++[pr]:=by rw[ZG,gC];rfl
  have hle:(C8 (AZ (ac.take i))).length<=100:=by
   unfold C8;rw[AK];have:=Es (ac.take i);rw[ZD]at this;omega
  refine⟨p,_,Zj,bZ.of U,Zj,_,_,Zj,_,_,Zj,Zj,?_⟩;refine⟨_,Zj,.inr (.inr (.inl ⟨Zj,.inl ⟨_,he3⟩⟩)),_,Zj,_,Zj,e,_,Sum.inl (pr.2:Int),.str pr.1,Zj,Zj,he3,AQ qe,λw' hw=>?_,λhn=>?_⟩
  ·refine⟨_,_,Zj,s3,?_⟩;have z:pr.2∈(AZ (ac.take i)).map (·.1):=Decidable.byContradiction λz=>by rw[Ig z]at hw;cases hw
   rw[et,GH,Zr (by simpa using z)];exact he3
  ·have z:pr.2∉ (AZ (ac.take i)).map (·.1):=λz=>by rw[KU z]at hn;cases hn
   refine⟨_,_,Zj,FK s3 he,?_⟩;rw[U,et,GH,Zs (by simpa using z),PP z]
 ·rintro σ H2 ⟨v1,v2,rfl,s2,he2⟩;rw[Ft,ZE]at he2;exact⟨_,Zj,k e H2 s2 he he2⟩
end
theorem n12:¬ (("numbers" : Str) = "firsts"):=by decide +kernel
theorem n13:¬ (("numbers" : Str) = "rule"):=by decide +kernel
theorem n23:¬ (("firsts" : Str) = "rule"):=by decide +kernel
noncomputable def Hn (d1 d2:Vs) (r:Str):List (Str×V):=AY "rule" (.str r) (AY "firsts" (.ref d2) (AY "numbers" (.ref d1) []))
theorem FM (d1 d2:Vs) (r:Str):(Hn d1 d2 r).lookup ("numbers" : Str)=some (.ref d1):=by
 unfold Hn;rw[AG,Zs n13,AG,Zs n12,AG,Zr rfl]
theorem Ho (d1 d2:Vs) (r:Str):(Hn d1 d2 r).lookup ("firsts" : Str)=some (.ref d2):=by
 unfold Hn;rw[AG,Zs n23,AG,Zr rfl]
theorem Fv (d1 d2:Vs) (r:Str):(Hn d1 d2 r).lookup ("rule" : Str)=some (.str r):=by
 unfold Hn;rw[AG,Zr rfl]
theorem B2 (d1 d2:Vs) (r:Str) {m:Str} (h1:¬ m = "rule" := by decide +kernel) (h2:¬ m = "firsts" := by decide +kernel) (h3:¬ m = "numbers" := by decide +kernel):(Hn d1 d2 r).lookup m=none:=by
 unfold Hn;rw[AG,Zs h1,AG,Zs h2,AG,Zs h3];rfl
theorem Qz (d1:Vs):(AY "numbers" (V.ref d1) []).lookup ("numbers" : Str)=some (.ref d1):=by rw[AG,Zr rfl]
structure aE (C:Vs) (H:Hp) (p:Vs) (ac:Aa) (r:Str):Prop where
 ex:∃dx d1 o1 d2 o2,H p=some (.ins C dx (Hn d1 d2 r))/\H d1=some (.cH o1 (.dK (Aq ac)))/\H d2=some (.cH o2 (.dK (C8 (AZ ac))))
theorem aE.same {p:Vs}{r:Str} (s:aA H H') (h:aE C H p ac r):aE C H' p ac r:=by
 obtain⟨dx,d1,o1,d2,o2,a,b,c⟩:=h.ex;exact⟨⟨dx,d1,o1,d2,o2,s _ _ a,s _ _ b,s _ _ c⟩⟩
structure Dh (K:FG) (C:Vs):Prop where
 cl:gQ K C
 nN:aS K C "numbers"
 nF:aS K C "firsts"
 nR:aS K C "rule"
noncomputable def aV:Vp:=["bar", "drop", "keep", "leave"]
section
inductive spInit (C:Vs) (vs:Vr) (H:Hp) (Q:VK) (_E:XK):Prop where
 |mk (p dx l:Vs) (rows:List (Str×Th)) (r:Str) (aZ:vs=[.ref p,.ref l,.str r]) (bG:H p=some (.ins C dx [])) (bJ:RowsAt H l rows) (cY:0<rows.length) (dw:rows.length<=10) (f9:JW rows) (js:r∈aV) (jr:∀H',(∀b o,H b=some o->b≠p->H' b=some o)->aE C H' p (C7 rows) r->Q .aT H')
theorem LZ:AH ["self", "rows", "rest"] ["self", "rows", "rest"] (defScope At):=bH
theorem PR {r:Str} (h:r∈aV):ip (.str r) (aV.map V.str)=true:=by
 unfold ip;rw[List.any_map,any_eq_true];exact⟨r,h,by show(r==r)=true;simp⟩
theorem Q0 {aR:Vs} (F:aQ K "__init__" "Kind.__init__" At f fd) (B:Bl mg) (T:Dh K C) (hR:mg "RULES" = some (.ref aR)) (hRT:∀H:Hp,bZ K H aR (aV.map V.str))
  (GN:Fn P w K mg base "numbered" 5 ["rows"] spNumbered) (GF:Fn P w K mg base "first_names" 1 ["numbers"] spFirsts) (GO:Fn P w K mg base "is_one_of" 1 ["thing", "names"] (Ci K)):aB P w K mg base aL 6 f fd ["self", "rows", "rest"] (spInit C):=by
 obtain⟨fN,dN,GN,mN,kN,bN⟩:=GN.ex;obtain⟨fF,dF,GF,mF,kF,bF⟩:=GF.ex;obtain⟨fO,dO,GO,mO,kO,bO⟩:=GO.ex;refine F.m LZ λvs H Q E h=>?_;obtain⟨p,dx,l,rows,r,rfl,hp,RA,h0,h10,RO,aq,k⟩:=h;refine⟨Zj,λae A outer s hr=>?_⟩;have cZ:aD 1 _:=hr.mono qc
 refine⟨_,AC (A3 (pv 0) (AO GN hr Zj mN kN bN .nil AL (AA (pv 1) AB)) Zj)
  (CC (AC (Ac (Ah (Ae (AO GO cZ rfl mO kO bO .nil AL (AA (pv 2) (AA (Ag (v:=.ref aR) rfl hR rfl) AB))))) (AD Ap) AR)
  (AC (A3 (pv 0) (AO GF cZ rfl mF kF bF .nil AL (AA (AU (pv 0) rfl) AB)) rfl)
  (CC (AD (A3 (pv 0) (pv 2) rfl)))))),?_⟩
 refine⟨_,Zj,l,rows,Zj,RA,h0,h10,RO,λd1 H1 s1 hd1n iF=>?_⟩;have gU:p≠d1:=AJ hp hd1n;refine⟨_,Zj,p,C,dx,[],Zj,s1 _ _ hp,T.cl,T.nN,(by show 0<1000;decide),?_⟩;refine⟨d1,Aq (C7 rows),by rw[AE (Ne.symm gU)];exact iF,λo1=>?_⟩;refine⟨_,Zj,.inr ⟨r,aR,aV,Zj,hRT _,_,Zj,?_⟩⟩;rw[PR aq];refine AX ?_;have am:∀o,(upd (upd H1 p (.ins C dx (AY "numbers" (.ref d1) []))) d1 o) p=some (.ins C dx (AY "numbers" (.ref d1) [])):=λo=>by rw[AE gU,U]
 refine⟨_,Zj,p,C,dx,_,_,Zj,am _,T.cl,T.nN,Qz d1,d1,o1,C7 rows,Zj,U,by rw[KR];omega,λd2 H2 s2 hd2n hd2=>?_⟩;have npd2:p≠d2:=AJ (am _) hd2n;have gv:=s2 _ _ (am _);refine⟨_,Zj,p,C,dx,_,Zj,gv,T.cl,T.nF,(by show 1<1000;decide),?_⟩;refine⟨d2,C8 (AZ (C7 rows)),by rw[AE (Ne.symm npd2)];exact hd2,λo2=>?_⟩;have hp4:∀o,(upd (upd H2 p (.ins C dx (AY "firsts" (.ref d2) (AY "numbers" (.ref d1) [])))) d2 o) p=some (.ins C dx (AY "firsts" (.ref d2) (AY "numbers" (.ref d1) []))):=λo=>by rw[AE npd2,U]
 refine⟨_,Zj,_,Zj,p,C,dx,_,Zj,hp4 _,T.cl,T.nR,Nat.lt_of_le_of_lt (AV _ _ _) (by show 2<1000;decide),?_⟩;have nd12:d1≠d2:=AJ (U (H:=upd H1 p (.ins C dx (AY "numbers" (.ref d1) []))) (o:=.cH o1 (.dK (Aq (C7 rows))))) hd2n;refine k _ (λb o e hb=>?_) ⟨⟨dx,d1,o1,d2,o2,U,?_,?_⟩⟩
 ·rw[AE hb,AE,AE hb]
  ·refine s2 _ _ ?_;rw[AE (AJ e hd1n),AE hb];exact s1 _ _ e
  ·intro z;subst z
   have:(upd (upd H1 p (.ins C dx (AY "numbers" (.ref d1) []))) d1 (.cH o1 (.dK (Aq (C7 rows))))) b=some o:=by
    rw[AE (AJ e hd1n),AE hb];exact s1 _ _ e
   rw[hd2n]at this;cases this
 ·rw[AE (Ne.symm gU),AE nd12,AE (Ne.symm gU)];exact s2 _ _ U
 ·rw[AE (Ne.symm npd2),U]
end
structure Mt (P:Program) (w:World) (K:FG) (mg:SV) (base:Heap) (C:Vs) (m:Str) (k:Nat) (ps:Vp) (sp:Sp):Prop where
 ex:∃f fd,aB P w K mg base aL k f fd ps sp/\Fe K C m f/\Binds K fd ps []
noncomputable def Nb (ac:Aa):List (V×V):=ac.map λp=>(V.str p.1,V.int (p.2:Int))
noncomputable def BY (ac:Aa):List Nat:=((AZ ac).map (·.1)).mergeSort λa b=>decide (a<=b)
noncomputable def Ab (ac:Aa):List Nat:=(BY ac).filter Cp
noncomputable def FO (ac:Aa):List (V×V):=(Ab ac).map λn=>(V.str (Cu (AZ ac) n),V.int (n:Int))
theorem Di (ac:Aa):(BY ac).Perm ((AZ ac).map (·.1)):=List.mergeSort_perm _ _
theorem JX (ac:Aa):(BY ac).Pairwise (· <= ·):=by
 have:=List.pairwise_mergeSort (le:=λa b:Nat=>decide (a<=b)) (λa b c h1 h2=>by simp at h1 h2 ⊢;omega) (λa b=>by simp;omega) ((AZ ac).map (·.1));exact this.imp λh=>by simpa using h
theorem PU {ns:List Int} (hp:ns.Perm ((C8 (AZ ac)).map λkv=>match kv.1 with |Sum.inl i=>i |Sum.inr _=>0)) (hs:ns.Pairwise (· <= ·)):ns=(BY ac).map λn:Nat=>(n:Int):=by
 refine List.Perm.eq_of_pairwise (le:=(· <= ·)) (λa b _ _ h1 h2=>Int.le_antisymm h1 h2) hs ?_ ?_
 ·rw[List.pairwise_map];exact(JX ac).imp λh=>by omega
 ·have e:((C8 (AZ ac)).map λkv=>match kv.1 with |Sum.inl i=>i |Sum.inr _=>0)=((AZ ac).map (·.1)).map λn:Nat=>(n:Int):=by
   unfold C8;rw[map_map,map_map];rfl
  rw[e]at hp;exact hp.trans ((Di ac).symm.map _)
theorem mem_keysS {n:Nat}:n∈BY ac ↔ n∈(AZ ac).map (·.1):=(Di ac).mem_iff
theorem Ii (ac:Aa):(BY ac).length<=ac.length:=by
 rw[(Di ac).length_eq,AK];exact Es ac
section
inductive spRows (C:Vs) (vs:Vr) (H:Hp) (Q:VK) (_E:XK):Prop where
 |mk (p:Vs) (ac:Aa) (r:Str) (aZ:vs=[.ref p]) (bG:aE C H p ac r) (bJ:∀l as H',aA H H'->H' l=some (.lst (as.map V.ref))->aK H' as (Nb ac)->Q (.ref l) H')
theorem S4:AH ["self"] ["self"] (defScope Fi):=bH
theorem MS (ac:Aa):(Aq ac).map (λkv=>(kV kv.1,kv.2))=Nb ac:=by unfold Aq Nb;rw[map_map];rfl
theorem Q1 (F:aQ K "rows" "Kind.rows" Fi f fd) (B:Bl mg) (T:Dh K C):aB P w K mg base aL 1 f fd ["self"] (spRows C):=by
 refine F.m S4 λvs H Q E h=>?_;obtain⟨p,ac,r,rfl,KA,k⟩:=h;refine⟨Zj,λae A outer s hr=>?_⟩;obtain⟨dx,d1,o1,d2,o2,hp,h1,h2⟩:=KA.ex;refine⟨_,AD (AN (A9 (K6 Zj) Zj B.list Bm (AA (K4 PySem.F.slot_dict_items PySem.F.type_dict_items Oc (AU (pv 0) Zj)) AB))),?_⟩;refine⟨_,Zj,p,C,dx,_,_,Zj,hp,T.cl,T.nN,FM _ _ _,d1,Zj,.inl ⟨_,.inr ⟨o1,h1⟩⟩,d1,_,Zj,Zj,.inr ⟨o1,h1⟩,λv hv=>?_⟩;have s1:aA H (upd H v (L8 d1 v)):=AF (aA.refl _) hv;refine⟨v,d1,_,Zj,U,aA.rd s1 (.inr ⟨o1,h1⟩),λl as H' s2 _ hl ht=>?_⟩;rw[MS]at ht;exact k l as H' (s1.trans s2) hl ht
inductive spKnown (C:Vs) (vs:Vr) (H:Hp) (Q:VK) (_E:XK):Prop where
 |mk (p:Vs) (ac:Aa) (r:Str) (aZ:vs=[.ref p]) (bG:aE C H p ac r) (bJ:∀H',aA H H'->Q (.int (CA ((AZ ac).map (·.1)):Nat)) H')
theorem Q2:AH ["self"] ["self"] (defScope Ei):=bH
theorem PV (F:aQ K "known" "Kind.known" Ei f fd) (B:Bl mg) (T:Dh K C) (GU:Fn P w K mg base "union_of" 1 ["numbers"] (spUnionOf K)):aB P w K mg base aL 2 f fd ["self"] (spKnown C):=by
 obtain⟨fU,dU,GU,mU,kU,bU⟩:=GU.ex;refine F.m Q2 λvs H Q E h=>?_;obtain⟨p,ac,r,rfl,KA,k⟩:=h;refine⟨Zj,λae A outer s hr=>?_⟩;obtain⟨dx,d1,o1,d2,o2,hp,h1,h2⟩:=KA.ex;refine⟨_,AD (AN (AO GU hr Zj mU kU bU .nil AL (AA (A9 (K5 Zj) Zj B.list Bm (AA (AU (pv 0) Zj) AB)) AB))),?_⟩;refine⟨_,Zj,p,C,dx,_,_,Zj,hp,T.cl,T.nF,Ho _ _ _,d2,_,Zj,.inr ⟨o2,h2⟩,λl hl=>?_⟩;refine⟨l,(AZ ac).map (·.1),Zj,aJ.of (by rw[U];unfold C8 A1;rw[map_map,map_map];rfl),k _ (AF (aA.refl _) hl)⟩
inductive spMarks (C:Vs) (vs:Vr) (H:Hp) (Q:VK) (_E:XK):Prop where
 |mk (p:Vs) (ac:Aa) (r:Str) (aZ:vs=[.ref p]) (bG:aE C H p ac r) (bJ:ac.length<=60) (cY:∀l as H',aA H H'->H' l=some (.lst (as.map V.ref))->aK H' as (FO ac)->Q (.ref l) H')
theorem Q3:AH ["self"] ["self"] (defScope Eh):=bH
theorem Nd {as:List Vs}{ps:List (V×V)}{b:Vs}{p:V×V} (s:aA H H') (h:aK H as ps) (hb:H' b=some (.tup [p.1,p.2])):aK H' (as++[b]) (ps++[p]):=Paired.snoc (aK.same s h) hb
theorem PX (F:aQ K "marks" "Kind.marks" Eh f fd) (B:Bl mg) (T:Dh K C) (GM:Fn P w K mg base "is_mark" 1 ["number"] spIsMark):aB P w K mg base aL 2 f fd ["self"] (spMarks C):=by
 obtain⟨fM,dM,GM,mM,kM,bM⟩:=GM.ex;refine F.m Q3 λvs H Q E h=>?_;obtain⟨p,ac,r,rfl,KA,gi,k⟩:=h;refine⟨Zj,λae A outer s hr=>?_⟩;have hu:=Cc hr;obtain⟨dx,d1,o1,d2,o2,hp,h1,h2⟩:=KA.ex
 refine⟨_,AD (AN (BE ["self"] [some 0] qd qb qd Zj (BS (AM (JD Zj) Zj B.sorted NS (AA (AU (pv 0) Zj) AB)))
  (λ_ _ _ _ _ _=>Gj (Ae (AO GM hr rfl mM kM bM .nil AL (AA (pv 0) AB))))
  (λ_ _ _ _ _ _=>DS (AA (CL hu (MP K rfl (pv 1) rfl) (pv 0) (λ_ _=>rfl)) (AA (pv 0) AB))))),?_⟩
 have hle:(C8 (AZ ac)).length<=ac.length:=by unfold C8;rw[AK];exact Es ac
 refine⟨_,Zj,p,C,dx,_,_,Zj,hp,T.cl,T.nF,Ho _ _ _,d2,_,Zj,.inr ⟨o2,h2⟩,qe,λkv gG=>?_,λl ns hl hperm hsort=>?_⟩
 ·unfold C8 at gG;obtain⟨q,_,rfl⟩:=Zt.mp gG;exact⟨_,Zj⟩
 ·have en:=PU hperm hsort;subst en;have s1:aA H (upd H l (.lst (((BY ac).map λn:Nat=>(n:Int)).map V.int))):=AF (aA.refl _) hl;have exs:((BY ac).map λn:Nat=>(n:Int)).map V.int=A1 (BY ac):=(MQ _).symm
  refine⟨l,Zj,⟨_,aJ.of U⟩,Bp (K:=K) (a:=l) (xs:=A1 (BY ac))
   (λi ys H2=>∃as,ys=as.map V.ref/\aA H H2/\H2 l=some (.lst (A1 (BY ac)))/\aK H2 as ((((BY ac).take i).filter Cp).map λn=>(V.str (Cu (AZ ac) n),V.int (n:Int)))) ⟨[],rfl,s1,by rw[U,exs],.nil⟩
   (λi ys H2 _ ⟨_,_,_,e,_⟩=>aJ.of e) (λi ys H2 ⟨as,e,_,_,t⟩=>?_) ?_ ?_⟩
  ·have:=t.length;rw[e,AK,this,AK];have h3:(((BY ac).take i).filter Cp).length<=((BY ac).take i).length:=length_filter_le _ _;rw[ZD]at h3;have:=Ii ac;omega
  ·rintro i v ys H2 hi ⟨as,rfl,s2,eN,ht⟩;obtain⟨n,hn,rfl⟩:=MO hi;have hmem:n∈(AZ ac).map (·.1):=mem_keysS.mp (ZS hn);have et:((BY ac).take (i+1)).filter Cp=((BY ac).take i).filter Cp++(if Cp n then [n]else []):=PySem.take_succ_filter Cp _ i n hn;refine⟨_,Zj,n,Zj,_,Zj,?_⟩;refine Bj (λhm=>?_) (λhm=>?_)
   ·refine⟨_,Zj,p,C,dx,_,_,Zj,s2 _ _ hp,T.cl,T.nF,Ho _ _ _,_,Zj,d2,_,Zj,.inl ⟨_,Sum.inl (n:Int),aA.rd s2 (.inr ⟨o2,h2⟩),Zj,(KU hmem).symm⟩,_,Zj,fg,λb hb=>?_⟩;refine⟨as++[b],by rw[Zw];rfl,AF s2 hb,by rw[AE (AJ eN hb)];exact eN,?_⟩;rw[et,hm,Zr rfl,Zw];exact Nd (AF (aA.refl _) hb) ht U
   ·refine⟨as,Zj,s2,eN,?_⟩;rw[et,Zs hm,Zv];exact ht
  ·rintro ys H2 ⟨as,rfl,s2,_,ht⟩ q hq
   have el:(BY ac).take (A1 (BY ac)).length=BY ac:=by
    have:(A1 (BY ac)).length=(BY ac).length:=by unfold A1;rw[AK]
    rw[this];exact ZE
   rw[el]at ht;exact k q as _ (AF s2 hq) U (aK.same (AF (aA.refl _) hq) ht)
end
section
theorem aE.ins {p:Vs}{r:Str} (h:aE C H p ac r):∃dx d1 d2,H p=some (.ins C dx (Hn d1 d2 r)):=by
 obtain⟨dx,d1,o1,d2,o2,a,_⟩:=h.ex;exact⟨dx,d1,d2,a⟩
end
theorem FP {x:Int}{n:Nat} (h0:0<=x) (h:x<2 ^ n):Builtin.Int.intBits x<=n:=by
 obtain⟨m,rfl⟩:=Int.eq_ofNat_of_zero_le h0;have hm:m<2 ^ n:=by exact_mod_cast h
 rcases Nat.eq_zero_or_pos m with e |hp
 ·subst e;exact Nat.zero_le _
 ·rw[F8 hp];exact(Nat.log2_lt qe).mpr hm
theorem S5 {xs:Vr}{i:Int} (h0:0<=i) (h1:i<xs.length):∃v,iz xs i=some v/\xs[i.toNat]?=some v:=by
 have aX:i.toNat<xs.length:=by omega
 refine⟨xs[i.toNat],?_,Z7 aX⟩;unfold iz iE;rw[Zr h0,Zr h1];exact Z7 aX
structure UY (d:Vs) (H H':Hp):Prop where
 old:∀b o,H b=some o->b≠d->H' b=some o
 dice:∃a b:Int,H' d=some (.lst [.int a,.int b])
section
inductive spCell (K:FG) (vs:Vr) (H:Hp) (Q:VK) (_E:XK):Prop where
 |mk (a:Vs) (ns:List Int) (k:Int) (aZ:vs=[.ref a,.int k]) (bG:aJ K H a (ns.map V.int)) (bJ:ns.length<=63) (cY:0<=k) (dw:∀(v:Int) H',aA H H'->Q (.int v) H')
theorem S6:AH ["_law_script", "_law_k"] ["_law_script", "_law_k"] (defScope Hj):=bH
theorem Q4 (F:aQ K "_law_cell" "_law_cell" Hj f fd) (B:Bl mg):aB P w K mg base aL 1 f fd ["_law_script", "_law_k"] (spCell K):=by
 refine F.m S6 λvs H Q E h=>?_;obtain⟨a,ns,kk,rfl,hS,h63,hk,k⟩:=h;refine⟨Zj,λae A outer s hr=>?_⟩;have hu:=hr.units
 refine⟨_,AC (Ac (AW (So K Zj hu) (pv 0) (CB AB) (AT _)) (AD (AN (Ak Fb (pv 1) AI))) AR)
  (AD (AN (Ak CT (Bi (BP K rfl) (pv 0) (Ak Dq (pv 1) (AM (Av K rfl) rfl B.len PySem.boot_len (AA (pv 0) AB))) (λ_ _=>rfl))
   (Ak Fb (Ak Ir (pv 1) (AM (Av K rfl) rfl B.len PySem.boot_len (AA (pv 0) AB))) AI)))),?_⟩
 refine⟨_,Zj,Nat.zero_le _,λp hp=>?_⟩;have s1:aA H (upd H p (.lst [])):=AF (aA.refl _) hp;refine⟨a,p,ns,[],Zj,Zj,s1.seq hS,aJ.of U,_,Zj,?_⟩;refine Bj (λh0=>?_) (λh0=>?_)
 ·exact⟨_,Zj,_,_,Zj,Zj,.inr ⟨qc,qc⟩,k _ _ s1⟩
 ·have aw:ns≠ []:=λz=>h0 (ZN z);have hpos:0<ns.length:=List.length_pos_iff.mpr aw;have hl:(ns.map V.int).length=ns.length:=AK _;have hm0:0<=kk % ((ns.map V.int).length:Int):=Int.emod_nonneg _ (by rw[hl];omega);have hm1:kk % ((ns.map V.int).length:Int)<((ns.map V.int).length:Nat):=Int.emod_lt_of_pos _ (by rw[hl];omega);obtain⟨v,hv,gg⟩:=S5 (xs:=ns.map V.int) hm0 hm1
  obtain⟨n,rfl⟩:∃n,v=V.int n:=by
   rw[ZH]at gg;cases e:ns[(kk % ((ns.map V.int).length:Int)).toNat]? with
   |none=>rw[e]at gg;cases gg
   |some n=>rw[e]at gg;exact⟨n,(Option.some.inj gg).symm⟩
  refine⟨_,Zj,_,Zj,_,Zj,a,_,Zj,.inl (s1.seq hS),_,_,Zj,Zj,(by rw[hl];omega),a,_,_,_,Zj,Zj,s1.seq hS,hv,?_⟩;exact⟨_,Zj,_,Zj,a,_,Zj,.inl (s1.seq hS),_,_,Zj,Zj,⟨by rw[hl];omega,by rw[hl];omega⟩,_,_,Zj,Zj,.inr ⟨qc,qc⟩,_,_,Zj,Zj,k _ _ s1⟩
inductive spDrawn (vs:Vr) (H:Hp) (Q:VK) (_E:XK):Prop where
 |mk (c k:Int) (aZ:vs=[.int c,.int k]) (bG:∀r:Int,0<=r->Q (.int r) H)
theorem scDrawn:AH ["_law_cell_here", "_law_k", "_law_more"] ["_law_cell_here", "_law_k"] (defScope Fq):=bH
theorem PY (F:aQ K "_law_drawn" "_law_drawn" Fq f fd):aB P w K mg base aL 1 f fd ["_law_cell_here", "_law_k"] spDrawn:=by
 refine F.m scDrawn λvs H Q E h=>?_;obtain⟨c,kk,rfl,k⟩:=h;refine⟨Zj,λae A outer s hr=>?_⟩
 refine⟨_,AC (Am (i:=2) scDrawn.nd Zj (Or.inl Zj) (Ak Dq (Ak CT (Ak Fb (pv 0) AI) (Ak Fb (Ak CT (pv 1) AI) AI)) AI))
  (AC (Am (i:=2) scDrawn.nd rfl (Or.inl rfl) (Ak Dq (Ak JF (pv 2) (pv 2)) AI))
  (AC (Am (i:=2) scDrawn.nd rfl (Or.inl rfl) (Ak JF (Ak JF (Ak CT (Ak Dq (pv 2) AI) AI) (Ak CT (Ak Oh (pv 2) AI) AI)) (pv 2)))
  (AD (AN (Ak Dq (pv 2) AI))))),?_⟩
 refine⟨_,Zj,_,_,Zj,Zj,.inr ⟨qc,qc⟩,_,Zj,_,_,Zj,Zj,_,_,Zj,Zj,.inr ⟨qc,qc⟩,_,_,Zj,Zj,_,_,Zj,Zj,(by show(0:Int)<_;decide),?_⟩;generalize ha:(c*6364136223846793005+(kk+1)*1442695040888963407) % 340282366920938463463374607431768211507=m1
 have h1:0<=m1/\m1<2 ^ 130:=by
  rw[←ha];exact⟨Int.emod_nonneg _ qc,Int.lt_trans (Int.emod_lt_of_pos _ qc) qc⟩
 have b1:Builtin.Int.intBits m1<=2 ^ 20:=Nat.le_trans (FP h1.1 h1.2) qc;subst ha;refine⟨_,Zj,_,Zj,_,_,Zj,Zj,⟨b1,b1⟩,_,_,Zj,Zj,(by show(0:Int)<_;decide),?_⟩;generalize hb:(c*6364136223846793005+(kk+1)*1442695040888963407) % 340282366920938463463374607431768211507*((c*6364136223846793005+(kk+1)*1442695040888963407) % 340282366920938463463374607431768211507) % 340282366920938463463374607431768211297=m2
 have h2:0<=m2/\m2<2 ^ 130:=by
  rw[←hb];exact⟨Int.emod_nonneg _ qc,Int.lt_trans (Int.emod_lt_of_pos _ qc) qc⟩
 have b2:Builtin.Int.intBits m2<=2 ^ 20:=Nat.le_trans (FP h2.1 h2.2) qc
 have p1:0<=m2 % 18446744073709551557+1/\m2 % 18446744073709551557+1<2 ^ 65:=by
  have:=Int.emod_nonneg m2 (show(18446744073709551557:Int)≠0 by decide);have:=Int.emod_lt_of_pos m2 (show(0:Int)<18446744073709551557 by decide);omega
 have p2:0<=m2 / 18446744073709551557+1/\m2 / 18446744073709551557+1<2 ^ 131:=by
  have h3:=Int.ediv_nonneg h2.1 (show(0:Int)<=18446744073709551557 by decide);have h4:=Int.ediv_le_self (18446744073709551557) h2.1;omega
 have p3:0<=(m2 % 18446744073709551557+1)*(m2 / 18446744073709551557+1):=Int.mul_nonneg p1.1 p2.1
 have p4:(m2 % 18446744073709551557+1)*(m2 / 18446744073709551557+1)<2 ^ 196:=by
  have:=Int.mul_lt_mul' (Int.le_of_lt p1.2) p2.2 p2.1 (show(0:Int)<2 ^ 65 by decide);exact Int.lt_of_lt_of_le this qc
 have c1:Builtin.Int.intBits (m2 % 18446744073709551557+1)<=2 ^ 20:=Nat.le_trans (FP p1.1 p1.2) qc;have c2:Builtin.Int.intBits (m2 / 18446744073709551557+1)<=2 ^ 20:=Nat.le_trans (FP p2.1 p2.2) qc;have c3:Builtin.Int.intBits ((m2 % 18446744073709551557+1)*(m2 / 18446744073709551557+1))<=2 ^ 20:=Nat.le_trans (FP p3 p4) qc;subst hb;refine⟨_,Zj,_,_,Zj,Zj,(by show(0:Int)<_;decide),_,_,Zj,Zj,_,Zj,_,_,Zj,Zj,⟨qc,PyProof.noPylong_of_log2 qb⟩,_,_,Zj,Zj,_,_,Zj,Zj,⟨c1,c2⟩,?_⟩;refine⟨_,Zj,_,_,Zj,Zj,⟨c3,b2⟩,?_⟩;exact⟨_,Zj,_,_,Zj,Zj,(by show(0:Int)<_;decide),k _ (Int.emod_nonneg _ qc)⟩
inductive spRoll (vs:Vr) (H:Hp) (Q:VK) (_E:XK):Prop where
 |mk (d:Vs) (a b m:Int) (aZ:vs=[.ref d,.int m]) (bG:H d=some (.lst [.int a,.int b])) (bJ:0<m) (cY:m<1073741824) (dw:∀r a' b':Int,0<=r->r<m->Q (.int r) (upd H d (.lst [.int a',.int b'])))
theorem scRoll:AH ["_law_dice", "_law_many", "_law_told"] ["_law_dice", "_law_many"] (defScope Hk):=bH
theorem Q5 (F:aQ K "_law_roll" "_law_roll" Hk f fd) (GD:Fn P w K mg base "_law_drawn" 1 ["_law_cell_here", "_law_k"] spDrawn):aB P w K mg base aL 2 f fd ["_law_dice", "_law_many"] spRoll:=by
 obtain⟨fD,dD,GD,mD,kD,bD⟩:=GD.ex;refine F.m scRoll λvs H Q E h=>?_;obtain⟨d,a,b,m,rfl,hd,m0,m1,k⟩:=h;refine⟨Zj,λae A outer s hr=>?_⟩
 refine⟨_,AC (Ac (AW OM (Bi (BP K Zj) (pv 0) AI (λ_ _=>rfl)) (Ak OJ AI AI) (AT _))
   (AC (Am (i:=2) scRoll.nd rfl (Or.inl rfl) (Ak Dq (Bi (BP K rfl) (pv 0) AI (λ_ _=>rfl)) (pv 1)))
   (AC (Iq (Ak Ir (Bi (BP K rfl) (pv 0) AI (λ_ _=>rfl)) (pv 1)) (OG (pv 0) AI Jr))
   (AD (AN (pv 2))))) AR)
  (AC (Iq (Ak CT (Bi (BP K rfl) (pv 0) AI (λ_ _=>rfl)) AI) (OG (pv 0) AI Jr))
  (AD (AN (Ak Dq (Ak Ir (AO GD hr rfl mD kD bD .nil AL (AA (Bi (BP K rfl) (pv 0) AI (λ_ _=>rfl)) (AA (Bi (BP K rfl) (pv 0) AI (λ_ _=>rfl)) AB))) AI) (pv 1))))),?_⟩
 refine⟨_,Zj,d,_,0,.int a,Zj,Zj,aJ.of hd,CK (j:=0) Zj,_,_,Zj,Zj,⟨qc,qc,qc⟩,_,_,Zj,Zj,_,Zj,?_⟩;refine Bj (λ_=>?_) (λ_=>?_)
 ·refine⟨_,Zj,d,_,0,.int a,Zj,Zj,aJ.of hd,CK (j:=0) Zj,_,Zj,_,_,Zj,Zj,m0,?_⟩;refine⟨_,Zj,d,_,0,.int a,Zj,Zj,aJ.of hd,CK (j:=0) Zj,_,Zj,_,_,Zj,Zj,⟨m0,m1⟩,_,Zj,d,_,0,0,Zj,Zj,hd,Zj,?_⟩;exact⟨_,Zj,k _ (a / m) b (Int.emod_nonneg _ qe) (Int.emod_lt_of_pos _ m0)⟩
 ·refine⟨_,Zj,d,_,1,.int b,Zj,Zj,aJ.of hd,CK (j:=1) Zj,_,_,Zj,Zj,_,Zj,d,_,1,1,Zj,Zj,hd,Zj,?_⟩;have hd2:(upd H d (.lst ([V.int a,V.int b].set 1 (V.int (b+1))))) d=some (.lst [.int a,.int (b+1)]):=U;refine⟨_,Zj,d,_,0,.int a,Zj,Zj,aJ.of hd2,CK (j:=0) Zj,_,Zj,d,_,1,.int (b+1),Zj,Zj,aJ.of hd2,CK (j:=1) Zj,_,_,Zj,λr hr0=>?_⟩;refine⟨_,_,Zj,Zj,⟨qc,qc⟩,_,Zj,_,_,Zj,Zj,m0,?_⟩;exact k _ a (b+1) (Int.emod_nonneg _ qe) (Int.emod_lt_of_pos _ m0)
end
section
inductive spRounds (K:FG) (vs:Vr) (H:Hp) (Q:VK) (_E:XK):Prop where
 |mk (a:Vs) (ns:List Int) (aZ:vs=[.ref a,.int 4]) (bG:aJ K H a (ns.map V.int)) (bJ:ns.length<=63) (cY:∀(l:Vs) (as:List Vs) H',aA H H'->H' l=some (.lst (as.map V.ref))->as.Nodup->l∉ as->as.length<=4->(∀b∈as,H b=none/\∃x y:Int,H' b=some (.lst [.int x,.int y]))->Q (.ref l) H')
theorem PZ:AH ["_law_script", "_law_most"] ["_law_script", "_law_most"] (defScope Eo):=bH
theorem Nf (F:aQ K "_law_rounds" "_law_rounds" Eo f fd) (B:Bl mg) (GC:Fn P w K mg base "_law_cell" 1 ["_law_script", "_law_k"] (spCell K)):aB P w K mg base aL 2 f fd ["_law_script", "_law_most"] (spRounds K):=by
 obtain⟨fC,dC,GC,mC,kC,bC⟩:=GC.ex;refine F.m PZ λvs H Q E h=>?_;obtain⟨a,ns,rfl,hS,h63,k⟩:=h;refine⟨Zj,λae A outer s hr=>?_⟩
 refine⟨_,AD (AN (BE ["_law_script"] [some 0] qd qb qd rfl
  (IC rfl B.range (AA (AM (Mq rfl) rfl B.max S0 (AA AI (AA (AM (Mr rfl) rfl B.min Sz (AA (pv 1) (AA (AM (Av K rfl) rfl B.len PySem.boot_len (AA (pv 0) AB)) AB))) AB))) AB))
  (λ_ _ _ _ _ _=>BM)
  (λ_ _ _ _ _ _=>CB (AA (AO GC hr rfl mC kC bC .nil AL (AA (pv 1) (AA (pv 0) AB))) (AA AI AB))))),?_⟩
 have hl:(ns.map V.int).length=ns.length:=AK _;refine⟨_,Zj,_,Zj,a,_,Zj,.inl hS,_,_,Zj,_,_,Zj,_,Zj,?_,?_,?_⟩
 ·split <;> split <;> omega
 ·split <;> split <;> omega
 ·generalize hn:(if (if (((ns.map V.int).length:Nat):Int)<4 then (((ns.map V.int).length:Nat):Int)else 4)>1 then (if (((ns.map V.int).length:Nat):Int)<4 then (((ns.map V.int).length:Nat):Int)else 4)else 1).toNat=n
  have n5:n<=4:=by
   rw[←hn];split <;> split <;> omega
  refine HN (lo:=0) (n:=n) (λi ys H2=>∃as:List Vs,ys=as.map V.ref/\as.length=i/\i<=4/\aA H H2/\as.Nodup/\∀b∈as,H b=none/\∃x y:Int,H2 b=some (.lst [.int x,.int y])) ⟨[],rfl,rfl,qc,aA.refl _,nodup_nil,λb hb=>nomatch hb⟩ ?_ ?_ ?_
  ·rintro i ys H2 ⟨as,rfl,e,h5,_⟩;rw[AK];omega
  ·rintro i ys H2 hi ⟨as,rfl,e,h5,s2,nd,hb⟩;refine⟨_,Zj,_,Zj,a,ns,_,Zj,s2.seq hS,h63,qe,λv H3 s3=>⟨fg,λp hp=>?_⟩⟩;refine⟨as++[p],by rw[Zw];rfl,by rw[ZJ,e];rfl,qe,AF (s2.trans s3) hp,?_,λb iQ=>?_⟩
   ·refine List.nodup_append.mpr ⟨nd,Zu.mpr ⟨not_mem_nil,nodup_nil⟩,?_⟩;intro x hx y hy;rw[mem_singleton]at hy;subst hy;obtain⟨_,x1,y1,e1⟩:=hb x hx;exact AJ (s3 _ _ e1) hp
   ·rcases mem_append.mp iQ with z |z
    ·obtain⟨h0,x1,y1,e1⟩:=hb b z;exact⟨h0,x1,y1,AF s3 hp _ _ e1⟩
    ·rw[mem_singleton]at z;subst z;refine⟨?_,v,0,U⟩;cases e:H b with
     |none=>rfl
     |some o =>
      have:=s3 _ _ (s2 _ _ e);rw[this]at hp;cases hp
  ·rintro ys H2 ⟨as,rfl,e,h5,s2,nd,hb⟩ l hl;refine k l as _ (AF s2 hl) U nd ?_ qe λb iQ=>?_
   ·intro z;obtain⟨_,x,y,e1⟩:=hb l z;rw[e1]at hl;cases hl
   ·obtain⟨h0,x,y,e1⟩:=hb b iQ;exact⟨h0,x,y,AF (aA.refl _) hl _ _ e1⟩
end
end Mk
end
section
namespace L2
open PySem
def UZ (t u:TS):TS:=λD σ H=>∃G:St->Hp->Prop,(∀R:St->Hp->Prop,(∀σ H,G σ H->R σ H)->t { D with nx:=R } σ H)/\∀σ H,G σ H->u D σ H
theorem Gq {X:Cx}{st:Stmt}{rest:List Stmt}{t u:TS} (h1:PS X st t) (h2:eI X rest u):eI X (st::rest) (UZ t u):=λaa s σ H D I ⟨_,a,b⟩=>AC h1 h2 aa s σ H D I (a (u D) b)
end L2
namespace Mk
open PySem L2 MK
def SameT (H H':Hp):Prop:=∀b xs,H b=some (.tup xs)->H' b=some (.tup xs)
theorem SameT.of (s:aA H H'):SameT H H':=λb xs e=>s _ _ e
theorem aK.eh {as:List Vs}{ps:List (V×V)} (s:SameT H H') (h:aK H as ps):aK H' as ps:=Paired.mapP h λ_ _ e=>s _ _ e
theorem gP.eh {v:V}{th:Th} (s:SameT H H') (h:gP H v th):gP H' v th:=by
 cases th with
 |aT=>exact h
 |num n=>exact h
 |nms ns=>obtain⟨a,e,h⟩:=h;exact⟨a,e,s _ _ h⟩
theorem eT.eh {b:Vs}{r:Str×Th} (s:SameT H H') (h:eT H b r):eT H' b r:=by
 obtain⟨tv,e,t⟩:=h;exact⟨tv,s _ _ e,t.eh s⟩
theorem La {as:List Vs}{rows:List (Str×Th)} (s:SameT H H') (h:Paired (eT H) as rows):Paired (eT H') as rows:=Paired.mapP h λ_ _ e=>e.eh s
noncomputable def Fw (ac:Aa):List PyData:=ac.map λp=>.tuple [.str p.1,.int (p.2:Int)]
theorem Pa {b:Vs}{x:Str}{n:Int} (h:H b=some (.tup [.str x,.int n])):Cd K H (.tuple [.str x,.int n]) (.ref b):=by
 rw[Cd];refine⟨b,_,Zj,bZ.of h,?_⟩;rw[BL];refine⟨_,_,Zj,by rw[Cd],?_⟩;rw[BL];refine⟨_,_,Zj,by rw[Cd],?_⟩;rw[BL]
theorem Hq:∀ {ac:Aa}{bs:List Vs},aK H bs (Nb ac)->BL K H (Fw ac) (bs.map V.ref)
 | [],bs,h=>by
  have:bs=[]:=List.eq_nil_of_length_eq_zero (by rw[h.length];rfl);subst this;show BL K H [] [];rw[BL]
 |p::r,[],h=>by have:=h.length;simp[Nb]at this
 |p::r,b::bs,h=>by
  have hh:H b=some (.tup [.str p.1,.int (p.2:Int)])/\aK H bs (Nb r):=by
   cases h with
   |cons h1 h2=>exact⟨h1,h2⟩
  show BL K H (.tuple [.str p.1,.int (p.2:Int)]::Fw r) (V.ref b::bs.map V.ref);rw[BL];exact⟨_,_,Zj,Pa hh.1,Hq hh.2⟩
theorem DN {l:Vs}{ds:List PyData}{xs:Vr} (h:H l=some (.lst xs)) (d:BL K H ds xs):Cd K H (.list ds) (.ref l):=by
 rw[Cd];exact⟨l,xs,Zj,aJ.of h,d⟩
theorem Pb {x:Str} (h:x.cps.all (· < 128)=true):PyData.strOk x=true:=by
 unfold PyData.strOk;simp only[Array.all_eq_true,decide_eq_true_eq]at h ⊢;intro i hi;have:=h i hi;simp;omega
theorem Pc {ds:List PyData} (h:∀d∈ds,d.canLay0=true):PyData.canLayAll0 ds=true:=by
 induction ds with
 |nil=>rfl
 |cons a r ih=>rw[PyData.canLayAll0,h a ZK,ih λd hd=>h d (ZT _ hd)];rfl
theorem S7 {ds:List PyData}{k:Nat} (h:∀d∈ds,d.depth<=k):PyData.depthAll ds<=k:=by
 induction ds with
 |nil=>rw[PyData.depthAll];exact Nat.zero_le _
 |cons a r ih=>rw[PyData.depthAll];exact Nat.max_le.mpr ⟨h a ZK,ih λd hd=>h d (ZT _ hd)⟩
theorem KW {ds:List PyData} (h:∀d∈ds,d.canLay0=true/\d.depth<=60):SeqAt.shaped (.list ds)=true:=by
 unfold SeqAt.shaped;rw[Bool.and_eq_true,decide_eq_true_eq];refine⟨by rw[PyData.canLay0];exact Pc λd hd=>(h d hd).1,?_⟩;rw[PyData.depth];have:=S7 (k:=60) λd hd=>(h d hd).2;omega
theorem Pd {x:Str}{n:Int} (h:x.cps.all (· < 128)=true):(PyData.tuple [.str x,.int n]).canLay0=true/\(PyData.tuple [.str x,.int n]).depth<=60:=by
 refine⟨?_,?_⟩
 ·rw[PyData.canLay0];refine Pc λd hd=>?_;simp only[mem_cons,not_mem_nil,or_false]at hd;rcases hd with rfl |rfl
  ·rw[PyData.canLay0];exact Pb h
  ·rw[PyData.canLay0]
 ·simp only[PyData.depth,PyData.depthAll];omega
theorem GJ (h:∀p∈ac,p.1.cps.all (· < 128)=true):SeqAt.shaped (.list (Fw ac))=true:=KW λd hd=>by
 obtain⟨p,hp,rfl⟩:=Zt.mp hd;exact Pd (h p hp)
theorem Q6 (x:Str) (ns:Vp):ip (.str x) (ns.map V.str)=ns.any (· == x):=by
 unfold ip;rw[List.any_map];rfl
theorem Pe {p:Str×Nat} (nd:(ac.map (·.1)).Nodup) (h:p∈ac):look ac p.1=p.2:=by
 induction ac with
 |nil=>cases h
 |cons q r ih =>
  rw[map_cons,Zu]at nd;unfold look;by_cases e:q.1=p.1
  ·rw[List.find?_cons_of_pos (by simpa using e)];rcases mem_cons.mp h with z |z
   ·subst z;rfl
   ·exact absurd (Zt.mpr ⟨p,z,e.symm⟩) nd.1
  ·rw[List.find?_cons_of_neg (by simpa using e)];rcases mem_cons.mp h with z |z
   ·subst z;exact absurd Zj e
   ·exact ih nd.2 z
end Mk
end
section
namespace L2
open PySem
theorem Ij {X:Cx} (K:FG) (hK:X.K=K):Be X (.builtin "isinstance") (λxs H Q=>∃v C t b,xs=[v,.ref C]/\dG K H v t/\W.kitOne K t (.ref C)=some b/\Q (.bl b) H):=by
 subst hK;intro aa s σ H xs us Q I r h;obtain⟨v,C,t,b,rfl,ty,hk,q⟩:=h;obtain⟨u,uT,rfl,ru,iW⟩:=Ey r;cases iW;exact IG I ru ty hk λtk=>⟨.bl b,H,I.tok tk,Zj,q⟩
end L2
namespace Mk
open PySem L2 MK
structure KIsi (K:FG) (C:Vs):Prop where
 cl:gQ K C
 ha:W.findIn K (.ref C) "__class__" = some (some (.builtin "object.__class__"))
 hn:W.specialIn K (.builtin "object.__class__") "__get__" = some (some (.builtin "getset_descriptor.__get__"))
 ht:W.takesIn K (.builtin "object.__class__")=some true
 hm:W.mroIn K C (.type "object")=some true
 nl:W.kitOne K (.type "list") (.ref C)=some false
theorem KIsi.ty {a dx:Vs}{fs:List (Str×V)} (k:KIsi K C) (e:H a=some (.ins C dx fs)):dG K H (.ref a) (.ref C):=.ins e k.cl k.ha k.hn k.ht k.hm
theorem FQ (K:FG) (C:Vs):W.kitOne K (.ref C) (.ref C)=some true:=by
 unfold W.kitOne;rw[Zr (by simp)]
section
theorem Pf:AH ["self", "name"] ["self", "name"] (defScope CM):=bH
inductive spRest (C:Vs) (vs:Vr) (H:Hp) (Q:VK) (_E:XK):Prop where
 |mk (p:Vs) (ac:Aa) (r:Str) (aZ:vs=[.ref p]) (bG:aE C H p ac r) (bJ:Q (.str r) H)
theorem S8:AH ["self"] ["self"] (defScope Fj):=bH
theorem Q7 (F:aQ K "rest" "Kind.rest" Fj f fd) (T:Dh K C):aB P w K mg base aL 1 f fd ["self"] (spRest C):=by
 refine F.m S8 λvs H Q E h=>?_;obtain⟨p,ac,r,rfl,KA,k⟩:=h;refine⟨Zj,λae A outer s hr=>?_⟩;obtain⟨dx,d1,o1,d2,o2,hp,h1,h2⟩:=KA.ex;refine⟨_,AD (AN (AU (pv 0) Zj)),?_⟩;exact⟨_,Zj,p,C,dx,_,_,Zj,hp,T.cl,T.nR,Fv _ _ _,k⟩
theorem Pg {p q:Str×Nat}:PyData.eqv (.tuple [.str p.1,.int (p.2:Int)]) (.tuple [.str q.1,.int (q.2:Int)])=decide (p=q):=by
 rw[Bool.eq_iff_iff];simp only[PyData.eqv,PyData.eqvAll,Bool.and_true,Bool.and_eq_true,decide_eq_true_eq,beq_iff_eq];constructor
 ·rintro⟨a,b⟩;exact Prod.ext a (by exact_mod_cast b)
 ·rintro rfl;exact⟨Zj,Zj⟩
theorem KY:∀(a b:Aa),PyData.eqv (.list (Fw a)) (.list (Fw b))=decide (a=b)
 | [],[]=>by simp[Fw,PyData.eqv,PyData.eqvAll]
 | [],q::r=>by simp[Fw,PyData.eqv,PyData.eqvAll]
 |p::r,[]=>by simp[Fw,PyData.eqv,PyData.eqvAll]
 |p::r,q::s=>by
  have ih:=KY r s
  have h:PyData.eqv (.list (Fw (p::r))) (.list (Fw (q::s)))=(PyData.eqv (.tuple [.str p.1,.int (p.2:Int)]) (.tuple [.str q.1,.int (q.2:Int)])&&PyData.eqv (.list (Fw r)) (.list (Fw s))):=by
   simp only[Fw,map_cons,PyData.eqv,PyData.eqvAll]
  rw[h,Pg,ih,Bool.eq_iff_iff];simp
def jq (ac:Aa):Prop:=∀p∈ac,p.1.cps.all (· < 128)=true
inductive spEqK (C:Vs) (vs:Vr) (H:Hp) (Q:VK) (_E:XK):Prop where
 |mk (a b:Vs) (ac:Aa) (r:Str) (aZ:vs=[.ref a,.ref b]) (bG:aE C H a ac r) (bJ:jq ac) (cY:((∃xs,H b=some (.lst xs)/\∀H',aA H H'->Q (.bl false) H')\/∃(ff:Aa) (r':Str),aE C H b ff r'/\jq ff/\∀H',aA H H'->Q (.bl (decide (ac=ff/\r=r'))) H'))
theorem Va:AH ["self", "other"] ["self", "other"] (defScope JR):=bH
theorem S9 (F:aQ K "__eq__" "Kind.__eq__" JR f fd) (B:Bl mg) (T:Dh K C) (KI:KIsi K C) (mC:mg "Kind" = some (.ref C)) (GR:Mt P w K mg base C "rows" 1 ["self"] (spRows C)):aB P w K mg base aL 2 f fd ["self", "other"] (spEqK C):=by
 obtain⟨fR,dR,GR,mR,bR⟩:=GR.ex;refine F.m Va λvs H Q E h=>?_;obtain⟨a,b,ac,r,rfl,KA,h1,h⟩:=h;refine⟨Zj,λae A outer s hr=>?_⟩;have hu64:=hr.units
 refine⟨_,AD (AN (BQ (AM (Ij K Zj) Zj B.eA BR (AA (pv 1) (AA (Ag (v:=.ref C) Zj mC Zj) AB)))
  (BQ (BU (Of K rfl hu64) (An (pv 0) T.cl mR GR hr bR .nil AL) (An (pv 1) T.cl mR GR hr bR .nil AL) (AT _))
   (Bf (BU Cj (AU (pv 0) rfl) (AU (pv 1) rfl) (AT _)))))),?_⟩
 obtain⟨dx,d1,d2,hp⟩:=KA.ins;rcases h with⟨xs,hb,k⟩ |⟨ff,r',KB,h2,k⟩
 ·refine⟨_,Zj,_,C,_,false,Zj,.lst hb,KI.nl,_,Zj,?_⟩;exact AX (k _ (aA.refl _))
 ·obtain⟨dy,e1,e2,hq⟩:=KB.ins;refine⟨_,Zj,_,C,_,true,Zj,KI.ty hq,FQ K C,_,Zj,?_⟩;refine Af ?_;refine⟨_,Zj,a,dx,_,Zj,hp,(B2 _ _ _),a,ac,r,Zj,KA,λl as H1 s1 hl ht=>?_⟩;refine⟨_,Zj,b,dy,_,Zj,s1 _ _ hq,(B2 _ _ _),b,ff,r',Zj,KB.same s1,λl2 as2 H2 s2 eN ht2=>?_⟩;refine⟨_,_,DN (s2 _ _ hl) (Hq (aK.same s2 ht)),DN eN (Hq ht2),GJ h1,GJ h2,_,Zj,?_⟩;rw[KY];have iB:=s1.trans s2;refine Bj (λe=>?_) (λe=>?_)
  ·have e':ac=ff:=ZW e;refine⟨_,Zj,a,C,dx,_,_,Zj,iB _ _ hp,T.cl,T.nR,Fv _ _ _,_,Zj,b,C,dy,_,_,Zj,iB _ _ hq,T.cl,T.nR,Fv _ _ _,Zj,?_⟩;have:=k _ iB;have ev:decide (V.str r=V.str r')=decide (ac=ff/\r=r'):=decide_eq_decide.mpr ⟨λz=>⟨e',V.str.inj z⟩,λz=>by rw[z.2]⟩;rw[ev];exact this
  ·have:=k _ iB;rw[ZQ (λz=>e (ZN z.1))]at this;exact this
end
theorem Ph (ac:Aa):CA ((AZ ac).map (·.1))=CA (ac.map (·.2)):=by
 refine Nat.eq_of_testBit_eq λk=>?_;rw[IY,IY,Bool.eq_iff_iff,any_eq_true,any_eq_true];constructor
 ·rintro⟨n,hn,hb⟩;obtain⟨q,hq,rfl⟩:=Zt.mp hn;exact⟨q.1,Zt.mpr ⟨_,Ih hq,Zj⟩,hb⟩
 ·rintro⟨n,hn,hb⟩;obtain⟨p,hp,rfl⟩:=Zt.mp hn;exact⟨p.2,NZ hp,hb⟩
theorem Ng {fs:List (Nat×Str)}{n:Nat} (h:n∈fs.map (·.1)):(n,Cu fs n)∈fs:=by
 unfold Cu;obtain⟨q,hq⟩:=Option.isSome_iff_exists.mp (Hm h);rw[hq];have e:q.1=n:=by simpa using List.find?_some hq
 have hm:=List.mem_of_find?_eq_some hq;subst e;exact hm
theorem Vb:¬ (("own_kind" : Str) = "bits"):=by decide +kernel
noncomputable def FR (kp:Vs) (n:Nat):List (Str×V):=AY "bits" (.int (n:Int)) (AY "own_kind" (.ref kp) [])
theorem FS (kp:Vs) (n:Nat):(FR kp n).lookup ("own_kind" : Str)=some (.ref kp):=by
 unfold FR;rw[AG,Zs Vb,AG,Zr rfl]
theorem FU (kp:Vs) (n:Nat):(FR kp n).lookup ("bits" : Str)=some (.int (n:Int)):=by
 unfold FR;rw[AG,Zr rfl]
theorem Hr (kp:Vs) (n:Nat) {m:Str} (h1:¬ m = "bits") (h2:¬ m = "own_kind"):(FR kp n).lookup m=none:=by
 unfold FR;rw[AG,Zs h1,AG,Zs h2];rfl
def dc (VC:Vs) (H:Hp) (p kp:Vs) (n:Nat):Prop:=∃dx,H p=some (.ins VC dx (FR kp n))
theorem dc.same {p kp:Vs}{n:Nat} (s:aA H H') (h:dc VC H p kp n):dc VC H' p kp n:=by
 obtain⟨dx,h⟩:=h;exact⟨dx,s _ _ h⟩
structure Fx (K:FG) (VC:Vs):Prop where
 cl:gQ K VC
 nK:aS K VC "own_kind"
 nB:aS K VC "bits"
noncomputable def kn (ac:Aa):Nat:=CA (ac.map (·.2))
section
inductive spIsNumber (vs:Vr) (H:Hp) (Q:VK) (_E:XK):Prop where
 |mk (n:Nat) (aZ:vs=[.int (n:Int)]) (bG:n<2 ^ 40) (bJ:Q (.bl true) H)
theorem Lb:AH ["thing"] ["thing"] (defScope EI):=bH
inductive spRestOf (C:Vs) (vs:Vr) (H:Hp) (Q:VK) (_E:XK):Prop where
 |mk (kp:Vs) (ac:Aa) (r:Str) (n:Nat) (aZ:vs=[.ref kp,.int (n:Int)]) (bG:aE C H kp ac r) (bJ:∀H',aA H H'->Q (.int ((n - (n&&&kn ac):Nat):Int)) H')
theorem Pi:AH ["kind", "number"] ["kind", "number"] (defScope JS):=bH
theorem Nh (F:aQ K "rest_of" "rest_of" JS f fd) (T:Dh K C) (GK:Mt P w K mg base C "known" 2 ["self"] (spKnown C)):aB P w K mg base aL 3 f fd ["kind", "number"] (spRestOf C):=by
 obtain⟨fK,dK,GK,mK,bK⟩:=GK.ex;refine F.m Pi λvs H Q E h=>?_;obtain⟨kp,ac,r,n,rfl,KA,k⟩:=h;refine⟨Zj,λae A outer s hr=>?_⟩;obtain⟨dx,d1,d2,hp⟩:=KA.ins;refine⟨_,AD (AN (Ak Dr (pv 1) (Jm OK (An (pv 0) T.cl mK GK hr bK .nil AL)))),?_⟩;refine⟨_,Zj,_,Zj,kp,dx,_,Zj,hp,(B2 _ _ _),kp,ac,r,Zj,KA,λH1 s1=>?_⟩;refine⟨_,Zj,_,_,Zj,Zj,?_⟩;show Q (V.int (Builtin.bitAnd (n:Int) (Builtin.bitNot ((CA ((AZ ac).map (·.1)):Nat):Int)))) H1;rw[HZ,Ph];exact k H1 s1
inductive c7 (C VC:Vs) (vs:Vr) (H:Hp) (Q:VK) (_E:XK):Prop where
 |mk (p dx kp:Vs) (ac:Aa) (r:Str) (n:Nat) (aZ:vs=[.ref p,.ref kp,.int (n:Int)]) (bG:H p=some (.ins VC dx [])) (bJ:aE C H kp ac r) (cY:n<2 ^ 40) (dw:(r = "keep" \/ n - (n&&&kn ac)=0)) (f9:∀H',(∀b o,H b=some o->b≠p->H' b=some o)->dc VC H' p kp n->Q .aT H')
theorem Q8:AH ["self", "kind", "number"] ["self", "kind", "number"] (defScope Ej):=bH
theorem KZ (F:aQ K "__init__" "Value.__init__" Ej f fd) (T:Dh K C) (VT:Fx K VC)
  (GN:Fn P w K mg base "is_number" 2 ["thing"] spIsNumber) (GR:Fn P w K mg base "rest_of" 3 ["kind", "number"] (spRestOf C)) (GRe:Mt P w K mg base C "rest" 1 ["self"] (spRest C)):aB P w K mg base aL 4 f fd ["self", "kind", "number"] (c7 C VC):=by
 obtain⟨fN,dN,GN,mN,kN,bN⟩:=GN.ex;obtain⟨fR,dR,GR,mR,kR,bR⟩:=GR.ex;obtain⟨fE,dE,GE,mE,bE⟩:=GRe.ex;refine F.m Q8 λvs H Q E h=>?_;obtain⟨p,dx,kp,ac,r,n,rfl,hp,KA,hn,hrest,k⟩:=h;refine⟨Zj,λae A outer s hr=>?_⟩;have cZ:aD 1 _:=hr.mono qc;have gk:aD 2 _:=hr.mono qc;obtain⟨ji,d1,d2,ai⟩:=KA.ins
 refine⟨_,AC (Ac (Ah (Ae (AO GN gk Zj mN kN bN .nil AL (AA (pv 2) AB)))) (AD Ap) AR)
  (Gq (Ac (PW.pt (Do (AW Ck (An (pv 1) T.cl mE GE cZ bE .nil AL) Al (AT _)) (C0 (AW Ck (AO GR hr rfl mR kR bR .nil AL (AA (pv 1) (AA (pv 2) AB))) AI (AT _))))) (AD Ap) AR)
  (AC (A3 (pv 0) (pv 1) rfl) (AD (A3 (pv 0) (pv 2) rfl)))),?_⟩
 refine⟨_,Zj,n,Zj,hn,_,Zj,?_⟩;refine AX ?_;refine⟨λσ H1=>σ=[some (.ref p),some (.ref kp),some (.int (n:Int))]/\aA H H1,λR hR=>?_,?_⟩
 ·refine⟨_,Zj,kp,ji,_,Zj,ai,(B2 _ _ _),kp,ac,r,Zj,KA,Zj,_,Zj,?_⟩;by_cases hk:r = "keep"
  ·rw[ZN (show V.str r=V.str "keep" by rw[hk])];exact AX (AX (hR _ _ ⟨Zj,aA.refl _⟩))
  ·rw[ZQ (show ¬ V.str r=V.str "keep" from λz=>hk (V.str.inj z))];refine Af ?_;refine⟨_,Zj,_,Zj,kp,ac,r,n,Zj,KA,λH1 s1=>⟨Zj,_,Zj,?_⟩⟩;have h0:=hrest.resolve_left hk;rw[h0];exact AX (hR _ _ ⟨Zj,s1⟩)
 ·rintro σ H1 ⟨rfl,s1⟩;refine⟨_,Zj,_,Zj,p,VC,dx,[],Zj,s1 _ _ hp,VT.cl,VT.nK,(by show 0<1000;decide),?_⟩;refine⟨_,Zj,_,Zj,p,VC,dx,_,Zj,U,VT.cl,VT.nB,Nat.lt_of_le_of_lt (AV _ _ _) (by show 1<1000;decide),?_⟩;refine k _ (λb o e hb=>?_) ⟨dx,U⟩;rw[AE hb,AE hb];exact s1 _ _ e
inductive spVNumber (VC:Vs) (vs:Vr) (H:Hp) (Q:VK) (_E:XK):Prop where
 |mk (p kp:Vs) (n:Nat) (aZ:vs=[.ref p]) (bG:dc VC H p kp n) (bJ:Q (.int (n:Int)) H)
theorem Ni:AH ["self"] ["self"] (defScope Dc):=bH
theorem Lc (F:aQ K "number" "Value.number" Dc f fd) (VT:Fx K VC):aB P w K mg base aL 1 f fd ["self"] (spVNumber VC):=by
 refine F.m Ni λvs H Q E h=>?_;obtain⟨p,kp,n,rfl,⟨dx,hp⟩,k⟩:=h;refine⟨Zj,λae A outer s hr=>?_⟩;refine⟨_,AD (AN (AU (pv 0) Zj)),?_⟩;exact⟨_,Zj,p,VC,dx,_,_,Zj,hp,VT.cl,VT.nB,FU _ _,k⟩
inductive spVKind (VC:Vs) (vs:Vr) (H:Hp) (Q:VK) (_E:XK):Prop where
 |mk (p kp:Vs) (n:Nat) (aZ:vs=[.ref p]) (bG:dc VC H p kp n) (bJ:Q (.ref kp) H)
theorem Q9:AH ["self"] ["self"] (defScope Ek):=bH
theorem Pj (F:aQ K "kind" "Value.kind" Ek f fd) (VT:Fx K VC):aB P w K mg base aL 1 f fd ["self"] (spVKind VC):=by
 refine F.m Q9 λvs H Q E h=>?_;obtain⟨p,kp,n,rfl,⟨dx,hp⟩,k⟩:=h;refine⟨Zj,λae A outer s hr=>?_⟩;refine⟨_,AD (AN (AU (pv 0) Zj)),?_⟩;exact⟨_,Zj,p,VC,dx,_,_,Zj,hp,VT.cl,VT.nK,FS _ _,k⟩
inductive spVEq (C VC:Vs) (vs:Vr) (H:Hp) (Q:VK) (_E:XK):Prop where
 |mk (a:Vs) (v:V) (ka:Vs) (na:Nat) (ac:Aa) (r:Str) (aZ:vs=[.ref a,v]) (bG:dc VC H a ka na) (bJ:aE C H ka ac r) (cY:jq ac) (dw:((∃i,v=.int i/\Q (.bl false) H)\/∃(b kb:Vs) (nb:Nat) (ff:Aa) (r':Str),v=.ref b/\dc VC H b kb nb/\aE C H kb ff r'/\jq ff/\∀H',aA H H'->Q (.bl (decide ((ac=ff/\r=r')/\na=nb))) H'))
theorem Ua:AH ["self", "other"] ["self", "other"] (defScope He):=bH
theorem TB (F:aQ K "__eq__" "Value.__eq__" He f fd) (B:Bl mg) (T:Dh K C) (VT:Fx K VC) (VI:KIsi K VC) (hI:W.kitOne K (.type "int") (.ref VC)=some false) (mV:mg "Value" = some (.ref VC))
  (GE:Mt P w K mg base C "__eq__" 2 ["self", "other"] (spEqK C)):aB P w K mg base aL 3 f fd ["self", "other"] (spVEq C VC):=by
 obtain⟨fE,dE,GE,mE,bE⟩:=GE.ex;refine F.m Ua λvs H Q E h=>?_;obtain⟨a,v,ka,na,ac,r,rfl,⟨dx,hp⟩,KA,h1,h⟩:=h;refine⟨Zj,λae A outer s hr=>?_⟩
 refine⟨_,AD (AN (BQ (AM (Ij K Zj) Zj B.eA BR (AA (pv 1) (AA (Ag (v:=.ref VC) Zj mV Zj) AB)))
  (BQ (BU (Oj GE hr bE mE) (AU (pv 0) rfl) (AU (pv 1) rfl) (AT _))
   (Bf (BU Cj (AU (pv 0) rfl) (AU (pv 1) rfl) (AT _)))))),?_⟩
 rcases h with⟨i,rfl,k⟩ |⟨b,kb,nb,ff,r',rfl,⟨dy,hq⟩,KB,h2,k⟩
 ·refine⟨_,Zj,_,VC,_,false,Zj,.int i,hI,_,Zj,?_⟩;exact AX k
 ·refine⟨_,Zj,_,VC,_,true,Zj,VI.ty hq,FQ K VC,_,Zj,?_⟩;refine Af ?_;obtain⟨dka,d1,d2,hka⟩:=KA.ins;obtain⟨dkb,e1,e2,hkb⟩:=KB.ins;refine⟨_,Zj,a,VC,dx,_,_,Zj,hp,VT.cl,VT.nK,FS _ _,_,Zj,b,VC,dy,_,_,Zj,hq,VT.cl,VT.nK,FS _ _,?_⟩;refine⟨ka,dka,_,kb,Zj,Zj,hka,.inl ⟨_,_,hkb⟩,ka,kb,ac,r,Zj,KA,h1,.inr ⟨ff,r',KB,h2,λH1 s1=>⟨_,Zj,_,Zj,?_⟩⟩⟩;refine Bj (λe=>?_) (λe=>?_)
  ·have e':=ZW e;refine⟨_,Zj,a,VC,dx,_,_,Zj,s1 _ _ hp,VT.cl,VT.nB,FU _ _,_,Zj,b,VC,dy,_,_,Zj,s1 _ _ hq,VT.cl,VT.nB,FU _ _,Zj,?_⟩;have ev:decide (V.int (na:Int)=V.int (nb:Int))=decide ((ac=ff/\r=r')/\na=nb):=decide_eq_decide.mpr ⟨λz=>⟨e',by have:=V.int.inj z;omega⟩,λz=>by rw[z.2]⟩;rw[ev];exact k _ s1
  ·have:=k _ s1;rw[ZQ (λz=>e (ZN z.1))]at this;exact this
structure MU (P:Program) (w:World) (K:FG) (mg:SV) (base:Heap) (C VC:Vs):Prop where
 VT:Fx K VC
 cls:mg "Value" = some (.ref VC)
 make:∃f fd,Mk K VC f/\aB P w K mg base aL 4 f fd ["self", "kind", "number"] (c7 C VC)/\Binds K fd ["self", "kind", "number"] []
 eq:∃f fd,aB P w K mg base aL 3 f fd ["self", "other"] (spVEq C VC)/\Fe K VC "__eq__" f/\Binds K fd ["self", "other"] []
 eA:KIsi K VC
 ne:W.findIn K (.ref VC) "__ne__" = some (some (.builtin "object.__ne__"))
 ni:W.subIn K (.type "int") (.ref VC)=some false
theorem BK {D kp dx:Vs} (hkp:H kp=none) (ax:H dx=none) (aw:dx≠kp):aA H (upd (upd H dx (.own kp)) kp (.ins D dx [])):=by
 refine AF (AF (aA.refl _) ax) ?_;rw[AE (Ne.symm aw)];exact hkp
theorem BB {Hc:Hp}{kp:Vs} (sN:aA H H') (hkp:H kp=none) (sc:∀b o,H' b=some o->b≠kp->Hc b=some o):aA H Hc:=λb o e=>sc b o (sN _ _ e) (AJ e hkp)
end
section
variable {CU:Vs}
inductive spErrInit (K:FG) (vs:Vr) (H:Hp) (Q:VK) (_E:XK):Prop where
 |mk (e C:Vs) (dx:Option Vs) (x:Str) (aZ:vs=[.ref e,.str x]) (bG:BF K C=true) (bJ:H e=some (E7 e C dx)) (cY:Q .aT H)
theorem Nj:AH ["self", "words"] ["self", "words"] (defScope A7):=bH
theorem BZ (F:FunD K "__init__" "MarkError.__init__" A7 f fd) (hV:mg "ValueError" = none):aB P w K mg base aL 1 f fd ["self", "words"] (spErrInit K):=by
 refine F.ok Nj (λvs H Q E h=>?_) (λae A outer s H vs Q E hr h=>?_)
 ·obtain⟨e,C,dx,x,rfl,_⟩:=h;rfl
 ·obtain⟨e,C,dx,x,rfl,hC,he,k⟩:=h;refine⟨_,AD (Ai (Oq Zj hV (AA (pv 0) (AA (pv 1) AB)))),?_⟩;exact⟨_,Zj,_,Zj,e,C,dx,[.str x],Zj,(by show 1<=1000;decide),hC,he,k⟩
structure C4 (P:Program) (w:World) (K:FG) (mg:SV) (base:Heap) (x:Str) (CU:Vs):Prop where
 cls:mg x=some (.ref CU)
 make:∃f fd,MkX K CU f/\aB P w K mg base aL 1 f fd ["self", "words"] (spErrInit K)/\Binds K fd ["self", "words"] []
def Uq (H:Hp) (E:XK) (CU:Vs):Prop:=∀e H',aA H H'->H e=none->H' e=some (Co e CU none)->E (.ref CU) none H'
theorem none_of {x:Vs} (s:aA H H') (h:H' x=none):H x=none:=by
 cases e:H x with
 |none=>rfl
 |some u=>rw[s _ _ e]at h;cases h
theorem Uq.of {E:XK}{CU:Vs} (s:aA H H') (h:Uq H E CU):Uq H' E CU:=λe H2 s2 h1 h2=>h e H2 (s.trans s2) (none_of s h1) h2
theorem BN {te:XK->TE}{σ:St}{H1:Hp}{E:XK}{D:Gc}{x:Str} (hC:BF K CU=true) (s1:aA H H1) (h:Uq H E CU):JI CU (JH CU (spErrInit K) [] E0 (As (tC (.str x)) B6)) E D σ H1:=by
 refine⟨(by show 1<=1000;decide),λa ha=>?_⟩;refine⟨a,CU,none,x,Zj,hC,U,Zj,a,none,Zj,U,?_⟩;refine h a _ (s1.trans ?_) (none_of s1 ha) U;rw[Gg];exact AF (aA.refl _) ha
end
end Mk
end
section
namespace L2
open PySem PySem.Spec PyProof.Rows
noncomputable def RB (ix:List Nat) (σ:St):St:=ix.map λj=>(σ[j]?).getD none
structure LamN (X:Cx) (Nl:Vp) (ix:List Nat) (scope:Scope) (cD:List (Str×Vs)):Prop where
 len:ix.length=Nl.length
 nm:∀(i:Nat) (x:Str),Nl[i]?=some x->∃j:Nat,ix[i]?=some j/\X.N[j]?=some x/\X.env.scope.names.lookup x=some .cell/\scope.names.lookup x=some .free
 cl:∀x c,cD.lookup x=some c->X.env.cells.lookup x=some c
 has:∀x,(scope.names.lookup x=some .cell\/scope.names.lookup x=some .free)->∃c,cD.lookup x=some c
 fn:∀x,X.fn x=true
section
variable {X:Cx}{aa:LO}{σ:St}{s:Vt}{Nl:Vp}{ix:List Nat}{scope:Scope}{cD:List (Str×Vs)}
theorem LamN.cells (L:LamN X Nl ix scope cD) (I:Inv X aa σ H s):HV Nl scope cD (RB ix σ) H s.heap:=by
 refine⟨λx y c h1 h2=>I.ok.inj x y c (L.cl x c h1) (L.cl y c h2),L.has,λx c h=>⟨I.cell x c (L.cl x c h),I.cQ x c (L.cl x c h)⟩,λi x v h1 h2=>?_,?_⟩
 ·obtain⟨j,hj,hN,hk,hf⟩:=L.nm i x h1;refine⟨hf,?_⟩;unfold RB at h2;rw[ZH,hj]at h2
  have hv:σ[j]?=some (some v):=by
   simp only[Option.map_some,Option.some.injEq]at h2;cases e:σ[j]? with
   |none=>rw[e]at h2;cases h2
   |some o=>rw[e]at h2;simp only[Option.getD_some]at h2;rw[h2]
  obtain⟨m,_,hl⟩:=I.loc;obtain⟨u,r,l⟩:=hl j x v hN hv (.inr (.inl hk));rcases l with⟨l,_⟩ |⟨_,c,e,z⟩
  ·rw[show X.env.kindOf x=X.env.scope.names.lookup x from rfl,hk]at l;cases l
  ·obtain⟨c2,e2⟩:=L.has x (.inr hf);have e3:=L.cl x c2 e2;rw[e]at e3;cases e3;exact⟨u,c,r,e2,z⟩
 ·unfold RB;rw[AK];exact L.len
theorem LamN.fQ (L:LamN X Nl ix scope cD) (I:Inv X aa σ H s):∀x c,cD.lookup x=some c->c∉ cw X.stack:=λx c h z=>by
 have hc:=L.cl x c h;rcases mem_cons.mp (I.d9 c z)with z |z
 ·exact I.jj x c hc z
 ·obtain⟨_,o,ho,_⟩:=I.ok.dj.mem z;exact absurd (Z2 (lt_size ho) (I.ok.i7 x c (L.fn x) hc)) (ZI _)
end
end L2
namespace Mk
open PySem L2 MK
structure Ub (mg:SV) (ec:Nat->Vs):Prop where
 e0:mg "BadRows" = some (.ref (ec 0))
 e1:mg "BadRest" = some (.ref (ec 1))
 e2:mg "BadText" = some (.ref (ec 2))
 e3:mg "Unled" = some (.ref (ec 3))
 e4:mg "BadRule" = some (.ref (ec 4))
 e5:mg "BadName" = some (.ref (ec 5))
 e6:mg "BadNumber" = some (.ref (ec 6))
 e7:mg "Unlike" = some (.ref (ec 7))
 e8:mg "BadPairs" = some (.ref (ec 8))
 e9:mg "Never" = some (.ref (ec 9))
 gp:mg "Nothing" = some (.ref (ec 10))
 ev:mg "ValueError" = none
structure Pk (K:FG) (ec:Nat->Vs) (C:Vs) (j:Nat):Prop where
 hj:j<11
 kx:Su K C
 kit:∀i,i<11->W.kitOne K (.ref C) (.ref (ec i))=some (decide (i=j))
 val:W.kitOne K (.ref C) (.type "ValueError")=some true
def RE (K:FG) (cM:Vs) (Q:VK):XK:=λCv dx H2=>∃C,Cv=.ref C/\BF K C=true/\(E8 K C).contains (.ref cM)=true/\∀e,H2 e=some (Co e C dx)->Q (.ref e) H2
theorem scMet:AH ["_law_deed", "_law_e"] ["_law_deed"] (defScope Cf):=bH
section
variable {ec:Nat->Vs}{cM:Vs}
theorem TC {k:Nat}{lf c':Vs} (F:aQ K "_law_met" "_law_met" Cf f fd) (xm:BF K cM=true) (mM:mg "MarkError" = some (.ref cM))
  {A:Around}{outer:List Env}{s:Vt}{H:Hp}{args:Args}{Nl:Vp}{scope:Scope}{cl:List (Str×Vs)}{iH:St}{name qual:Str}{params:Arguments}{body:Expr}{pm eO:Value}{tl:XK->TE}{Q:VK}
  (hr:aD (k+2) A) (e0:eY P w K mg base A outer s H) (hb:BindsTo s fd args ((["_law_deed"]:Vp).zip [Value.ref lf])) (C:HV Nl scope cl iH H s.heap) (iY:∀x c,cl.lookup x=some c->c∉ cw outer)
  (h1:H lf=some (jm lf (W.kla_obj name qual params body scope cl pm c' eO))) (h2:H c'=some (F7 c' qual))
  (bi:bindArgs (W.kla_fn name qual params body scope cl pm (.ref c') eO) ⟨[],[]⟩=pure [])
  (hco:scope.isCoroutine=false) (bq:scope.isGenerator=false) (hk:scope.kind=.function) (be:∀x∈scope.names,x.2≠ .cell)
  (cm:∀(A':Around) (cI:List Env) (s':Vt) (H':Hp) (E:XK),aD k (A'.deeper (W.envX qual scope s'.heap.objs.size lf (.ref c') cl))->PE (ES P w K mg base Nl qual scope lf (.ref c') cl A' cI s' H' E) body (tl E))
  (h:tl (RE K cM Q) iH H (λ_ H1=>Q .aT H1)):codeAny (model P w) A (.call (.ref f) args) (CR aL outer P w H s Q E0) s:=by
 refine F.at (N:=["_law_deed", "_law_e"]) scMet (vs:=[.ref lf]) Zj (k:=k+1) hr e0 hb (.cons Zj .nil) λae cZ=>?_;have own:=Om (CX:=aL) (P:=P) (w:=w) (K:=K) (mg:=mg) (base:=base) (N:=["_law_deed", "_law_e"]) (qual := "_law_met") (scope:=defScope Cf) (f:=f) (cd:=ae) (A:=A) (outer:=outer) (s:=s) (H:=H) (E:=E0);refine⟨_,AC (Qu (i:=1) (Dn:=cM) (tb:=λE=>R6 (KF 0 lf c' qual (W.kla_obj name qual params body scope cl pm c' eO) iH (tl E))) own (λP0 xe E hx=>?_) scMet.nd Zj Zj xm Zj mM qc (λX' h1 h2=>?_)) (AD (AN Ip)),?_⟩
 ·exact AD (Ai (LH (X:=E9 (Au aL P w K mg base ["_law_deed", "_law_e"] "_law_met" (defScope Cf) f ae A outer s H E0) P0 xe) (i:=0) (k:=k+1) Zj (Or.inl Zj) cZ C iY Zj hx bi hco bq hk be (λs' H'=>cm _ _ s' H' E (cZ.deeper _))))
 ·exact pv 1 (by rw[h1];rfl) (by rw[h2];exact Or.inl Zj)
 ·exact⟨Zj,h1,h2,h⟩
end
section
variable {X:Cx}{cM c P0:Vs}{ls:List Pos}{cG:Pos}
def Vc (K:FG) (cM P0:Vs) (qual:Str) (ls:List Pos) (ix:List Nat) (tl:XK->TE):TE:=λσ H Q=>aG H P0 qual ls/\∀H',MF P0 H H'->aG H' P0 qual ls->tl (RE K cM Q) (RB ix σ) H' (λ_ H1=>Q .aT H1)
theorem Cw {k:Nat} (F:aQ X.K "_law_met" "_law_met" Cf f fd) (xm:BF X.K cM=true) (mM:X.mg "MarkError" = some (.ref cM))
  (hr:aD (k+2) X.A) (hg:Gl X "_law_met") (hm:X.mg "_law_met" = some (.ref f)) (hkp:W.keepIn X.K (.ref f)=true) (hB:Binds X.K fd ["_law_deed"] [])
  {Nl:Vp}{ix:List Nat}{scope:Scope}{cD:List (Str×Vs)}{params:Arguments}{body:Expr}{tl:XK->TE}{p pos:Pos}
  (L:Oy X c P0) (hls:cG∈ls) (aw:∀q∈ls,q=cG\/(q.line==cG.line&&q.col==cG.col)=false) (ah:closureFor scope X.env=pure cD) (cj:defaultsOf params X.env=([],[])) (LN:LamN X Nl ix scope cD)
  (bi:∀pm c' eO,bindArgs (W.kla_fn "<lambda>" (X.env.qual ++ "<lambda>") params body scope cD pm (.ref c') eO) ⟨[],[]⟩=pure [])
  (hco:scope.isCoroutine=false) (bq:scope.isGenerator=false) (hk:scope.kind=.function) (be:∀x∈scope.names,x.2≠ .cell)
  (cm:∀(lf c':Vs) (A':Around) (cI:List Env) (s':Vt) (H':Hp) (E:XK),aD k (A'.deeper (W.envX (X.env.qual ++ "<lambda>") scope s'.heap.objs.size lf (.ref c') cD))->PE (ES X.prog X.w X.K X.mg X.base Nl (X.env.qual ++ "<lambda>") scope lf (.ref c') cD A' cI s' H' E) body (tl E))
  (he:starEach [.Lambda params body scope cG] X.env=(false,eval (.Lambda params body scope cG) X.env)::starEach [] X.env:=by rfl) (eQ:(backTo pos (starEach [] X.env)).any (·.1)=false:=by rfl) :
  PE X (.Call (.Name "_law_met" p) [.Lambda params body scope cG] [] pos) (Vc X.K cM P0 (X.env.qual ++ "<lambda>") ls ix tl):=by
 intro aa s σ H Q I ⟨hT,h⟩;refine Z3 (Br I hg hm ?_ qc);have ha:PA X [.Lambda params body scope cG] (As (UL P0 (X.env.qual ++ "<lambda>") ls (λc' eO=>W.kla_obj "<lambda>" (X.env.qual ++ "<lambda>") params body scope cD ((X.mg "__name__").getD .none) c' eO)) B6):=AA (Sv L hls aw ah cj) AB he;refine W.callWith_K (h₀:=X.base) I.ok.mod.kin hkp (aH (ha pos aa s σ H (λvs H1=>∃lf c' eO,vs=[.ref lf]/\MF P0 H H1/\aG H1 P0 (X.env.qual ++ "<lambda>") ls/\H1 lf=some (jm lf (W.kla_obj "<lambda>" (X.env.qual ++ "<lambda>") params body scope cD ((X.mg "__name__").getD .none) c' eO))/\H1 c'=some (F7 c' (X.env.qual ++ "<lambda>"))) I ⟨hT,λlf c' eO H' _ hs ht h1 h2=>⟨lf,c',eO,rfl,hs,ht,h1,h2⟩⟩) λus s1 ⟨vs,H1,I1,r,lf,c',eO,ev,hs,ht,h1,h2⟩=>⟨I1.cX,?_⟩) he eQ;subst ev;obtain⟨u,eu,ru⟩:=CZ r;subst eu;obtain rfl:u=Value.ref lf:=ru;have bb:=hB s1 [.ref lf] I1.cX rfl;rw[Zv]at bb;refine wpAny_call (codeAny_mono (TC (k:=k) F xm mM hr I1.gm bb (LN.cells I1) (LN.fQ I1) h1 h2 (bi _ _ _) hco bq hk be (cm lf c') (h H1 hs ht)) λr s' hq=>?_);cases r with
 |error e=>exact False.elim hq
 |ok fl =>
  cases fl with
  |ret u=>exact I1.after hq
  |next=>exact False.elim hq
  |brk=>exact False.elim hq
  |cont=>exact False.elim hq
end
noncomputable def ir (j:Nat):List Bool:=(List.range 11).map λi=>decide (i=j)
noncomputable abbrev zA (j:Nat):Vr:=[V.bl (decide (0=j)),V.bl (decide (1=j)),V.bl (decide (2=j)),V.bl (decide (3=j))]
noncomputable abbrev zB (j:Nat):Vr:=[V.bl (decide (4=j)),V.bl (decide (5=j)),V.bl (decide (6=j))]
noncomputable abbrev zC (j:Nat):Vr:=[V.bl (decide (7=j))]
noncomputable abbrev zD (j:Nat):Vr:=[V.bl (decide (8=j)),V.bl (decide (9=j)),V.bl (decide (10=j))]
theorem JY:∀xs:List Bool,BL K H (xs.map PyData.bool) (xs.map V.bl)
 | []=>by show BL K H [] [];rw[BL]
 |x::r=>by
  show BL K H (.bool x::r.map PyData.bool) (V.bl x::r.map V.bl);rw[BL];exact⟨_,_,Zj,by rw[Cd],JY r⟩
theorem Pl:∀j,j<11->SeqAt.shaped (.list ((ir j).map PyData.bool))=true:=by decide +kernel
theorem RG:∀j,j<11->PyData.eqv (.list ((ir j).map PyData.bool)) (.list ((ir j).map PyData.bool))=true:=by decide +kernel
section
variable {ec:Nat->Vs}
inductive spAlone (K:FG) (ec:Nat->Vs) (vs:Vr) (H:Hp) (Q:VK) (_E:XK):Prop where
 |mk (e C:Vs) (j:Nat) (dx:Option Vs) (aZ:vs=[.ref e,.int (j:Int)]) (bG:H e=some (Co e C dx)) (bJ:dx=none\/∃d u,dx=some d/\H d=some u) (cY:Pk K ec C j) (dw:∀H',aA H H'->Q (.bl true) H')
theorem scAlone:AH ["_law_e", "_law_own", "_law_some"] ["_law_e", "_law_own"] (defScope Fs):=bH
theorem Pm (F:aQ K "_law_alone" "_law_alone" Fs f fd) (B:Bl mg) (M:Ub mg ec):aB P w K mg base aL 1 f fd ["_law_e", "_law_own"] (spAlone K ec):=by
 refine F.m scAlone λvs H Q E h=>?_;obtain⟨e,C,j,dx,rfl,he,hd,EA,k⟩:=h;refine⟨Zj,λae A outer s hr=>?_⟩;have hj:=EA.hj;have hu64:=hr.units
 have hdS:∀H',aA H H'->(dx=none\/∃d u,dx=some d/\H' d=some u):=λH' s=>by
  rcases hd with z |⟨d,u,z,y⟩
  ·exact .inl z
  ·exact .inr ⟨d,u,z,s _ _ y⟩
 have kt:=EA.kit;have nd:=scAlone.nd
 refine⟨_,AC (Am (i:=2) nd Zj (Or.inl Zj) (CB (AA (AM (BA K Zj) Zj B.eA BR (AA (pv 0) (AA (Ag (v:=.ref (ec 0)) Zj M.e0 Zj) AB))) (AA (AM (BA K Zj) Zj B.eA BR (AA (pv 0) (AA (Ag (v:=.ref (ec 1)) Zj M.e1 Zj) AB))) (AA (AM (BA K Zj) Zj B.eA BR (AA (pv 0) (AA (Ag (v:=.ref (ec 2)) Zj M.e2 Zj) AB))) (AA (AM (BA K Zj) Zj B.eA BR (AA (pv 0) (AA (Ag (v:=.ref (ec 3)) Zj M.e3 Zj) AB))) AB))))))
  (AC (Am (i:=2) nd rfl (Or.inl rfl) (Ak Iz (pv 2) (CB (AA (AM (BA K rfl) rfl B.eA BR (AA (pv 0) (AA (Ag (v:=.ref (ec 4)) rfl M.e4 rfl) AB))) (AA (AM (BA K rfl) rfl B.eA BR (AA (pv 0) (AA (Ag (v:=.ref (ec 5)) rfl M.e5 rfl) AB))) (AA (AM (BA K rfl) rfl B.eA BR (AA (pv 0) (AA (Ag (v:=.ref (ec 6)) rfl M.e6 rfl) AB))) AB))))))
  (AC (Am (i:=2) nd rfl (Or.inl rfl) (Ak Iz (pv 2) (CB (AA (AM (BA K rfl) rfl B.eA BR (AA (pv 0) (AA (Ag (v:=.ref (ec 7)) rfl M.e7 rfl) AB))) AB))))
  (AC (Am (i:=2) nd rfl (Or.inl rfl) (Ak Iz (pv 2) (CB (AA (AM (BA K rfl) rfl B.eA BR (AA (pv 0) (AA (Ag (v:=.ref (ec 8)) rfl M.e8 rfl) AB))) (AA (AM (BA K rfl) rfl B.eA BR (AA (pv 0) (AA (Ag (v:=.ref (ec 9)) rfl M.e9 rfl) AB))) (AA (AM (BA K rfl) rfl B.eA BR (AA (pv 0) (AA (Ag (v:=.ref (ec 10)) rfl M.gp rfl) AB))) AB))))))
  (AD (AN (BQ (AM (BA K rfl) rfl B.eA BR (AA (pv 0) (AA (Cz (v:=.ty "ValueError") rfl M.ev MD rfl) AB)))
   (Bf (BU (Of K rfl hu64) (pv 2) (BE ["_law_own"] [some 1] qd qb qd rfl (IC rfl B.range (AA AI AB)) (λ_ _ _ _ _ _=>BM) (λ_ _ _ _ _ _=>BU Cj (pv 0) (pv 1) (AT _))) (AT _))))))))),?_⟩
 refine⟨_,Zj,e,C,dx,_,_,_,Zj,EA.kx,he,.inl ⟨_,Zj,Zj⟩,hdS _ (aA.refl _),kt 0 qc,_,Zj,e,C,dx,_,_,_,Zj,EA.kx,he,.inl ⟨_,Zj,Zj⟩,hdS _ (aA.refl _),kt 1 qc,_,Zj,e,C,dx,_,_,_,Zj,EA.kx,he,.inl ⟨_,Zj,Zj⟩,hdS _ (aA.refl _),kt 2 qc,_,Zj,e,C,dx,_,_,_,Zj,EA.kx,he,.inl ⟨_,Zj,Zj⟩,hdS _ (aA.refl _),kt 3 qc,sl4,λl1 h1=>?_⟩;have s1:=AF (aA.refl H) h1 (o:=.lst (zA j));have a1:=U (H:=H) (a:=l1) (o:=.lst (zA j));generalize upd H l1 (.lst (zA j))=H1 at s1 a1 ⊢;refine⟨_,Zj,_,Zj,e,C,dx,_,_,_,Zj,EA.kx,s1 _ _ he,.inl ⟨_,Zj,Zj⟩,hdS _ s1,kt 4 qc,_,Zj,e,C,dx,_,_,_,Zj,EA.kx,s1 _ _ he,.inl ⟨_,Zj,Zj⟩,hdS _ s1,kt 5 qc,_,Zj,e,C,dx,_,_,_,Zj,EA.kx,s1 _ _ he,.inl ⟨_,Zj,Zj⟩,hdS _ s1,kt 6 qc,sl3,λl2 h2=>?_⟩;refine⟨l1,l2,_,_,Zj,Zj,(AF (aA.refl H1) h2) _ _ a1,U,(by show 4+3<=sizeLine;decide),λl3 h3=>?_⟩;have s3:=s1.trans (AF (AF (aA.refl H1) h2 (o:=.lst (zB j))) h3 (o:=.lst (zA j++zB j)));generalize e3:upd (upd H1 l2 (.lst (zB j))) l3 (.lst (zA j++zB j))=H3 at s3 ⊢;have a3:H3 l3=some (.lst (zA j++zB j)):=by rw[←e3,U]
 refine⟨_,Zj,_,Zj,e,C,dx,_,_,_,Zj,EA.kx,s3 _ _ he,.inl ⟨_,Zj,Zj⟩,hdS _ s3,kt 7 qc,i9,λl4 h4=>?_⟩;refine⟨l3,l4,_,_,Zj,Zj,(AF (aA.refl H3) h4) _ _ a3,U,(by show 7+1<=sizeLine;decide),λl5 h5=>?_⟩;have s5:=s3.trans (AF (AF (aA.refl H3) h4 (o:=.lst (zC j))) h5 (o:=.lst ((zA j++zB j)++(zC j))));generalize e5:upd (upd H3 l4 (.lst (zC j))) l5 (.lst ((zA j++zB j)++(zC j)))=H5 at s5 ⊢;have a5:H5 l5=some (.lst ((zA j++zB j)++(zC j))):=by rw[←e5,U]
 refine⟨_,Zj,_,Zj,e,C,dx,_,_,_,Zj,EA.kx,s5 _ _ he,.inl ⟨_,Zj,Zj⟩,hdS _ s5,kt 8 qc,_,Zj,e,C,dx,_,_,_,Zj,EA.kx,s5 _ _ he,.inl ⟨_,Zj,Zj⟩,hdS _ s5,kt 9 qc,_,Zj,e,C,dx,_,_,_,Zj,EA.kx,s5 _ _ he,.inl ⟨_,Zj,Zj⟩,hdS _ s5,kt 10 qc,sl3,λl6 h6=>?_⟩;refine⟨l5,l6,_,_,Zj,Zj,(AF (aA.refl H5) h6) _ _ a5,U,(by show 8+3<=sizeLine;decide),λl7 h7=>?_⟩;have s7:=s5.trans (AF (AF (aA.refl H5) h6 (o:=.lst (zD j))) h7 (o:=.lst (((zA j++zB j)++(zC j))++(zD j))));generalize e7:upd (upd H5 l6 (.lst (zD j))) l7 (.lst (((zA j++zB j)++(zC j))++(zD j)))=H7 at s7 ⊢;have a7:H7 l7=some (.lst ((ir j).map V.bl)):=by rw[←e7];exact U
 refine⟨_,Zj,e,C,dx,_,_,_,Zj,EA.kx,s7 _ _ he,.inr ⟨_,Zj,Zj⟩,hdS _ s7,EA.val,_,Zj,Af ?_⟩;refine⟨_,Zj,11,Zj,qc,qc,HN (lo:=0) (n:=11) (λi ys H'=>ys=((ir j).take i).map V.bl/\H'=H7) ⟨Zj,Zj⟩ (λi ys H' ⟨e,_⟩=>?_) ?_ ?_⟩
 ·rw[e,AK,ZD];have:(ir j).length=11:=by unfold ir;simp
  omega
 ·rintro i ys H' hi ⟨rfl,rfl⟩;refine⟨_,Zj,_,Zj,Zj,?_,Zj⟩
  have e1:(ir j)[i]?=some (decide (i=j)):=by
   unfold ir;rw[ZH,List.getElem?_range hi];rfl
  rw[ZG,e1,Zw];congr 1;show [V.bl (decide (V.int (0+(i:Int))=V.int (j:Int)))]=[V.bl (decide (i=j))];congr 2;rw[Bool.eq_iff_iff,decide_eq_true_eq,decide_eq_true_eq];constructor
  ·intro z;have:=V.int.inj z;omega
  ·intro z;rw[z,Int.zero_add]
 ·rintro ys H' ⟨rfl,rfl⟩ p hp;have e11:(ir j).take 11=ir j:=take_of_length_le (by unfold ir;simp);rw[e11];have sp:=AF (aA.refl _) hp (o:=HO.lst ((ir j).map V.bl));refine⟨_,_,DN (sp _ _ a7) (JY _),DN U (JY _),Pl j hj,Pl j hj,?_⟩;rw[RG j hj];exact k _ (s7.trans sp)
end
section
variable {cM cR:Vs}{fl:Str}
structure Pn (P:Program) (w:World) (K:FG) (mg:SV) (base:Heap) (cM:Vs):Prop where
 cls:mg "MarkError" = some (.ref cM)
 ga:W.specialIn K (.ref cM) "__getattribute__" = some (some (.builtin "type.__getattribute__"))
 rd:W.readsIn K cM (.type "type")=true
 fn:∃f fd,W.findCls K (.ref cM) (.type "type") "__init__" = some (.val (.ref f))/\aB P w K mg base aL 1 f fd ["self", "words"] (spErrInit K)/\W.keepIn K (.ref f)=true/\Binds K fd ["self", "words"] []
def FdV (v:V):Prop:=(∃n:Int,v=.int n/\n.natAbs.log2<1920)\/(∃x:Str,v=.str x/\x.length<=1000)\/v=.aT
inductive spFI (K:FG) (cM:Vs) (fl:Str) (vs:Vr) (H:Hp) (Q:VK) (_E:XK):Prop where
 |mk (e C:Vs) (v:V) (aZ:vs=[.ref e,v]) (bG:FdV v) (bJ:BF K C=true) (cY:H e=some (E7 e C none)) (dw:NH K C cM fl) (f9:∀d,H d=none->d≠e->Q .aT (upd (upd H e (E7 e C (some d))) d (.xd [(fl,v)])))
theorem Po (F:aQ K "__init__" "BadRows.__init__" FC f fd) (ME:Pn P w K mg base cM):aB P w K mg base aL 2 f fd ["self", "at"] (spFI K cM "at"):=by
 obtain⟨fI,dI,hf,GI,kI,bI⟩:=ME.fn;have mM:=ME.cls;refine F.ok (N:=["self", "at"]) bH (λvs H Q E h=>?_) (λae A outer s H vs Q E hr h=>?_)
 ·obtain⟨e,C,v,rfl,_⟩:=h;rfl
 ·obtain⟨e,C,v,rfl,hn,hC,he,S,k⟩:=h;refine⟨_,AC (Ai (DY Zj mM ME.ga ME.rd hf GI hr kI bI .nil AL (AA (pv 0) (AA (Gn qb (pv 1)) AB)))) (AD (Gm (M:=cM) (pv 0) (pv 1) Zj)),?_⟩;refine⟨_,Zj,_,Zj,hn,λz=>⟨e,C,none,z,Zj,hC,he,?_⟩⟩;exact⟨_,Zj,_,Zj,e,C,Zj,he,S,k⟩
theorem Pp (F:aQ K "__init__" "BadText.__init__" FE f fd) (ME:Pn P w K mg base cM):aB P w K mg base aL 2 f fd ["self", "at"] (spFI K cM "at"):=by
 obtain⟨fI,dI,hf,GI,kI,bI⟩:=ME.fn;have mM:=ME.cls;refine F.ok (N:=["self", "at"]) bH (λvs H Q E h=>?_) (λae A outer s H vs Q E hr h=>?_)
 ·obtain⟨e,C,v,rfl,_⟩:=h;rfl
 ·obtain⟨e,C,v,rfl,hn,hC,he,S,k⟩:=h;refine⟨_,AC (Ai (DY Zj mM ME.ga ME.rd hf GI hr kI bI .nil AL (AA (pv 0) (AA (Gn qb (pv 1)) AB)))) (AD (Gm (M:=cM) (pv 0) (pv 1) Zj)),?_⟩;refine⟨_,Zj,_,Zj,hn,λz=>⟨e,C,none,z,Zj,hC,he,?_⟩⟩;exact⟨_,Zj,_,Zj,e,C,Zj,he,S,k⟩
theorem Pq (F:aQ K "__init__" "BadRest.__init__" FD f fd) (ME:Pn P w K mg base cM):aB P w K mg base aL 2 f fd ["self", "bits"] (spFI K cM "bits"):=by
 obtain⟨fI,dI,hf,GI,kI,bI⟩:=ME.fn;have mM:=ME.cls;refine F.ok (N:=["self", "bits"]) bH (λvs H Q E h=>?_) (λae A outer s H vs Q E hr h=>?_)
 ·obtain⟨e,C,v,rfl,_⟩:=h;rfl
 ·obtain⟨e,C,v,rfl,hn,hC,he,S,k⟩:=h;refine⟨_,AC (Ai (DY Zj mM ME.ga ME.rd hf GI hr kI bI .nil AL (AA (pv 0) (AA (Gn qb (pv 1)) AB)))) (AD (Gm (M:=cM) (pv 0) (pv 1) Zj)),?_⟩;refine⟨_,Zj,_,Zj,hn,λz=>⟨e,C,none,z,Zj,hC,he,?_⟩⟩;exact⟨_,Zj,_,Zj,e,C,Zj,he,S,k⟩
theorem RH (F:aQ K "__init__" "Unled.__init__" Ha f fd) (ME:Pn P w K mg base cM):aB P w K mg base aL 2 f fd ["self", "name"] (spFI K cM "name"):=by
 obtain⟨fI,dI,hf,GI,kI,bI⟩:=ME.fn;have mM:=ME.cls;refine F.ok (N:=["self", "name"]) bH (λvs H Q E h=>?_) (λae A outer s H vs Q E hr h=>?_)
 ·obtain⟨e,C,v,rfl,_⟩:=h;rfl
 ·obtain⟨e,C,v,rfl,hn,hC,he,S,k⟩:=h;refine⟨_,AC (Ai (DY Zj mM ME.ga ME.rd hf GI hr kI bI .nil AL (AA (pv 0) (AA (Gn qb (pv 1)) AB)))) (AD (Gm (M:=cM) (pv 0) (pv 1) Zj)),?_⟩;refine⟨_,Zj,_,Zj,hn,λz=>⟨e,C,none,z,Zj,hC,he,?_⟩⟩;exact⟨_,Zj,_,Zj,e,C,Zj,he,S,k⟩
def iG (fl:Str) (H:Hp) (E:XK) (cR:Vs) (v:V):Prop:=∀e d H',aA H H'->H e=none->H d=none->d≠e->H' e=some (Co e cR (some d))->H' d=some (.xd [(fl,v)])->E (.ref cR) (some d) H'
theorem iG.of {E:XK}{v:V} (s:aA H H') (h:iG fl H E cR v):iG fl H' E cR v:=λe d H2 s2 he hd aw h1 h2=>h e d H2 (s.trans s2) (none_of s he) (none_of s hd) aw h1 h2
structure GQ (P:Program) (w:World) (K:FG) (mg:SV) (base:Heap) (cM cR:Vs) (x fl:Str):Prop where
 cls:mg x=some (.ref cR)
 make:∃f fd,MkX K cR f/\aB P w K mg base aL 2 f fd ["self", fl] (spFI K cM fl)/\Binds K fd ["self", fl] []
 st:NH K cR cM fl
theorem FV {σ:St}{H1:Hp}{E:XK}{D:Gc}{v:V}{te:TE} (hC:BF K cR=true) (S:NH K cR cM fl) (hn:FdV v) (s1:aA H H1) (h:iG fl H E cR v) (ht:∀Q:VK,Q v H1->te σ H1 Q) :
  JI cR (JH cR (spFI K cM fl) [] E0 (As te B6)) E D σ H1:=by
 refine ht _ ?_;refine⟨(by show 1<=1000;decide),λa ha=>?_⟩;refine⟨a,cR,v,Zj,hn,hC,U,S,λd hd aw=>⟨Zj,a,some d,Zj,?_,?_⟩⟩
 ·rw[AE (Ne.symm aw),U]
 ·have iF:H1 d=none:=by rw[AE aw]at hd;exact hd
  refine h a d _ (λb u e=>?_) (none_of s1 ha) (none_of s1 iF) aw U ?_
  ·have e1:=s1 _ _ e;have nb:b≠a:=AJ e1 ha;have nd:b≠d:=AJ e1 iF;rw[AE nb,AE nd,AE nb,AE nb];exact e1
  ·rw[AE aw,U]
end
section
variable {cM cA cU:Vs}
structure ik (P:Program) (w:World) (K:FG) (mg:SV) (base:Heap) (x:Str) (k:Nat) (ps:Vp) (sp:Sp):Prop where
 ex:∃f fd,aB P w K mg base (cE P w) k f fd ps sp/\mg x=some (.ref f)/\W.keepIn K (.ref f)=true/\Binds K fd ps []
structure Vd (H:Hp) (b d:Vs) (x:Str) (n:Nat) (ac:Aa):Prop where
 hb:H b=some (.tup [.str x,.int (n:Int)])
 hd:Rd H d (.dK (Aq ac))
 nm:EQ x=true/\x.cps.all (· < 128)=true/\x.length<=1000
 new:x∉ ac.map (·.1)
 ahead:KP ac
 big:1048575<n
inductive spRowG (vs:Vr) (H:Hp) (Q:VK) (_E:XK):Prop where
 |mk (b d:Vs) (x:Str) (n:Nat) (ac:Aa) (aZ:vs=[.ref b,.ref d]) (bG:Vd H b d x n ac) (dw:∀H',aA H H'->Q .aT H')
theorem RJ {tg:Tok} (F:aQ K "row_number" "row_number" Db f fd) (B:Bl mg) (hG:mg "GREATEST" = some (.int 1048575 tg)) (GN:Fn P w K mg base "is_name" 1 ["thing"] spIsName) (GT:Fn P w K mg base "thing_number" 3 ["thing", "ahead"] spThing) :
  aB P w K mg base aL 4 f fd ["row", "ahead"] spRowG:=by
 obtain⟨fN,dN,GN,mN,kN,bN⟩:=GN.ex;obtain⟨fT,dT,GT,mT,kT,bT⟩:=GT.ex;refine F.m fh λvs H Q E h=>?_;obtain⟨b,d,x,n,ac,rfl,⟨hb,hd,nm,new,DO,big⟩,k⟩:=h;refine⟨Zj,λae A outer s hr=>?_⟩;have hu:=Cc hr;have cZ:aD 1 _:=hr.mono qc
 refine⟨_,AC (Ac (PW.pt (B9 (Ah (Ae (BI K Zj Zj B.eA Zj B.tuple B0 (pv 0)))) (BW (AW Ck (AM (Av K Zj) Zj B.len PySem.boot_len (AA (pv 0) AB)) AI (AT _))))) (AD Ap) AR)
  (AC (Iq (pv 0) (Dp rfl (Az (Ar (i:=2) fh.nd rfl (Or.inl rfl)) (Az (Ar (i:=3) fh.nd rfl (Or.inl rfl)) C2))))
  (AC (Ac (PW.pt (B9 (Ah (Ae (AO GN cZ rfl mN kN bN .nil AL (AA (pv 2) AB)))) (BW (C6 (HI hu (pv 2) (pv 1)))))) (AD Ap) AR)
  (AC (Am (i:=4) fh.nd rfl (Or.inl rfl) (AO GT hr rfl mT kT bT .nil AL (AA (pv 3) (AA (pv 1) AB))))
  (AC (Ac (PW.pt (B9 (C6 (EZ (pv 4))) (BW (Ah (Cl DD DD AI (pv 4) (Ag (v:=.int 1048575) rfl hG ⟨tg,rfl⟩)))))) (AD (AN Ip)) AR)
  (AD Ap))))),?_⟩
 refine⟨_,Zj,_,_,_,true,Zj,.tup hb,Zj,_,Zj,AX ?_⟩;refine⟨_,Zj,b,_,Zj,.inr (bZ.of hb),Zj,_,Zj,IP Zj ?_⟩;refine⟨_,Zj,b,_,Zj,bZ.of hb,Zj,_,_,Zj,_,_,Zj,Zj,?_⟩;refine⟨_,Zj,x,Zj,nm.2.1,nm.2.2,λH1 s1=>⟨_,Zj,?_⟩⟩;rw[nm.1];refine AX ⟨_,Zj,_,Zj,d,_,Zj,.inl ⟨Aq ac,Sum.inr x,aA.rd s1 hd,Zj,(B1 new).symm⟩,_,Zj,AX ?_⟩;refine⟨_,Zj,_,Zj,_,.num n,d,ac,Zj,Zj,aA.rd s1 hd,DO,trivial,λH2 s2=>?_⟩;refine⟨_,Zj,_,Zj,?_⟩;refine Bj (λz=>absurd (ZW z) (by intro q;cases q)) (λ_=>?_);refine⟨_,Zj,_,_,Zj,Zj,_,Zj,?_⟩;refine Bj (λ_=>?_) (λz=>absurd (ZN (Z1 _)) z);refine⟨_,_,Zj,Zj,_,Zj,?_⟩;rw[ZQ (show ¬ ((F9 ac (.num n):Nat):Int)<=1048575 by show ¬ (n:Int)<=1048575;omega)];exact Af (k _ (s1.trans s2))
theorem TD:KP []:=⟨qc,(λp hp=>by cases hp),List.Pairwise.nil,(λp hp=>by cases hp)⟩
theorem IA:KP [("A", 1)]:=⟨qc,qc,qb,qb⟩
structure SG (H:Hp) (l:Vs) (n:Nat):Prop where
 ex:∃b1 b2,H l=some (.lst [.ref b1,.ref b2])/\H b1=some (.tup [.str "A", .int 1])/\H b2=some (.tup [.str "B", .int (n:Int)])
 big:1048575<n
inductive spNumberedG (cA:Vs) (vs:Vr) (H:Hp) (Q:VK) (E:XK):Prop where
 |mk (l:Vs) (n:Nat) (aZ:vs=[.ref l]) (bG:SG H l n) (bJ:iG "at" H E cA (.int 1))
theorem JZ {tM:Tok} (F:aQ K "numbered" "numbered" DK f fd) (B:Bl mg) (hM:mg "MOST_ROWS" = some (.int 10 tM)) (RX:GQ P w K mg base cM cA "BadRows" "at")
  (GR:Fn P w K mg base "row_number" 4 ["row", "ahead"] (λvs H Q E=>spRow vs H Q E\/spRowG vs H Q E)):aB P w K mg base (cE P w) 5 f fd ["rows"] (spNumberedG cA):=by
 obtain⟨fX,dX,MX,GX,bX⟩:=RX.make;have mX:=RX.cls;obtain⟨fR,dR,GR,mR,kR,bR⟩:=GR.ex;refine F.n aW λvs H Q E h=>?_;obtain⟨l,n,rfl,⟨⟨b1,b2,hl,h1,h2⟩,big⟩,hU⟩:=h;refine⟨Zj,λae A outer s hr=>?_⟩;have hu:=Cc hr;have gL:aD 3 _:=hr.mono qc;have rz:=Bv (P:=P) (w:=w) (K:=K) (mg:=mg) (base:=base) (N:=["rows", "numbers", "at", "row", "number"]) (qual := "numbered") (scope:=defScope DK) (f:=f) (cd:=ae) (A:=A) (outer:=outer) (s:=s) (H:=H) (E:=E)
 refine⟨_,AC (Ac (PW.pt (B9 (Ah (Ae (BI K Zj Zj B.eA Zj B.list Bm (pv 0)))) (BW (Ah (Cl DD DD AI (AM (Av K Zj) Zj B.len PySem.boot_len (AA (pv 0) AB)) (Ag (v:=.int 10) Zj hM ⟨tM,Zj⟩)))))) (AD Ap) AR)
  (AC (Am (i:=1) aW.nd rfl (Or.inl rfl) Dt)
  (AC (DR PassesOwn.leaving rfl (JC rfl B.enum (AA (pv 0) AB)) (Dp rfl (Az (Ar (i:=2) aW.nd rfl (Or.inl rfl)) (Az (Ar (i:=3) aW.nd rfl (Or.inl rfl)) C2)))
   (AC (Am (i:=4) aW.nd rfl (Or.inl rfl) (AO GR hr rfl mR kR bR .nil AL (AA (pv 3) (AA (pv 1) AB))))
   (AC (Ac (C6 (EZ (pv 4))) (AD (BH rz rfl MX.cls (BG MX GX gL rfl mX bX .nil AL (AA (pv 2) AB)))) AR)
   (AD (L6 hu (pv 1) (Bi (Dg K rfl) (pv 3) AI (λ_ _=>rfl)) (pv 4) rfl)))))
  (AD (AN (pv 1))))),?_⟩
 refine⟨_,Zj,_,_,_,true,Zj,.lst hl,Zj,_,Zj,AX ?_⟩;refine⟨_,Zj,l,_,Zj,.inl (aJ.of hl),_,_,Zj,Zj,_,Zj,Af ?_⟩;refine⟨_,_,Zj,Zj,_,Zj,AX ?_⟩;intro d fm
 refine⟨_,Zj,l,Zj,⟨_,aJ.of (AF (aA.refl _) fm _ _ hl)⟩,KQ (K:=K) (a:=l) (xs:=[.ref b1,.ref b2]) (λi σ H2=>i<=1/\∃v1 v2 v3:Option V,σ=[some (.ref l),some (.ref d),v1,v2,v3]/\aA H H2/\H2 d=some (.dK (Aq (([("A", 1)]:Aa).take i))))
  ⟨Nat.zero_le _,none,none,none,rfl,AF (aA.refl _) fm,U⟩ (λi σ H2 _ ⟨_,_,_,_,_,s2,_⟩=>aJ.of (s2 _ _ hl)) ?_ ?_⟩
 ·rintro i y σ H2 p hi ⟨hle,v1,v2,v3,rfl,s2,hd2⟩ hp;have s3:aA H (upd H2 p (.tup [.int i,y])):=AF s2 hp;have ig:=AF (aA.refl _) hp (o:=HO.tup [.int i,y]) _ _ hd2;refine⟨p,_,Zj,bZ.of U,Zj,_,_,Zj,_,_,Zj,Zj,?_⟩;rcases (show i=0\/i=1 by omega)with rfl |rfl
  ·cases hi;refine⟨_,Zj,_,Zj,.inl ⟨b1,d,("A", .num 1),[],Zj,⟨_,s3 _ _ h1,Zj⟩,.inl ig,?_,λH4 s4=>?_⟩⟩
   ·exact⟨TD,qc,⟨qb,qb,qb⟩,qb,trivial,qc⟩
   refine⟨_,Zj,_,Zj,?_⟩;refine Bj (λz=>absurd (ZW z) (by intro q;cases q)) (λ_=>?_);refine⟨_,Zj,_,Zj,_,Zj,b1,_,0,.str "A", Zj,Zj,bZ.of (s4 _ _ (s3 _ _ h1)),Zj,d,_,Zj,DPut.k (k:=Sum.inr "A") (s4 _ _ ig) (AQ (by show 0<=1000;decide)),?_⟩;refine⟨ZA _,_,_,_,Zj,FK (s3.trans s4) fm,?_⟩;rw[U];rfl
  ·cases hi;refine⟨_,Zj,_,Zj,.inr ⟨b2,d, "B", n,[("A", 1)],Zj,⟨s3 _ _ h2,.inl ig,qb,qb,IA,big⟩,λH4 s4=>?_⟩⟩;refine⟨_,Zj,_,Zj,?_⟩;refine Bj (λ_=>?_) (λz=>absurd Zj z);exact FV (te:=C5 2) MX.cls RX.st (.inl ⟨_,Zj,qc⟩) (s3.trans s4) hU (λQ z=>⟨_,Zj,z⟩)
 ·rintro σ H2 ⟨hle,_⟩;exact absurd (show 2<=1 from hle) qc
inductive spInitG (C cA:Vs) (vs:Vr) (H:Hp) (Q:VK) (E:XK):Prop where
 |rows (p dx l:Vs) (n:Nat) (r:V) (aZ:vs=[.ref p,.ref l,r]) (bG:H p=some (.ins C dx [])) (bJ:SG H l n) (cY:iG "at" H E cA (.int 1))
theorem Pr (F:aQ K "__init__" "Kind.__init__" At f fd) (GN:ik P w K mg base "numbered" 5 ["rows"] (spNumberedG cA)):aB P w K mg base (cE P w) 6 f fd ["self", "rows", "rest"] (spInitG C cA):=by
 obtain⟨fN,dN,GN,mN,kN,bN⟩:=GN.ex;refine F.n LZ λvs H Q E h=>?_;obtain⟨p,dx,l,n,r,rfl,hp,h,hU⟩:=h;refine⟨Zj,λae A outer s hr=>?_⟩;have ps:=J5 (P:=P) (w:=w) (K:=K) (mg:=mg) (base:=base) (N:=["self", "rows", "rest"]) (qual := "Kind.__init__") (scope:=defScope At) (f:=f) (cd:=ae) (A:=A) (outer:=outer) (s:=s) (H:=H) (E:=E);have never:∀ {st:List Stmt},eI (Au (cE P w) P w K mg base ["self", "rows", "rest"] "Kind.__init__" (defScope At) f ae A outer s H E) st (λ_ _ _=>False):=λ{st} _ _ _ _ _ _ z=>z.elim;exact⟨_,AC (A3 (pv 0) (AO GN hr Zj mN kN bN .nil ps (AA (pv 1) AB)) Zj) never,_,Zj,l,n,Zj,h,hU⟩
theorem Nk {x:Str} (h:x∉ aV):ip (.str x) (aV.map V.str)=false:=by
 rw[Q6,List.any_eq_false];intro y hy z;exact h (eq_of_beq z ▸ hy)
inductive spInitU (C cU:Vs) (vs:Vr) (H:Hp) (Q:VK) (E:XK):Prop where
 |mk (p dx l:Vs) (rows:List (Str×Th)) (x:Str) (aZ:vs=[.ref p,.ref l,.str x]) (bG:H p=some (.ins C dx [])) (bJ:RowsAt H l rows) (cY:0<rows.length) (dw:rows.length<=10) (f9:JW rows) (js:x∉ aV) (jr:∀e H',(∀b o,H b=some o->b≠p->H' b=some o)->H' e=some (Co e cU none)->E (.ref cU) none H')
theorem Ps {aR:Vs} (F:aQ K "__init__" "Kind.__init__" At f fd) (T:Dh K C) (EU:C4 P w K mg base "BadRule" cU) (hR:mg "RULES" = some (.ref aR)) (hRT:∀H:Hp,bZ K H aR (aV.map V.str))
  (GN:Fn P w K mg base "numbered" 5 ["rows"] spNumbered) (GO:Fn P w K mg base "is_one_of" 1 ["thing", "names"] (Ci K)):aB P w K mg base (cE P w) 6 f fd ["self", "rows", "rest"] (spInitU C cU):=by
 obtain⟨fN,dN,GN,mN,kN,bN⟩:=GN.ex;obtain⟨fO,dO,GO,mO,kO,bO⟩:=GO.ex;obtain⟨fX,dX,MX,GX,bX⟩:=EU.make;have mX:=EU.cls;refine F.n LZ λvs H Q E h=>?_;obtain⟨p,dx,l,rows,x,rfl,hp,RA,h0,h10,RO,hx,k⟩:=h;refine⟨Zj,λae A outer s hr=>?_⟩;have cZ:aD 1 _:=hr.mono qc;have gk:aD 2 _:=hr.mono qc;have rz:=Bv (P:=P) (w:=w) (K:=K) (mg:=mg) (base:=base) (N:=["self", "rows", "rest"]) (qual := "Kind.__init__") (scope:=defScope At) (f:=f) (cd:=ae) (A:=A) (outer:=outer) (s:=s) (H:=H) (E:=E);have never:∀ {st:List Stmt},eI (Au (cE P w) P w K mg base ["self", "rows", "rest"] "Kind.__init__" (defScope At) f ae A outer s H E) st (λ_ _ _=>False):=λ{st} _ _ _ _ _ _ z=>z.elim
 refine⟨_,AC (A3 (pv 0) (AO GN hr Zj mN kN bN .nil AL (AA (pv 1) AB)) Zj)
  (CC (AC (Ac (Ah (Ae (AO GO cZ rfl mO kO bO .nil AL (AA (pv 2) (AA (Ag (v:=.ref aR) rfl hR rfl) AB))))) (AD (BH rz rfl MX.cls (BG MX GX gk rfl mX bX .nil AL (AA Al AB)))) AR) never)),?_⟩
 refine⟨_,Zj,l,rows,Zj,RA,h0,h10,RO,λd1 H1 s1 hd1n iF=>?_⟩;have gU:p≠d1:=AJ hp hd1n;refine⟨_,Zj,p,C,dx,[],Zj,s1 _ _ hp,T.cl,T.nN,(by show 0<1000;decide),?_⟩;refine⟨d1,Aq (C7 rows),by rw[AE (Ne.symm gU)];exact iF,λo1=>?_⟩
 have old:∀b o,H b=some o->b≠p->(upd (upd H1 p (.ins C dx (AY "numbers" (.ref d1) []))) d1 (.cH o1 (.dK (Aq (C7 rows))))) b=some o:=λb o eb hb=>by
  rw[AE (AJ eb hd1n),AE hb];exact s1 _ _ eb
 have hU:Uq (upd (upd H1 p (.ins C dx (AY "numbers" (.ref d1) []))) d1 (.cH o1 (.dK (Aq (C7 rows))))) E cU:=λe H' s' _ he=>k e H' (λb o eb hb=>s' _ _ (old b o eb hb)) he;refine⟨_,Zj,.inr ⟨x,aR,aV,Zj,hRT _,_,Zj,?_⟩⟩;rw[Nk hx];exact Af (BN (te:=λ_=>tC (.str "")) MX.cls (aA.refl _) hU)
end
section
variable {cM cR cB cK:Vs}
inductive spMadeG (C cR:Vs) (vs:Vr) (H:Hp) (Q:VK) (E:XK):Prop where
 |mk (kp:Vs) (ac:Aa) (n:Nat) (aZ:vs=[.ref kp,.int (n:Int)]) (bG:aE C H kp ac "bar") (bJ:n<1000) (cY:n - (n&&&kn ac)≠0) (dw:iG "bits" H E cR (.int ((n - (n&&&kn ac):Nat):Int)))
theorem scMade:AH ["kind", "number", "bits", "rest"] ["kind", "number"] (defScope KK):=bH
theorem Pt {tL:Tok} (F:aQ K "made" "made" KK f fd) (hL:mg "LIMIT" = some (.int 1099511627776 tL)) (T:Dh K C) (RO:GQ P w K mg base cM cR "BadRest" "bits")
  (GW:Fn P w K mg base "is_whole" 1 ["thing"] spIsWhole) (GR:Fn P w K mg base "rest_of" 3 ["kind", "number"] (spRestOf C)) (GRe:Mt P w K mg base C "rest" 1 ["self"] (spRest C)) :
  aB P w K mg base (cE P w) 6 f fd ["kind", "number"] (spMadeG C cR):=by
 obtain⟨fW,dW,GW,mW,kW,bW⟩:=GW.ex;obtain⟨fR,dR,GR,mR,kR,bR⟩:=GR.ex;obtain⟨fE,dE,GE,mE,bE⟩:=GRe.ex;obtain⟨fX,dX,MX,GX,bX⟩:=RO.make;have mB:=RO.cls;refine F.n scMade λvs H Q E h=>?_;obtain⟨kp,ac,n,rfl,KA,hn,h0,hU⟩:=h;refine⟨Zj,λae A outer s hr=>?_⟩;have cZ:aD 1 _:=hr.mono qc;have gL:aD 3 _:=hr.mono qc;have rz:=Bv (P:=P) (w:=w) (K:=K) (mg:=mg) (base:=base) (N:=["kind", "number", "bits", "rest"]) (qual := "made") (scope:=defScope KK) (f:=f) (cd:=ae) (A:=A) (outer:=outer) (s:=s) (H:=H) (E:=E);have never:∀ {st:List Stmt},eI (Au (cE P w) P w K mg base ["kind", "number", "bits", "rest"] "made" (defScope KK) f ae A outer s H E) st (λ_ _ _=>False):=λ{st} _ _ _ _ _ _ z=>z.elim;obtain⟨ji,d1,d2,ai⟩:=KA.ins
 refine⟨_,AC (Ac (PW.pt (B9 (Ah (Ae (AO GW cZ Zj mW kW bW .nil AL (AA (pv 1) AB)))) (BW (Ah (Cl DD ID (Jm Ku (Ag (v:=.int 1099511627776) Zj hL ⟨tL,Zj⟩)) (pv 1) (Ag (v:=.int 1099511627776) Zj hL ⟨tL,Zj⟩)))))) (AD Ap) AR)
  (AC (Am (i:=2) scMade.nd rfl (Or.inl rfl) (Ev (AW OM (pv 1) AI (AT _)) (pv 1) (Ak OI (Jm Ku (pv 1)) AI)))
  (AC (Am (i:=3) scMade.nd rfl (Or.inl rfl) (AO GR gL rfl mR kR bR .nil AL (AA (pv 0) (AA (pv 2) AB))))
  (AC (Ac (PW.pt (Do (AW Ck (pv 3) AI (AT _)) (C0 (AW Cj (An (pv 0) T.cl mE GE cZ bE .nil AL) Al (AT _))))) (AD (BH rz rfl MX.cls (BG MX GX gL rfl mB bX .nil AL (AA (pv 3) AB)))) AR) never))),?_⟩
 have noR:(Hn d1 d2 "bar").lookup ("rest" : Str)=none:=(B2 _ _ _);refine⟨_,Zj,_,Zj,_,Zj,AX ?_⟩;refine⟨_,Zj,_,Zj,_,_,Zj,Zj,_,Zj,?_⟩;rw[ZN (show -1099511627776<=(n:Int) by omega)];refine Af ⟨_,_,Zj,Zj,_,Zj,?_⟩;rw[ZN (show(n:Int)<1099511627776 by omega)];refine AX ⟨_,Zj,_,_,Zj,Zj,_,Zj,?_⟩;rw[ZN (show(n:Int) ≥ 0 by omega)];refine Af ⟨_,Zj,_,Zj,_,Zj,kp,ac, "bar", n,Zj,KA,λH1 s1=>?_⟩
 have eS:(!decide (V.int ((n - (n&&&kn ac):Nat):Int)=V.int 0))=true:=by
  rw[ZQ λz=>h0 (by have:=V.int.inj z;omega)];rfl
 refine⟨_,Zj,Zj,_,Zj,?_⟩;rw[eS];refine Af ⟨_,Zj,kp,ji,_,Zj,s1 _ _ ai,noR,kp,ac, "bar", Zj,KA.same s1,Zj,_,Zj,Af ?_⟩;refine FV (te:=C5 3) MX.cls RO.st (.inl ⟨_,Zj,?_⟩) s1 hU (λQ z=>⟨_,Zj,z⟩);rw[Int.natAbs_natCast];have h2:n - (n&&&kn ac)<2 ^ 10:=Nat.lt_of_le_of_lt (Nat.sub_le _ _) qe;have:=(Nat.log2_lt h0).mpr h2;omega
inductive spNumberG (C cB:Vs) (vs:Vr) (H:Hp) (Q:VK) (E:XK):Prop where
 |mk (p:Vs) (ac:Aa) (r x:Str) (aZ:vs=[.ref p,.str x]) (bG:aE C H p ac r) (bJ:x∉ ac.map (·.1)) (cY:Uq H E cB)
theorem Ld (F:aQ K "number" "Kind.number" CM f fd) (T:Dh K C) (EB:C4 P w K mg base "BadName" cB) (GO:Fn P w K mg base "is_one_of" 1 ["thing", "names"] (Ci K)):aB P w K mg base (cE P w) 3 f fd ["self", "name"] (spNumberG C cB):=by
 obtain⟨fO,dO,GO,mO,kO,bO⟩:=GO.ex;obtain⟨fX,dX,MX,GX,bX⟩:=EB.make;have mX:=EB.cls;refine F.n Pf λvs H Q E h=>?_;obtain⟨p,ac,r,x,rfl,KA,hx,hU⟩:=h;refine⟨Zj,λae A outer s hr=>?_⟩;have cZ:aD 1 _:=hr.mono qc;obtain⟨dx,d1,o1,d2,o2,hp,h1,h2⟩:=KA.ex;have rz:=Bv (P:=P) (w:=w) (K:=K) (mg:=mg) (base:=base) (N:=["self", "name"]) (qual := "Kind.number") (scope:=defScope CM) (f:=f) (cd:=ae) (A:=A) (outer:=outer) (s:=s) (H:=H) (E:=E);have never:∀ {st:List Stmt},eI (Au (cE P w) P w K mg base ["self", "name"] "Kind.number" (defScope CM) f ae A outer s H E) st (λ_ _ _=>False):=λ{st} _ _ _ _ _ _ z=>z.elim;refine⟨_,AC (Ac (Ah (Ae (AO GO cZ Zj mO kO bO .nil AL (AA (pv 1) (AA (AU (pv 0) Zj) AB))))) (AD (BH rz Zj MX.cls (BG MX GX hr Zj mX bX .nil AL (AA Al AB)))) AR) never,?_⟩;refine⟨_,Zj,_,Zj,p,C,dx,_,_,Zj,hp,T.cl,T.nN,FM _ _ _,.inl ⟨x,d1,Aq ac,Zj,.inr ⟨o1,h1⟩,_,Zj,?_⟩⟩;rw[B1 hx];exact Af (BN (te:=λ_=>tC (.str "")) MX.cls (aA.refl _) hU)
theorem Nm:AH ["kind", "names"] ["kind", "names"] (defScope D1):=bH
inductive spValueG (C cB:Vs) (vs:Vr) (H:Hp) (Q:VK) (E:XK):Prop where
 |mk (kp l:Vs) (ac:Aa) (r x:Str) (aZ:vs=[.ref kp,.ref l]) (bG:aE C H kp ac r) (bJ:H l=some (.lst [.str x])) (cY:x∉ ac.map (·.1)) (dw:Uq H E cB)
theorem Nn (F:aQ K "value_of" "value_of" D1 f fd) (B:Bl mg) (T:Dh K C) (VO:MU P w K mg base C VC) (GU:Fn P w K mg base "union_of" 1 ["numbers"] (spUnionOf K))
  (GNu:∃f fd,aB P w K mg base (cE P w) 3 f fd ["self", "name"] (spNumberG C cB)/\Fe K C "number" f/\Binds K fd ["self", "name"] []) :
  aB P w K mg base (cE P w) 6 f fd ["kind", "names"] (spValueG C cB):=by
 obtain⟨fU,dU,GU,mU,kU,bU⟩:=GU.ex;obtain⟨fN,dN,GN,mN,bN⟩:=GNu;obtain⟨fI,dI,MI,GI,bI⟩:=VO.make;have mV:=VO.cls;refine F.n Nm λvs H Q E h=>?_;obtain⟨kp,l,ac,r,x,rfl,KA,hl,hx,hU⟩:=h;refine⟨Zj,λae A outer s hr=>?_⟩;have cZ:aD 1 _:=hr.mono qc;have gL:aD 3 _:=hr.mono qc;obtain⟨ji,d1,d2,ai⟩:=KA.ins;have own:=Om (CX:=cE P w) (P:=P) (w:=w) (K:=K) (mg:=mg) (base:=base) (N:=["kind", "names"]) (qual := "value_of") (scope:=defScope D1) (f:=f) (cd:=ae) (A:=A) (outer:=outer) (s:=s) (H:=H) (E:=E);have pz:=Sw (P:=P) (w:=w) (K:=K) (mg:=mg) (base:=base) (N:=["kind", "names"]) (qual := "value_of") (scope:=defScope D1) (f:=f) (cd:=ae) (A:=A) (outer:=outer) (s:=s) (H:=H) (E:=E)
 refine⟨_,AC (Ac (Ah (Ae (AM (K7 K Zj) Zj B.eA BR (AA (pv 1) (AA (DS (AA (Cz (v:=.ty "list") Zj B.list Bm Zj) (AA (Cz (v:=.ty "tuple") Zj B.tuple B0 Zj) AB))) AB))))) (AD Ap) AR)
  (AD (AN (Bt MI GI hr rfl mV bI .nil AL (AA (pv 0) (AA (AO GU cZ rfl mU kU bU .nil AL (AA (NJ own pz ["kind"] [some 0] qd qb qd rfl (BS (pv 1)) (λ_ _ _ _ _ _=>BM) (λ_ _ _ _ _ _=>BD (pv 1) T.cl mN GN gL bN .nil (UQ own) (AA (pv 0) AB))) AB)) AB))))),?_⟩
 refine⟨_,Zj,fg,λt ht=>?_⟩;have s1:=AF (aA.refl _) ht (o:=HO.tup [V.ty "list", V.ty "tuple"]);refine⟨l,t,_,Zj,.inl (s1 _ _ hl),bZ.of U,_,Zj,AX ?_⟩;refine⟨_,Zj,_,Zj,l,Zj,⟨_,aJ.of (s1 _ _ hl)⟩,Bp (K:=K) (a:=l) (xs:=[.str x]) (λi ys H2=>i=0/\ys=[]/\H2=upd H t (.tup [V.ty "list", V.ty "tuple"])) ⟨Zj,Zj,Zj⟩ (λi ys H2 _ ⟨_,_,e⟩=>e ▸ aJ.of (s1 _ _ hl)) (λi ys H2 ⟨_,e,_⟩=>by rw[e];exact Nat.zero_le _) ?_ ?_⟩
 ·rintro i z ys H2 hi ⟨rfl,rfl,rfl⟩;cases hi;exact⟨_,Zj,kp,ji,_,Zj,s1 _ _ ai,(B2 _ _ _),_,Zj,kp,ac,r,x,Zj,KA.same s1,hx,Uq.of s1 hU⟩
 ·rintro ys H2 ⟨e,_⟩;exact absurd (show 1=0 from e) qc
inductive de (C VC cK:Vs) (vs:Vr) (H:Hp) (Q:VK) (E:XK):Prop where
 |mk (a b k1 k2:Vs) (n1 n2:Nat) (IA ad:Aa) (r1 r2:Str) (aZ:vs=[.ref a,.ref b]) (bG:dc VC H a k1 n1) (bJ:dc VC H b k2 n2) (cY:aE C H k1 IA r1) (dw:aE C H k2 ad r2) (f9:jq IA) (js:jq ad) (jr:r1≠r2) (z_8:Uq H E cK)
theorem TF:AH ["one", "other"] ["one", "other"] (defScope DL):=bH
theorem Pu (F:aQ K "same_kind" "same_kind" DL f fd) (VT:Fx K VC) (neK:W.findIn K (.ref C) "__ne__" = some (some (.builtin "object.__ne__"))) (hm:W.mroIn K C (.type "object")=some true) (EK:C4 P w K mg base "Unlike" cK) (jl:Mt P w K mg base VC "kind" 1 ["self"] (spVKind VC)) (GE:Mt P w K mg base C "__eq__" 2 ["self", "other"] (spEqK C)) :
  aB P w K mg base (cE P w) 4 f fd ["one", "other"] (de C VC cK):=by
 obtain⟨fV,dV,GV,mV,bV⟩:=jl.ex;obtain⟨fE,dE,GE,mE,bE⟩:=GE.ex;obtain⟨fX,dX,MX,GX,bX⟩:=EK.make;have mX:=EK.cls;refine F.n TF λvs H Q E h=>?_;obtain⟨a,b,k1,k2,n1,n2,IA,ad,r1,r2,rfl,⟨dxa,ha⟩,⟨dxb,hb⟩,KA1,KA2,as1,as2,aw,hU⟩:=h;refine⟨Zj,λae A outer s hr=>?_⟩;have cZ:aD 1 _:=hr.mono qc;have gk:aD 2 _:=hr.mono qc;have gL:aD 3 _:=hr.mono qc;have rz:=Bv (P:=P) (w:=w) (K:=K) (mg:=mg) (base:=base) (N:=["one", "other"]) (qual := "same_kind") (scope:=defScope DL) (f:=f) (cd:=ae) (A:=A) (outer:=outer) (s:=s) (H:=H) (E:=E);have never:∀ {st:List Stmt},eI (Au (cE P w) P w K mg base ["one", "other"] "same_kind" (defScope DL) f ae A outer s H E) st (λ_ _ _=>False):=λ{st} _ _ _ _ _ _ z=>z.elim;obtain⟨g8,d11,d12,hk1⟩:=KA1.ins;obtain⟨i6,d21,d22,hk2⟩:=KA2.ins;refine⟨_,AC (Ac (AW (HR GE gL bE mE neK hm) (An (pv 0) VT.cl mV GV cZ bV .nil AL) (An (pv 1) VT.cl mV GV cZ bV .nil AL) (AT _)) (AD (BH rz Zj MX.cls (BG MX GX gk Zj mX bX .nil AL (AA Al AB)))) AR) never,?_⟩;have no1:(FR k1 n1).lookup ("kind" : Str)=none:=Hr _ _ qb qb;have no2:(FR k2 n2).lookup ("kind" : Str)=none:=Hr _ _ qb qb;refine⟨_,Zj,a,dxa,_,Zj,ha,no1,a,k1,n1,Zj,⟨dxa,ha⟩,_,Zj,b,dxb,_,Zj,hb,no2,b,k2,n2,Zj,⟨dxb,hb⟩,?_⟩;refine⟨k1,g8,_,k2,i6,_,Zj,Zj,hk1,hk2,k1,k2,IA,r1,Zj,KA1,as1,.inr ⟨ad,r2,KA2,as2,λH1 s1=>⟨_,Zj,_,Zj,_,Zj,?_⟩⟩⟩;rw[ZQ λz=>aw z.2];exact Af (BN (te:=λ_=>tC .aT) MX.cls s1 hU)
theorem RK:AH ["one", "other"] ["one", "other"] (defScope Hf):=bH
theorem No (F:aQ K "union" "union" Hf f fd) (VO:MU P w K mg base C VC) (GS:ik P w K mg base "same_kind" 4 ["one", "other"] (de C VC cK)) :
  aB P w K mg base (cE P w) 6 f fd ["one", "other"] (de C VC cK):=by
 obtain⟨fS,dS,GS,mS,kS,bS⟩:=GS.ex;obtain⟨fI,dI,MI,GI,bI⟩:=VO.make;have mV:=VO.cls;refine F.okX RK (λvs H Q E h=>?_) (λae A outer s H vs Q E hr h=>?_)
 ·obtain⟨a,b,k1,k2,n1,n2,IA,ad,r1,r2,rfl,_⟩:=h;rfl
 ·have hr4:aD 4 _:=hr.mono qc;have ps:=J5 (P:=P) (w:=w) (K:=K) (mg:=mg) (base:=base) (N:=["one", "other"]) (qual := "union") (scope:=defScope Hf) (f:=f) (cd:=ae) (A:=A) (outer:=outer) (s:=s) (H:=H) (E:=E);have never:∀ {e:Expr},PE (Au (cE P w) P w K mg base ["one", "other"] "union" (defScope Hf) f ae A outer s H E) e (λ_ _ _=>False):=λ{e} _ _ _ _ _ _ z=>z.elim;refine⟨_,AD (AN (Bt MI GI hr Zj mV bI .nil AL (AA (AO GS hr4 Zj mS kS bS .nil ps (AA (pv 0) (AA (pv 1) AB))) (AA never AB)))),?_⟩;obtain⟨a,b,k1,k2,n1,n2,IA,ad,r1,r2,rfl,y1,y2,y3,y4,y5,y6,y7,y8⟩:=h;exact⟨_,Zj,_,Zj,a,b,k1,k2,n1,n2,IA,ad,r1,r2,Zj,y1,y2,y3,y4,y5,y6,y7,y8⟩
end
section
variable {BC cN:Vs}
structure Pw (K:FG) (BC:Vs):Prop where
 cl:gQ K BC
 nK:aS K BC "own_kind"
 nE:aS K BC "entries"
 nD:aS K BC "deeds"
noncomputable def Ka (k:V) (d l:Vs):List (Str×V):=AY "deeds" (.ref l) (AY "entries" (.ref d) (AY "own_kind" k []))
inductive spBInit (BC:Vs) (vs:Vr) (H:Hp) (Q:VK) (_E:XK):Prop where
 |mk (p dx:Vs) (k:V) (aZ:vs=[.ref p,k]) (bG:H p=some (.ins BC dx [])) (bJ:∀d l H',(∀b o,H b=some o->b≠p->H' b=some o)->H' p=some (.ins BC dx (Ka k d l))->H' l=some (.lst [])->Q .aT H')
theorem RL:AH ["self", "kind"] ["self", "kind"] (defScope Fp):=bH
theorem Px (F:aQ K "__init__" "Book.__init__" Fp f fd) (BT:Pw K BC):aB P w K mg base aL 1 f fd ["self", "kind"] (spBInit BC):=by
 refine F.m RL λvs H Q E h=>?_;obtain⟨p,dx,k,rfl,hp,q⟩:=h;refine⟨Zj,λae A outer s hr=>?_⟩;refine⟨_,AC (A3 (pv 0) (pv 1) Zj) (AC (A3 (pv 0) Dt Zj) (AD (A3 (pv 0) (CB AB) Zj))),?_⟩;refine⟨_,Zj,_,Zj,p,BC,dx,[],Zj,hp,BT.cl,BT.nK,(by show 0<1000;decide),?_⟩;intro d hd;have h1:=U (H:=H) (a:=p) (o:=HO.ins BC dx (AY "own_kind" k []));have o1:∀b o,H b=some o->b≠p->upd H p (HO.ins BC dx (AY "own_kind" k [])) b=some o:=λb o e hb=>by rw[AE hb];exact e
 generalize upd H p (HO.ins BC dx (AY "own_kind" k []))=H1 at h1 o1 hd ⊢;have s2:=AF (aA.refl _) hd (o:=HO.dK []);refine⟨_,Zj,p,BC,dx,_,Zj,s2 _ _ h1,BT.cl,BT.nE,Nat.lt_of_le_of_lt (AV _ _ _) (by show 1<1000;decide),(by show 0<=sizeLine;decide),λl hl=>?_⟩;have h3:=U (H:=upd H1 d (.dK [])) (a:=p) (o:=HO.ins BC dx (AY "entries" (.ref d) (AY "own_kind" k [])));have o3:∀b o,H b=some o->b≠p->upd (upd H1 d (.dK [])) p (HO.ins BC dx (AY "entries" (.ref d) (AY "own_kind" k []))) b=some o:=λb o e hb=>by rw[AE hb];exact s2 _ _ (o1 b o e hb)
 generalize upd (upd H1 d (.dK [])) p (HO.ins BC dx (AY "entries" (.ref d) (AY "own_kind" k [])))=H3 at h3 o3 hl ⊢;have s4:=AF (aA.refl _) hl (o:=HO.lst []);have npl:=AJ h3 hl;refine⟨_,Zj,p,BC,dx,_,Zj,s4 _ _ h3,BT.cl,BT.nD,Nat.lt_of_le_of_lt (AV _ _ _) (Nat.succ_lt_succ (Nat.lt_of_le_of_lt (AV _ _ _) (by show 1<999;decide))),?_⟩;refine q d l _ (λb o e hb=>?_) U ?_
 ·rw[AE hb];exact s4 _ _ (o3 b o e hb)
 ·rw[AE (Ne.symm npl),U]
inductive spTbG (BC cN:Vs) (vs:Vr) (H:Hp) (Q:VK) (E:XK):Prop where
 |mk (p dx d l:Vs) (k:V) (aZ:vs=[.ref p]) (bG:H p=some (.ins BC dx (Ka k d l))) (bJ:H l=some (.lst [])) (cY:Uq H E cN)
theorem Ve:AH ["self", "name", "before"] ["self"] (defScope Bk):=bH
theorem TH (F:aQ K "take_back" "Book.take_back" Bk f fd) (B:Bl mg) (BT:Pw K BC) (EN:C4 P w K mg base "Nothing" cN):aB P w K mg base (cE P w) 3 f fd ["self"] (spTbG BC cN):=by
 obtain⟨fX,dX,MX,GX,bX⟩:=EN.make;have mX:=EN.cls;refine F.n Ve λvs H Q E h=>?_;obtain⟨p,dx,d,l,k,rfl,hp,hl,hU⟩:=h;refine⟨Zj,λae A outer s hr=>?_⟩;have rz:=Bv (P:=P) (w:=w) (K:=K) (mg:=mg) (base:=base) (N:=["self", "name", "before"]) (qual := "Book.take_back") (scope:=defScope Bk) (f:=f) (cd:=ae) (A:=A) (outer:=outer) (s:=s) (H:=H) (E:=E);have never:∀ {st:List Stmt},eI (Au (cE P w) P w K mg base ["self", "name", "before"] "Book.take_back" (defScope Bk) f ae A outer s H E) st (λ_ _ _=>False):=λ{st} _ _ _ _ _ _ z=>z.elim;refine⟨_,AC (Ac (AW Cj (AM (Av K Zj) Zj B.len PySem.boot_len (AA (AU (pv 0) Zj) AB)) AI (AT _)) (AD (BH rz Zj MX.cls (BG MX GX hr Zj mX bX .nil AL (AA Al AB)))) AR) never,?_⟩
 have lk:(Ka k d l).lookup ("deeds" : Str)=some (.ref l):=by
  unfold Ka;rw[AG,Zr rfl]
 refine⟨_,Zj,p,BC,dx,_,_,Zj,hp,BT.cl,BT.nD,lk,l,_,Zj,.inl (aJ.of hl),Zj,_,Zj,?_⟩;exact Af (BN (te:=λ_=>tC (.str "")) MX.cls (aA.refl _) hU)
end
def AtV (v:V):Prop:=v=.aT\/∃n:Int,v=.int n/\n.natAbs.log2<1920
def NoIs (K:FG) (T:String) (H:Hp) (v:V):Prop:=(∃t,(∀H,dG K H v t)/\W.kitOne K t (.type T)=some false)\/(∃a xs,v=.ref a/\H a=some (.tup xs)/\W.kitOne K (.type "tuple") (.type T)=some false) \/
 ∃a xs,v=.ref a/\H a=some (.lst xs)/\(∀x y:Int,xs≠ [.int x,.int y])/\W.kitOne K (.type "list") (.type T)=some false
theorem NoIs.ty {T:String}{v:V} (h:NoIs K T H v):∃t,dG K H v t/\W.kitOne K t (.type T)=some false:=by
 rcases h with⟨t,h,k⟩ |⟨a,xs,rfl,h,k⟩ |⟨a,xs,rfl,h,_,k⟩
 ·exact⟨t,h H,k⟩
 ·exact⟨_,.tup h,k⟩
 ·exact⟨_,.lst h,k⟩
theorem Np {n:Nat} (h:n<2 ^ 40):((n:Int)).natAbs.log2<1920:=by
 rw[Int.natAbs_natCast];rcases Nat.eq_zero_or_pos n with z |z
 ·subst z;decide
 ·have:=(Nat.log2_lt qe).mpr h;omega
theorem SH {CX:gx}{k:Nat}{ps:Vp}{sp sp':Sp} (F:aB P w K mg base CX k f fd ps sp) (h:∀vs H Q E,sp' vs H Q E->sp vs H Q E):aB P w K mg base CX k f fd ps sp' :=
 ⟨λvs H Q E q=>F.len _ _ _ _ (h _ _ _ _ q),λA outer s H args us vs Q E hr he hb hv q=>F.run A outer s H args us vs Q E hr he hb hv (h _ _ _ _ q)⟩
section
variable {cM cR:Vs}
abbrev Le (K:FG) (cM:Vs):Sp:=spFI K cM "at"
abbrev UqA (H:Hp) (E:XK) (cR:Vs) (v:V):Prop:=iG "at" H E cR v
abbrev RM (P:Program) (w:World) (K:FG) (mg:SV) (base:Heap) (cM cR:Vs):Prop:=GQ P w K mg base cM cR "BadText" "at"
theorem Fy {σ:St}{H1:Hp}{E:XK}{D:Gc}{v:V}{te:TE} (hC:BF K cR=true) (S:NH K cR cM "at") (hn:AtV v) (s1:aA H H1) (h:UqA H E cR v) (ht:∀Q:VK,Q v H1->te σ H1 Q) :
  JI cR (JH cR (Le K cM) [] E0 (As te B6)) E D σ H1:=FV hC S (hn.elim (λz=>.inr (.inr z)) .inl) s1 h ht
def Uc (K:FG) (H:Hp) (v:V):Prop:=v=.bl true\/NoIs K "int" H v
def D4 (K:FG):Sp:=λvs H Q _=>(∃i:Int,vs=[.int i]/\Q (.bl true) H)\/∃v,vs=[v]/\Uc K H v/\Q (.bl false) H
theorem Fz (F:aQ K "is_whole" "is_whole" FF f fd) (B:Bl mg):aB P w K mg base aL 1 f fd ["thing"] (D4 K):=by
 refine F.ok NV (λvs H Q E h=>?_) (λae A outer s H vs Q E hr h=>?_)
 ·rcases h with⟨i,rfl,_⟩ |⟨v,rfl,_⟩ <;> rfl
 ·refine⟨_,AD (AN (BQ (BI K rfl rfl B.eA rfl B.int O7 (pv 0)) (Bf (OE (BI K rfl rfl B.eA rfl B.bool Qw (pv 0)))))),?_⟩;rcases h with⟨n,rfl,k⟩ |⟨v,rfl,hv,k⟩
  ·refine⟨_,Zj,_,_,_,true,Zj,.int n,Zj,_,Zj,?_⟩;exact⟨_,Zj,_,_,_,false,Zj,.int n,qd,_,Zj,k⟩
  ·rcases hv with rfl |hv
   ·refine⟨_,Zj,_,_,_,true,Zj,.bl true,qd,_,Zj,?_⟩;exact⟨_,Zj,_,_,_,true,Zj,.bl true,Zj,_,Zj,k⟩
   ·obtain⟨t,ht,hk⟩:=hv.ty;exact⟨_,Zj,_,_,_,false,Zj,ht,hk,_,Zj,AX k⟩
noncomputable def okN (i:Int):Bool:=decide (0<=i)&&decide (i<1099511627776)
def Lf (K:FG):Sp:=λvs H Q _=>(∃i:Int,vs=[.int i]/\Q (.bl (okN i)) H)\/∃v,vs=[v]/\Uc K H v/\Q (.bl false) H
theorem MW {tL:Tok} (F:aQ K "is_number" "is_number" EI f fd) (hL:mg "LIMIT" = some (.int 1099511627776 tL)) (GW:Fn P w K mg base "is_whole" 1 ["thing"] (D4 K)):aB P w K mg base aL 2 f fd ["thing"] (Lf K):=by
 obtain⟨fW,dW,GW,mW,kW,bW⟩:=GW.ex;refine F.ok Lb (λvs H Q E h=>?_) (λae A outer s H vs Q E hr h=>?_)
 ·rcases h with⟨i,rfl,_⟩ |⟨v,rfl,_⟩ <;> rfl
 ·refine⟨_,AD (AN (BQ (AO GW hr rfl mW kW bW .nil AL (AA (pv 0) AB)) (Bf (Ew DD ID AI (pv 0) (Ag (v:=.int 1099511627776) rfl hL ⟨tL,rfl⟩))))),?_⟩;rcases h with⟨i,rfl,k⟩ |⟨v,rfl,hv,k⟩
  ·refine⟨_,Zj,.inl ⟨i,Zj,_,Zj,Af ⟨_,Zj,_,_,Zj,Zj,_,Zj,?_⟩⟩⟩;unfold okN at k;by_cases h0:0<=i
   ·rw[ZN h0]at k ⊢;exact Af ⟨_,_,Zj,Zj,k⟩
   ·rw[ZQ h0]at k ⊢;exact AX k
  ·exact⟨_,Zj,.inr ⟨v,Zj,hv,_,Zj,AX k⟩⟩
theorem Kb (F:aQ K "is_whole" "is_whole" FF f fd) (B:Bl mg):aB P w K mg base aL 1 f fd ["thing"] spIsWhole:=SH (Fz F B) λvs H Q E h=>by obtain⟨i,e,q⟩:=h;exact .inl ⟨i,e,q⟩
theorem Ja {tL:Tok} (F:aQ K "is_number" "is_number" EI f fd) (hL:mg "LIMIT" = some (.int 1099511627776 tL)) (GW:Fn P w K mg base "is_whole" 1 ["thing"] (D4 K)):aB P w K mg base aL 2 f fd ["thing"] spIsNumber:=SH (MW F hL GW) λvs H Q E h=>by
 obtain⟨n,e,hn,q⟩:=h;refine .inl ⟨(n:Int),e,?_⟩;have e40:(2:Nat) ^ 40=1099511627776:=by decide
 unfold okN;rw[ZN (show(0:Int)<=(n:Int) by omega),ZN (show(n:Int)<1099511627776 by omega)];exact q
end
end Mk
end
section
namespace Mk
open PySem L2 MK PySem.NumText
noncomputable def Dj (c:Nat):Bool:=decide (48<=c)&&decide (c<=57)
noncomputable def Nq (c:Nat):Bool:=decide (97<=c)&&decide (c<=122)
theorem Ik (lo hi:Nat) (x y:Str) (hx:x.cps.toList=[lo]) (hy:y.cps.toList=[hi]) (c:Nat):(if (!decide ((⟨#[c]⟩:Str).cps.toList<x.cps.toList))=true then (!decide (y.cps.toList<(⟨#[c]⟩:Str).cps.toList))else false)=(decide (lo<=c)&&decide (c<=hi)):=by
 rw[hx,hy];show(if (!decide ([c]<[lo]))=true then !decide ([hi]<[c])else false)=_
 have e1:decide ([c]<[lo])=decide (c<lo):=by
  rw[Bool.eq_iff_iff,decide_eq_true_eq,decide_eq_true_eq,cons_lt_cons_iff];simp
 have e2:decide ([hi]<[c])=decide (hi<c):=by
  rw[Bool.eq_iff_iff,decide_eq_true_eq,decide_eq_true_eq,cons_lt_cons_iff];simp
 rw[e1,e2];by_cases h1:c<lo <;> by_cases h2:hi<c <;> simp[h1,h2] <;> omega
noncomputable def Lg (x:Str):Bool:=x.cps.toList.all Dj&&(decide (x = "0")||(!decide (x.cps.toList.head?=some 48)&&decide (digitsVal x.cps.toList<1099511627776)))
noncomputable def Py (x:Str):Bool:=match x.cps.toList with | [c]=>Nq c |_=>false
section
inductive spFig (vs:Vr) (H:Hp) (Q:VK) (_E:XK):Prop where
 |mk (x:Str) (aZ:vs=[.str x]) (bG:x.cps.all (· < 128)=true) (bJ:0<x.length) (cY:x.length<=200) (dw:∀H',aA H H'->Q (.bl (Lg x)) H')
theorem Ud:AH ["text"] ["text"] (defScope En):=bH
theorem TJ (F:aQ K "is_figures" "is_figures" En f fd) (B:Bl mg) (GN:Fn P w K mg base "is_number" 2 ["thing"] (Lf K)):aB P w K mg base aL 3 f fd ["text"] spFig:=by
 obtain⟨fN,dN,GN,mN,kN,bN⟩:=GN.ex;refine F.m Ud λvs H Q E h=>?_;obtain⟨x,rfl,ha,h0,gi,k⟩:=h;refine⟨Zj,λae A outer s hr=>?_⟩
 refine⟨_,AC (Ac (PW.pt (B9 (AW Cj (AM Bb Zj B.len PySem.boot_len (AA (pv 0) AB)) AI (AT _)) (BW (Ah (Ae (AM (Bu Zj) Zj B.all Df (AA (BE [] [] qd qb qd Zj (Ob (pv 0)) (λ_ _ _ _ _ _=>BM) (λ_ _ _ _ _ _=>Ew Ch Ch Al (pv 0) Al)) AB))))))) (AD (AN CY)) AR)
  (AC (Ac (AW Cj (Bi OR (pv 0) AI (λ_ _=>rfl)) Al (AT _)) (AD (AN (BU Cj (pv 0) Al (AT _)))) AR)
  (AD (AN (AO GN hr rfl mN kN bN .nil AL (AA (A9 H0 rfl B.int O7 (AA (pv 0) AB)) AB))))),?_⟩
 refine⟨_,Zj,x,Zj,Nat.le_of_lt (AQ qe),Zj,_,Zj,?_⟩;rw[ZQ (show ¬ V.int (x.length:Int)=V.int 0 from λz=>by have:=V.int.inj z;omega)];refine AX ?_;have hlx:x.cps.toList.length=x.length:=by rw[Array.length_toList];rfl
 refine⟨_,Zj,x,Zj,ha,KL (x:=x) (λi ys H2=>H2=H/\ys=(x.cps.toList.take i).map λc=>V.bl (Dj c)) ⟨Zj,Zj⟩ (λi ys H2 ⟨_,e⟩=>?_) ?_ ?_⟩
 ·rw[e,AK,ZD];omega
 ·rintro i c ys H2 hc ⟨rfl,rfl⟩;refine⟨_,Zj,_,_,Zj,Zj,_,Zj,?_⟩
  have fin:∀b,b=Dj c->(H2=H2/\(x.cps.toList.take i).map (λc=>V.bl (Dj c))++[V.bl b]=(x.cps.toList.take (i+1)).map λc=>V.bl (Dj c)):=λb hb=>by
   refine⟨Zj,?_⟩;have iO:x.cps.toList[i]?=some c:=by rw[Array.getElem?_toList];exact hc
   rw[ZG,iO,Zw,hb];rfl
  have hu:=Ik 48 57 "0" "9" qb qb c;refine Bj (λh3=>?_) (λh3=>?_)
  ·rw[Zr h3]at hu;exact⟨_,_,Zj,Zj,fin _ hu⟩
  ·rw[Zs h3]at hu;exact fin _ hu
 rintro ys H2 ⟨rfl,rfl⟩ p hp;have el:x.cps.toList.take x.cps.size=x.cps.toList:=take_of_length_le (by rw[Array.length_toList];exact ZA _);have sp:=AF (aA.refl _) hp (o:=HO.lst ((x.cps.toList.take x.cps.size).map λc=>V.bl (Dj c)));refine⟨p,x.cps.toList.map Dj,Zj,aJ.of (by rw[U,el,map_map];rfl),_,Zj,?_⟩;rw[show(x.cps.toList.map Dj).all id=x.cps.toList.all Dj by rw[all_map];rfl];have kk:=k _ sp;unfold Lg at kk;by_cases bc:x.cps.toList.all Dj=true
 ·rw[bc]at kk ⊢;rw[Bool.true_and]at kk;refine AX ?_
  obtain⟨c,cs,ec⟩:∃c cs,x.cps.toList=c::cs:=by
   cases e:x.cps.toList with
   |nil=>rw[e]at hlx;simp at hlx;omega
   |cons c cs=>exact⟨c,cs,rfl⟩
  refine⟨_,Zj,x,0,c,Zj,Zj,Nat.le_of_lt (AQ qe),(show iz _ ((0:Nat):Int)=_ from CK (by rw[ec];rfl)),Zj,_,Zj,?_⟩;have e0:("0" : Str).cps.toList=[48]:=by decide +kernel
  by_cases h48:c=48
  ·subst h48;rw[ZN (show V.str ⟨#[48]⟩=V.str "0" by decide +kernel)];rw[ZN (show x.cps.toList.head?=some 48 by rw[ec];rfl),Bool.not_true,Bool.false_and,Bool.or_false]at kk;refine Af ⟨_,Zj,Zj,?_⟩;have e1:decide (V.str x=V.str "0")=decide (x = "0"):=decide_eq_decide.mpr ⟨λz=>V.str.inj z,λz=>by rw[z]⟩;rw[e1];exact kk
  ·have aw:¬ x = "0" := λz=>h48 (by rw[z,e0]at ec;injection ec with a b;exact a.symm)
   rw[ZQ (show ¬ V.str ⟨#[c]⟩=V.str "0" from λz=>h48 (by
    have:=V.str.inj z;have e1:=congrArg (λz:Str=>z.cps.toList) this;rw[e0]at e1
    injection e1))]
   rw[ZQ aw,Bool.false_or,ZQ (show ¬ x.cps.toList.head?=some 48 by rw[ec];exact λz=>h48 (Option.some.inj z)),Bool.not_false,Bool.true_and]at kk;refine AX ?_
   have hd:AllDigits x.cps.toList:=λc hc=>by
    have:=List.all_eq_true.mp bc c hc;unfold Dj at this;rw[Bool.and_eq_true,decide_eq_true_eq,decide_eq_true_eq]at this;exact this
   refine⟨_,Zj,x,_,Zj,qe,intText_digits hd (by rw[ec];simp) qe,.inl ⟨(digitsVal x.cps.toList:Nat),Zj,?_⟩⟩
   have eo:okN ((digitsVal x.cps.toList:Nat):Int)=decide (digitsVal x.cps.toList<1099511627776):=by
    unfold okN;rw[ZN (show(0:Int)<=((digitsVal x.cps.toList:Nat):Int) by omega),Bool.true_and];exact decide_eq_decide.mpr qe
   rw[eo];exact kk
 ·have hno:x.cps.toList.all Dj=false:=by
   cases e:x.cps.toList.all Dj with
   |true=>exact absurd e bc
   |false=>rfl
  rw[hno]at kk ⊢;exact Af kk
inductive spLet (K:FG) (vs:Vr) (H:Hp) (Q:VK) (_E:XK):Prop where
 |txt (x:Str) (aZ:vs=[.str x]) (bG:x.length<=200) (bJ:Q (.bl (Py x)) H)
 |aT (v:V) (aZ:vs=[v]) (bG:NoIs K "str" H v) (bJ:Q (.bl false) H)
theorem Ue:AH ["thing"] ["thing"] (defScope Fl):=bH
theorem TK (F:aQ K "is_letter" "is_letter" Fl f fd) (B:Bl mg):aB P w K mg base aL 1 f fd ["thing"] (spLet K):=by
 refine F.ok Ue (λvs H Q E h=>?_) (λae A outer s H vs Q E hr h=>?_)
 ·cases h with
  |txt x e _ _=>subst e;rfl
  |aT v e _ _=>subst e;rfl
 ·refine⟨_,AD (AN (BQ (BI K rfl rfl B.eA rfl B.str Ep (pv 0)) (BQ (BU Cj (AM Bb rfl B.len PySem.boot_len (AA (pv 0) AB)) AI (AT _)) (Bf (Ew Ch Ch Al (pv 0) Al))))),?_⟩;cases h with
  |aT v e hv k =>
   subst e;obtain⟨t,ht,hk⟩:=hv.ty;exact⟨_,Zj,_,_,_,false,Zj,ht,hk,_,Zj,AX k⟩
  |txt x e gi k =>
   subst e;refine⟨_,Zj,_,_,_,true,Zj,.str x,Zj,_,Zj,Af ?_⟩;refine⟨_,Zj,x,Zj,Nat.le_of_lt (AQ qe),Zj,_,Zj,?_⟩;have hlx:x.cps.toList.length=x.length:=by rw[Array.length_toList];rfl
   unfold Py at k;refine Bj (λh1=>?_) (λh1=>?_)
   ·obtain⟨c,ec⟩:∃c,x.cps.toList=[c]:=by
     have e1:x.length=1:=by have:=V.int.inj (ZW h1);omega
     rw[e1]at hlx;exact List.length_eq_one_iff.mp hlx
    rw[ec]at k;refine⟨_,Zj,_,_,Zj,Zj,_,Zj,?_⟩;have hu:=Ik 97 122 "a" "z" qb qb c;have ex:(⟨#[c]⟩:Str).cps.toList=x.cps.toList:=by rw[ec]
    rw[ex]at hu;change _=Nq c at hu;change Q (V.bl (Nq c)) H at k;rw[←hu]at k;refine Bj (λh3=>?_) (λh3=>?_)
    ·rw[Zr h3]at k;exact⟨_,_,Zj,Zj,k⟩
    ·rw[Zs h3]at k;exact k
   ·have hn:x.length≠1:=λz=>h1 (ZN (by rw[z];rfl))
    have e2:(match x.cps.toList with | [c]=>Nq c |_=>false)=false:=by
     cases e:x.cps.toList with
     |nil=>rfl
     |cons a r =>
      cases r with
      |nil=>rw[e]at hlx;exact absurd hlx.symm hn
      |cons b r=>rfl
    rw[e2]at k;exact k
end
theorem Ax (x:Str):x.cps.toList.length=x.length:=by rw[Array.length_toList];rfl
theorem D5 (z:Str) {a b:Nat} (iR:a<=b) (hb:b<=z.length):(Txt.slice z (some (a:Int)) (some (b:Int))).cps.toList=(z.cps.toList.drop a).take (b - a):=by
 unfold Txt.slice;split
 ·rename_i h;rw[StrLaws.strSliceIndices_plain iR hb,AK,List.length_range]at h
  have e:b - a=z.length:=by
   simp only[beq_self_eq_true,Bool.true_and,beq_iff_eq]at h;exact h
  have ea:a=0:=by omega
  subst ea;rw[List.drop_zero,take_of_length_le (by rw[Ax];omega)]
 ·show(List.filterMap _ _).toArray.toList=_;rw[List.toList_toArray,StrLaws.sliced_plain z iR hb]
noncomputable def Jb (lt:Bool) (x:Str):Bool:=EQ x||(Lg x||(lt&&Py x))
section
inductive spPart (vs:Vr) (H:Hp) (Q:VK) (_E:XK):Prop where
 |mk (x:Str) (lt:Bool) (aZ:vs=[.str x,.bl lt]) (bG:x.cps.all (· < 128)=true) (bJ:0<x.length) (cY:x.length<=200) (dw:∀H',aA H H'->Q (.bl (Jb lt x)) H')
theorem TL:AH ["text", "lettered"] ["text", "lettered"] (defScope JU):=bH
theorem RP (F:aQ K "is_part" "is_part" JU f fd) (GN:Fn P w K mg base "is_name" 1 ["thing"] spIsName) (GF:Fn P w K mg base "is_figures" 3 ["text"] spFig) (GL:Fn P w K mg base "is_letter" 1 ["thing"] (spLet K)):aB P w K mg base aL 4 f fd ["text", "lettered"] spPart:=by
 obtain⟨fN,dN,GN,mN,kN,bN⟩:=GN.ex;obtain⟨fF,dF,GF,mF,kF,bF⟩:=GF.ex;obtain⟨fL,dL,GL,mL,kL,bL⟩:=GL.ex;refine F.m TL λvs H Q E h=>?_;obtain⟨x,lt,rfl,ha,h0,gi,k⟩:=h;refine⟨rfl,λae A outer s hr=>?_⟩;have cZ:aD 1 _:=hr.mono qc;refine⟨_,AD (AN (R0 (AO GN cZ rfl mN kN bN .nil AL (AA (pv 0) AB)) (R0 (AO GF hr rfl mF kF bF .nil AL (AA (pv 0) AB)) (Bf (BQ (pv 1) (Bf (AO GL cZ rfl mL kL bL .nil AL (AA (pv 0) AB)))))))),?_⟩;refine⟨_,rfl,x,rfl,ha,qe,λH1 s1=>⟨_,rfl,?_⟩⟩;unfold Jb at k;cases hn:EQ x with
 |true =>
  rw[hn,Bool.true_or]at k;exact Af (k _ s1)
 |false =>
  rw[hn,Bool.false_or]at k;refine AX ⟨_,rfl,x,rfl,ha,h0,gi,λH2 s2=>⟨_,rfl,?_⟩⟩;cases hf:Lg x with
  |true =>
   rw[hf,Bool.true_or]at k;exact Af (k _ (s1.trans s2))
  |false =>
   rw[hf,Bool.false_or]at k;refine AX ⟨_,rfl,_,rfl,?_⟩;cases lt with
   |true=>exact Af ⟨_,rfl,.txt x rfl gi (k _ (s1.trans s2))⟩
   |false=>exact AX (k _ (s1.trans s2))
structure Jc (lt:Bool) (z:Str) (a n:Nat):Prop where
 le:a+n<=z.length
 ok:∀k,0<k->k<=n->Jb lt (Txt.slice z (some (a:Int)) (some ((a+k:Nat):Int)))=true
 no:a+n<z.length->Jb lt (Txt.slice z (some (a:Int)) (some ((a+n+1:Nat):Int)))=false
theorem Nr {z:Str}{a b:Nat} (iR:a<=b) (hb:b<=z.length) (h:z.cps.all (· < 128)=true):(Txt.slice z (some (a:Int)) (some (b:Int))).cps.all (· < 128)=true:=by
 rw[←Array.all_toList]at h ⊢;rw[D5 z iR hb];exact List.all_eq_true.mpr λc hc=>List.all_eq_true.mp h c (List.mem_of_mem_drop (List.mem_of_mem_take hc))
theorem Nt {z:Str}{a b:Nat} (iR:a<=b) (hb:b<=z.length):(Txt.slice z (some (a:Int)) (some (b:Int))).length=b - a:=by
 rw[←Ax,D5 z iR hb,ZD,List.length_drop,Ax];omega
inductive spPE (vs:Vr) (H:Hp) (Q:VK) (_E:XK):Prop where
 |mk (z:Str) (a n:Nat) (lt:Bool) (aZ:vs=[.str z,.int (a:Int),.bl lt]) (bG:z.cps.all (· < 128)=true) (bJ:z.length<=200) (cY:Jc lt z a n) (dw:∀H',aA H H'->Q (.int ((a+n:Nat):Int)) H')
theorem scPE:AH ["text", "at", "lettered", "end"] ["text", "at", "lettered"] (defScope Hh):=bH
theorem RR (F:aQ K "part_end" "part_end" Hh f fd) (B:Bl mg) (GP:Fn P w K mg base "is_part" 4 ["text", "lettered"] spPart):aB P w K mg base aL 5 f fd ["text", "at", "lettered"] spPE:=by
 obtain⟨fP,dP,GP,mP,kP,bP⟩:=GP.ex;refine F.m scPE λvs H Q E h=>?_;obtain⟨z,a,n,lt,rfl,ha,gi,PA,q⟩:=h;refine⟨Zj,λae A outer s hr=>?_⟩
 refine⟨_,AC (Am (i:=3) scPE.nd Zj (Or.inl Zj) (pv 1))
  (AC (G9 PassesOwn.never (PW.pt (Do (AW ID (pv 3) (AM Bb rfl B.len PySem.boot_len (AA (pv 0) AB)) (AT _)) (C0 (Ae (AO GP hr rfl mP kP bP .nil AL (AA (Jq O4 (pv 0) (Gh (pv 1)) (Gh (Ak CT (pv 3) AI))) (AA (pv 2) AB))))))) (AD (Kr (i:=3) scPE.nd rfl (Or.inl rfl) AI (Ls:df _ _ _))))
  (AD (AN (pv 3)))),?_⟩
 refine⟨_,Zj,λm σ H2=>∃k:Nat,σ=[some (.str z),some (.int (a:Int)),some (.bl lt),some (.int ((a+k:Nat):Int))]/\aA H H2/\k<=n/\m=n - k,⟨n,0,Zj,aA.refl _,Nat.zero_le _,Zj⟩,?_⟩;rintro m σ H2 ⟨k,rfl,s2,hk,rfl⟩;have hle:=PA.le;refine⟨_,Zj,_,Zj,z,Zj,Nat.le_of_lt (AQ qe),_,_,Zj,Zj,_,Zj,?_⟩;by_cases hz:a+k<z.length
 ·rw[ZN (show((a+k:Nat):Int)<(z.length:Int) by omega)];refine Af ?_;have e1:((a+k:Nat):Int)+1=((a+k+1:Nat):Int):=by omega
  refine⟨_,Zj,_,Zj,(a:Int),Zj,_,Zj,_,_,Zj,Zj,((a+k+1:Nat):Int),congrArg V.int e1,z,Zj,Nat.le_of_lt (AQ qe),_,Zj,?_⟩;have hl:=Nt (z:=z) (a:=a) (b:=a+k+1) qe qe;have hs:=Nr (z:=z) (a:=a) (b:=a+k+1) qe qe ha;refine⟨_,lt,Zj,hs,qe,qe,λH3 s3=>⟨_,Zj,?_⟩⟩;by_cases hkn:k<n
  ·have ok:=PA.ok (k+1) qe qe;rw[show a+(k+1)=a+k+1 by omega]at ok;rw[ok];refine Af ⟨λσ H4=>σ=[some (.str z),some (.int (a:Int)),some (.bl lt),some (.int ((a+(k+1):Nat):Int))]/\aA H H4,λaO H' ⟨e,s'⟩=>⟨n - (k+1),qe,k+1,e,s',qe,Zj⟩,?_⟩;refine⟨_,Zj,_,_,Zj,Zj,?_,s2.trans s3⟩;show [some (V.str z),some (V.int (a:Int)),some (V.bl lt),some (V.int (((a+k:Nat):Int)+1))]=_;rw[e1];rfl
  ·have e:k=n:=by omega
   subst e;rw[PA.no hz];exact AX ⟨_,Zj,q _ (s2.trans s3)⟩
 ·rw[ZQ (show ¬ ((a+k:Nat):Int)<(z.length:Int) by omega)];have e:k=n:=by omega
  subst e;exact AX (AX ⟨_,Zj,q _ s2⟩)
end
structure IB (K:FG) (DC:Vs):Prop where
 cl:gQ K DC
 nS:aS K DC "steps"
 nW:aS K DC "waiting"
 nP:aS K DC "wants_part"
theorem SI:¬ (("steps" : Str) = "wants_part"):=by decide +kernel
theorem SJ:¬ (("waiting" : Str) = "wants_part"):=by decide +kernel
theorem SK:¬ (("waiting" : Str) = "steps"):=by decide +kernel
noncomputable def gT (ls lw:Vs) (wp:Bool):List (Str×V):=AY "wants_part" (.bl wp) (AY "waiting" (.ref lw) (AY "steps" (.ref ls) []))
theorem Pz (ls lw:Vs) (wp:Bool):(gT ls lw wp).lookup ("steps" : Str)=some (.ref ls):=by
 unfold gT;rw[AG,Zs SI,AG,Zs (Ne.symm SK),AG,Zr rfl]
theorem D6 (ls lw:Vs) (wp:Bool):(gT ls lw wp).lookup ("waiting" : Str)=some (.ref lw):=by
 unfold gT;rw[AG,Zs SJ,AG,Zr rfl]
theorem D7 (ls lw:Vs) (wp:Bool):(gT ls lw wp).lookup ("wants_part" : Str)=some (.bl wp):=by
 unfold gT;rw[AG,Zr rfl]
theorem Bh (ls lw:Vs) (wp:Bool) {m:Str} (h1:¬ m = "steps" := by decide +kernel) (h2:¬ m = "waiting" := by decide +kernel) (h3:¬ m = "wants_part" := by decide +kernel):(gT ls lw wp).lookup m=none:=by
 unfold gT;rw[AG,Zs h3,AG,Zs h2,AG,Zs h1];rfl
theorem MY (ls lw:Vs) (wp b:Bool):AY "wants_part" (.bl b) (gT ls lw wp)=gT ls lw b:=by
 unfold gT;simp[AY,SI,SJ,Ne.symm SK]
structure aY (DC:Vs) (H:Hp) (p ls lw:Vs) (ss ws:Vp) (wp:Bool):Prop where
 ex:∃dx,H p=some (.ins DC dx (gT ls lw wp))
 hs:H ls=some (.lst (ss.map V.str))
 hw:H lw=some (.lst (ws.map V.str))
 ne:ls≠lw
def gw (p ls lw:Vs) (H H':Hp):Prop:=∀b o,H b=some o->b≠p->b≠ls->b≠lw->H' b=some o
theorem gw.refl (p ls lw:Vs) (H:Hp):gw p ls lw H H:=λ_ _ e _ _ _=>e
theorem aY.np {DC:Vs}{p ls lw:Vs}{ss ws:Vp}{wp:Bool} (h:aY DC H p ls lw ss ws wp):ls≠p/\lw≠p:=by
 obtain⟨dx,hp⟩:=h.ex;have h1:=h.hs;have h2:=h.hw;exact⟨λz=>(by rw[z,hp]at h1;cases h1),λz=>(by rw[z,hp]at h2;cases h2)⟩
theorem aY.steps {DC:Vs}{p ls lw:Vs}{ss ws:Vp}{wp:Bool} (ss':Vp) (h:aY DC H p ls lw ss ws wp):aY DC (upd H ls (.lst (ss'.map V.str))) p ls lw ss' ws wp:=by
 obtain⟨dx,hp⟩:=h.ex;exact⟨⟨dx,by rw[AE (Ne.symm h.np.1)];exact hp⟩,U,by rw[AE (Ne.symm h.ne)];exact h.hw,h.ne⟩
theorem aY.waits {DC:Vs}{p ls lw:Vs}{ss ws:Vp}{wp:Bool} (ws':Vp) (h:aY DC H p ls lw ss ws wp):aY DC (upd H lw (.lst (ws'.map V.str))) p ls lw ss ws' wp:=by
 obtain⟨dx,hp⟩:=h.ex;exact⟨⟨dx,by rw[AE (Ne.symm h.np.2)];exact hp⟩,by rw[AE h.ne];exact h.hs,U,h.ne⟩
theorem aY.wants {DC:Vs}{p ls lw dx:Vs}{ss ws:Vp}{wp:Bool} (b:Bool) (h:aY DC H p ls lw ss ws wp):aY DC (upd H p (.ins DC dx (gT ls lw b))) p ls lw ss ws b :=
 ⟨⟨dx,U⟩,by rw[AE h.np.1];exact h.hs,by rw[AE h.np.2];exact h.hw,h.ne⟩
theorem MZ (ls lw:Vs) (wp:Bool):(gT ls lw wp).length<1000:=by
 have h1:=AV "wants_part" (.bl wp) (AY "waiting" (.ref lw) (AY "steps" (.ref ls) []));have h2:=AV "waiting" (.ref lw) (AY "steps" (.ref ls) []);have h3:=AV "steps" (.ref ls) [];have h4:([]:List (Str×V)).length=0:=rfl;unfold gT;omega
section
variable {DC bd:Vs}
inductive spTP (DC:Vs) (vs:Vr) (H:Hp) (Q:VK) (_E:XK):Prop where
 |mk (p ls lw:Vs) (ss ws:Vp) (wp:Bool) (x:Str) (aZ:vs=[.ref p,.str x]) (bG:aY DC H p ls lw ss ws wp) (bJ:ss.length<=400) (cY:∀H',gw p ls lw H H'->aY DC H' p ls lw (ss++[x]) ws false->Q .aT H')
theorem Vf:AH ["self", "part"] ["self", "part"] (defScope CG):=bH
theorem Uf (F:aQ K "take_part" "Reading.take_part" CG f fd) (DT:IB K DC):aB P w K mg base aL 1 f fd ["self", "part"] (spTP DC):=by
 refine F.m Vf λvs H Q E h=>?_;obtain⟨p,ls,lw,ss,ws,wp,x,rfl,R,h100,q⟩:=h;refine⟨Zj,λae A outer s hr=>?_⟩;obtain⟨dx,hp⟩:=id R.ex;refine⟨_,AC (Ai (Cb PySem.F.plainAttrs_list PySem.F.slot_list_append PySem.F.type_list_append Aw (AU (pv 0) Zj) (AA (pv 1) AB))) (AD (A3 (pv 0) CY Zj)),?_⟩;refine⟨_,Zj,p,DC,dx,_,_,Zj,hp,DT.cl,DT.nS,Pz _ _ _,.inl ⟨Zj,_,aJ.of R.hs⟩,_,Zj,ls,_,_,Zj,Zj,R.hs,AQ (by rw[AK];omega),?_⟩;have R1:=R.steps (ss++[x]);rw[Zw]at R1;have e1:(upd H ls (.lst (ss.map V.str++[x].map V.str))) p=some (.ins DC dx (gT ls lw wp)):=by rw[AE (Ne.symm R.np.1)];exact hp
 refine⟨_,Zj,p,DC,dx,_,Zj,e1,DT.cl,DT.nP,MZ _ _ _,?_⟩;rw[MY];exact q _ (λb o e n1 n2 n3=>by rw[AE n1,AE n2];exact e) (R1.wants false)
inductive spRd0 (DC:Vs) (vs:Vr) (H:Hp) (Q:VK) (_E:XK):Prop where
 |mk (p dx:Vs) (aZ:vs=[.ref p]) (bG:H p=some (.ins DC dx [])) (bJ:∀ls lw H',(∀b o,H b=some o->b≠p->H' b=some o)->H ls=none->H lw=none->aY DC H' p ls lw [] [] true->Q .aT H')
theorem Ug:AH ["self"] ["self"] (defScope Dd):=bH
theorem TM (F:aQ K "__init__" "Reading.__init__" Dd f fd) (DT:IB K DC):aB P w K mg base aL 1 f fd ["self"] (spRd0 DC):=by
 refine F.m Ug λvs H Q E h=>?_;obtain⟨p,dx,rfl,hp,q⟩:=h;refine⟨Zj,λae A outer s hr=>?_⟩;refine⟨_,AC (A3 (pv 0) (CB AB) Zj) (AC (A3 (pv 0) (CB AB) Zj) (AD (A3 (pv 0) CY Zj))),?_⟩;refine⟨(by show 0<=sizeLine;decide),λls hls=>?_⟩;have nls:p≠ls:=AJ hp hls;refine⟨_,Zj,p,DC,dx,_,Zj,by rw[AE nls];exact hp,DT.cl,DT.nS,(by show 0<1000;decide),?_⟩;refine⟨(by show 0<=sizeLine;decide),λlw hlw=>?_⟩;have nlp:p≠lw:=λz=>by rw[←z,U]at hlw;cases hlw
 have cf:(upd H ls (.lst [])) lw=none:=by rw[AE (Ne.symm nlp)]at hlw;exact hlw
 have nll:ls≠lw:=λz=>by rw[←z,U]at cf;cases cf
 have cg:H lw=none:=by rw[AE (Ne.symm nll)]at cf;exact cf
 refine⟨_,Zj,p,DC,dx,_,Zj,by rw[AE nlp,U],DT.cl,DT.nW,Nat.lt_of_le_of_lt (AV _ _ _) (by show 0+1<1000;decide),?_⟩;refine⟨_,Zj,p,DC,dx,_,Zj,U,DT.cl,DT.nP,Nat.lt_of_le_of_lt (Nat.le_trans (AV _ _ _) (Nat.succ_le_succ (AV _ _ _))) (by show 0+1+1<1000;decide),?_⟩;refine q ls lw _ (λb o e hb=>?_) hls cg ⟨⟨dx,U⟩,?_,?_,nll⟩
 ·rw[AE hb,AE hb,AE (AJ e cg),AE hb,AE (AJ e hls)];exact e
 ·rw[AE (Ne.symm nls),AE (Ne.symm nls),AE nll,AE (Ne.symm nls),U];rfl
 ·rw[AE (Ne.symm nlp),AE (Ne.symm nlp),U];rfl
end
noncomputable abbrev sl (z:Str) (a b:Nat):Str:=Txt.slice z (some (a:Int)) (some (b:Int))
inductive Sg |br |or |xo |an |no
deriving DecidableEq
noncomputable def Sg.s:Sg->Str | .br => "(" | .or => "|" | .xo => "^" | .an => "&" | .no => "~"
noncomputable def Sg.b:Sg->Nat | .br=>0 | .or=>1 | .xo=>2 | .an=>3 | .no=>4
noncomputable def Sg.c:Sg->Nat | .br=>40 | .or=>124 | .xo=>94 | .an=>38 | .no=>126
def Sg.joins:Sg->Prop | .or=>True | .xo=>True | .an=>True |_=>False
noncomputable abbrev cz (W:List Sg):Vp:=W.map Sg.s
noncomputable def Lh (W:List Sg):Nat:=match W.getLast? with |some s=>s.b |none=>0
inductive Out
 |ok (T:Vp)
 |bad (e:Nat)
inductive Stop (lt:Bool) (z:Str) (a c:Nat) (W:List Sg):Bool->Prop
 |ahead (p:Jc lt z a 0) (h1:c≠32) (h2:c≠126) (h3:c≠40):Stop lt z a c W true
 |between (h1:c≠32) (h2:c≠38) (h3:c≠94) (h4:c≠124) (h5:c≠41):Stop lt z a c W false
 |close (h1:c=41) (h:∀q∈W,1<=q.b):Stop lt z a c W false
inductive Rn (lt:Bool) (z:Str) (o:Out):Nat->Vp->List Sg->Bool->Prop
 |done (S:Vp) (Q:List Sg) (h:∀q∈Q,1<=q.b) (e:o=.ok (S++(cz Q).reverse)):Rn lt z o z.length S Q false
 |blank (a:Nat) (S:Vp) (W:List Sg) (wp:Bool) (h:z.cps.toList[a]?=some 32) (r:Rn lt z o (a+1) S W wp):Rn lt z o a S W wp
 |part (a n:Nat) (S:Vp) (W:List Sg) (h:Jc lt z a n) (hn:0<n) (r:Rn lt z o (a+n) (S++[sl z a (a+n)]) W false):Rn lt z o a S W true
 |ahead (a:Nat) (S:Vp) (W:List Sg) (g:Sg) (hg:g=.no\/g=.br) (h:z.cps.toList[a]?=some g.c) (r:Rn lt z o (a+1) S (W++[g]) true):Rn lt z o a S W true
 |join (a:Nat) (S:Vp) (W Q:List Sg) (g:Sg) (hg:g.joins) (h:z.cps.toList[a]?=some g.c) (hq:∀q∈Q,g.b<=q.b) (hw:Lh W<g.b) (r:Rn lt z o (a+1) (S++(cz Q).reverse) (W++[g]) true):Rn lt z o a S (W++Q) false
 |close (a:Nat) (S:Vp) (W Q:List Sg) (h:z.cps.toList[a]?=some 41) (hq:∀q∈Q,1<=q.b) (r:Rn lt z o (a+1) (S++(cz Q).reverse) W false):Rn lt z o a S ((W++[.br])++Q) false
 |stop (a c:Nat) (S:Vp) (W:List Sg) (wp:Bool) (h:z.cps.toList[a]?=some c) (hs:Stop lt z a c W wp) (e:o=.bad a):Rn lt z o a S W wp
 |ends (S:Vp) (W:List Sg) (wp:Bool) (hw:wp=true\/∃W1 W2,W=(W1++[.br])++W2/\∀q∈W2,1<=q.b) (e:o=.bad z.length):Rn lt z o z.length S W wp
structure PW0 (lt:Bool) (w:List Nat):Prop where
 ne:0<w.length
 ok:∀k,0<k->k<=w.length->∀x:Str,x.cps.toList=w.take k->Jb lt x=true
def Sep (u:List Nat):Prop:=∀c,u.head?=some c->EM c=false/\Dj c=false
theorem P1 {lt:Bool}{w:List Nat}{c:Nat}{x:Str} (hc:EM c=false/\Dj c=false) (h:x.cps.toList=w++[c]) (hw:w≠ []\/Nq c=false):Jb lt x=false:=by
 have h1:EQ x=false:=by
  unfold EQ
  have:x.cps.toList.all EM=false:=by
   rw[h,List.all_append];simp[hc.1]
  rw[this,Bool.and_false]
 have h2:Lg x=false:=by
  unfold Lg
  have:x.cps.toList.all Dj=false:=by
   rw[h,List.all_append];simp[hc.2]
  rw[this,Bool.false_and]
 have h3:Py x=false:=by
  unfold Py;rw[h];cases w with
  |nil=>rcases hw with z |z
        ·exact absurd Zj z
        ·exact z
  |cons a r=>cases r <;> rfl
 unfold Jb;rw[h1,h2,h3];cases lt <;> rfl
theorem RS {x y:Str} (h:x.cps.toList=y.cps.toList):x=y:=by
 cases x with
 |mk a=>cases y with
  |mk b =>
   have:a=b:=by
    have:=congrArg List.toArray h;simpa using this
   rw[this]
theorem Uh {lt:Bool}{z:Str}{pre w post:List Nat} (hz:z.cps.toList=pre++(w++post)) (hw:PW0 lt w) (hp:Sep post):Jc lt z pre.length w.length/\sl z pre.length (pre.length+w.length)=⟨w.toArray⟩:=by
 have a0:z.length=pre.length+(w.length+post.length):=by rw[←Ax,hz,ZJ,ZJ]
 have hs:∀k,k<=w.length+post.length->(sl z pre.length (pre.length+k)).cps.toList=(w++post).take k:=λk hk=>by
  rw[D5 z qe qe,hz,List.drop_left,Nat.add_sub_cancel_left]
 refine⟨⟨qe,λk h0 hk=>?_,λaX=>?_⟩,?_⟩
 ·refine hw.ok k h0 hk _ ?_;rw[hs k qe,List.take_append_of_le_length hk]
 ·cases post with
  |nil=>simp at a0;omega
  |cons c r =>
   refine P1 (w:=w) (c:=c) (hp c Zj) ?_ (.inl λz=>by have:=hw.ne;rw[z]at this;exact absurd this qc);have:=hs (w.length+1) (by simp);rw[show pre.length+w.length+1=pre.length+(w.length+1) by omega,this,List.take_append];simp;exact take_of_length_le qe
 ·refine RS ?_;rw[hs w.length qe,List.take_left]
theorem F0 (W:List Sg) (g:Sg):Lh (W++[g])=g.b:=by
 unfold Lh;rw[List.getLast?_append];rfl
noncomputable def CP:LK:=[((Sum.inr "(" : Key),.int 0),(Sum.inr "|", .int 1),(Sum.inr "^", .int 2),(Sum.inr "&", .int 3),(Sum.inr "~", .int 4)]
theorem Ma (g:Sg):A4 CP (Sum.inr g.s:Key)=some (.int (g.b:Int)):=by cases g <;> decide +kernel
theorem Ui {DC p ls lw bd:Vs}{ss ws:Vp}{wp:Bool}{kvs:LK} (R:aY DC H p ls lw ss ws wp) (s:gw p ls lw H H') (h:Rd H bd (.dK kvs)):Rd H' bd (.dK kvs):=by
 obtain⟨dx,hp⟩:=R.ex
 have ne:∀ {o:HO},H bd=some o->(∀xs,o≠ .lst xs)->(∀a b c,o≠ .ins a b c)->bd≠p/\bd≠ls/\bd≠lw:=λ{o} e h1 h2=>by
  refine⟨λz=>?_,λz=>?_,λz=>?_⟩
  ·rw[z,hp]at e;cases e;exact h2 _ _ _ rfl
  ·rw[z,R.hs]at e;cases e;exact h1 _ rfl
  ·rw[z,R.hw]at e;cases e;exact h1 _ rfl
 rcases h with h |⟨o,h⟩
 ·obtain⟨a,b,c⟩:=ne h (λ_ z=>nomatch z) (λ_ _ _ z=>nomatch z);exact .inl (s _ _ h a b c)
 ·obtain⟨a,b,c⟩:=ne h (λ_ z=>nomatch z) (λ_ _ _ z=>nomatch z);exact .inr ⟨o,s _ _ h a b c⟩
theorem Kc (L:List Sg) (g:Sg):iz ((cz (L++[g])).map V.str) (-1)=some (V.str g.s)/\((cz (L++[g])).map V.str)[((cz (L++[g])).map V.str).length - 1]?=some (V.str g.s)/\((cz (L++[g])).map V.str).dropLast=(cz L).map V.str:=by
 have e:(cz (L++[g])).map V.str=(cz L).map V.str++[V.str g.s]:=by simp[cz]
 rw[e];refine⟨?_,?_,?_⟩
 ·unfold iz
  have e2:iE ((cz L).map V.str++[V.str g.s]).length (-1)=some ((cz L).map V.str).length:=by
   rw[ZJ,length_singleton];unfold iE;simp;omega
  rw[e2];show((cz L).map V.str++[V.str g.s])[((cz L).map V.str).length]?=_;rw[getElem?_append_right (ZA _),Nat.sub_self];rfl
 ·rw[ZJ,length_singleton,Nat.add_sub_cancel,getElem?_append_right (ZA _),Nat.sub_self];rfl
 ·exact List.dropLast_concat
section
variable {DC bd:Vs}
inductive spSet (DC bd:Vs) (vs:Vr) (H:Hp) (Q:VK) (_E:XK):Prop where
 |mk (p ls lw:Vs) (ss:Vp) (W G:List Sg) (b:Nat) (wp:Bool) (aZ:vs=[.ref p,.int (b:Int)]) (bG:aY DC H p ls lw ss (cz (W++G)) wp) (bJ:ss.length+(W.length+G.length)<=400) (cY:Rd H bd (.dK CP))
  (dw:∀q∈G,b<=q.b) (f9:W=[]\/Lh W<b) (js:∀H',gw p ls lw H H'->aY DC H' p ls lw (ss++(cz G).reverse) (cz W) wp->Q .aT H')
theorem Uj:AH ["self", "binding"] ["self", "binding"] (defScope Ct):=bH
theorem TN (F:aQ K "settle" "Reading.settle" Ct f fd) (B:Bl mg) (DT:IB K DC) (mB:mg "BINDING" = some (.ref bd)):aB P w K mg base aL 1 f fd ["self", "binding"] (spSet DC bd):=by
 refine F.m Uj λvs H Q E h=>?_;obtain⟨p,ls,lw,ss,W,G,b,wp,rfl,R,h400,hB,hG,hW,q⟩:=h;refine⟨Zj,λae A outer s hr=>?_⟩;have hu:=Cc hr
 refine⟨_,AD (G9 PassesOwn.never (PW.pt (Do (AW Lx (AM (Av K Zj) Zj B.len PySem.boot_len (AA (AU (pv 0) Zj) AB)) AI (AT _)) (C0 (AW OM (CL hu (Ag (v:=.ref bd) Zj mB Zj) (Bi (BP K Zj) (AU (pv 0) Zj) (Jm Ku AI) (λ_ _=>rfl)) (λ_ _=>rfl)) (pv 1) (AT _)))))
  (AD (Ai (Cb PySem.F.plainAttrs_list PySem.F.slot_list_append PySem.F.type_list_append Aw (AU (pv 0) rfl) (AA (K1 PySem.F.plainAttrs_list PySem.F.slot_list_pop PySem.F.type_list_pop OV (AU (pv 0) rfl)) AB))))),?_⟩
 refine⟨λm σ H2=>σ=[some (.ref p),some (.int (b:Int))]/\∃G1 G2,G=G1++G2/\G1.length=m/\gw p ls lw H H2/\aY DC H2 p ls lw (ss++(cz G2).reverse) (cz (W++G1)) wp,⟨G.length,Zj,G,[],(Zv _).symm,Zj,gw.refl _ _ _ _,by simpa using R⟩,?_⟩;rintro m σ H2 ⟨rfl,G1,G2,eG,em,s2,R2⟩;obtain⟨dx,hp⟩:=id R2.ex;refine⟨_,Zj,p,DC,dx,_,_,Zj,hp,DT.cl,DT.nW,D6 _ _ _,lw,_,Zj,.inl (aJ.of R2.hw),_,_,Zj,Zj,_,Zj,?_⟩;have a0:((cz (W++G1)).map V.str).length=(W++G1).length:=by simp[cz]
 rw[a0];rcases List.eq_nil_or_concat (W++G1)with e |⟨L,g,e⟩
 ·have e1:=List.append_eq_nil_iff.mp e;rw[e,ZQ (show ¬ (([]:List Sg).length:Int)>0 by simp)];refine AX (AX (q _ s2 ?_));rw[e1.2]at eG R2;rw[eG];simpa[e1.1]using R2
 ·rw[List.concat_eq_append]at e;rw[ZN (show((W++G1).length:Int)>0 by rw[e,ZJ,length_singleton];omega)];refine Af ?_;have hsl:=Kc L g;rw[←e]at hsl;obtain⟨hat,cn,cq⟩:=hsl;refine⟨_,rfl,p,DC,dx,_,_,rfl,hp,DT.cl,DT.nW,D6 _ _ _,_,rfl,lw,_,-1,.str g.s,rfl,rfl,aJ.of R2.hw,hat,bd,.int (g.b:Int),rfl,.inl ⟨_,Sum.inr g.s,Ui R s2 hB,rfl,(Ma g).symm⟩,_,rfl,_,_,rfl,rfl,_,rfl,?_⟩;rcases List.eq_nil_or_concat G1 with e1 |⟨G0,g',e1⟩
  ·-- all are settled
   subst e1;rw[Zv]at e
   have hb:¬ ((g.b:Int) ≥ (b:Int)):=by
    rcases hW with z |z
    ·rw[z]at e;have:=congrArg List.length e;simp at this
    ·rw[e,F0]at z;omega
   rw[ZQ hb];refine AX (q _ s2 ?_);rw[eG];simpa using R2
  ·rw[List.concat_eq_append]at e1;subst e1;have e3:W++(G0++[g'])=L++[g]:=e;rw[←List.append_assoc]at e3;obtain⟨eL,eg⟩:=List.append_inj' e3 rfl;have eg':g'=g:=by simpa using eg
   subst eg'
   have hb:(g'.b:Int) ≥ (b:Int):=by
    have:=hG g' (by rw[eG];simp);omega
   rw[ZN hb];refine Af ⟨λσ H3=>σ=[some (.ref p),some (.int (b:Int))]/\gw p ls lw H H3/\aY DC H3 p ls lw (ss++(cz ([g']++G2)).reverse) (cz (W++G0)) wp,λaO H' ⟨e,s',R'⟩=>⟨G0.length,by rw[←em,ZJ];exact Nat.lt_succ_self _,e,G0,[g']++G2,by rw[eG,List.append_assoc],Zj,s',R'⟩,?_⟩;refine⟨_,Zj,p,DC,dx,_,_,Zj,hp,DT.cl,DT.nS,Pz _ _ _,.inl ⟨Zj,_,aJ.of R2.hs⟩,_,Zj,p,DC,dx,_,_,Zj,hp,DT.cl,DT.nW,D6 _ _ _,.inl ⟨Zj,_,aJ.of R2.hw⟩,lw,_,.str g'.s,Zj,Zj,R2.hw,cn,?_⟩;rw[cq,←eL];have es:ss++(cz G2).reverse++[g'.s]=ss++(cz ([g']++G2)).reverse:=by simp[cz]
   have R3:=R2.waits (cz (W++G0));have R4:=R3.steps (ss++(cz ([g']++G2)).reverse);refine⟨ls,_,_,Zj,Zj,R3.hs,AQ ?_,Zj,λb o e n1 n2 n3=>?_,?_⟩
   ·have h1:=congrArg List.length eG;simp only[ZJ,length_singleton]at h1;simp only[AK,ZJ,List.length_reverse];omega
   ·rw[AE n2,AE n3];exact s2 b o e n1 n2 n3
   ·rw[←es,Zw]at R4;rw[←es];exact R4
inductive SgStep:Str->Vp->List Sg->Bool->Vp->List Sg->Bool->Prop
 |blank (S:Vp) (W:List Sg) (wp:Bool):SgStep " " S W wp S W wp
 |ahead (S:Vp) (W:List Sg) (g:Sg) (hg:g=.no\/g=.br):SgStep g.s S W true S (W++[g]) true
 |join (S:Vp) (W G:List Sg) (g:Sg) (hg:g.joins) (hq:∀q∈G,g.b<=q.b) (hw:Lh W<g.b):SgStep g.s S (W++G) false (S++(cz G).reverse) (W++[g]) true
 |close (S:Vp) (W G:List Sg) (hq:∀q∈G,1<=q.b):SgStep ")" S ((W++[.br])++G) false (S++(cz G).reverse) W false
inductive spTB (DC bd:Vs) (vs:Vr) (H:Hp) (Q:VK) (_E:XK):Prop where
 |mk (p ls lw:Vs) (ss:Vp) (W G:List Sg) (g:Sg) (aZ:vs=[.ref p,.str g.s]) (bG:g.joins) (bJ:aY DC H p ls lw ss (cz (W++G)) false) (cY:ss.length+(W.length+G.length)<=390) (dw:Rd H bd (.dK CP))
  (f9:∀q∈G,g.b<=q.b) (js:Lh W<g.b) (jr:∀H',gw p ls lw H H'->aY DC H' p ls lw (ss++(cz G).reverse) (cz (W++[g])) true->Q (.bl true) H')
 |no (p:Vs) (x:Str) (aZ:vs=[.ref p,.str x]) (bG:x≠ "&") (bJ:x≠ "^") (cY:x≠ "|") (dw:Q (.bl false) H)
theorem Vg:AH ["self", "sign"] ["self", "sign"] (defScope Bg):=bH
theorem RV {g:Sg} (h:g.joins):(if true=true then !ip (V.str g.s) [V.str "&", V.str "^", V.str "|"]else ip (V.str g.s) [V.str "&", V.str "^", V.str "|"])=false:=by
 cases g <;> first |exact h.elim |decide +kernel
theorem RW {x:Str} (h1:x≠ "&") (h2:x≠ "^") (h3:x≠ "|"):(if true=true then !ip (V.str x) [V.str "&", V.str "^", V.str "|"]else ip (V.str x) [V.str "&", V.str "^", V.str "|"])=true:=by
 rw[Zr rfl];unfold ip;simp[jh,h1,h2,h3,Ne.symm h1,Ne.symm h2,Ne.symm h3]
theorem Uk {jn:Vs} (F:aQ K "take_between" "Reading.take_between" Bg f fd) (DT:IB K DC) (mB:mg "BINDING" = some (.ref bd)) (mJ:mg "JOINING" = some (.ref jn)) (hJ:∀H,bZ K H jn [.str "&", .str "^", .str "|"]) (GS:Mt P w K mg base DC "settle" 1 ["self", "binding"] (spSet DC bd)) :
  aB P w K mg base aL 2 f fd ["self", "sign"] (spTB DC bd):=by
 obtain⟨fS,dS,GS,mS,bS⟩:=GS.ex;refine F.ok Vg (λvs H Q E h=>?_) (λae A outer s H vs Q E hr h=>?_)
 ·cases h with
  |mk p ls lw ss W G g e=>subst e;rfl
  |no p x e=>subst e;rfl
 ·have hu:=Cc hr
  refine⟨_,AC (Ac (AW Iy (pv 1) (Ag (v:=.ref jn) Zj mJ Zj) Zj) (AD (AN CY)) AR)
   (AC (Ai (BD (pv 0) DT.cl mS GS hr bS .nil AL (AA (CL hu (Ag (v:=.ref bd) rfl mB rfl) (pv 1) (λ_ _=>rfl)) AB)))
   (AC (Ai (Cb PySem.F.plainAttrs_list PySem.F.slot_list_append PySem.F.type_list_append Aw (AU (pv 0) rfl) (AA (pv 1) AB)))
   (AC (A3 (pv 0) CY rfl)
   (AD (AN CY))))),?_⟩
  cases h with
  |no p x e h1 h2 h3 q =>
   subst e;refine⟨_,Zj,jn,_,Zj,.inr (hJ H),Zj,Zj,_,Zj,?_⟩;rw[RW h1 h2 h3];exact Af q
  |mk p ls lw ss W G g e hg R h390 hB hq hw q =>
  subst e;obtain⟨dx,hp⟩:=id R.ex;refine⟨_,Zj,jn,_,Zj,.inr (hJ H),Zj,Zj,_,Zj,?_⟩;rw[RV hg];refine AX ?_;refine⟨_,Zj,p,dx,_,Zj,hp,Bh _ _ _,_,Zj,bd,.int (g.b:Int),Zj,.inl ⟨_,Sum.inr g.s,hB,Zj,(Ma g).symm⟩,p,ls,lw,ss,W,G,g.b,false,Zj,R,qe,hB,hq,.inr hw,λH1 s1 R1=>?_⟩;obtain⟨g8,al⟩:=id R1.ex;refine⟨_,Zj,p,DC,g8,_,_,Zj,al,DT.cl,DT.nW,D6 _ _ _,.inl ⟨Zj,_,aJ.of R1.hw⟩,_,Zj,lw,_,_,Zj,Zj,R1.hw,AQ (by simp only[AK];omega),?_⟩;have ew:(cz W).map V.str++[V.str g.s]=(cz (W++[g])).map V.str:=by simp[cz]
  have R2:aY DC (upd H1 lw (.lst ((cz (W++[g])).map V.str))) p ls lw (ss++(cz G).reverse) (cz (W++[g])) false:=R1.waits (cz (W++[g]));rw[ew];refine⟨_,Zj,p,DC,g8,_,Zj,by rw[AE (Ne.symm R1.np.2)];exact al,DT.cl,DT.nP,MZ _ _ _,?_⟩;rw[MY];exact q _ (λb o e n1 n2 n3=>by rw[AE n1,AE n3];exact s1 b o e n1 n2 n3) (R2.wants true)
inductive spTA (DC:Vs) (vs:Vr) (H:Hp) (Q:VK) (_E:XK):Prop where
 |mk (p ls lw:Vs) (ss:Vp) (W:List Sg) (g:Sg) (wp:Bool) (aZ:vs=[.ref p,.str g.s]) (bG:g=.no\/g=.br) (bJ:aY DC H p ls lw ss (cz W) wp) (cY:W.length<=390)
  (dw:∀H',gw p ls lw H H'->aY DC H' p ls lw ss (cz (W++[g])) wp->Q (.bl true) H')
 |no (p:Vs) (x:Str) (aZ:vs=[.ref p,.str x]) (bG:x≠ "~") (bJ:x≠ "(") (dw:Q (.bl false) H)
theorem Vh:AH ["self", "sign"] ["self", "sign"] (defScope By):=bH
theorem Ul (F:aQ K "take_ahead" "Reading.take_ahead" By f fd) (DT:IB K DC):aB P w K mg base aL 1 f fd ["self", "sign"] (spTA DC):=by
 refine F.ok Vh (λvs H Q E h=>?_) (λae A outer s H vs Q E hr h=>?_)
 ·cases h with
  |mk p ls lw ss W g wp e=>subst e;rfl
  |no p x e=>subst e;rfl
 ·refine⟨_,AC (Ac (PW.pt (Do (AW Ck (pv 1) Al (AT _)) (C0 (AW Ck (pv 1) Al (AT _))))) (AD (AN CY)) AR)
   (AC (Ai (Cb PySem.F.plainAttrs_list PySem.F.slot_list_append PySem.F.type_list_append Aw (AU (pv 0) rfl) (AA (pv 1) AB)))
   (AD (AN CY))),?_⟩
  cases h with
  |no p x e h1 h2 q =>
   subst e;refine⟨_,Zj,Zj,_,Zj,?_⟩;rw[ZQ (show ¬ V.str x=V.str "~" from λz=>h1 (V.str.inj z))];refine Af ⟨_,Zj,Zj,_,Zj,?_⟩;rw[ZQ (show ¬ V.str x=V.str "(" from λz=>h2 (V.str.inj z))];exact Af q
  |mk p ls lw ss W g wp e hg R h390 q =>
  subst e;obtain⟨dx,hp⟩:=id R.ex;refine⟨_,Zj,Zj,_,Zj,?_⟩;have ew:(cz W).map V.str++[V.str g.s]=(cz (W++[g])).map V.str:=by simp[cz]
  have R2:aY DC (upd H lw (.lst ((cz (W++[g])).map V.str))) p ls lw ss (cz (W++[g])) wp:=R.waits (cz (W++[g]));rcases hg with rfl |rfl
  ·rw[show decide (V.str Sg.no.s=V.str "~")=true by decide +kernel];refine AX (AX ?_);refine⟨_,Zj,p,DC,dx,_,_,Zj,hp,DT.cl,DT.nW,D6 _ _ _,.inl ⟨Zj,_,aJ.of R.hw⟩,_,Zj,lw,_,_,Zj,Zj,R.hw,AQ (by simp only[AK];omega),?_⟩;rw[ew];exact q _ (λb o e n1 n2 n3=>by rw[AE n3];exact e) R2
  ·rw[show decide (V.str Sg.br.s=V.str "~")=false by decide +kernel];refine Af ⟨_,Zj,Zj,_,Zj,?_⟩;rw[show decide (V.str Sg.br.s=V.str "(")=true by decide +kernel];refine AX ?_;refine⟨_,rfl,p,DC,dx,_,_,rfl,hp,DT.cl,DT.nW,D6 _ _ _,.inl ⟨rfl,_,aJ.of R.hw⟩,_,rfl,lw,_,_,rfl,rfl,R.hw,AQ (by simp only[AK];omega),?_⟩;rw[ew];exact q _ (λb o e n1 n2 n3=>by rw[AE n3];exact e) R2
inductive spTC (DC bd:Vs) (vs:Vr) (H:Hp) (Q:VK) (_E:XK):Prop where
 |mk (p ls lw:Vs) (ss:Vp) (W G:List Sg) (wp:Bool) (aZ:vs=[.ref p]) (bJ:aY DC H p ls lw ss (cz ((W++[.br])++G)) wp) (cY:ss.length+(W.length+G.length)<=390) (dw:Rd H bd (.dK CP))
  (f9:∀q∈G,1<=q.b) (jr:∀H',gw p ls lw H H'->aY DC H' p ls lw (ss++(cz G).reverse) (cz W) wp->Q (.bl true) H')
 |no (p ls lw:Vs) (ss:Vp) (G:List Sg) (wp:Bool) (aZ:vs=[.ref p]) (bJ:aY DC H p ls lw ss (cz G) wp) (cY:ss.length+G.length<=390) (dw:Rd H bd (.dK CP)) (f9:∀q∈G,1<=q.b) (jr:∀H',gw p ls lw H H'->Q (.bl false) H')
theorem Vi:AH ["self"] ["self"] (defScope Bz):=bH
theorem Um {tB:Tok} (F:aQ K "take_close" "Reading.take_close" Bz f fd) (B:Bl mg) (DT:IB K DC) (mL:mg "LEAST_BINDING" = some (.int 1 tB)) (GS:Mt P w K mg base DC "settle" 1 ["self", "binding"] (spSet DC bd)):aB P w K mg base aL 2 f fd ["self"] (spTC DC bd):=by
 obtain⟨fS,dS,GS,mS,bS⟩:=GS.ex;refine F.ok Vi (λvs H Q E h=>?_) (λae A outer s H vs Q E hr h=>?_)
 ·cases h with
  |mk p ls lw ss W G wp e=>subst e;rfl
  |no p ls lw ss G wp e=>subst e;rfl
 ·refine⟨_,AC (Ai (BD (pv 0) DT.cl mS GS hr bS .nil AL (AA (Ag (v:=.int 1) Zj mL ⟨tB,Zj⟩) AB)))
   (AC (Ac (AW Cj (AM (Av K rfl) rfl B.len PySem.boot_len (AA (AU (pv 0) rfl) AB)) AI (AT _)) (AD (AN CY)) AR)
   (AC (Ai (K1 PySem.F.plainAttrs_list PySem.F.slot_list_pop PySem.F.type_list_pop OV (AU (pv 0) rfl)))
   (AD (AN CY)))),?_⟩
  cases h with
  |no p ls lw ss G wp e R h390 hB hq q =>
   subst e;obtain⟨dx,hp⟩:=id R.ex;refine⟨_,Zj,p,dx,_,Zj,hp,Bh _ _ _,p,ls,lw,ss,[],G,1,wp,Zj,R,by show _+(0+_)<=400;omega,hB,hq,.inl Zj,λH1 s1 R1=>?_⟩;obtain⟨g8,al⟩:=id R1.ex;refine⟨_,Zj,p,DC,g8,_,_,Zj,al,DT.cl,DT.nW,D6 _ _ _,lw,_,Zj,.inl (aJ.of R1.hw),Zj,_,Zj,?_⟩;exact Af (q _ s1)
  |mk p ls lw ss W G wp e R h390 hB hq q =>
  subst e;obtain⟨dx,hp⟩:=id R.ex;refine⟨_,Zj,p,dx,_,Zj,hp,Bh _ _ _,p,ls,lw,ss,W++[.br],G,1,wp,Zj,R,by rw[ZJ,length_singleton];omega,hB,hq,.inr (by rw[F0];decide),λH1 s1 R1=>?_⟩;obtain⟨g8,al⟩:=id R1.ex;obtain⟨hat,cn,cq⟩:=Kc W .br;refine⟨_,Zj,p,DC,g8,_,_,Zj,al,DT.cl,DT.nW,D6 _ _ _,lw,_,Zj,.inl (aJ.of R1.hw),Zj,_,Zj,?_⟩
  rw[ZQ (λz=>by
   have:=V.int.inj z;simp only[AK,ZJ,length_singleton]at this
   omega)]
  refine AX ?_;refine⟨_,Zj,p,DC,g8,_,_,Zj,al,DT.cl,DT.nW,D6 _ _ _,.inl ⟨Zj,_,aJ.of R1.hw⟩,lw,_,.str Sg.br.s,Zj,Zj,R1.hw,cn,?_⟩;rw[cq];exact q _ (λb o e n1 n2 n3=>by rw[AE n3];exact s1 b o e n1 n2 n3) (R1.waits (cz W))
inductive StopX (x:Str) (W:List Sg):Bool->Prop
 |ahead (h1:x≠ " ") (h2:x≠ "~") (h3:x≠ "("):StopX x W true
 |between (h1:x≠ " ") (h2:x≠ "&") (h3:x≠ "^") (h4:x≠ "|") (h5:x≠ ")"):StopX x W false
 |close (h1:x = ")") (h:∀q∈W,1<=q.b):StopX x W false
inductive spTS (DC bd:Vs) (vs:Vr) (H:Hp) (Q:VK) (_E:XK):Prop where
 |mk (p ls lw:Vs) (x:Str) (S S':Vp) (W W':List Sg) (wp iU:Bool) (aZ:vs=[.ref p,.str x]) (bG:aY DC H p ls lw S (cz W) wp) (bJ:SgStep x S W wp S' W' iU) (cY:S.length+W.length<=380) (dw:Rd H bd (.dK CP))
  (f9:∀H',gw p ls lw H H'->aY DC H' p ls lw S' (cz W') iU->Q (.bl true) H')
 |no (p ls lw:Vs) (x:Str) (S:Vp) (W:List Sg) (wp:Bool) (aZ:vs=[.ref p,.str x]) (bG:aY DC H p ls lw S (cz W) wp) (bJ:StopX x W wp) (cY:S.length+W.length<=380) (dw:Rd H bd (.dK CP)) (f9:∀H',gw p ls lw H H'->Q (.bl false) H')
theorem Vj:AH ["self", "sign"] ["self", "sign"] (defScope CH):=bH
theorem Hs (g:Sg):decide (V.str g.s=V.str " ")=false/\decide (V.str g.s=V.str ")")=false:=by cases g <;> decide +kernel
theorem Uo (F:aQ K "take_sign" "Reading.take_sign" CH f fd) (DT:IB K DC) (GB:Mt P w K mg base DC "take_between" 2 ["self", "sign"] (spTB DC bd)) (GA:Mt P w K mg base DC "take_ahead" 1 ["self", "sign"] (spTA DC)) (GC:Mt P w K mg base DC "take_close" 2 ["self"] (spTC DC bd)):aB P w K mg base aL 3 f fd ["self", "sign"] (spTS DC bd):=by
 obtain⟨fB,dB,GB,mB,bB⟩:=GB.ex;obtain⟨fA,dA,GA,mA,bA⟩:=GA.ex;obtain⟨fC,dC,GC,mC,bC⟩:=GC.ex;refine F.ok Vj (λvs H Q E h=>?_) (λae A outer s H vs Q E hr h=>?_)
 ·cases h with
  |mk p ls lw x S S' W W' wp iU e=>subst e;rfl
  |no p ls lw x S W wp e=>subst e;rfl
 ·have cZ:aD 1 _:=hr.mono qc
  refine⟨_,AC (Ac (AW Cj (pv 1) Al (AT _)) (AD (AN CY)) AR)
   (AC (Ac (Ae (AU (pv 0) rfl)) (AD (AN (BD (pv 0) DT.cl mA GA cZ bA .nil AL (AA (pv 1) AB)))) AR)
   (AD (AN (Ev (AW Cj (pv 1) Al (AT _)) (An (pv 0) DT.cl mC GC hr bC .nil AL) (BD (pv 0) DT.cl mB GB hr bB .nil AL (AA (pv 1) AB)))))),?_⟩
  cases h with
  |no p ls lw x S W wp e R st h380 hB q =>
   subst e;obtain⟨dx,hp⟩:=id R.ex;refine⟨_,rfl,rfl,_,rfl,?_⟩;cases st with
   |ahead h1 h2 h3 =>
    rw[ZQ (show ¬ V.str x=V.str " " from λz=>h1 (V.str.inj z))];refine AX ⟨_,Zj,p,DC,dx,_,_,Zj,hp,DT.cl,DT.nP,D7 _ _ _,_,Zj,Af ?_⟩;exact⟨_,Zj,p,dx,_,Zj,hp,Bh _ _ _,_,Zj,.no p x Zj h2 h3 (q _ (gw.refl _ _ _ _))⟩
   |between h1 h2 h3 h4 h5 =>
    rw[ZQ (show ¬ V.str x=V.str " " from λz=>h1 (V.str.inj z))];refine AX ⟨_,Zj,p,DC,dx,_,_,Zj,hp,DT.cl,DT.nP,D7 _ _ _,_,Zj,AX ?_⟩;refine⟨_,Zj,Zj,_,Zj,?_⟩;rw[ZQ (show ¬ V.str x=V.str ")" from λz=>h5 (V.str.inj z))];exact AX ⟨_,rfl,p,dx,_,rfl,hp,Bh _ _ _,_,rfl,.no p x rfl h2 h3 h4 (q _ (gw.refl _ _ _ _))⟩
   |close h1 h =>
    subst h1;rw[show decide (V.str ")" = V.str " ")=false by decide +kernel];refine AX ⟨_,rfl,p,DC,dx,_,_,rfl,hp,DT.cl,DT.nP,D7 _ _ _,_,rfl,AX ?_⟩;refine⟨_,rfl,rfl,_,rfl,?_⟩;rw[show decide (V.str ")" = V.str ")")=true by decide +kernel];exact Af ⟨_,rfl,p,dx,_,rfl,hp,Bh _ _ _,.no p ls lw S W false rfl R qe hB h q⟩
  |mk p ls lw x S S' W W' wp iU e R st h380 hB q =>
  subst e;obtain⟨dx,hp⟩:=id R.ex;refine⟨_,rfl,rfl,_,rfl,?_⟩;cases st with
  |blank =>
   rw[show decide (V.str " " = V.str " ")=true by decide +kernel];exact Af (q _ (gw.refl _ _ _ _) R)
  |ahead _ _ g hg =>
   rw[(Hs g).1];refine AX ⟨_,Zj,p,DC,dx,_,_,Zj,hp,DT.cl,DT.nP,D7 _ _ _,_,Zj,Af ?_⟩;exact⟨_,Zj,p,dx,_,Zj,hp,Bh _ _ _,_,Zj,.mk p ls lw S W g true Zj hg R qe q⟩
  |join _ W0 G g hg hq hw =>
   rw[(Hs g).1];rw[ZJ]at h380;refine AX ⟨_,Zj,p,DC,dx,_,_,Zj,hp,DT.cl,DT.nP,D7 _ _ _,_,Zj,AX ?_⟩;refine⟨_,Zj,Zj,_,Zj,?_⟩;rw[(Hs g).2];exact AX ⟨_,Zj,p,dx,_,Zj,hp,Bh _ _ _,_,Zj,.mk p ls lw S W0 G g Zj hg R qe hB hq hw q⟩
  |close _ _ G hq =>
   rw[show decide (V.str ")" = V.str " ")=false by decide +kernel];rw[ZJ,ZJ]at h380;refine AX ⟨_,rfl,p,DC,dx,_,_,rfl,hp,DT.cl,DT.nP,D7 _ _ _,_,rfl,AX ?_⟩;refine⟨_,rfl,rfl,_,rfl,?_⟩;rw[show decide (V.str ")" = V.str ")")=true by decide +kernel];exact Af ⟨_,rfl,p,dx,_,rfl,hp,Bh _ _ _,.mk p ls lw S W' G false rfl R qe hB hq q⟩
inductive spEnds (DC bd:Vs) (vs:Vr) (H:Hp) (Q:VK) (_E:XK):Prop where
 |mk (p ls lw:Vs) (ss:Vp) (G:List Sg) (aZ:vs=[.ref p]) (bG:aY DC H p ls lw ss (cz G) false) (bJ:ss.length+G.length<=390) (cY:∀q∈G,1<=q.b) (dw:Rd H bd (.dK CP))
  (f9:∀H',gw p ls lw H H'->aY DC H' p ls lw (ss++(cz G).reverse) [] false->Q (.bl true) H')
 |no (p ls lw:Vs) (ss:Vp) (W:List Sg) (wp:Bool) (aZ:vs=[.ref p]) (bG:aY DC H p ls lw ss (cz W) wp) (bJ:ss.length+W.length<=390) (cY:wp=true\/∃W1 W2,W=(W1++[.br])++W2/\∀q∈W2,1<=q.b) (dw:Rd H bd (.dK CP)) (f9:∀H',gw p ls lw H H'->Q (.bl false) H')
theorem Kd:∀W:List Sg,(∀q∈W,1<=q.b)\/∃W1 W2,W=(W1++[.br])++W2/\∀q∈W2,1<=q.b
 | []=>.inl λq h=>nomatch h
 |g::W=>by
  rcases Kd W with h |⟨W1,W2,e,h⟩
  ·by_cases hg:1<=g.b
   ·exact .inl λq hq=>by rcases mem_cons.mp hq with rfl |z;exact hg;exact h q z
   ·have:g=.br:=by cases g <;> first |rfl |exact absurd qc hg
    subst this;exact .inr ⟨[],W,Zj,h⟩
  ·exact .inr ⟨g::W1,W2,by rw[e];rfl,h⟩
theorem TQ:AH ["self"] ["self"] (defScope De):=bH
theorem RY {tB:Tok} (F:aQ K "ends" "Reading.ends" De f fd) (B:Bl mg) (DT:IB K DC) (mL:mg "LEAST_BINDING" = some (.int 1 tB)) (GS:Mt P w K mg base DC "settle" 1 ["self", "binding"] (spSet DC bd)):aB P w K mg base aL 2 f fd ["self"] (spEnds DC bd):=by
 obtain⟨fS,dS,GS,mS,bS⟩:=GS.ex;refine F.ok TQ (λvs H Q E h=>?_) (λae A outer s H vs Q E hr h=>?_)
 ·cases h with
  |mk p ls lw ss G e=>subst e;rfl
  |no p ls lw ss W wp e=>subst e;rfl
 ·
  refine⟨_,AC (Ai (BD (pv 0) DT.cl mS GS hr bS .nil AL (AA (Ag (v:=.int 1) Zj mL ⟨tB,Zj⟩) AB)))
   (AD (AN (BQ (OE (AU (pv 0) rfl)) (Bf (BU Cj (AM (Av K rfl) rfl B.len PySem.boot_len (AA (AU (pv 0) rfl) AB)) AI (AT _)))))),?_⟩
  cases h with
  |no p ls lw ss W wp e R h390 hw hB q =>
   subst e;obtain⟨dx,hp⟩:=id R.ex
   obtain⟨W0,G,eW,hG,h0,hn⟩:∃W0 G,W=W0++G/\(∀q∈G,1<=q.b)/\(W0=[]\/Lh W0<1)/\(wp=true\/W0≠ []):=by
    rcases Kd W with h |⟨W1,W2,e,h⟩
    ·refine⟨[],W,rfl,h,.inl rfl,?_⟩;rcases hw with z |⟨W1,W2,e,_⟩
     ·exact .inl z
     ·have:=h .br (by rw[e];simp);exact absurd this qc
    ·exact⟨W1++[.br],W2,e,h,.inr (by rw[F0];decide),.inr (by simp)⟩
   subst eW;rw[ZJ]at h390;refine⟨_,rfl,p,dx,_,rfl,hp,Bh _ _ _,p,ls,lw,ss,W0,G,1,wp,rfl,R,qe,hB,hG,h0,λH1 s1 R1=>?_⟩;obtain⟨g8,al⟩:=id R1.ex;refine⟨_,rfl,p,DC,g8,_,_,rfl,al,DT.cl,DT.nP,D7 _ _ _,_,rfl,_,rfl,?_⟩;cases wp with
   |true=>exact AX (q _ s1)
   |false =>
    refine Af ⟨_,Zj,p,DC,g8,_,_,Zj,al,DT.cl,DT.nW,D6 _ _ _,lw,_,Zj,.inl (aJ.of R1.hw),Zj,?_⟩;have hn0:W0≠ []:=hn.resolve_left qc
    rw[ZQ (λz=>by
     have:=V.int.inj z;simp only[AK]at this
     exact hn0 (List.length_eq_zero_iff.mp qe))]
    exact q _ s1
  |mk p ls lw ss G e R h390 hq hB q =>
  subst e;obtain⟨dx,hp⟩:=id R.ex;refine⟨_,Zj,p,dx,_,Zj,hp,Bh _ _ _,p,ls,lw,ss,[],G,1,false,Zj,R,by show _+(0+_)<=400;omega,hB,hq,.inl Zj,λH1 s1 R1=>?_⟩;obtain⟨g8,al⟩:=id R1.ex;refine⟨_,Zj,p,DC,g8,_,_,Zj,al,DT.cl,DT.nP,D7 _ _ _,_,Zj,_,Zj,Af ?_⟩;exact⟨_,Zj,p,DC,g8,_,_,Zj,al,DT.cl,DT.nW,D6 _ _ _,lw,_,Zj,.inl (aJ.of R1.hw),Zj,q _ s1 R1⟩
end
theorem Gr {a:Vs}{o:HO} (s:aA H H') (h:Rd H a o):Rd H' a o:=by
 rcases h with h |⟨o,h⟩
 ·exact .inl (s _ _ h)
 ·exact .inr ⟨o,s _ _ h⟩
theorem aY.same {DC:Vs}{p ls lw:Vs}{ss ws:Vp}{wp:Bool} (s:aA H H') (h:aY DC H p ls lw ss ws wp):aY DC H' p ls lw ss ws wp:=by
 obtain⟨dx,hp⟩:=h.ex;exact⟨⟨dx,s _ _ hp⟩,s _ _ h.hs,s _ _ h.hw,h.ne⟩
theorem P2 (g:Sg):(⟨#[g.c]⟩:Str)=g.s:=by cases g <;> decide +kernel
theorem SL (g:Sg):EM g.c=false/\Dj g.c=false:=by cases g <;> exact⟨rfl,rfl⟩
inductive RnN (lt:Bool) (z:Str) (o:Out) (a:Nat) (S:Vp) (W:List Sg) (wp:Bool):Prop
 |done (ea:a=z.length) (ew:wp=false) (h:∀q∈W,1<=q.b) (e:o=.ok (S++(cz W).reverse))
 |part (ew:wp=true) (n:Nat) (h:Jc lt z a n) (hn:0<n) (r:Rn lt z o (a+n) (S++[sl z a (a+n)]) W false)
 |sign (c:Nat) (S':Vp) (W':List Sg) (iU:Bool) (hc:z.cps.toList[a]?=some c) (no:Jc lt z a 0) (st:SgStep ⟨#[c]⟩ S W wp S' W' iU) (r:Rn lt z o (a+1) S' W' iU) (l:S'.length+W'.length<=S.length+W.length+1)
 |stop (c:Nat) (hc:z.cps.toList[a]?=some c) (no:wp=true->Jc lt z a 0) (st:StopX ⟨#[c]⟩ W wp) (e:o=.bad a)
 |ends (ea:a=z.length) (hw:wp=true\/∃W1 W2,W=(W1++[.br])++W2/\∀q∈W2,1<=q.b) (e:o=.bad z.length)
theorem Jd {lt:Bool}{z:Str}{a c:Nat} (hc:z.cps.toList[a]?=some c) (no:EM c=false/\Dj c=false) (sm:Nq c=false):Jc lt z a 0:=by
 obtain⟨aX,ec⟩:=Z8.mp hc;rw[Ax]at aX;refine⟨qe,λk h0 hk=>absurd hk qe,λ_=>P1 (w:=[]) no ?_ (.inr sm)⟩;rw[D5 z qe qe];rw[show a+0+1 - a=1 by omega,List.nil_append];rw[List.drop_eq_getElem_cons (by rw[Ax];exact aX),ec];rfl
theorem D8 {c:Nat}{x:Str}{d:Nat} (hx:x.cps.toList=[d]) (h:c≠d):(⟨#[c]⟩:Str)≠x:=λz=>h (by
 have:=congrArg (λy:Str=>y.cps.toList) z;simp only at this;rw[hx]at this
 injection this)
theorem Rn.next {lt:Bool}{z:Str}{o:Out}{a:Nat}{S:Vp}{W:List Sg}{wp:Bool} (h:Rn lt z o a S W wp):RnN lt z o a S W wp:=by
 cases h with
 |done _ _ h e=>exact .done rfl rfl h e
 |blank _ _ _ _ h r=>exact .sign 32 _ _ _ h (Jd h ⟨rfl,rfl⟩ rfl) (by rw[show(⟨#[32]⟩:Str) = " " by decide +kernel];exact .blank _ _ _) r qe
 |part _ n _ _ h hn r=>exact .part rfl n h hn r
 |ahead _ _ _ g hg h r=>exact .sign g.c _ _ _ h (Jd h (SL g) (by cases g <;> rfl)) (by rw[P2];exact .ahead _ _ g hg) r (by simp;omega)
 |join _ _ W Q g hg h hq hw r=>exact .sign g.c _ _ _ h (Jd h (SL g) (by cases g <;> rfl)) (by rw[P2];exact .join _ W Q g hg hq hw) r (by simp;omega)
 |close _ _ W Q h hq r=>exact .sign 41 _ _ _ h (Jd h ⟨rfl,rfl⟩ rfl) (by rw[show(⟨#[41]⟩:Str) = ")" by decide +kernel];exact .close _ W Q hq) r (by simp;omega)
 |stop _ c _ _ _ h hs e =>
  have e1:((" " : Str)).cps.toList=[32]:=by decide +kernel
  have e2:(("~" : Str)).cps.toList=[126]:=by decide +kernel
  have e3:(("(" : Str)).cps.toList=[40]:=by decide +kernel
  have e4:(("&" : Str)).cps.toList=[38]:=by decide +kernel
  have e5:(("^" : Str)).cps.toList=[94]:=by decide +kernel
  have e6:(("|" : Str)).cps.toList=[124]:=by decide +kernel
  have e7:((")" : Str)).cps.toList=[41]:=by decide +kernel
  cases hs with
  |ahead p h1 h2 h3=>exact .stop c h (λ_=>p) (.ahead (D8 e1 h1) (D8 e2 h2) (D8 e3 h3)) e
  |between h1 h2 h3 h4 h5=>exact .stop c h (λz=>nomatch z) (.between (D8 e1 h1) (D8 e4 h2) (D8 e5 h3) (D8 e6 h4) (D8 e7 h5)) e
  |close h1 hw=>exact .stop c h (λz=>nomatch z) (.close (by rw[h1];decide +kernel) hw) e
 |ends _ _ _ hw e=>exact .ends rfl hw e
structure Up (P:Program) (w:World) (K:FG) (mg:SV) (base:Heap) (DC bd:Vs):Prop where
 T:IB K DC
 cls:mg "Reading" = some (.ref DC)
 make:∃f fd,Mk K DC f/\aB P w K mg base aL 1 f fd ["self"] (spRd0 DC)/\Binds K fd ["self"] []
 tp:Mt P w K mg base DC "take_part" 1 ["self", "part"] (spTP DC)
 ts:Mt P w K mg base DC "take_sign" 3 ["self", "sign"] (spTS DC bd)
 en:Mt P w K mg base DC "ends" 2 ["self"] (spEnds DC bd)
def Vk (H:Hp) (Q:VK) (E:XK) (cT:Vs):Out->Prop
 | .ok T=>∀l H',aA H H'->H' l=some (.lst (T.map V.str))->Q (.ref l) H'
 | .bad e=>UqA H E cT (.int (e:Int))
inductive spSt (K:FG) (DC bd cT:Vs) (vs:Vr) (H:Hp) (Q:VK) (E:XK):Prop where
 |mk (z:Str) (lt:Bool) (o:Out) (aZ:vs=[.str z,.bl lt]) (bG:z.cps.all (· < 128)=true) (bJ:z.length<=100) (cY:Rn lt z o 0 [] [] true) (dw:Rd H bd (.dK CP)) (f9:Vk H Q E cT o)
 |aT (v:V) (lt:Bool) (aZ:vs=[v,.bl lt]) (bG:NoIs K "str" H v) (bJ:UqA H E cT .aT)
noncomputable abbrev NSt:Vp:=["text", "lettered", "reading", "at", "end"]
theorem scSt:AH NSt ["text", "lettered"] (defScope CN):=bH
inductive StA (lt:Bool) (DC:Vs) (z:Str) (o:Out) (p ls lw:Vs) (H:Hp) (a:Nat):Prop
 |mk (S:Vp) (W:List Sg) (wp:Bool) (R:aY DC H p ls lw S (cz W) wp) (t:Rn lt z o a S W wp) (l:S.length+W.length<=a) (h:a<=z.length)
section
variable {DC bd cM cT:Vs}
theorem Ke {n:Nat} (h:n<=1000):AtV (.int (n:Int)):=.inr ⟨_,rfl,Np (Nat.lt_of_le_of_lt h qc)⟩
theorem Ur (F:aQ K "steps_of" "steps_of" CN f fd) (B:Bl mg) (RO:Up P w K mg base DC bd) (TX:RM P w K mg base cM cT) (GE:Fn P w K mg base "part_end" 5 ["text", "at", "lettered"] spPE):aB P w K mg base (cE P w) 6 f fd ["text", "lettered"] (spSt K DC bd cT):=by
 obtain⟨fE,dE,GE,mE,kE,bE⟩:=GE.ex;obtain⟨fI,dI,MI,GI,bI⟩:=RO.make;obtain⟨fT,dT,GT,mT,bT⟩:=RO.tp.ex;obtain⟨fS,dS,GS,mS,bS⟩:=RO.ts.ex;obtain⟨fN,dN,GN,mN,bN⟩:=RO.en.ex;have mC:=RO.cls;have DT:=RO.T;obtain⟨fX,dX,MX,GX,bX⟩:=TX.make;have mX:=TX.cls;refine F.okX scSt (λvs H Q E h=>?_) (λae A outer s H vs Q E hr h=>?_)
 ·cases h with
  |mk z lt o e=>subst e;rfl
  |aT v lt e=>subst e;rfl
 ·have rz:=Bv (P:=P) (w:=w) (K:=K) (mg:=mg) (base:=base) (N:=NSt) (qual := "steps_of") (scope:=defScope CN) (f:=f) (cd:=ae) (A:=A) (outer:=outer) (s:=s) (H:=H) (E:=E);have cZ:aD 1 _:=hr.mono qc;have gk:aD 2 _:=hr.mono qc;have gL:aD 3 _:=hr.mono qc;have nd:=scSt.nd
  refine⟨_,AC (Ac (Ah (Ae (BI K Zj Zj B.eA Zj B.str Ep (pv 0)))) (AD (BH rz Zj MX.cls (BG MX GX gL Zj mX bX .nil AL (AA Ip AB)))) AR)
   (AC (Am (i:=2) nd rfl (Or.inl rfl) (OP MI GI gk rfl mC bI .nil AL))
   (AC (Am (i:=3) nd rfl (Or.inl rfl) AI)
   (Gq (G9 PassesOwn.leaving (AW ID (pv 3) (AM Bb rfl B.len PySem.boot_len (AA (pv 0) AB)) (AT _))
    (Gq (Am (i:=4) nd rfl (Or.inl rfl) (Ev (Ae (AU (pv 2) rfl)) (AO GE hr rfl mE kE bE .nil AL (AA (pv 0) (AA (pv 3) (AA (pv 1) AB)))) (pv 3)))
    (AD (Ac (AW Lx (pv 4) (pv 3) (AT _))
     (AC (Ai (BD (pv 2) DT.cl mT GT cZ bT .nil AL (AA (Jq O4 (pv 0) (Gh (pv 3)) (Gh (pv 4))) AB))) (AD (Am (i:=3) nd rfl (Or.inl rfl) (pv 4))))
     (AD (Ac (Ae (BD (pv 2) DT.cl mS GS gL bS .nil AL (AA (Bi OR (pv 0) (pv 3) (λ_ _=>rfl)) AB))) (AD (Kr (i:=3) nd rfl (Or.inl rfl) AI (Ls:df _ _ _))) (AD (BH rz rfl MX.cls (BG MX GX gL rfl mX bX .nil AL (AA (pv 3) AB))))))))))
   (AC (Ac (Ah (Ae (An (pv 2) DT.cl mN GN gk bN .nil AL))) (AD (BH rz rfl MX.cls (BG MX GX gL rfl mX bX .nil AL (AA (AM Bb rfl B.len PySem.boot_len (AA (pv 0) AB)) AB)))) AR)
   (AD (AN (AU (pv 2) rfl))))))),?_⟩
  cases h with
  |aT v lt e hv hU =>
   subst e;obtain⟨t,ht,hk⟩:=hv.ty;exact⟨_,Zj,_,_,_,false,Zj,ht,hk,_,Zj,Af (Fy (te:=tC .aT) MX.cls TX.st (.inl Zj) (aA.refl _) hU (λ_ z=>z))⟩
  |mk z lt o e ha h40 RN hB q =>
  subst e;refine⟨_,Zj,_,_,_,true,Zj,.str z,Zj,_,Zj,AX ?_⟩;intro p dx hp ax aw;have sN:=BK (D:=DC) hp ax aw;refine⟨p,dx,Zj,U,λls lw H1 s1 hls hlw R1=>⟨Zj,?_⟩⟩;have S1:aA H H1:=λb o e=>s1 b o (sN _ _ e) (AJ e hp);have hls0:H ls=none:=none_of sN hls;have cg:H lw=none:=none_of sN hlw;have old:∀ {H2 H3:Hp},aA H H2->gw p ls lw H2 H3->aA H H3:=λ{H2 H3} a b c o e=>b c o (a c o e) (AJ e hp) (AJ e hls0) (AJ e cg);have rdS:∀ {H2:Hp},aA H H2->Rd H2 bd (.dK CP):=λ{H2} a=>Gr a hB;refine⟨λσ H'=>(∃v4,σ=[some (.str z),some (.bl lt),some (.ref p),some (.int (z.length:Int)),v4])/\aA H H'/\∃S W wp,aY DC H' p ls lw S (cz W) wp/\S.length+W.length<=300/\((wp=false/\(∀q∈W,1<=q.b)/\o=.ok (S++(cz W).reverse))\/((wp=true\/∃W1 W2,W=(W1++[.br])++W2/\∀q∈W2,1<=q.b)/\o=.bad z.length)),λR hR=>?_,?_⟩
  ·refine⟨λm σ H2=>∃a v4,σ=[some (.str z),some (.bl lt),some (.ref p),some (.int ((a:Nat):Int)),v4]/\m=z.length - a/\aA H H2/\StA lt DC z o p ls lw H2 a,⟨z.length,0,none,rfl,rfl,S1,.mk [] [] true R1 RN (Nat.zero_le _) (Nat.zero_le _)⟩,?_⟩;rintro m σ H2 ⟨a,v4,rfl,rfl,S2,S,W,wp,R2,t,l,au⟩;refine⟨_,rfl,_,rfl,z,rfl,Nat.le_of_lt (AQ qe),_,_,rfl,rfl,_,rfl,?_⟩;obtain⟨i6,am⟩:=id R2.ex;cases t.next with
   |done ea ew h e =>
    subst ea ew;rw[ZQ (show ¬ ((z.length:Nat):Int)<(z.length:Int) by omega)];exact AX (hR _ _ ⟨⟨_,Zj⟩,S2,S,W,false,R2,qe,.inl ⟨Zj,h,e⟩⟩)
   |ends ea hw e =>
    subst ea;rw[ZQ (show ¬ ((z.length:Nat):Int)<(z.length:Int) by omega)];exact AX (hR _ _ ⟨⟨_,Zj⟩,S2,S,W,wp,R2,qe,.inr ⟨hw,e⟩⟩)
   |part ew n pt hn r =>
    subst ew;have hle:=pt.le;rw[ZN (show((a:Nat):Int)<(z.length:Int) by omega)];refine Af ⟨λσ H3=>∃b v4,σ=[some (.str z),some (.bl lt),some (.ref p),some (.int ((b:Nat):Int)),v4]/\z.length - b<z.length - a/\aA H H3/\StA lt DC z o p ls lw H3 b,λaO H' ⟨b,v,e1,e2,e3,e4⟩=>⟨z.length - b,e2,b,v,e1,Zj,e3,e4⟩,?_⟩;refine⟨λσ H3=>σ=[some (.str z),some (.bl lt),some (.ref p),some (.int ((a:Nat):Int)),some (.int ((a+n:Nat):Int))]/\aA H H3/\aY DC H3 p ls lw S (cz W) true,λR hR=>?_,?_⟩
    ·refine⟨_,Zj,p,DC,i6,_,_,Zj,am,DT.cl,DT.nP,D7 _ _ _,_,Zj,Af ?_⟩;exact⟨_,Zj,_,Zj,_,Zj,z,a,n,lt,Zj,ha,qe,pt,λH3 s3=>hR _ _ ⟨Zj,S2.trans s3,R2.same s3⟩⟩
    ·rintro σ H3 ⟨rfl,S3,R3⟩;obtain⟨dx3,gv⟩:=id R3.ex;refine⟨_,Zj,_,Zj,_,_,Zj,Zj,_,Zj,?_⟩;rw[ZN (show((a+n:Nat):Int)>((a:Nat):Int) by omega)];refine Af ?_;refine⟨_,Zj,p,dx3,_,Zj,gv,Bh _ _ _,_,Zj,_,Zj,_,Zj,_,Zj,_,Zj,z,Zj,Nat.le_of_lt (AQ qe),p,ls,lw,S,cz W,true,_,Zj,R3,qe,λH4 s4 R4=>?_⟩;exact⟨_,Zj,a+n,_,Zj,qe,old S3 s4,.mk _ W false R4 r (by rw[ZJ,length_singleton];omega) hle⟩
   |sign c S' W' iU hc no st r gF =>
    have aX:a<z.length:=by
     have:=(Z8.mp hc).1;rw[Ax]at this;exact this
    rw[ZN (show((a:Nat):Int)<(z.length:Int) by omega)];refine Af ⟨λσ H3=>∃b v4,σ=[some (.str z),some (.bl lt),some (.ref p),some (.int ((b:Nat):Int)),v4]/\z.length - b<z.length - a/\aA H H3/\StA lt DC z o p ls lw H3 b,λaO H' ⟨b,v,e1,e2,e3,e4⟩=>⟨z.length - b,e2,b,v,e1,Zj,e3,e4⟩,?_⟩;refine⟨λσ H3=>σ=[some (.str z),some (.bl lt),some (.ref p),some (.int ((a:Nat):Int)),some (.int ((a:Nat):Int))]/\aA H H3/\aY DC H3 p ls lw S (cz W) wp,λR hR=>?_,?_⟩
    ·refine⟨_,rfl,p,DC,i6,_,_,rfl,am,DT.cl,DT.nP,D7 _ _ _,_,rfl,?_⟩;cases wp with
     |false=>exact AX ⟨_,rfl,hR _ _ ⟨rfl,S2,R2⟩⟩
     |true=>exact Af ⟨_,rfl,_,rfl,_,rfl,z,a,0,lt,rfl,ha,qe,no,λH3 s3=>hR _ _ ⟨rfl,S2.trans s3,R2.same s3⟩⟩
    ·rintro σ H3 ⟨rfl,S3,R3⟩;obtain⟨dx3,gv⟩:=id R3.ex;refine⟨_,Zj,_,Zj,_,_,Zj,Zj,_,Zj,?_⟩;rw[ZQ (show ¬ ((a:Nat):Int)>((a:Nat):Int) by omega)];refine AX ?_;refine⟨_,Zj,p,dx3,_,Zj,gv,Bh _ _ _,_,Zj,_,Zj,z,(a:Int),c,Zj,Zj,Nat.le_of_lt (AQ qe),CK hc,.mk p ls lw ⟨#[c]⟩ S S' W W' wp iU Zj R3 st qe (rdS S3) λH4 s4 R4=>⟨_,Zj,Af ?_⟩⟩;refine⟨_,Zj,_,_,Zj,Zj,a+1,some (.int ((a:Nat):Int)),?_,qe,old S3 s4,.mk S' W' iU R4 r qe qe⟩;show [some (V.str z),some (V.bl lt),some (V.ref p),some (V.int (((a:Nat):Int)+1)),some (V.int ((a:Nat):Int))]=_;rfl
   |stop c hc no st e =>
    have aX:a<z.length:=by
     have:=(Z8.mp hc).1;rw[Ax]at this;exact this
    subst e;rw[ZN (show((a:Nat):Int)<(z.length:Int) by omega)];refine Af ⟨λσ H3=>False,λaO H' z=>z.elim,?_⟩;refine⟨λσ H3=>σ=[some (.str z),some (.bl lt),some (.ref p),some (.int ((a:Nat):Int)),some (.int ((a:Nat):Int))]/\aA H H3/\aY DC H3 p ls lw S (cz W) wp,λR hR=>?_,?_⟩
    ·refine⟨_,rfl,p,DC,i6,_,_,rfl,am,DT.cl,DT.nP,D7 _ _ _,_,rfl,?_⟩;cases wp with
     |false=>exact AX ⟨_,rfl,hR _ _ ⟨rfl,S2,R2⟩⟩
     |true=>exact Af ⟨_,rfl,_,rfl,_,rfl,z,a,0,lt,rfl,ha,qe,no rfl,λH3 s3=>hR _ _ ⟨rfl,S2.trans s3,R2.same s3⟩⟩
    ·rintro σ H3 ⟨rfl,S3,R3⟩;obtain⟨dx3,gv⟩:=id R3.ex;refine⟨_,Zj,_,Zj,_,_,Zj,Zj,_,Zj,?_⟩;rw[ZQ (show ¬ ((a:Nat):Int)>((a:Nat):Int) by omega)];refine AX ?_;refine⟨_,Zj,p,dx3,_,Zj,gv,Bh _ _ _,_,Zj,_,Zj,z,(a:Int),c,Zj,Zj,Nat.le_of_lt (AQ qe),CK hc,.no p ls lw ⟨#[c]⟩ S W wp Zj R3 st qe (rdS S3) λH4 s4=>⟨_,Zj,AX ?_⟩⟩;exact Fy (te:=C5 3) MX.cls TX.st (Ke qe) (old S3 s4) q (λ_ k=>⟨_,Zj,k⟩)
  rintro σ H2 ⟨⟨v4,rfl⟩,S2,S,W,wp,R2,l80,hend⟩;obtain⟨i6,am⟩:=id R2.ex;rcases hend with⟨rfl,hq,rfl⟩ |⟨hw,rfl⟩
  ·refine⟨_,Zj,p,i6,_,Zj,am,Bh _ _ _,.mk p ls lw S W Zj R2 qe hq (rdS S2) λH3 s3 R3=>⟨_,Zj,AX ?_⟩⟩;obtain⟨dx3,gv⟩:=id R3.ex;exact⟨_,Zj,p,DC,dx3,_,_,Zj,gv,DT.cl,DT.nS,Pz _ _ _,q ls H3 (old S2 s3) R3.hs⟩
  ·refine⟨_,Zj,p,i6,_,Zj,am,Bh _ _ _,.no p ls lw S W wp Zj R2 qe hw (rdS S2) λH3 s3=>⟨_,Zj,Af ?_⟩⟩;exact Fy MX.cls TX.st (Ke qe) (old S2 s3) q (λ_ k=>⟨_,Zj,z,Zj,Nat.le_of_lt (AQ qe),k⟩)
end
section
variable {DC bd cM cT cB:Vs}
noncomputable def gV2 (vs zs:Vr):Vr:=match vs,zs with | [a],[c]=>[a,c] |_,_=>[]
noncomputable def gU2 (us ws:Vq):Vq:=match us,ws with | [a],[c]=>[a,c] |_,_=>[]
structure Us (P:Program) (w:World) (K:FG) (mg:SV) (base:Heap) (DC bd cT:Vs):Prop where
 ex:∃f fd,aB P w K mg base (cE P w) 6 f fd ["text", "lettered"] (spSt K DC bd cT)/\mg "steps_of" = some (.ref f)/\W.keepIn K (.ref f)=true/\∃g,Cm K fd ["text", "lettered"] ["lettered"] g gV2
inductive spReadG (bd cT:Vs) (vs:Vr) (H:Hp) (Q:VK) (E:XK):Prop where
 |mk (k:V) (z:Str) (p:Nat) (aZ:vs=[k,.str z]) (bG:z.cps.all (· < 128)=true) (bJ:z.length<=100) (cY:Rn false z (.bad p) 0 [] [] true) (dw:Rd H bd (.dK CP)) (f9:UqA H E cT (.int (p:Int)))
theorem TR:AH ["kind", "text"] ["kind", "text"] (defScope MM):=bH
theorem Vl:AH ["kind", "steps", "table", "held", "step", "last"] ["kind", "steps", "table"] (defScope Fo):=bH
theorem P3 {fN:Vs}{dN:FuncData}{cR:Vs} (F:aQ K "read" "read" MM f fd) (SO:Us P w K mg base DC bd cT) (FN:aQ K "number_of" "number_of" Fo fN dN) (mN:mg "number_of" = some (.ref fN)) (bN:Binds K dN ["kind", "steps", "table"] []) (GM:ik P w K mg base "made" 6 ["kind", "number"] (spMadeG C cR)):aB P w K mg base (cE P w) 7 f fd ["kind", "text"] (spReadG bd cT):=by
 obtain⟨fS,dS,GS,mS,kS,g,bS⟩:=SO.ex;obtain⟨fM,dM,GM,mM,kM,bM⟩:=GM.ex;have GN:aB P w K mg base aL 2 fN dN ["kind", "steps", "table"] (λ_ _ _ _=>False):=FN.ok (k:=1) Vl (λvs H Q E h=>h.elim) (λae A outer s H vs Q E hr h=>h.elim);refine F.n TR λvs H Q E h=>?_;obtain⟨k,z,p,rfl,ha,hz,RN,hB,hU⟩:=h;refine⟨Zj,λae A outer s hr=>?_⟩;have gk:aD 2 _:=hr.mono qc;have ps:=J5 (P:=P) (w:=w) (K:=K) (mg:=mg) (base:=base) (N:=["kind", "text"]) (qual := "read") (scope:=defScope MM) (f:=f) (cd:=ae) (A:=A) (outer:=outer) (s:=s) (H:=H) (E:=E);refine⟨_,AD (AN (AO GM hr Zj mM kM bM .nil ps (AA (pv 0) (AA (AO GN gk Zj mN FN.kp bN .nil AL (AA (pv 0) (AA (OQ GS hr Zj mS kS bS ps (AA (pv 1) AB) (Ez CY HF)) (AA Dt AB)))) AB)))),?_⟩;exact⟨_,Zj,_,Zj,_,Zj,.mk z false (.bad p) Zj ha hz RN hB hU⟩
theorem Ut {z:Str}{r:List Nat} (hz:z.cps.toList=65::124::97::r):Rn false z (.bad 2) 0 [] [] true:=by
 have pw:PW0 false [65]:=⟨qc,λk hk hkw x hx=>by
  obtain rfl:k=1:=by
   have:k<=1:=hkw;omega
  have hl:x.length=1:=by rw[←Ax,hx];rfl
  unfold Jb EQ;rw[hl,hx]
  rfl⟩
 have hl:z.length=r.length+3:=by rw[←Ax,hz];rfl
 have p1:=(Uh (lt:=false) (z:=z) (pre:=[]) (w:=[65]) (post:=124::97::r) hz pw (λc hc=>by cases hc;decide)).1
 have p2:Jc false z 2 0:=⟨qe,λk h0 hk=>absurd hk qe,λ_=>by
  have e:(Txt.slice z (some ((2:Nat):Int)) (some ((2+0+1:Nat):Int))).cps.toList=[97]:=by rw[D5 z qe qe,hz];rfl
  unfold Jb EQ Lg;rw[e]
  simp[EM,Dj]⟩
 refine .part 0 1 [] [] p1 qc ?_;refine .join 1 _ [] [] .or True.intro (by rw[hz];rfl) (λq hq=>by cases hq) qc ?_;exact .stop 2 97 _ _ true (by rw[hz];rfl) (.ahead p2 qc qc qc) rfl
end
end Mk
end
section
namespace Mk
open PySem L2 MK
def gu (K:FG) (T:Value) (H:Hp) (v:V):Prop:=(∃t,(∀H,dG K H v t)/\W.kitOne K t T=some false)\/(∃a xs,v=.ref a/\H a=some (.tup xs)/\W.kitOne K (.type "tuple") T=some false)\/∃a xs,v=.ref a/\H a=some (.lst xs)/\W.kitOne K (.type "list") T=some false
theorem gu.ty {T:Value}{v:V} (h:gu K T H v):∃t,dG K H v t/\W.kitOne K t T=some false:=by
 rcases h with⟨t,h,k⟩ |⟨a,xs,rfl,h,k⟩ |⟨a,xs,rfl,h,k⟩
 ·exact⟨t,h H,k⟩
 ·exact⟨_,.tup h,k⟩
 ·exact⟨_,.lst h,k⟩
def eR (H H':Hp):Prop:=∀b o,H b=some o->(∃xs,o=.tup xs\/o=.lst xs)->H' b=some o
theorem Li (s:aA H H'):eR H H':=λb o e _=>s b o e
theorem eR.tup {a:Vs}{xs:Vr} (s:eR H H') (h:H a=some (.tup xs)):H' a=some (.tup xs):=s _ _ h ⟨xs,.inl rfl⟩
theorem eR.lst {a:Vs}{xs:Vr} (s:eR H H') (h:H a=some (.lst xs)):H' a=some (.lst xs):=s _ _ h ⟨xs,.inr rfl⟩
theorem gu.same {T:Value}{v:V} (s:eR H H') (h:gu K T H v):gu K T H' v:=by
 rcases h with h |⟨a,xs,e,h,k⟩ |⟨a,xs,e,h,k⟩
 ·exact .inl h
 ·exact .inr (.inl ⟨a,xs,e,s.tup h,k⟩)
 ·exact .inr (.inr ⟨a,xs,e,s.lst h,k⟩)
theorem Gs:bootBuiltins "dict" = some (.type "dict"):=by decide +kernel
def eU (K:FG) (kvs:LK) (H:Hp) (v:V) (b:Bool):Prop:=(∃x:Str,v=.str x/\b=(A4 kvs (Sum.inr x:Key)).isSome)\/(gu K (.type "str") H v/\b=false)
theorem eU.same {kvs:LK}{v:V}{b:Bool} (s:eR H H') (h:eU K kvs H v b):eU K kvs H' v b:=by
 rcases h with h |⟨h,e⟩
 ·exact .inl h
 ·exact .inr ⟨h.same s,e⟩
def EntAt (K:FG) (km kn:LK) (H:Hp) (z:V) (b:Bool):Prop:=(gu K (.type "tuple") H z/\b=false) \/
 ∃a xs,z=.ref a/\H a=some (.tup xs)/\((xs.length≠2/\b=false)\/∃u w,xs=[u,w]/\((gu K (.type "tuple") H w/\b=false) \/
  ∃c ys b1 bs,w=.ref c/\H c=some (.tup ys)/\eU K km H u b1/\ys.length<=1000/\Paired (eU K kn H) ys bs/\b=(b1&&bs.all id)))
theorem EntAt.same {km kn:LK}{z:V}{b:Bool} (s:eR H H') (h:EntAt K km kn H z b):EntAt K km kn H' z b:=by
 rcases h with⟨h,e⟩ |⟨a,xs,e,ha,h⟩
 ·exact .inl ⟨h.same s,e⟩
 ·refine .inr ⟨a,xs,e,s.tup ha,?_⟩;rcases h with h |⟨u,w,e2,⟨h,e3⟩ |⟨c,ys,b1,bs,e4,hc,o,hy,p,e5⟩⟩
  ·exact .inl h
  ·exact .inr ⟨u,w,e2,.inl ⟨h.same s,e3⟩⟩
  ·exact .inr ⟨u,w,e2,.inr ⟨c,ys,b1,bs,e4,s.tup hc,o.same s,hy,Paired.imp' (λ_ _ q=>q.same s) p,e5⟩⟩
section
inductive spOne (K:FG) (vs:Vr) (H:Hp) (Q:VK) (_E:XK):Prop where
 |mk (v:_) (d:_) (kvs:_) (b:_) (aZ:vs=[v,.ref d]) (bG:Rd H d (.dK kvs)) (bJ:eU K kvs H v b) (cY:Q (.bl b) H)
theorem TU (F:aQ K "is_one_of" "is_one_of" Dy f fd) (B:Bl mg):aB P w K mg base aL 1 f fd ["thing", "names"] (spOne K):=by
 refine F.ok IZ (λvs H Q E h=>?_) (λae A outer s H vs Q E hr h=>?_)
 ·obtain⟨v,d,kvs,b,rfl,_⟩:=h;rfl
 ·have hu:=Cc hr;obtain⟨v,d,kvs,b,rfl,hd,h,k⟩:=h;refine⟨_,AD (AN (BQ (BI K rfl rfl B.eA rfl B.str Ep (pv 0)) (Bf (Kq (HI hu (pv 0) (pv 1)))))),?_⟩;rcases h with⟨x,rfl,rfl⟩ |⟨h,rfl⟩
  ·refine⟨_,Zj,_,_,_,true,Zj,.str x,Zj,_,Zj,?_⟩;exact⟨_,Zj,_,Zj,d,_,Zj,.inl ⟨kvs,Sum.inr x,hd,Zj,Zj⟩,k⟩
  ·obtain⟨t,ht,hk⟩:=h.ty;exact⟨_,Zj,_,_,_,false,Zj,ht,hk,_,Zj,AX k⟩
inductive spEnt (K:FG) (vs:Vr) (H:Hp) (Q:VK) (_E:XK):Prop where
 |mk (z:_) (dm:_) (dn:_) (km:_) (kn:_) (b:_) (aZ:vs=[z,.ref dm,.ref dn]) (bG:Rd H dm (.dK km)) (bJ:Rd H dn (.dK kn)) (cY:EntAt K km kn H z b) (dw:∀H',aA H H'->Q (.bl b) H')
theorem Uu:AH ["thing", "marks", "names"] ["thing", "marks", "names"] (defScope Hi):=bH
theorem TV (F:aQ K "is_entry" "is_entry" Hi f fd) (B:Bl mg) (GO:Fn P w K mg base "is_one_of" 1 ["thing", "names"] (spOne K)):aB P w K mg base aL 2 f fd ["thing", "marks", "names"] (spEnt K):=by
 obtain⟨fO,dO,GO,mO,kO,bO⟩:=GO.ex;refine F.m Uu λvs H Q E h=>?_;obtain⟨z,dm,dn,km,kn,b,rfl,hm,hn,h,k⟩:=h;refine⟨Zj,λae A outer s hr=>?_⟩;have hu:=Cc hr
 refine⟨_,AC (Ac (PW.pt (B9 (Ah (Ae (BI K Zj Zj B.eA Zj B.tuple B0 (pv 0)))) (B9 (AW Ck (AM (Av K Zj) Zj B.len PySem.boot_len (AA (pv 0) AB)) AI (AT _))
   (BW (Ah (Ae (BI K rfl rfl B.eA rfl B.tuple B0 (Bi (Dg K rfl) (pv 0) AI (λ_ _=>rfl))))))))) (AD (AN CY)) AR)
  (AD (AN (BQ (AO GO hr rfl mO kO bO .nil AL (AA (Bi (Dg K rfl) (pv 0) AI (λ_ _=>rfl)) (AA (pv 1) AB)))
   (Bf (AM (Bu rfl) rfl B.all Df (AA (BE ["names"] [some 2] qd qb qd rfl (HA (Bi (Dg K rfl) (pv 0) AI (λ_ _=>rfl))) (λ_ _ _ _ _ _=>BM)
    (λ_ _ _ _ _ _=>AO GO hr rfl mO kO bO .nil AL (AA (pv 0) (AA (pv 1) AB)))) AB)))))),?_⟩
 rcases h with⟨h,rfl⟩ |⟨a,xs,rfl,ha,h⟩
 ·obtain⟨t,ht,hk⟩:=h.ty;exact⟨_,Zj,_,_,_,false,Zj,ht,hk,_,Zj,Af (Af (k _ (aA.refl _)))⟩
 ·refine⟨_,rfl,_,_,_,true,rfl,.tup ha,rfl,_,rfl,AX ?_⟩;refine⟨_,rfl,a,_,rfl,.inr (bZ.of ha),rfl,_,rfl,?_⟩;rcases h with⟨hz,rfl⟩ |⟨u,v,rfl,h⟩
  ·refine Bj (λ_=>Af (k _ (aA.refl _))) (λz=>?_);exact absurd (by rw[ZQ (λq=>hz (by injection q;omega))];rfl) z
  ·refine IP rfl ?_;rcases h with⟨h,rfl⟩ |⟨c,ys,b1,bs,rfl,hc,h1,hy,ap,rfl⟩
   ·obtain⟨t,ht,hk⟩:=h.ty;exact⟨_,Zj,a,_,_,_,Zj,Zj,bZ.of ha,Zj,_,_,_,false,Zj,ht,hk,_,Zj,Af (k _ (aA.refl _))⟩
   ·refine⟨_,rfl,a,_,_,_,rfl,rfl,bZ.of ha,rfl,_,_,_,true,rfl,.tup hc,rfl,_,rfl,AX ?_⟩;refine⟨_,rfl,a,_,_,_,rfl,rfl,bZ.of ha,rfl,_,rfl,u,dm,km,b1,rfl,hm,h1,_,rfl,?_⟩;cases b1 with
    |false=>exact AX (k _ (aA.refl _))
    |true =>
     refine Af ?_;have a0:ys.length=bs.length:=ap.length;refine⟨_,Zj,a,_,_,_,Zj,Zj,bZ.of ha,Zj,c,Zj,⟨_,bZ.of hc⟩,Dv (K:=K) (a:=c) (xs:=ys) (λi zs H2=>H2=H/\zs=(bs.take i).map V.bl) ⟨Zj,Zj⟩ (λi zs H2 _ ⟨e,_⟩=>e ▸ bZ.of hc) (λi zs H2 ⟨_,e⟩=>by rw[e,AK,ZD];omega) ?_ ?_⟩
     ·rintro i z zs H2 hi ⟨rfl,rfl⟩;obtain⟨b,hb,hz⟩:=CI ap hi;refine⟨_,Zj,_,Zj,z,dn,kn,b,Zj,hn,hz,?_⟩;rw[ZG,hb,Zw];exact⟨Zj,Zj⟩
     ·rintro zs H2 ⟨rfl,rfl⟩ q hq;refine⟨q,bs.take ys.length,Zj,aJ.of U,?_⟩;rw[show bs.take ys.length=bs from take_of_length_le qe,Bool.true_and]at *;exact k _ (AF (aA.refl _) hq)
end
noncomputable def C9 (ac:Aa):LK:=(Ab ac).map λn=>((Sum.inr (Cu (AZ ac) n):Key),V.int (n:Int))
noncomputable def kM (ac:Aa):LK:=Ay [] (C9 ac)
noncomputable def kN (ac:Aa):LK:=Ay [] (Aq ac)
noncomputable def Lj (told:LK) (ys:LK) (kv:Key×V):LK:=match A4 told kv.1 with |some v=>Bn ys kv.1 v |none=>ys
noncomputable def GY (km told:LK):LK:=km.foldl (Lj told) []
theorem P4 (told ys:LK) (kv:Key×V):(Lj told ys kv).length<=ys.length+1:=by
 unfold Lj;split
 ·exact Bo _ _ _
 ·omega
theorem Kh (told:LK):∀(km ys:LK),(km.foldl (Lj told) ys).length<=ys.length+km.length
 | [],ys=>ZA _
 |kv::r,ys=>by
  have h1:=Kh told r (Lj told ys kv);have h2:=P4 told ys kv;rw[foldl_cons,length_cons];omega
theorem Lk {km told:LK}{i:Nat}{kv:Key×V} (h:km[i]?=some kv):GY (km.take (i+1)) told=Lj told (GY (km.take i) told) kv:=by
 unfold GY;rw[ZG,h,foldl_append];rfl
theorem CJ (ac:Aa):(Ab ac).length<=ac.length:=Nat.le_trans (length_filter_le _ _) (Ii ac)
theorem TW (ac:Aa):(kM ac).length<=ac.length:=by
 have h1:=HX (C9 ac) [];have h2:=CJ ac;have h3:(C9 ac).length=(Ab ac).length:=AK _;unfold kM;rw[length_nil]at h1;omega
theorem Mb {as:List Vs}{ps:LK} (t:aK H as (ps.map λq=>(kV q.1,q.2))):as.length=ps.length/\∀(i:Nat) b q,as[i]?=some b->ps[i]?=some q->bZ K H b [kV q.1,q.2]:=by
 refine⟨by rw[t.length,AK],λi b q hb hq=>?_⟩;obtain⟨p,hp,h⟩:=CI t hb;rw[ZH,hq]at hp;cases hp;exact bZ.of h
theorem Ki (ac:Aa):FO ac=(C9 ac).map λq=>(kV q.1,q.2):=by
 unfold FO C9;rw[map_map];rfl
def TabIs (K:FG) (ac ad:Aa) (H:Hp) (v:V) (bad:Prop) (good:LK->Prop):Prop:=(gu K (.type "list") H v/\bad) \/
 ∃(l:Vs) (xs:Vr) (bs:List Bool),v=.ref l/\H l=some (.lst xs)/\xs.length<=1000/\Paired (EntAt K (kM ac) (kN ad) H) xs bs /\
  ((bs.all id=false/\bad)\/∃(as:List Vs) (ps:LK),bs.all id=true/\xs=as.map V.ref/\aK H as (ps.map λq=>(kV q.1,q.2)) /\
   (((Ay [] ps).length<ps.length/\bad)\/(ps.length<=(Ay [] ps).length/\good (GY (kM ac) (Ay [] ps)))))
theorem TabIs.same {v:V}{bad bad':Prop}{good good':LK->Prop} (s:eR H H') (h1:bad->bad') (h2:∀kvs,good kvs->good' kvs) (h:TabIs K ac ad H v bad good):TabIs K ac ad H' v bad' good':=by
 rcases h with⟨h,b⟩ |⟨l,xs,bs,e,hl,hz,hp,h⟩
 ·exact .inl ⟨h.same s,h1 b⟩
 ·refine .inr ⟨l,xs,bs,e,s.lst hl,hz,Paired.imp' (λ_ _ q=>q.same s) hp,?_⟩;rcases h with⟨h,b⟩ |⟨as,ps,ha,e2,ht,⟨h,b⟩ |⟨h,g⟩⟩
  ·exact .inl ⟨h,h1 b⟩
  ·exact .inr ⟨as,ps,ha,e2,Paired.imp' (λ_ _ q=>s.tup q) ht,.inl ⟨h,h1 b⟩⟩
  ·exact .inr ⟨as,ps,ha,e2,Paired.imp' (λ_ _ q=>s.tup q) ht,.inr ⟨h,h2 _ g⟩⟩
section
variable {cP:Vs}
def SM (K:FG) (C cP:Vs):Sp:=λvs H Q E=>∃(k o:Vs) (ac ad:Aa) (r r2:Str) (v:V),vs=[.ref k,.ref o,v]/\aE C H k ac r/\ac.length<=60/\aE C H o ad r2/\ad.length<=60 /\
 TabIs K ac ad H v (Uq H E cP) λkvs=>∀d H',aA H H'->H d=none->H' d=some (.dK kvs)->Q (.ref d) H'
theorem scTab:AH ["kind", "other", "pairs", "marks", "names", "told"] ["kind", "other", "pairs"] (defScope FH):=bH
theorem TY (F:aQ K "table_of" "table_of" FH f fd) (B:Bl mg) (hD:mg "dict" = none) (T:Dh K C) (EP:C4 P w K mg base "BadPairs" cP) (GM:Mt P w K mg base C "marks" 2 ["self"] (spMarks C)) (GR:Mt P w K mg base C "rows" 1 ["self"] (spRows C)) (GE:Fn P w K mg base "is_entry" 2 ["thing", "marks", "names"] (spEnt K)) :
  aB P w K mg base (cE P w) 3 f fd ["kind", "other", "pairs"] (SM K C cP):=by
 obtain⟨fM,dM,GM,mM,bM⟩:=GM.ex;obtain⟨fR,dR,GR,mR,bR⟩:=GR.ex;obtain⟨fE,dE,GE,mE,kE,bE⟩:=GE.ex;obtain⟨fX,dX,MX,GX,bX⟩:=EP.make;have mX:=EP.cls;refine F.n scTab λvs H Q E h=>?_;obtain⟨k,o,ac,ad,r,r2,v,rfl,KA,gi,KB,h60',h⟩:=h;refine⟨Zj,λae A outer s hr=>?_⟩;have hu:=Cc hr;have gk:aD 1 _:=hr.mono qc;have rz:=Bv (P:=P) (w:=w) (K:=K) (mg:=mg) (base:=base) (N:=["kind", "other", "pairs", "marks", "names", "told"]) (qual := "table_of") (scope:=defScope FH) (f:=f) (cd:=ae) (A:=A) (outer:=outer) (s:=s) (H:=H) (E:=E)
 refine⟨_,AC (Am (i:=3) scTab.nd Zj (Or.inr Zj) (A9 (DZ Zj) Zj hD Gs (AA (An (pv 0) T.cl mM GM hr bM .nil AL) AB)))
  (CC (AC (Am (i:=4) scTab.nd rfl (Or.inr rfl) (A9 (DZ rfl) rfl hD Gs (AA (An (pv 1) T.cl mR GR gk bR .nil AL) AB)))
  (AC (Ac (PW.pt (B9 (Ah (Ae (BI K rfl rfl B.eA rfl B.list Bm (pv 2)))) (BW (Ah (Ae (AM (Bu rfl) rfl B.all Df (AA (BE ["marks", "names"] [some 3,some 4] qd qb qd rfl (BS (pv 2)) (λ_ _ _ _ _ _=>BM)
    (λ_ _ _ _ _ _=>AO GE hr rfl mE kE bE .nil AL (AA (pv 0) (AA (pv 1) (AA (pv 2) AB))))) AB))))))) (AD (BH rz rfl MX.cls (BG MX GX hr rfl mX bX .nil AL (AA Al AB)))) AR)
  (AC (Am (i:=5) scTab.nd rfl (Or.inr rfl) (A9 (DZ rfl) rfl hD Gs (AA (pv 2) AB)))
  (AC (Ac (AW ID (AM Mz rfl B.len PySem.boot_len (AA (pv 5) AB)) (AM (Av K rfl) rfl B.len PySem.boot_len (AA (pv 2) AB)) (AT _)) (AD (BH rz rfl MX.cls (BG MX GX hr rfl mX bX .nil AL (AA Al AB)))) AR)
  (AD (AN (NN ["told"] [some 5] qd qb qd rfl (Qs (pv 3)) (λ_ _ _ _ _ _=>Gj (C6 (HI hu (pv 0) (pv 1)))) (λ_ _ _ _ _ _=>pv 0) (λ_ _ _ _ _ _=>CL hu (pv 1) (pv 0) (λ_ _=>rfl)))))))))),?_⟩
 obtain⟨dk,e1,e2,hk⟩:=KA.ins;obtain⟨dq,g1,g2,ho⟩:=KB.ins;refine⟨_,Zj,k,dk,_,Zj,hk,(B2 _ _ _),k,ac,r,Zj,KA,gi,λl1 as1 H1 s1 jD jz=>?_⟩;rw[Ki]at jz;obtain⟨n1,q1⟩:=Mb (K:=K) jz
 have z1:(C9 ac).length<=1000:=by
  have h3:(C9 ac).length=(Ab ac).length:=AK _;have:=CJ ac;omega
 refine⟨l1,as1,C9 ac,Zj,aJ.of jD,n1,z1,q1,λdm hdm=>?_⟩;refine⟨dm,kM ac,U,λom=>?_⟩;rw[Gg];have s2:aA H (upd H1 dm (.cH om (.dK (kM ac)))):=AF s1 hdm;refine⟨_,Zj,o,dq,_,Zj,s2 _ _ ho,(B2 _ _ _),o,ad,r2,Zj,KB.same s2,λl3 as3 H3 s3 hl3 ht3=>?_⟩;rw[←MS]at ht3;obtain⟨n3,q3⟩:=Mb (K:=K) ht3;refine⟨l3,as3,Aq ad,Zj,aJ.of hl3,n3,by rw[Ft];omega,q3,λdn fm=>?_⟩;have s4:aA H (upd H3 dn (.dK (kN ad))):=AF (s2.trans s3) fm
 have hm4:(upd H3 dn (.dK (kN ad))) dm=some (.cH om (.dK (kM ac))):=by
  have:=s3 _ _ (U (H:=H1) (a:=dm) (o:=.cH om (.dK (kM ac))));rw[AE (AJ this fm)];exact this
 have hn4:(upd H3 dn (.dK (kN ad))) dn=some (.dK (kN ad)):=U;rw[show Ay [] (Aq ad)=kN ad from rfl];generalize upd H3 dn (.dK (kN ad))=H4 at s4 hm4 hn4 ⊢;rcases h with⟨hv,hU⟩ |⟨l,xs,bs,rfl,hl,hz,ap,h⟩
 ·obtain⟨t,ht,hkk⟩:=(hv.same (Li s4)).ty;exact⟨_,Zj,_,_,_,false,Zj,ht,hkk,_,Zj,Af (Af (BN (te:=λ_=>tC (.str "")) MX.cls s4 hU))⟩
 ·refine⟨_,Zj,_,_,_,true,Zj,.lst (s4 _ _ hl),Zj,_,Zj,AX ?_⟩;have a0:xs.length=bs.length:=ap.length;have hbs4:Paired (EntAt K (kM ac) (kN ad) H4) xs bs:=Paired.imp' (λ_ _ q=>q.same (Li s4)) ap;refine⟨_,Zj,l,Zj,⟨_,aJ.of (s4 _ _ hl)⟩,Bp (K:=K) (a:=l) (xs:=xs) (λi ys H5=>aA H4 H5/\ys=(bs.take i).map V.bl) ⟨aA.refl _,Zj⟩ (λi ys H5 _ ⟨e,_⟩=>aJ.of (e _ _ (s4 _ _ hl))) (λi ys H5 ⟨_,e⟩=>by rw[e,AK,ZD];omega) ?_ ?_⟩
  ·rintro i z ys H5 hi ⟨s5,rfl⟩;obtain⟨b,hb,hz⟩:=CI hbs4 hi;refine⟨_,Zj,_,Zj,_,Zj,z,dm,dn,kM ac,kN ad,b,Zj,.inr ⟨om,s5 _ _ hm4⟩,.inl (s5 _ _ hn4),hz.same (Li s5),λH6 s6=>⟨s5.trans s6,?_⟩⟩;rw[ZG,hb,Zw];rfl
  ·rintro ys H5 ⟨s5,rfl⟩ q hq;have sq:=AF s5 hq (o:=HO.lst ((bs.take xs.length).map V.bl));refine⟨q,bs.take xs.length,rfl,aJ.of U,_,rfl,?_⟩;rw[show bs.take xs.length=bs from take_of_length_le qe]at sq ⊢;generalize upd H5 q (HO.lst (bs.map V.bl))=H6 at sq ⊢;have s6:aA H H6:=s4.trans sq;rcases h with⟨hb,hU⟩ |⟨as,ps,hb,rfl,ht,h⟩
   ·rw[hb];exact Af (BN (te:=λ_=>tC (.str "")) MX.cls s6 hU)
   ·rw[hb];refine AX ?_;obtain⟨n6,q6⟩:=Mb (K:=K) (aK.same s6 ht);rw[AK]at hz;refine⟨_,rfl,l,as,ps,rfl,aJ.of (s6 _ _ hl),n6,qe,q6,λdt hdt=>?_⟩;have s7:aA H6 (upd H6 dt (.dK (Ay [] ps))):=AF (aA.refl _) hdt;have ht7:(upd H6 dt (.dK (Ay [] ps))) dt=some (.dK (Ay [] ps)):=U;generalize upd H6 dt (.dK (Ay [] ps))=H7 at s7 ht7 ⊢;have hm7:=s7 _ _ (sq _ _ hm4);refine⟨_,rfl,dt,_,rfl,ht7,_,rfl,l,_,rfl,.inl (aJ.of (s7 _ _ (s6 _ _ hl))),_,_,rfl,rfl,_,rfl,?_⟩;rcases h with⟨aX,hU⟩ |⟨hge,k⟩
    ·refine Bj (λ_=>BN (te:=λ_=>tC (.str "")) MX.cls (s6.trans s7) hU) (λz=>absurd (ZN (by rw[AK];omega)) z)
    ·refine Bj (λz=>absurd (ZW z) (by rw[AK];omega)) (λ_=>?_);have hkm:=TW ac;refine⟨_,Zj,dm,om,kM ac,Zj,hm7,LM (λi ys H8=>H8=H7/\ys=GY ((kM ac).take i) (Ay [] ps)) ⟨Zj,Zj⟩ (λi ys H8 ⟨e,_⟩=>e ▸ hm7) (λi ys H8 ⟨_,e⟩=>?_) ?_ ?_⟩
     ·have:=Kh (Ay [] ps) ((kM ac).take i) [];rw[e];unfold GY;rw[length_nil,ZD]at this;omega
     ·rintro i kv ys H8 gG ⟨rfl,rfl⟩;refine⟨_,rfl,_,rfl,dt,_,rfl,.inl ⟨_,kv.1,.inl ht7,rfl,rfl⟩,_,rfl,?_⟩;rw[Lk gG];unfold Lj;cases e:A4 (Ay [] ps) kv.1 with
      |none=>exact AX ⟨rfl,rfl⟩
      |some v=>exact Af ⟨_,rfl,_,rfl,_,rfl,dt,_,rfl,.inl ⟨_,kv.1,.inl ht7,rfl,e.symm⟩,kv.1,rfl,rfl,rfl⟩
     ·rintro ys H8 ⟨rfl,rfl⟩ d hd;rw[ZE];exact k d _ (AF (s6.trans s7) hd) (none_of (s6.trans s7) hd) U
end
theorem Vm:¬ (("own_kind" : Str) = "second_kind"):=by decide +kernel
theorem Vn:¬ (("own_kind" : Str) = "table"):=by decide +kernel
theorem Vo:¬ (("second_kind" : Str) = "table"):=by decide +kernel
noncomputable def FW (k o d:Vs):List (Str×V):=AY "table" (.ref d) (AY "second_kind" (.ref o) (AY "own_kind" (.ref k) []))
theorem RZ (k o d:Vs):(FW k o d).lookup ("own_kind" : Str)=some (.ref k):=by
 unfold FW;rw[AG,Zs Vn,AG,Zs Vm,AG,Zr rfl]
theorem P5 (k o d:Vs):(FW k o d).lookup ("second_kind" : Str)=some (.ref o):=by
 unfold FW;rw[AG,Zs Vo,AG,Zr rfl]
theorem Ll (k o d:Vs):(FW k o d).lookup ("table" : Str)=some (.ref d):=by
 unfold FW;rw[AG,Zr rfl]
theorem SN (k o d:Vs) {m:Str} (h1:¬ m = "table" := by decide +kernel) (h2:¬ m = "second_kind" := by decide +kernel) (h3:¬ m = "own_kind" := by decide +kernel):(FW k o d).lookup m=none:=by
 unfold FW;rw[AG,Zs h1,AG,Zs h2,AG,Zs h3];rfl
inductive EdAt (EC:Vs) (H:Hp) (p k o:Vs) (kvs:LK):Prop where
 |mk (dx:_) (d:_) (ob:_) (aZ:H p=some (.ins EC dx (FW k o d))) (bG:H d=some (.cH ob (.dK kvs)))
theorem EdAt.same {p k o:Vs}{kvs:LK} (s:aA H H') (h:EdAt EC H p k o kvs):EdAt EC H' p k o kvs:=by
 obtain⟨dx,d,ob,h1,h2⟩:=h;exact⟨dx,d,ob,s _ _ h1,s _ _ h2⟩
structure Nu (K:FG) (EC:Vs):Prop where
 cl:gQ K EC
 nK:aS K EC "own_kind"
 nS:aS K EC "second_kind"
 nT:aS K EC "table"
def SameN (p:Vs) (H H':Hp):Prop:=∀b o,H b=some o->b≠p->H' b=some o
theorem aE.sameN {p dx:Vs}{k:Vs}{r:Str} (s:SameN p H H') (hp:H p=some (.ins EC dx [])) (h:aE C H k ac r):aE C H' k ac r:=by
 obtain⟨x,d1,o1,d2,o2,a,b,c⟩:=h.ex;refine⟨⟨x,d1,o1,d2,o2,s _ _ a λe=>?_,s _ _ b λe=>?_,s _ _ c λe=>?_⟩⟩
 ·subst e;rw[hp]at a;have q:=FM d1 d2 r;cases a
 ·subst e;rw[hp]at b;cases b
 ·subst e;rw[hp]at c;cases c
theorem SameN.t {p dx:Vs} (s:SameN p H H') (hp:H p=some (.ins EC dx [])):eR H H':=λb o e ⟨xs,h⟩=>s b o e λq=>by
 subst q;rw[hp]at e;rcases h with rfl |rfl <;> cases e
section
variable {cP:Vs}
def Gu (K:FG) (C EC cP:Vs):Sp:=λvs H Q E=>∃(p dx k o:Vs) (ac ad:Aa) (r r2:Str) (v:V),vs=[.ref p,.ref k,.ref o,v]/\H p=some (.ins EC dx [])/\aE C H k ac r/\ac.length<=60/\aE C H o ad r2/\ad.length<=60 /\
 TabIs K ac ad H v (∀e H',SameN p H H'->H' e=some (Co e cP none)->E (.ref cP) none H') λkvs=>∀H',SameN p H H'->EdAt EC H' p k o kvs->Q .aT H'
theorem Ra:AH ["self", "kind", "other", "pairs"] ["self", "kind", "other", "pairs"] (defScope Ce):=bH
theorem P6 {fT:Vs}{dT:FuncData} (F:aQ K "__init__" "Edition.__init__" Ce f fd) (ET:Nu K EC) (GT:aB P w K mg base (cE P w) 3 fT dT ["kind", "other", "pairs"] (SM K C cP)) (mT:mg "table_of" = some (.ref fT)) (kT:W.keepIn K (.ref fT)=true) (bT:Binds K dT ["kind", "other", "pairs"] []) :
  aB P w K mg base (cE P w) 4 f fd ["self", "kind", "other", "pairs"] (Gu K C EC cP):=by
 refine F.n Ra λvs H Q E h=>?_;obtain⟨p,dx,k,o,ac,ad,r,r2,v,rfl,hp,KA,gi,KB,h60',h⟩:=h;refine⟨Zj,λae A outer s hr=>?_⟩;have ps:=J5 (P:=P) (w:=w) (K:=K) (mg:=mg) (base:=base) (N:=["self", "kind", "other", "pairs"]) (qual := "Edition.__init__") (scope:=defScope Ce) (f:=f) (cd:=ae) (A:=A) (outer:=outer) (s:=s) (H:=H) (E:=E);refine⟨_,AC (A3 (pv 0) (pv 1) Zj) (AC (A3 (pv 0) (pv 2) Zj) (AC (A3 (pv 0) (AO GT hr Zj mT kT bT .nil ps (AA (pv 1) (AA (pv 2) (AA (pv 3) AB)))) Zj) (CC AR))),?_⟩;refine⟨_,Zj,_,Zj,p,EC,dx,_,Zj,hp,ET.cl,ET.nK,(by show 0<1000;decide),?_⟩;refine⟨_,Zj,_,Zj,p,EC,dx,_,Zj,U,ET.cl,ET.nS,(by show 1<1000;decide),?_⟩;rw[Gg];have s1:SameN p H (upd H p (.ins EC dx (AY "second_kind" (.ref o) (AY "own_kind" (.ref k) [])))):=λb u e hb=>by rw[AE hb];exact e
 have al:(upd H p (.ins EC dx (AY "second_kind" (.ref o) (AY "own_kind" (.ref k) [])))) p=some (.ins EC dx (AY "second_kind" (.ref o) (AY "own_kind" (.ref k) []))):=U;generalize upd H p (.ins EC dx (AY "second_kind" (.ref o) (AY "own_kind" (.ref k) [])))=H1 at s1 al ⊢;refine⟨_,Zj,_,Zj,_,Zj,k,o,ac,ad,r,r2,v,Zj,KA.sameN s1 hp,gi,KB.sameN s1 hp,h60',h.same (s1.t hp) (λhU e H2 s2 _ he=>hU e H2 (λb u q hb=>s2 _ _ (s1 b u q hb)) he) λkvs hG d H2 s2 ao hd=>?_⟩;have gU:p≠d:=AJ al ao;refine⟨_,Zj,p,EC,dx,_,Zj,s2 _ _ al,ET.cl,ET.nT,Nat.lt_of_le_of_lt (AV _ _ _) (by show 2<1000;decide),?_⟩;refine⟨d,kvs,by rw[AE (Ne.symm gU)];exact hd,λob=>?_⟩;refine hG _ (λb u e hb=>?_) ⟨dx,d,ob,?_,U⟩
 ·have e1:=s1 b u e hb;rw[AE (AJ e1 ao),AE hb];exact s2 _ _ e1
 ·rw[AE gU,U];rfl
end
theorem F1 {α β:Type}{F:α->β->Prop}:∀ {xs:List α}{ys:List β}{i:Nat}{a:α},Paired F xs ys->xs[i]?=some a->∃b,ys[i]?=some b/\F a b
 |_,_,_,_,.nil,e=>by simp at e
 |_,_,0,_,.cons r _,e=>by simp at e;subst e;exact⟨_,Zj,r⟩
 |_,_,i+1,x,.cons _ t,e=>by
  obtain⟨u,h1,h2⟩:=F1 (i:=i) (a:=x) t (by simpa using e);exact⟨u,by simpa using h1,h2⟩
noncomputable def CQ (ac:Aa) (n:Nat):Vp:=((Ab ac).filter λm=>decide (m&&&n≠0)).map (Cu (AZ ac))
section
inductive spVMarks (C VC:Vs) (vs:Vr) (H:Hp) (Q:VK) (_E:XK):Prop where
 |mk (p kp:Vs) (n:Nat) (ac:Aa) (r:Str) (aZ:vs=[.ref p]) (bG:dc VC H p kp n) (bJ:aE C H kp ac r) (cY:ac.length<=60) (dw:∀l H',aA H H'->H' l=some (.lst ((CQ ac n).map V.str))->Q (.ref l) H')
theorem P7:AH ["self"] ["self"] (defScope D0):=bH
theorem Nv (F:aQ K "marks" "Value.marks" D0 f fd) (T:Dh K C) (VT:Fx K VC) (GM:Mt P w K mg base C "marks" 2 ["self"] (spMarks C)):aB P w K mg base aL 3 f fd ["self"] (spVMarks C VC):=by
 obtain⟨fM,dM,GM,mM,bM⟩:=GM.ex;refine F.m P7 λvs H Q E h=>?_;obtain⟨p,kp,n,ac,r,rfl,⟨dx,hp⟩,KA,gi,k⟩:=h;refine⟨Zj,λae A outer s hr=>?_⟩;obtain⟨ji,d1,d2,ai⟩:=KA.ins
 refine⟨_,AD (AN (HM ["self"] [some 0] qd qb qd qd Zj (BS (An (AU (pv 0) Zj) T.cl mM GM hr bM .nil AL))
  (λ_ _ _ _ _ _=>Gj (AW Ck (Ak Dr (pv 1) (MP K rfl (pv 2) rfl)) AI (AT _))) (λ_ _ _ _ _ _=>pv 0))),?_⟩
 refine⟨_,Zj,p,VC,dx,_,_,Zj,hp,VT.cl,VT.nK,FS _ _,kp,ji,_,Zj,ai,(B2 _ _ _),kp,ac,r,Zj,KA,gi,λl as H1 s1 hl ht=>?_⟩;have ar:=CJ ac;have au:as.length=(Ab ac).length:=by rw[ht.length];unfold FO;rw[AK]
 refine⟨l,Zj,⟨_,aJ.of hl⟩,Bp (K:=K) (a:=l) (xs:=as.map V.ref) (λi ys H2=>ys=((((Ab ac).take i).filter λm=>decide (m&&&n≠0)).map (Cu (AZ ac))).map V.str/\H2=H1) ⟨Zj,Zj⟩ (λi ys H2 _ ⟨_,e⟩=>e ▸ aJ.of hl) (λi ys H2 ⟨e,_⟩=>?_) ?_ ?_⟩
 ·rw[e,AK,AK];have h3:(((Ab ac).take i).filter λm=>decide (m&&&n≠0)).length<=((Ab ac).take i).length:=length_filter_le _ _;rw[ZD]at h3;omega
 ·rintro i v ys H2 hi ⟨rfl,rfl⟩;rw[ZH]at hi;obtain⟨b,hb,rfl⟩:=Z6.mp hi
  obtain⟨pr,gC,ak⟩:∃pr,(FO ac)[i]?=some pr/\H2 b=some (.tup [pr.1,pr.2]):=by
   exact F1 ht hb
  unfold FO at gC;rw[ZH]at gC;obtain⟨m,hm,rfl⟩:=Z6.mp gC;refine⟨b,_,Zj,bZ.of ak,Zj,_,_,Zj,_,_,Zj,Zj,?_⟩;refine⟨_,Zj,_,Zj,p,VC,dx,_,_,Zj,s1 _ _ hp,VT.cl,VT.nB,FU _ _,_,_,Zj,Zj,Zj,_,Zj,?_⟩;have et:(((Ab ac).take (i+1)).filter λm=>decide (m&&&n≠0))=((Ab ac).take i).filter (λm=>decide (m&&&n≠0))++(if decide (m&&&n≠0)then [m]else []):=PySem.take_succ_filter (λm=>decide (m&&&n≠0)) _ i m hm
  have ed:(!decide (V.int (Builtin.bitAnd (m:Int) (n:Int))=V.int 0))=decide (m&&&n≠0):=by
   rw[Gp];by_cases z:m&&&n=0
   ·rw[z];rfl
   ·rw[ZN z,ZQ (λy=>z (by have:=V.int.inj y;omega))];rfl
  show if (!decide (V.int (Builtin.bitAnd (m:Int) (n:Int))=V.int 0))=true then _ else _
  rw[ed];refine Bj (λhq=>?_) (λhq=>?_)
  ·refine⟨_,Zj,?_,Zj⟩;rw[et,Zr hq,Zw,Zw];rfl
  ·refine⟨?_,Zj⟩;rw[et,Zs hq,Zv]
 ·rintro ys H2 ⟨rfl,rfl⟩ q hq;have el:(Ab ac).take (as.map V.ref).length=Ab ac:=by rw[AK,au];exact ZE
  rw[el];exact k q _ (AF s1 hq) U
inductive spMarkBits (C:Vs) (vs:Vr) (H:Hp) (Q:VK) (_E:XK):Prop where
 |mk (kp:Vs) (ac:Aa) (r:Str) (aZ:vs=[.ref kp]) (bG:aE C H kp ac r) (bJ:ac.length<=60) (cY:∀H',aA H H'->Q (.int (CA (Ab ac):Nat)) H')
theorem Lm:AH ["kind"] ["kind"] (defScope Fg):=bH
theorem Kj (F:aQ K "mark_bits" "mark_bits" Fg f fd) (T:Dh K C) (GM:Mt P w K mg base C "marks" 2 ["self"] (spMarks C)) (GU:Fn P w K mg base "union_of" 1 ["numbers"] (spUnionOf K)):aB P w K mg base aL 3 f fd ["kind"] (spMarkBits C):=by
 obtain⟨fM,dM,GM,mM,bM⟩:=GM.ex;obtain⟨fU,dU,GU,mU,kU,bU⟩:=GU.ex;refine F.m Lm λvs H Q E h=>?_;obtain⟨kp,ac,r,rfl,KA,gi,k⟩:=h;refine⟨Zj,λae A outer s hr=>?_⟩;obtain⟨ji,d1,d2,ai⟩:=KA.ins;have cZ:aD 1 _:=hr.mono qc;refine⟨_,AD (AN (AO GU cZ Zj mU kU bU .nil AL (AA (HM [] [] qd qb qd qd Zj (BS (An (pv 0) T.cl mM GM hr bM .nil AL)) (λ_ _ _ _ _ _=>BM) (λ_ _ _ _ _ _=>pv 1)) AB))),?_⟩;refine⟨_,Zj,kp,ji,_,Zj,ai,(B2 _ _ _),kp,ac,r,Zj,KA,gi,λl as H1 s1 hl ht=>?_⟩;have ar:=CJ ac;have au:as.length=(Ab ac).length:=by rw[ht.length];unfold FO;rw[AK]
 refine⟨l,Zj,⟨_,aJ.of hl⟩,Bp (K:=K) (a:=l) (xs:=as.map V.ref) (λi ys H2=>ys=A1 ((Ab ac).take i)/\H2=H1) ⟨Zj,Zj⟩ (λi ys H2 _ ⟨_,e⟩=>e ▸ aJ.of hl) (λi ys H2 ⟨e,_⟩=>?_) ?_ ?_⟩
 ·rw[e];unfold A1;rw[AK,ZD];omega
 ·rintro i v ys H2 hi ⟨rfl,rfl⟩;rw[ZH]at hi;obtain⟨b,hb,rfl⟩:=Z6.mp hi;obtain⟨pr,gC,ak⟩:∃pr,(FO ac)[i]?=some pr/\H2 b=some (.tup [pr.1,pr.2]):=F1 ht hb;unfold FO at gC;rw[ZH]at gC;obtain⟨m,hm,rfl⟩:=Z6.mp gC;refine⟨b,_,Zj,bZ.of ak,Zj,_,_,Zj,_,_,Zj,Zj,_,Zj,?_,Zj⟩;rw[ZG,hm,Option.toList_some];unfold A1;rw[Zw];rfl
 ·rintro ys H2 ⟨rfl,rfl⟩ q hq;have el:(Ab ac).take (as.map V.ref).length=Ab ac:=by rw[AK,au];exact ZE
  rw[el];exact⟨q,Ab ac,Zj,aJ.of U,k _ (AF s1 hq)⟩
inductive spVRest (C VC:Vs) (vs:Vr) (H:Hp) (Q:VK) (_E:XK):Prop where
 |mk (p kp:Vs) (n:Nat) (ac:Aa) (r:Str) (aZ:vs=[.ref p]) (bG:dc VC H p kp n) (bJ:aE C H kp ac r) (cY:ac.length<=60) (dw:∀H',aA H H'->Q (.int ((n - (n&&&CA (Ab ac)):Nat):Int)) H')
theorem Rb:AH ["self"] ["self"] (defScope El):=bH
theorem P8 (F:aQ K "rest" "Value.rest" El f fd) (VT:Fx K VC) (GB:Fn P w K mg base "mark_bits" 3 ["kind"] (spMarkBits C)):aB P w K mg base aL 4 f fd ["self"] (spVRest C VC):=by
 obtain⟨fB,dB,GB,mB,kB,bB⟩:=GB.ex;refine F.m Rb λvs H Q E h=>?_;obtain⟨p,kp,n,ac,r,rfl,⟨dx,hp⟩,KA,gi,k⟩:=h;refine⟨Zj,λae A outer s hr=>?_⟩;refine⟨_,AD (AN (Ak Dr (AU (pv 0) Zj) (Jm OK (AO GB hr Zj mB kB bB .nil AL (AA (AU (pv 0) Zj) AB))))),?_⟩;refine⟨_,Zj,p,VC,dx,_,_,Zj,hp,VT.cl,VT.nB,FU _ _,_,Zj,p,VC,dx,_,_,Zj,hp,VT.cl,VT.nK,FS _ _,kp,ac,r,Zj,KA,gi,λH1 s1=>⟨_,Zj,_,_,Zj,Zj,?_⟩⟩;show Q (V.int (Builtin.bitAnd (n:Int) (Builtin.bitNot ((CA (Ab ac):Nat):Int)))) H1;rw[HZ];exact k H1 s1
end
section
variable {cM cL:Vs}
inductive spNfG (C VC EC cL:Vs) (vs:Vr) (H:Hp) (Q:VK) (E:XK):Prop where
 |mk (p v k o t:Vs) (n:Nat) (ac:Aa) (r:Str) (pre:Vp) (aZ:vs=[.ref p,.ref v]) (bG:EdAt EC H p k o [(Sum.inr "A", .ref t)]) (bJ:H t=some (.tup [])) (cY:dc VC H v k n) (dw:aE C H k ac r) (f9:ac.length<=60) (js:CQ ac n=pre++[("B" : Str)]) (jr:∀x∈pre,x = "A") (z_8:iG "name" H E cL (.str "B"))
theorem scNf:AH ["self", "value", "names", "mark"] ["self", "value"] (defScope Bd):=bH
theorem TZ (F:aQ K "names_for" "Edition.names_for" Bd f fd) (ET:Nu K EC) (VT:Fx K VC) (UO:GQ P w K mg base cM cL "Unled" "name") (GM:Mt P w K mg base VC "marks" 3 ["self"] (spVMarks C VC)) :
  aB P w K mg base (cE P w) 4 f fd ["self", "value"] (spNfG C VC EC cL):=by
 obtain⟨fM,dM,GM,mM,bM⟩:=GM.ex;obtain⟨fX,dX,MX,GX,bX⟩:=UO.make;have mX:=UO.cls;refine F.n scNf λvs H Q E h=>?_;obtain⟨p,v,k,o,t,n,ac,r,pre,rfl,ED,ht,hV,KA,gi,em,bj,hU⟩:=h;refine⟨Zj,λae A outer s hr=>?_⟩;have hu:=Cc hr;have gL:aD 3 _:=hr.mono qc;obtain⟨dx,d,ob,hp,hd⟩:=ED;obtain⟨dv,hv⟩:=id hV;have rz:=Bv (P:=P) (w:=w) (K:=K) (mg:=mg) (base:=base) (N:=["self", "value", "names", "mark"]) (qual := "Edition.names_for") (scope:=defScope Bd) (f:=f) (cd:=ae) (A:=A) (outer:=outer) (s:=s) (H:=H) (E:=E)
 refine⟨_,AC (Am (i:=2) scNf.nd Zj (Or.inl Zj) (CB AB))
  (AC (DR PassesOwn.leaving rfl (BS (An (pv 1) VT.cl mM GM hr bM .nil AL)) (Ar (i:=3) scNf.nd rfl (Or.inl rfl))
   (AC (Ac (C6 (Mw hu (pv 3) (AU (pv 0) rfl))) (AD (BH rz rfl MX.cls (BG MX GX gL rfl mX bX .nil AL (AA (pv 3) AB)))) AR)
   (AD (Ai (Cb PySem.F.plainAttrs_list PySem.F.slot_list_extend PySem.F.type_list_extend LP (pv 2) (AA (CL hu (AU (pv 0) rfl) (pv 3) (λ_ _=>rfl)) AB))))))
  (AD (AN (pv 2)))),?_⟩
 refine⟨(by show 0<=sizeLine;decide),λl hl=>?_⟩;have s1:=AF (aA.refl _) hl (o:=HO.lst []);have jD:(upd H l (HO.lst [])) l=some (.lst []):=U;generalize upd H l (HO.lst [])=H1 at s1 jD ⊢;refine⟨_,Zj,v,dv,_,Zj,s1 _ _ hv,Hr _ _ qb qb,v,k,n,ac,r,Zj,hV.same s1,KA.same s1,gi,λl2 H2 s2 eN=>?_⟩;have iB:=s1.trans s2;rw[em]at eN
 have ll:l2≠l:=λz=>by
  rw[z,s2 _ _ jD]at eN;have:=HO.lst.inj (Option.some.inj eN);cases pre <;> cases this
 refine⟨l2,Zj,⟨_,aJ.of eN⟩,DB (K:=K) (a:=l2) (xs:=(pre++[("B" : Str)]).map V.str) (λi σ H3=>i<=pre.length/\(∃v3:Option V,σ=[some (.ref p),some (.ref v),some (.ref l),v3])/\aA H H3/\H3 l=some (.lst [])/\H3 l2=some (.lst ((pre++[("B" : Str)]).map V.str))) ⟨Nat.zero_le _,⟨none,Zj⟩,iB,s2 _ _ jD,eN⟩ (λi σ H3 _ ⟨_,_,_,_,e⟩=>aJ.of e) ?_ ?_⟩
 ·rintro i x σ H3 hi ⟨hile,⟨v3,rfl⟩,s3,hl3,hl4⟩;rw[ZH]at hi;obtain⟨y,hy,rfl⟩:=Z6.mp hi;by_cases aX:i<pre.length
  ·rw[List.getElem?_append_left aX]at hy;obtain rfl:=bj y (ZS hy);refine⟨_,Zj,_,Zj,p,EC,dx,_,_,Zj,s3 _ _ hp,ET.cl,ET.nT,Ll _ _ _,d,_,Zj,.inl ⟨_,Sum.inr "A", .inr ⟨ob,s3 _ _ hd⟩,Zj,Zj⟩,_,Zj,AX ?_⟩;refine⟨_,Zj,.inl ⟨Zj,_,aJ.of hl3⟩,_,Zj,p,EC,dx,_,_,Zj,s3 _ _ hp,ET.cl,ET.nT,Ll _ _ _,_,Zj,d,.ref t,Zj,.inl ⟨_,Sum.inr "A", .inr ⟨ob,s3 _ _ hd⟩,Zj,Zj⟩,?_⟩;refine⟨l,t,_,_,Zj,Zj,hl3,s3 _ _ ht,(by show 0<=sizeLine;decide),qe,⟨_,Zj⟩,FK s3 hl,U,?_⟩;rw[AE ll];exact hl4
  ·obtain rfl:i=pre.length:=by omega
   rw[getElem?_append_right (ZA _),Nat.sub_self]at hy;cases hy;refine⟨_,Zj,_,Zj,p,EC,dx,_,_,Zj,s3 _ _ hp,ET.cl,ET.nT,Ll _ _ _,d,_,Zj,.inl ⟨_,Sum.inr "B", .inr ⟨ob,s3 _ _ hd⟩,Zj,Zj⟩,_,Zj,Af ?_⟩;exact FV (te:=C5 3) MX.cls UO.st (.inr (.inl ⟨_,Zj,qb⟩)) s3 hU λQ' q=>⟨_,Zj,q⟩
 ·rintro σ H3 ⟨hle,_⟩;rw[AK,ZJ]at hle;exact absurd hle (by show ¬ pre.length+1<=_;omega)
structure gJ (P:Program) (w:World) (K:FG) (mg:SV) (base:Heap) (C:Vs) (m:Str) (k:Nat) (ps:Vp) (sp:Sp):Prop where
 ex:∃f fd,aB P w K mg base (cE P w) k f fd ps sp/\Fe K C m f/\Binds K fd ps []
inductive spLedG (C VC EC cL:Vs) (vs:Vr) (H:Hp) (Q:VK) (E:XK):Prop where
 |mk (p v k o t:Vs) (n:Nat) (ac:Aa) (r:Str) (pre:Vp) (aZ:vs=[.ref p,.ref v]) (bG:EdAt EC H p k o [(Sum.inr "A", .ref t)]) (bJ:H t=some (.tup [])) (cY:dc VC H v k n) (dw:aE C H k ac r) (z_a:jq ac) (f9:ac.length<=60) (js:CQ ac n=pre++[("B" : Str)]) (jr:∀x∈pre,x = "A") (z_8:iG "name" H E cL (.str "B"))
theorem scLed:AH ["self", "value", "number"] ["self", "value"] (defScope CO):=bH
theorem Rc {cB:Vs} (F:aQ K "led" "Edition.led" CO f fd) (ET:Nu K EC) (VT:Fx K VC) (neK:W.findIn K (.ref C) "__ne__" = some (some (.builtin "object.__ne__"))) (hm:W.mroIn K C (.type "object")=some true)
  (GE:Mt P w K mg base C "__eq__" 2 ["self", "other"] (spEqK C)) (jl:Mt P w K mg base VC "kind" 1 ["self"] (spVKind VC)) (GVN:Mt P w K mg base VC "number" 1 ["self"] (spVNumber VC))
  (GN:gJ P w K mg base EC "names_for" 4 ["self", "value"] (spNfG C VC EC cL)) (GV:ik P w K mg base "value_of" 6 ["kind", "names"] (spValueG C cB)) :
  aB P w K mg base (cE P w) 7 f fd ["self", "value"] (spLedG C VC EC cL):=by
 obtain⟨fE,dE,GE,mE,bE⟩:=GE.ex;obtain⟨fK,dK,jl,mK,bK⟩:=jl.ex;obtain⟨fN,dN,GVN,mN,bN⟩:=GVN.ex;obtain⟨fF,dF,GF,mF,bF⟩:=GN.ex;obtain⟨fV,dV,GV,mV,kV,bV⟩:=GV.ex;refine F.n scLed λvs H Q E h=>?_;obtain⟨p,v,k,o,t,n,ac,r,pre,rfl,ED,ht,hV,KA,asc,gi,em,bj,hU⟩:=h;refine⟨Zj,λae A outer s hr=>?_⟩;have cZ:aD 1 _:=hr.mono qc;have gL:aD 3 _:=hr.mono qc;have hr4:aD 4 _:=hr.mono qc;obtain⟨dx,d,ob,hp,hd⟩:=id ED;obtain⟨dv,hv⟩:=id hV;obtain⟨dk,e1,e2,hk⟩:=KA.ins;have ps:=J5 (P:=P) (w:=w) (K:=K) (mg:=mg) (base:=base) (N:=["self", "value", "number"]) (qual := "Edition.led") (scope:=defScope CO) (f:=f) (cd:=ae) (A:=A) (outer:=outer) (s:=s) (H:=H) (E:=E);have never:∀ {st:List Stmt},eI (Au (cE P w) P w K mg base ["self", "value", "number"] "Edition.led" (defScope CO) f ae A outer s H E) st (λ_ _ _=>False):=λ{st} _ _ _ _ _ _ z=>z.elim
 refine⟨_,AC (Ac (AW (HR GE gL bE mE neK hm) (An (pv 1) VT.cl mK jl cZ bK .nil AL) (AU (pv 0) Zj) (AT _)) Mn AR)
  (AC (Am (i:=2) scLed.nd rfl (Or.inl rfl) (An (AO GV hr rfl mV kV bV .nil ps (AA (AU (pv 0) rfl) (AA (BD (pv 0) ET.cl mF GF hr4 bF .nil ps (AA (pv 1) AB)) AB))) VT.cl mN GVN cZ bN .nil AL)) never),?_⟩
 refine⟨_,Zj,v,dv,_,Zj,hv,Hr _ _ qb qb,v,k,n,Zj,hV,_,Zj,p,EC,dx,_,_,Zj,hp,ET.cl,ET.nK,RZ _ _ _,?_⟩;refine⟨k,dk,_,k,dk,_,Zj,Zj,hk,hk,k,k,ac,r,Zj,KA,asc,.inr ⟨ac,r,KA,asc,λH1 s1=>⟨_,Zj,_,Zj,_,Zj,?_⟩⟩⟩;refine Bj (λz=>?_) (λ_=>?_)
 ·rw[ZN (show ac=ac/\r=r from⟨rfl,rfl⟩)]at z;cases z
 exact⟨_,Zj,p,EC,dx,_,_,Zj,s1 _ _ hp,ET.cl,ET.nS,P5 _ _ _,_,Zj,p,dx,_,Zj,s1 _ _ hp,SN _ _ _,_,Zj,p,v,k,o,t,n,ac,r,pre,Zj,ED.same s1,s1 _ _ ht,hV.same s1,KA.same s1,gi,em,bj,iG.of s1 hU⟩
end
end Mk
end
section
namespace MK
noncomputable def Ln:List Nat->List Nat->List Nat
 |us,[]=>us
 |us,m::r=>Ln (us++us.map (· |||m)) r
noncomputable def gy (ms:List Nat):List Nat:=Ln [0] ms
theorem Kk:∀(us a b:List Nat),Ln us (a++b)=Ln (Ln us a) b
 |us,[],b=>rfl
 |us,m::r,b=>Kk _ r b
theorem P9 (ms:List Nat) (m:Nat):gy (ms++[m])=gy ms++(gy ms).map (· |||m):=Kk [0] ms [m]
theorem Kl:∀(us ms:List Nat),(Ln us ms).length=us.length*2 ^ ms.length
 |us,[]=>(Nat.mul_one _).symm
 |us,m::r=>by
  show(Ln _ r).length=_;rw[Kl,ZJ,AK,length_cons,Nat.pow_succ,←Nat.mul_two,Nat.mul_assoc,Nat.mul_comm 2]
theorem Mc (ms:List Nat):(gy ms).length=2 ^ ms.length:=by unfold gy;rw[Kl,length_singleton,Nat.one_mul]
end MK
end
section
namespace Mk
open PySem L2 MK
theorem GZ {α β:Type}{f:α->β}:∀ {l:List α},l.Nodup->(∀a∈l,∀b∈l,f a=f b->a=b)->(l.map f).Nodup
 | [],_,_=>nodup_nil
 |a::r,hn,h=>by
  rw[Zu]at hn;rw[map_cons,Zu];refine⟨λz=>?_,GZ hn.2 λb hb c hc=>h b (ZT _ hb) c (ZT _ hc)⟩;obtain⟨b,hb,e⟩:=Zt.mp z;exact hn.1 (h a (ZK ..) b (ZT _ hb) e.symm ▸ hb)
noncomputable def Et (ac:Aa):Vp:=(Ab ac).map (Cu (AZ ac))
theorem Lo {n:Nat} (h:n∈Ab ac):n∈(AZ ac).map (·.1)/\Cp n=true:=by
 unfold Ab at h;obtain⟨h1,h2⟩:=mem_filter.mp h;exact⟨mem_keysS.mp h1,h2⟩
theorem DP {n:Nat} (h:n∈Ab ac):(Cu (AZ ac) n,n)∈ac:=Ih (Ng (Lo h).1)
theorem Nw (ac:Aa):(Ab ac).Nodup:=((Di ac).nodup_iff.mpr (NY ac)).filter _
theorem SQ (nd:(ac.map (·.1)).Nodup) {x:Str}{m n:Nat} (h1:(x,m)∈ac) (h2:(x,n)∈ac):m=n:=by
 induction ac with
 |nil=>cases h1
 |cons p r ih =>
  rw[map_cons,Zu]at nd;rcases mem_cons.mp h1 with z1 |z1 <;> rcases mem_cons.mp h2 with z2 |z2
  ·rw[←z2]at z1;exact(Prod.mk.inj z1).2
  ·exact absurd (Zt.mpr ⟨_,z2,by rw[←z1]⟩) nd.1
  ·exact absurd (Zt.mpr ⟨_,z1,by rw[←z2]⟩) nd.1
  ·exact ih nd.2 z1 z2
theorem Nx (nd:(ac.map (·.1)).Nodup):(Et ac).Nodup :=
 GZ (Nw ac) λa ha b hb e=>SQ nd (DP ha) (e ▸ DP hb)
theorem Il:∀(ps kvs:LK),((kvs++ps).map (·.1)).Nodup->Ay kvs ps=kvs++ps
 | [],kvs,_=>(Zv _).symm
 |p::r,kvs,h=>by
  have hn:A4 kvs p.1=none:=by
   cases e:A4 kvs p.1 with
   |none=>rfl
   |some v =>
    have h1:=Qc e;rw[Zw,List.nodup_append]at h;exact absurd Zj (h.2.2 _ h1 p.1 (ZK ..))
  show Ay (Bn kvs p.1 p.2) r=_;rw[HG _ hn,Il r,List.append_assoc]
  ·rfl
  ·rw[List.append_assoc];exact h
theorem SR (nd:(ac.map (·.1)).Nodup):kM ac=C9 ac:=by
 unfold kM;refine Il _ [] ?_;show((C9 ac).map (·.1)).Nodup;have h:=Nx nd;unfold C9;rw[map_map];unfold Et at h;refine List.pairwise_map.mpr ((List.pairwise_map.mp h).imp λq z=>q (Sum.inr.inj z))
theorem Lp (nd:(ac.map (·.1)).Nodup) {x:Str} (h:x∈Et ac):A4 (kM ac) (Sum.inr x:Key)=some (.int ((look ac x:Nat):Int)):=by
 obtain⟨n,hn,rfl⟩:=Zt.mp h;rw[SR nd,Pe nd (DP hn)]
 have key:∀l:List Nat,(∀m∈l,m∈Ab ac)->n∈l->A4 (l.map λn=>((Sum.inr (Cu (AZ ac) n):Key),V.int (n:Int))) (Sum.inr (Cu (AZ ac) n):Key)=some (V.int (n:Int)):=by
  intro l hl hin;induction l with
  |nil=>cases hin
  |cons m r ih =>
   rw[map_cons];by_cases e:Cu (AZ ac) m=Cu (AZ ac) n
   ·have:m=n:=SQ nd (DP (hl m (ZK ..))) (e ▸ DP hn);rw[DE (by rw[e]),this]
   ·rw[DF (λz=>e (Sum.inr.inj z))];rcases mem_cons.mp hin with z |z
    ·exact absurd (by rw[z]) e
    ·exact ih (λm hm=>hl m (ZT _ hm)) z
 exact key _ (λ_ h=>h) hn
noncomputable def Ny (ac:Aa) (n:Nat) (x:Str):Bool:=decide (n&&&look ac x≠0)
noncomputable def Gv (ac:Aa) (n:Nat) (p:Str×Str):Bool:=Ny ac n p.1 && !Ny ac n p.2
noncomputable def Je (ac:Aa) (n:Nat) (p:Str×Str):Bool:=Ny ac n p.1&&Ny ac n p.2
noncomputable def CW (ac:Aa) (ns bs:List (Str×Str)) (n:Nat):Option (Str×Str×Str):=match ns.find? (Gv ac n)with
 |some p=>some ("need", p)
 |none=>(bs.find? (Je ac n)).map λp=>("bar", p)
noncomputable def FX (ac:Aa) (ns bs:List (Str×Str)):List Nat:=(gy (Ab ac)).filter λn=>(CW ac ns bs n).isNone
def Re (H:Hp) (v:V):Option (Str×Str×Str)->Prop
 |none=>v=.aT
 |some t=>∃q,v=.ref q/\H q=some (.tup [.str t.1,.str t.2.1,.str t.2.2])
theorem Md {α:Type}{f:α->Bool}{l:List α}{i:Nat}{a:α} (h:(l.take i).find? f=none) (e:l[i]?=some a) (hf:f a=true):l.find? f=some a:=by
 have hi:=(Z8.mp e).1
 have:l=l.take i++a::l.drop (i+1):=by
  have h1:=List.take_append_drop i l;rw[List.drop_eq_getElem_cons hi,(Z8.mp e).2]at h1;exact h1.symm
 rw[this,List.find?_append,h,find?_cons,hf];rfl
theorem EJ {α:Type}{f:α->Bool}{l:List α}{i:Nat}{a:α} (h:(l.take i).find? f=none) (e:l[i]?=some a) (hf:f a=false):(l.take (i+1)).find? f=none:=by
 rw[ZG,e,List.find?_append,h];show Option.or none (List.find? f [a])=none;rw[find?_cons,hf];rfl
theorem Gw (n m:Nat):decide (V.int (Builtin.bitAnd (n:Int) (m:Int))=V.int 0)=decide (n&&&m=0):=by
 rw[Gp];exact decide_eq_decide.mpr ⟨λz=>by have:=V.int.inj z;omega,λz=>by rw[z];rfl⟩
theorem Jf (ac:Aa) (n:Nat) (x:Str):Ny ac n x=!decide (n&&&look ac x=0):=by
 unfold Ny;by_cases h:n&&&look ac x=0
 ·rw[ZQ (λz=>z h),ZN h];rfl
 ·rw[ZN h,ZQ h];rfl
noncomputable def prV (ps:List (Str×Str)):List (V×V):=ps.map λp=>(V.str p.1,V.str p.2)
inductive eF (H:Hp) (l:Vs) (ps:List (Str×Str)):Prop where
 |mk (as:List Vs) (aZ:H l=some (.lst (as.map V.ref))) (bG:aK H as (prV ps))
theorem eF.same {l:Vs}{ps:List (Str×Str)} (s:aA H H') (h:eF H l ps):eF H' l ps:=by
 obtain⟨as,h1,h2⟩:=h;exact⟨as,s _ _ h1,aK.eh (λb xs e=>s _ _ e) h2⟩
theorem Jg {as:List Vs}{ps:List (Str×Str)}{i:Nat}{v:V} (h:aK H as (prV ps)) (e:(as.map V.ref)[i]?=some v):∃b p,v=.ref b/\ps[i]?=some p/\H b=some (.tup [.str p.1,.str p.2]):=by
 rw[ZH]at e;obtain⟨b,hb,rfl⟩:=Z6.mp e;obtain⟨p,hp,ht⟩:=CI h hb;unfold prV at hp;rw[ZH]at hp;obtain⟨q,hq,rfl⟩:=Z6.mp hp;exact⟨b,q,Zj,hq,ht⟩
def Km (ac:Aa) (ps:List (Str×Str)):Prop:=ps.length<=100/\∀p∈ps,p.1∈Et ac/\p.2∈Et ac/\p.1≠p.2
section
variable {RC:Vs}
inductive spUni (K:FG) (vs:Vr) (H:Hp) (Q:VK) (_E:XK):Prop where
 |mk (a:Vs) (ms:List Nat) (aZ:vs=[.ref a]) (bG:aJ K H a (A1 ms)) (bJ:ms.length<=8) (cY:∀l H',aA H H'->H' l=some (.lst (A1 (gy ms)))->Q (.ref l) H')
theorem scUnions:AH ["marks", "unions", "mark"] ["marks"] (defScope Ff):=bH
theorem Uv {n:Nat} (h:n<=8):2 ^ n<=256:=Nat.pow_le_pow_right qc h
theorem CS (l:List Nat):(A1 l).length=l.length:=AK _
theorem Tb (F:aQ K "unions_of" "unions_of" Ff f fd):aB P w K mg base aL 1 f fd ["marks"] (spUni K):=by
 refine F.m scUnions λvs H Q E h=>?_;obtain⟨a,ms,rfl,hS,h8,k⟩:=h;refine⟨Zj,λae A outer s hr=>?_⟩
 refine⟨_,AC (Am (i:=1) scUnions.nd Zj (Or.inl Zj) (CB (AA AI AB)))
  (AC (DR PassesOwn.never rfl (BS (pv 0)) (Ar (i:=2) scUnions.nd rfl (Or.inr rfl))
   (AD (Am (i:=1) scUnions.nd rfl (Or.inl rfl) (Ak Iz (pv 1) (BE ["mark"] [some 2] qd qb qd rfl (BS (pv 1)) (λ_ _ _ _ _ _=>BM) (λ_ _ _ _ _ _=>Ak T6 (pv 0) (pv 1))))))) (AD (AN (pv 1)))),?_⟩
 refine⟨i9,λl hl=>?_⟩;have s1:=AF (aA.refl _) hl (o:=HO.lst [V.int 0]);have jD:=U (H:=H) (a:=l) (o:=HO.lst [V.int 0]);generalize upd H l (HO.lst [V.int 0])=H1 at s1 jD ⊢;refine⟨_,Zj,a,Zj,⟨_,s1.seq hS⟩,DB (K:=K) (a:=a) (xs:=A1 ms) (λi σ H2=>(∃(l:Vs) (v:Option V),σ=[some (.ref a),some (.ref l),v]/\H2 l=some (.lst (A1 (gy (ms.take i)))))/\aA H H2) ⟨⟨l,none,Zj,jD⟩,s1⟩ (λi σ H2 _ ⟨_,e⟩=>e.seq hS) ?_ ?_⟩
 ·rintro i x σ H2 hi ⟨⟨l2,v,rfl,eN⟩,s2⟩;unfold A1 at hi;rw[ZH]at hi;obtain⟨m,hm,rfl⟩:=Z6.mp hi;have hi8:=(Z8.mp hm).1;have a0:(gy (ms.take i)).length<=256:=by rw[Mc];exact Uv (by rw[ZD];omega)
  refine⟨_,Zj,_,Zj,l2,Zj,⟨_,aJ.of eN⟩,Bp (K:=K) (a:=l2) (xs:=A1 (gy (ms.take i))) (λj ys H3=>ys=A1 (((gy (ms.take i)).take j).map (· |||m))/\H3=H2) ⟨Zj,Zj⟩ (λj ys H3 _ ⟨_,e⟩=>e ▸ aJ.of eN) (λj ys H3 ⟨e,_⟩=>by rw[e,CS,AK,ZD];omega) ?_ ?_⟩
  ·rintro j v ys H3 hj ⟨rfl,rfl⟩;unfold A1 at hj;rw[ZH]at hj;obtain⟨u,hu,rfl⟩:=Z6.mp hj;refine⟨_,Zj,_,Zj,_,_,Zj,Zj,?_,Zj⟩;rw[ZG,hu];unfold A1;rw[Zw,Zw];show _++[V.int (Builtin.bitOr _ _)]=_++[V.int _];rw[O5]
  ·rintro ys H3 ⟨rfl,rfl⟩ p hp;rw[CS,ZE]at *;have s3:=AF (aA.refl _) hp (o:=HO.lst (A1 ((gy (ms.take i)).map (· |||m))));refine⟨l2,p,_,_,Zj,Zj,s3 _ _ eN,U,Nat.le_of_lt (AQ (by rw[CS,CS,AK];omega)),λq hq=>?_⟩;refine⟨⟨q,_,Zj,?_⟩,s2.trans (AF s3 hq)⟩;rw[U,ZG,hm];show _=some (HO.lst (A1 (gy (ms.take i++[m]))));rw[P9];unfold A1;rw[Zw]
 ·rintro σ H2 ⟨⟨l2,v,rfl,eN⟩,s2⟩;rw[CS,ZE]at eN;exact⟨_,Zj,k l2 _ s2 eN⟩
end
def Lq (K:FG) (km:LK) (H:Hp) (z:V) (b:Bool):Prop:=(gu K (.type "tuple") H z/\b=false) \/
 ∃a xs,z=.ref a/\H a=some (.tup xs)/\((xs.length≠2/\b=false)\/∃u w b1 b2,xs=[u,w]/\eU K km H u b1/\eU K km H w b2/\b=(b1&&b2 && !decide (u=w)))
theorem FY {l:Vs}{xs:Vr} (s:aA H H') (h:bZ K H l xs):bZ K H' l xs:=by
 rcases h with h |h
 ·exact .inl (Gr s h)
 ·exact .inr h
inductive PrsS (K:FG) (H:Hp) (l:Vs) (ps:List (Str×Str)):Prop where
 |mk (as:List Vs) (aZ:(H l=some (.lst (as.map V.ref))\/bZ K H l (as.map V.ref))) (bG:aK H as (prV ps))
theorem eF.s {l:Vs}{ps:List (Str×Str)} (h:eF H l ps):PrsS K H l ps:=by
 obtain⟨as,h1,h2⟩:=h;exact⟨as,.inl h1,h2⟩
theorem Ht {X:Cx} (K:FG) (hK:X.K=K):Be X (.builtin "isinstance") (λxs H Q=>∃a p ys,xs=[.ref a,.ref p]/\(H a=some (.lst ys)\/bZ K H a ys)/\bZ K H p [.ty "list", .ty "tuple"]/\Q (.bl true) H):=by
 subst hK;intro aa s σ H xs us Q I r h;obtain⟨a,p,ys,rfl,ha,hp,q⟩:=h;obtain⟨u,uT,rfl,ru,iW⟩:=Ey r;cases ru;cases iW;obtain⟨its,rv,⟨o,e,c,n,dd⟩,_⟩:=I.tuple hp;obtain⟨ocl,odi,oda,gd⟩:=o;simp only at c dd;subst c;subst dd
 have ei:its=[Value.type "list", Value.type "tuple"]:=by
  cases rv with
  |cons r1 r2 =>
   cases r2 with
   |cons r3 r4 =>
    cases r4;cases (show _=Value.type "list" from r1);cases (show _=Value.type "tuple" from r3);rfl
 subst ei;have fin:∀tk,EP X aa σ Q (.bool true) { s with toks:=tk }:=λtk=>⟨.bl true,H,I.tok tk,rfl,q⟩;rcases ha with ha |ha
 ·obtain⟨_,_,m,_,h1⟩:=(show aP X.prog X.w H s.heap a (.lst ys)from I.aF a _ ha);exact W.kia_tup W.kitx_list I.cX ⟨_,h1,rfl⟩ e rfl (λz=>nomatch z) fin
 ·obtain⟨gj,rv2,⟨o2,e2,c2,n2,dd2⟩,_⟩:=I.tuple ha;exact W.kia_tup W.kitx_tuple I.cX ⟨o2,e2,c2⟩ e rfl (λz=>nomatch z) fin
section
variable {RC cP:Vs}
inductive spIsPair (K:FG) (vs:Vr) (H:Hp) (Q:VK) (_E:XK):Prop where
 |mk (z:V) (d:Vs) (km:LK) (b:Bool) (aZ:vs=[z,.ref d]) (bG:Rd H d (.dK km)) (bJ:Lq K km H z b) (cY:∀H',aA H H'->Q (.bl b) H')
theorem QA:AH ["thing", "marks"] ["thing", "marks"] (defScope JT):=bH
theorem Me {km:LK}{v:V} (h:eU K km H v true):∃x:Str,v=.str x:=by
 rcases h with⟨x,e,_⟩ |⟨_,e⟩
 ·exact⟨x,e⟩
 ·cases e
theorem Nz (F:aQ K "is_pair" "is_pair" JT f fd) (B:Bl mg) (GO:Fn P w K mg base "is_one_of" 1 ["thing", "names"] (spOne K)):aB P w K mg base aL 2 f fd ["thing", "marks"] (spIsPair K):=by
 obtain⟨fO,dO,GO,mO,kO,bO⟩:=GO.ex;refine F.m QA λvs H Q E h=>?_;obtain⟨z,d,km,b,rfl,hd,h,k⟩:=h;refine⟨Zj,λae A outer s hr=>?_⟩
 refine⟨_,AC (Ac (PW.pt (B9 (Ah (Ae (BI K Zj Zj B.eA Zj B.tuple B0 (pv 0)))) (BW (AW Ck (AM (Av K Zj) Zj B.len PySem.boot_len (AA (pv 0) AB)) AI (AT _))))) (AD (AN CY)) AR)
  (AD (AN (BQ (AM (Bu rfl) rfl B.all Df (AA (BE ["marks"] [some 1] qd qb qd rfl (HA (pv 0)) (λ_ _ _ _ _ _=>BM) (λ_ _ _ _ _ _=>AO GO hr rfl mO kO bO .nil AL (AA (pv 0) (AA (pv 1) AB)))) AB))
   (Bf (BU Ck (Bi (Dg K rfl) (pv 0) AI (λ_ _=>rfl)) (Bi (Dg K rfl) (pv 0) AI (λ_ _=>rfl)) (AT _)))))),?_⟩
 rcases h with⟨h,rfl⟩ |⟨a,xs,rfl,ha,h⟩
 ·obtain⟨t,ht,hk⟩:=h.ty;exact⟨_,Zj,_,_,_,false,Zj,ht,hk,_,Zj,Af (Af (k _ (aA.refl _)))⟩
 ·refine⟨_,rfl,_,_,_,true,rfl,.tup ha,rfl,_,rfl,AX ?_⟩;refine⟨_,rfl,a,_,rfl,.inr (bZ.of ha),rfl,_,rfl,?_⟩;rcases h with⟨hz,rfl⟩ |⟨u,v,b1,b2,rfl,h1,h2,rfl⟩
  ·refine Bj (λ_=>k _ (aA.refl _)) (λz=>?_);exact absurd (by rw[ZQ (λq=>hz (by injection q;omega))];rfl) z
  ·refine IP Zj ?_;refine⟨_,Zj,a,Zj,⟨_,bZ.of ha⟩,Dv (K:=K) (a:=a) (xs:=[u,v]) (λi zs H2=>H2=H/\zs=([b1,b2].take i).map V.bl) ⟨Zj,Zj⟩ (λi zs H2 _ ⟨e,_⟩=>e ▸ bZ.of ha) (λi zs H2 ⟨_,e⟩=>by rw[e,AK,ZD];show min i 2<=_;omega) ?_ ?_⟩
   ·rintro i z zs H2 hi ⟨rfl,rfl⟩
    have hz:∃b,[b1,b2][i]?=some b/\eU K km H2 z b:=by
     match i,hi with
     |0,hi=>cases hi;exact⟨b1,Zj,h1⟩
     |1,hi=>cases hi;exact⟨b2,Zj,h2⟩
    obtain⟨b,hb,hz⟩:=hz;refine⟨_,Zj,_,Zj,z,d,km,b,Zj,hd,hz,Zj,?_⟩;rw[ZG,hb,Zw];rfl
   ·rintro zs H2 ⟨rfl,rfl⟩ q hq;have sq:=AF (aA.refl _) hq (o:=HO.lst (([b1,b2].take [u,v].length).map V.bl));refine⟨q,[b1,b2],rfl,aJ.of U,_,rfl,?_⟩;cases b1 with
    |false=>exact AX (k _ sq)
    |true =>
     cases b2 with
     |false=>exact AX (k _ sq)
     |true =>
      obtain⟨x,rfl⟩:=Me h1;obtain⟨y,rfl⟩:=Me h2;exact Af ⟨_,Zj,a,_,0,.str x,Zj,Zj,bZ.of (sq _ _ ha),Zj,_,Zj,a,_,1,.str y,Zj,Zj,bZ.of (sq _ _ ha),Zj,Zj,k _ sq⟩
inductive spPairs (K:FG) (vs:Vr) (H:Hp) (Q:VK) (_E:XK):Prop where
 |mk (l d:Vs) (km:LK) (ps:List (Str×Str)) (aZ:vs=[.ref l,.ref d]) (bG:PrsS K H l ps) (bJ:Rd H d (.dK km)) (cY:ps.length<=100) (dw:(∀p∈ps,(A4 km (Sum.inr p.1:Key)).isSome=true/\(A4 km (Sum.inr p.2:Key)).isSome=true/\p.1≠p.2)) (f9:∀l' H',aA H H'->H l'=none->eF H' l' ps->Q (.ref l') H')
theorem Rf:AH ["things", "marks"] ["things", "marks"] (defScope Hg):=bH
theorem Kn {km:LK}{b:Vs}{x y:Str} (hb:H b=some (.tup [.str x,.str y])) (h1:(A4 km (Sum.inr x:Key)).isSome=true) (h2:(A4 km (Sum.inr y:Key)).isSome=true) (aw:x≠y):Lq K km H (.ref b) true:=by
 refine .inr ⟨b,_,Zj,hb,.inr ⟨_,_,_,_,Zj,.inl ⟨x,Zj,Zj⟩,.inl ⟨y,Zj,Zj⟩,?_⟩⟩;rw[h1,h2,ZQ (show ¬ V.str x=V.str y from λz=>aw (V.str.inj z))];rfl
theorem QB (F:aQ K "pairs_of" "pairs_of" Hg f fd) (B:Bl mg) (GP:Fn P w K mg base "is_pair" 2 ["thing", "marks"] (spIsPair K)):aB P w K mg base aL 3 f fd ["things", "marks"] (spPairs K):=by
 obtain⟨fP,dP,GP,mP,kP,bP⟩:=GP.ex;refine F.m Rf λvs H Q E h=>?_;obtain⟨l,d,km,ps,rfl,⟨as,hl,has⟩,hd,h100,hps,k⟩:=h;refine⟨Zj,λae A outer s hr=>?_⟩;have au:as.length=ps.length:=by have:=has.length;unfold prV at this;rw[AK]at this;exact this
 have one:∀ {H2:Hp}{i:Nat}{z:V},aA H H2->(as.map V.ref)[i]?=some z->Lq K km H2 z true:=λ{H2 i z} iB hi=>by
  obtain⟨b,p,rfl,hp,hb⟩:=Jg (aK.eh (λb xs e=>iB _ _ e) has) hi;obtain⟨q1,q2,q3⟩:=hps p (ZS hp);exact Kn hb q1 q2 q3
 have step:∀ {i:Nat}{z:V},(as.map V.ref)[i]?=some z->((as.take i).map λ_=>V.bl true)++[V.bl true]=(as.take (i+1)).map λ_=>V.bl true:=λ{i z} hi=>by
  rw[ZH]at hi;obtain⟨c,hc,_⟩:=Z6.mp hi;rw[ZG,hc,Zw];rfl
 rcases hl with hl |hl
 ·refine⟨_,AC (Ac (PW.pt (B9 (Ah (Ae (AM (Ht K Zj) Zj B.eA BR (AA (pv 0) (AA (DS (AA (Cz (v:=.ty "list") Zj B.list Bm Zj) (AA (Cz (v:=.ty "tuple") Zj B.tuple B0 Zj) AB))) AB))))) (BW (Ah (Ae (AM (Bu Zj) Zj B.all Df (AA (BE ["marks"] [some 1] qd qb qd Zj (BS (pv 0)) (λ_ _ _ _ _ _=>BM) (λ_ _ _ _ _ _=>AO GP hr Zj mP kP bP .nil AL (AA (pv 0) (AA (pv 1) AB)))) AB))))))) (AD Ap) AR)
   (AD (AN (A9 E4 rfl B.list Bm (AA (pv 0) AB)))),?_⟩
  refine⟨_,Zj,fg,λt ht=>?_⟩;have s1:=AF (aA.refl _) ht (o:=HO.tup [V.ty "list", V.ty "tuple"]);have jz:=U (H:=H) (a:=t) (o:=HO.tup [V.ty "list", V.ty "tuple"]);generalize upd H t (HO.tup [V.ty "list", V.ty "tuple"])=H1 at s1 jz ⊢;refine⟨l,t,_,Zj,.inl (s1 _ _ hl),bZ.of jz,_,Zj,AX ?_⟩;refine⟨_,Zj,l,Zj,⟨_,aJ.of (s1 _ _ hl)⟩,Bp (K:=K) (a:=l) (xs:=as.map V.ref) (λi ys H2=>aA H1 H2/\ys=(as.take i).map λ_=>V.bl true) ⟨aA.refl _,Zj⟩ (λi ys H2 _ ⟨e,_⟩=>aJ.of (e _ _ (s1 _ _ hl))) (λi ys H2 ⟨_,e⟩=>by rw[e,AK,ZD];omega) ?_ ?_⟩
  ·rintro i z ys H2 hi ⟨s2,rfl⟩;exact⟨_,Zj,_,Zj,z,d,km,true,Zj,Gr (s1.trans s2) hd,one (s1.trans s2) hi,λH3 s3=>⟨s2.trans s3,step hi⟩⟩
  ·rintro ys H2 ⟨s2,rfl⟩ q hq;have sq:=AF s2 hq (o:=HO.lst ((as.take (as.map V.ref).length).map λ_=>V.bl true));refine⟨q,(as.take (as.map V.ref).length).map λ_=>true,Zj,aJ.of (by rw[U,map_map];rfl),_,Zj,?_⟩;rw[show(((as.take (as.map V.ref).length).map λ_=>true).all id)=true by rw[all_map];exact List.all_eq_true.mpr λ_ _=>rfl];refine AX ⟨_,Zj,l,_,Zj,.inl (aJ.of (sq _ _ (s1 _ _ hl))),λl' gF=>?_⟩;have sl:=AF (s1.trans sq) gF (o:=HO.lst (as.map V.ref));exact k l' _ sl (none_of (s1.trans sq) gF) ⟨as,U,aK.eh (λb xs e=>sl _ _ e) has⟩
 ·refine⟨_,AC (Ac (PW.pt (B9 (Ah (Ae (AM (Ht K Zj) Zj B.eA BR (AA (pv 0) (AA (DS (AA (Cz (v:=.ty "list") Zj B.list Bm Zj) (AA (Cz (v:=.ty "tuple") Zj B.tuple B0 Zj) AB))) AB))))) (BW (Ah (Ae (AM (Bu Zj) Zj B.all Df (AA (BE ["marks"] [some 1] qd qb qd Zj (HA (pv 0)) (λ_ _ _ _ _ _=>BM) (λ_ _ _ _ _ _=>AO GP hr Zj mP kP bP .nil AL (AA (pv 0) (AA (pv 1) AB)))) AB))))))) (AD Ap) AR)
   (AD (AN (A9 E4 rfl B.list Bm (AA (pv 0) AB)))),?_⟩
  refine⟨_,Zj,fg,λt ht=>?_⟩;have s1:=AF (aA.refl _) ht (o:=HO.tup [V.ty "list", V.ty "tuple"]);have jz:=U (H:=H) (a:=t) (o:=HO.tup [V.ty "list", V.ty "tuple"]);generalize upd H t (HO.tup [V.ty "list", V.ty "tuple"])=H1 at s1 jz ⊢;refine⟨l,t,_,Zj,.inr (FY s1 hl),bZ.of jz,_,Zj,AX ?_⟩;refine⟨_,Zj,l,Zj,⟨_,FY s1 hl⟩,Dv (K:=K) (a:=l) (xs:=as.map V.ref) (λi ys H2=>aA H1 H2/\ys=(as.take i).map λ_=>V.bl true) ⟨aA.refl _,Zj⟩ (λi ys H2 _ ⟨e,_⟩=>FY (s1.trans e) hl) (λi ys H2 ⟨_,e⟩=>by rw[e,AK,ZD];omega) ?_ ?_⟩
  ·rintro i z ys H2 hi ⟨s2,rfl⟩;exact⟨_,Zj,_,Zj,z,d,km,true,Zj,Gr (s1.trans s2) hd,one (s1.trans s2) hi,λH3 s3=>⟨s2.trans s3,step hi⟩⟩
  ·rintro ys H2 ⟨s2,rfl⟩ q hq;have sq:=AF s2 hq (o:=HO.lst ((as.take (as.map V.ref).length).map λ_=>V.bl true));refine⟨q,(as.take (as.map V.ref).length).map λ_=>true,Zj,aJ.of (by rw[U,map_map];rfl),_,Zj,?_⟩;rw[show(((as.take (as.map V.ref).length).map λ_=>true).all id)=true by rw[all_map];exact List.all_eq_true.mpr λ_ _=>rfl];refine AX ⟨_,Zj,l,_,Zj,.inr (FY (s1.trans sq) hl),λl' gF=>?_⟩;have sl:=AF (s1.trans sq) gF (o:=HO.lst (as.map V.ref));exact k l' _ sl (none_of (s1.trans sq) gF) ⟨as,U,aK.eh (λb xs e=>sl _ _ e) has⟩
end
noncomputable def ruF:Vp:=["own_kind", "numbered_marks", "needs", "bars", "let_numbers"]
noncomputable def iM (k d:Vs):List (Str×V):=AY "numbered_marks" (.ref d) (AY "own_kind" (.ref k) [])
noncomputable def iD (k d ln:Vs):List (Str×V):=AY "needs" (.ref ln) (iM k d)
noncomputable def jw (k d ln lb:Vs):List (Str×V):=AY "bars" (.ref lb) (iD k d ln)
noncomputable def iL (k d ln lb ll:Vs):List (Str×V):=AY "let_numbers" (.ref ll) (jw k d ln lb)
structure RF (fs:List (Str×V)) (k d ln lb:Vs):Prop where
 ok:fs.lookup ("own_kind" : Str)=some (.ref k)
 om:fs.lookup ("numbered_marks" : Str)=some (.ref d)
 on:fs.lookup ("needs" : Str)=some (.ref ln)
 ob:fs.lookup ("bars" : Str)=some (.ref lb)
 no:∀m:Str,m∉ ruF->fs.lookup m=none
theorem QC {m:Str} (h:m∉ ruF):¬ m = "own_kind" /\ ¬ m = "numbered_marks" /\ ¬ m = "needs" /\ ¬ m = "bars" /\ ¬ m = "let_numbers" := by
 unfold ruF at h;simp only[mem_cons,not_mem_nil,or_false,not_or]at h;exact h
theorem SS (k d:Vs):(iM k d).lookup ("numbered_marks" : Str)=some (.ref d):=by unfold iM;rw[AG,Zr rfl]
theorem SU (k d ln:Vs):(iD k d ln).lookup ("numbered_marks" : Str)=some (.ref d):=by unfold iD;rw[AG,Zs qb];exact SS k d
theorem QD (k d ln lb:Vs):RF (jw k d ln lb) k d ln lb:=by
 refine⟨?_,?_,?_,?_,λm h=>?_⟩
 ·unfold jw iD iM;rw[AG,Zs qb,AG,Zs qb,AG,Zs qb,AG,Zr rfl]
 ·unfold jw;rw[AG,Zs qb];exact SU k d ln
 ·unfold jw iD;rw[AG,Zs qb,AG,Zr rfl]
 ·unfold jw;rw[AG,Zr rfl]
 ·obtain⟨h1,h2,h3,h4,h5⟩:=QC h;unfold jw iD iM;rw[AG,Zs h4,AG,Zs h3,AG,Zs h2,AG,Zs h1];rfl
theorem SW (k d ln lb ll:Vs):(iL k d ln lb ll).lookup ("let_numbers" : Str)=some (.ref ll):=by unfold iL;rw[AG,Zr rfl]
theorem Tc (k d ln lb ll:Vs):RF (iL k d ln lb ll) k d ln lb:=by
 have h:=QD k d ln lb;refine⟨?_,?_,?_,?_,λm hm=>?_⟩
 ·unfold iL;rw[AG,Zs qb];exact h.ok
 ·unfold iL;rw[AG,Zs qb];exact h.om
 ·unfold iL;rw[AG,Zs qb];exact h.on
 ·unfold iL;rw[AG,Zs qb];exact h.ob
 ·unfold iL;rw[AG,Zs (QC hm).2.2.2.2];exact h.no m hm
structure Hu (K:FG) (RC:Vs):Prop where
 cl:gQ K RC
 nK:aS K RC "own_kind"
 nM:aS K RC "numbered_marks"
 nN:aS K RC "needs"
 nB:aS K RC "bars"
 nL:aS K RC "let_numbers"
inductive RuB (RC:Vs) (H:Hp) (p k:Vs) (ac:Aa) (ns bs:List (Str×Str)):Prop where
 |mk (dx:_) (fs:_) (d:_) (ln:_) (lb:_) (ob:_) (aZ:H p=some (.ins RC dx fs)) (bG:RF fs k d ln lb) (bJ:H d=some (.cH ob (.dK (kM ac)))) (cY:eF H ln ns) (dw:eF H lb bs)
inductive gE (RC:Vs) (H:Hp) (p k:Vs) (ac:Aa) (ns bs:List (Str×Str)):Prop where
 |mk (dx:_) (fs:_) (d:_) (ln:_) (lb:_) (ob:_) (ll:_) (aZ:H p=some (.ins RC dx fs)) (bG:RF fs k d ln lb) (bJ:H d=some (.cH ob (.dK (kM ac)))) (cY:eF H ln ns) (dw:eF H lb bs) (f9:fs.lookup ("let_numbers" : Str)=some (.ref ll)) (js:H ll=some (.lst (A1 (FX ac ns bs))))
inductive LetL (RC:Vs) (H:Hp) (p ll:Vs):Prop where
 |mk (dx:_) (fs:_) (aZ:H p=some (.ins RC dx fs)) (bG:fs.lookup ("let_numbers" : Str)=some (.ref ll))
theorem gE.b {RC:Vs}{p k:Vs}{ns bs:List (Str×Str)} (h:gE RC H p k ac ns bs):RuB RC H p k ac ns bs:=by
 obtain⟨dx,fs,d,ln,lb,ob,ll,h1,h2,h3,h4,h5,_⟩:=h;exact⟨dx,fs,d,ln,lb,ob,h1,h2,h3,h4,h5⟩
theorem RuB.same {RC:Vs}{p k:Vs}{ns bs:List (Str×Str)} (s:aA H H') (h:RuB RC H p k ac ns bs):RuB RC H' p k ac ns bs:=by
 obtain⟨dx,fs,d,ln,lb,ob,h1,h2,h3,h4,h5⟩:=h;exact⟨dx,fs,d,ln,lb,ob,s _ _ h1,h2,s _ _ h3,h4.same s,h5.same s⟩
theorem gE.same {RC:Vs}{p k:Vs}{ns bs:List (Str×Str)} (s:aA H H') (h:gE RC H p k ac ns bs):gE RC H' p k ac ns bs:=by
 obtain⟨dx,fs,d,ln,lb,ob,ll,h1,h2,h3,h4,h5,h6,h7⟩:=h;exact⟨dx,fs,d,ln,lb,ob,ll,s _ _ h1,h2,s _ _ h3,h4.same s,h5.same s,h6,s _ _ h7⟩
section
variable {RC:Vs}
inductive spFF (RC:Vs) (vs:Vr) (H:Hp) (Q:VK) (_E:XK):Prop where
 |mk (p k:Vs) (ac:Aa) (ns bs:List (Str×Str)) (n:Nat) (aZ:vs=[.ref p,.int (n:Int)]) (bG:RuB RC H p k ac ns bs) (bJ:(ac.map (·.1)).Nodup) (cY:Km ac ns) (dw:Km ac bs) (f9:∀v H',aA H H'->Re H' v (CW ac ns bs n)->Q v H')
noncomputable abbrev NFF:Vp:=["self", "number", "name", "needed", "barred"]
theorem scFF:AH NFF ["self", "number"] (defScope CV):=bH
theorem Uw (F:aQ K "first_fault" "Rule.first_fault" CV f fd) (RT:Hu K RC):aB P w K mg base aL 1 f fd ["self", "number"] (spFF RC):=by
 refine F.m scFF λvs H Q E h=>?_;obtain⟨p,k,ac,ns,bs,n,rfl,⟨dx,fs,d,ln,lb,ob,hp,R,hd,⟨as,jc,has⟩,⟨cs,hlb,az⟩⟩,nd,⟨l1,PN⟩,⟨l2,PB⟩,q⟩:=h;refine⟨Zj,λae A outer s hr=>?_⟩;have hu:=Cc hr
 refine⟨_,AC (DR PassesOwn.never Zj (BS (AU (pv 0) Zj)) (Dp Zj (Az (Ar (i:=2) scFF.nd Zj (Or.inl Zj)) (Az (Ar (i:=3) scFF.nd Zj (Or.inl Zj)) C2)))
   (AD (Ac (PW.pt (Do (AW Ck (Ak Dr (pv 1) (CL hu (AU (pv 0) rfl) (pv 2) (λ_ _=>rfl))) AI (AT _)) (C0 (AW Cj (Ak Dr (pv 1) (CL hu (AU (pv 0) rfl) (pv 3) (λ_ _=>rfl))) AI (AT _)))))
    (AD (AN (DS (AA Al (AA (pv 2) (AA (pv 3) AB)))))) AR)))
  (AC (DR PassesOwn.never rfl (BS (AU (pv 0) rfl)) (Dp rfl (Az (Ar (i:=2) scFF.nd rfl (Or.inl rfl)) (Az (Ar (i:=4) scFF.nd rfl (Or.inl rfl)) C2)))
   (AD (Ac (PW.pt (Do (AW Ck (Ak Dr (pv 1) (CL hu (AU (pv 0) rfl) (pv 2) (λ_ _=>rfl))) AI (AT _)) (C0 (AW Ck (Ak Dr (pv 1) (CL hu (AU (pv 0) rfl) (pv 4) (λ_ _=>rfl))) AI (AT _)))))
    (AD (AN (DS (AA Al (AA (pv 2) (AA (pv 4) AB)))))) AR)))
  (AD (AN Ip))),?_⟩
 have au:as.length=ns.length:=by have:=has.length;unfold prV at this;rw[AK]at this;exact this
 have ah:cs.length=bs.length:=by have:=az.length;unfold prV at this;rw[AK]at this;exact this
 have g:∀x∈Et ac,Js H d (.str x) (some (.int ((look ac x:Nat):Int))):=λx hx=>.inl ⟨kM ac,Sum.inr x,.inr ⟨ob,hd⟩,rfl,(Lp nd hx).symm⟩;refine⟨_,Zj,p,RC,dx,_,_,Zj,hp,RT.cl,RT.nN,R.on,ln,Zj,⟨_,aJ.of jc⟩,DB (K:=K) (a:=ln) (xs:=as.map V.ref) (λi σ H2=>(∃v2 v3:Option V,σ=[some (.ref p),some (.int (n:Int)),v2,v3,none])/\H2=H/\(ns.take i).find? (Gv ac n)=none) ⟨⟨none,none,Zj⟩,Zj,Zj⟩ (λi σ H2 _ ⟨_,e,_⟩=>e ▸ aJ.of jc) ?_ ?_⟩
 ·rintro i v σ H2 hi ⟨⟨v2,v3,rfl⟩,rfl,hf⟩;obtain⟨b,pr,rfl,gC,hb⟩:=Jg has hi;obtain⟨m1,m2,_⟩:=PN pr (ZS gC);refine⟨b,_,Zj,bZ.of hb,Zj,_,_,Zj,_,_,Zj,Zj,?_⟩;refine⟨_,Zj,_,Zj,p,RC,dx,_,_,Zj,hp,RT.cl,RT.nM,R.om,_,Zj,d,_,Zj,g _ m1,_,_,Zj,Zj,Zj,_,Zj,?_⟩;rw[Gw];have hnb:Gv ac n pr=((!decide (n&&&look ac pr.1=0))&&decide (n&&&look ac pr.2=0)):=by unfold Gv;rw[Jf,Jf,Bool.not_not]
  by_cases h1:n&&&look ac pr.1=0
  ·rw[ZN h1]at hnb ⊢;exact AX (AX ⟨⟨_,_,Zj⟩,Zj,EJ hf gC hnb⟩)
  ·rw[ZQ h1]at hnb ⊢;refine Af ⟨_,Zj,_,Zj,p,RC,dx,_,_,Zj,hp,RT.cl,RT.nM,R.om,_,Zj,d,_,Zj,g _ m2,_,_,Zj,Zj,Zj,_,Zj,?_⟩;rw[Gw];by_cases h2:n&&&look ac pr.2=0
   ·rw[ZN h2]at hnb ⊢;refine Af ⟨_,Zj,_,Zj,sl3,λt ht=>?_⟩;refine q (.ref t) _ (AF (aA.refl _) ht) ?_;unfold CW;rw[Md hf gC hnb];exact⟨t,Zj,U⟩
   ·rw[ZQ h2]at hnb ⊢;exact AX ⟨⟨_,_,Zj⟩,Zj,EJ hf gC hnb⟩
 ·rintro σ H2 ⟨⟨v2,v3,rfl⟩,rfl,hf⟩;rw[AK,au,ZE]at hf;refine⟨_,Zj,p,RC,dx,_,_,Zj,hp,RT.cl,RT.nB,R.ob,lb,Zj,⟨_,aJ.of hlb⟩,DB (K:=K) (a:=lb) (xs:=cs.map V.ref) (λi σ H3=>(∃v2 v3 v4:Option V,σ=[some (.ref p),some (.int (n:Int)),v2,v3,v4])/\H3=H2/\(bs.take i).find? (Je ac n)=none) ⟨⟨_,_,_,Zj⟩,Zj,Zj⟩ (λi σ H3 _ ⟨_,e,_⟩=>e ▸ aJ.of hlb) ?_ ?_⟩
  ·rintro i v σ H3 hi ⟨⟨v2,v3,v4,rfl⟩,rfl,hf2⟩;obtain⟨b,pr,rfl,gC,hb⟩:=Jg az hi;obtain⟨m1,m2,_⟩:=PB pr (ZS gC);refine⟨b,_,Zj,bZ.of hb,Zj,_,_,Zj,_,_,Zj,Zj,?_⟩;refine⟨_,Zj,_,Zj,p,RC,dx,_,_,Zj,hp,RT.cl,RT.nM,R.om,_,Zj,d,_,Zj,g _ m1,_,_,Zj,Zj,Zj,_,Zj,?_⟩;rw[Gw];have hnb:Je ac n pr=((!decide (n&&&look ac pr.1=0)) && !decide (n&&&look ac pr.2=0)):=by unfold Je;rw[Jf,Jf]
   by_cases h1:n&&&look ac pr.1=0
   ·rw[ZN h1]at hnb ⊢;exact AX (AX ⟨⟨_,_,_,Zj⟩,Zj,EJ hf2 gC hnb⟩)
   ·rw[ZQ h1]at hnb ⊢;refine Af ⟨_,Zj,_,Zj,p,RC,dx,_,_,Zj,hp,RT.cl,RT.nM,R.om,_,Zj,d,_,Zj,g _ m2,_,_,Zj,Zj,Zj,_,Zj,?_⟩;rw[Gw];by_cases h2:n&&&look ac pr.2=0
    ·rw[ZN h2]at hnb ⊢;exact AX ⟨⟨_,_,_,Zj⟩,Zj,EJ hf2 gC hnb⟩
    ·rw[ZQ h2]at hnb ⊢;refine Af ⟨_,Zj,_,Zj,sl3,λt ht=>?_⟩;refine q (.ref t) _ (AF (aA.refl _) ht) ?_;unfold CW;rw[hf,Md hf2 gC hnb];exact⟨t,Zj,U⟩
  ·rintro σ H3 ⟨⟨v2,v3,v4,rfl⟩,rfl,hf2⟩;rw[AK,ah,ZE]at hf2;refine q .aT _ (aA.refl _) ?_;unfold CW;rw[hf,hf2];rfl
end
def bY (p:Vs) (H H':Hp):Prop:=∀b o,H b=some o->b≠p->H' b=some o
theorem bY.then {p:Vs}{H1 H2:Hp} (a:bY p H H1) (s:aA H1 H2):bY p H H2:=λb o e h=>s _ _ (a b o e h)
theorem bY.upd {p:Vs}{H1:Hp}{o:HO} (a:bY p H H1):bY p H (upd H1 p o):=λb u e h=>by rw[AE h];exact a b u e h
def Hv (p:Vs) (H:Hp):Prop:=∃D dx fs,H p=some (.ins D dx fs)
theorem aE.eP {p:Vs}{k:Vs}{r:Str} (s:bY p H H') (hk:k≠p) (hp:Hv p H) (h:aE C H k ac r):aE C H' k ac r:=by
 obtain⟨x,d1,o1,d2,o2,a,b,c⟩:=h.ex;obtain⟨D,dx,fs,hp⟩:=hp;refine⟨⟨x,d1,o1,d2,o2,s _ _ a hk,s _ _ b λe=>?_,s _ _ c λe=>?_⟩⟩
 ·subst e;rw[hp]at b;cases b
 ·subst e;rw[hp]at c;cases c
theorem eF.eP {p l:Vs}{ps:List (Str×Str)} (s:bY p H H') (hp:Hv p H) (h:eF H l ps):eF H' l ps:=by
 obtain⟨as,h1,h2⟩:=h;obtain⟨D,dx,fs,hp⟩:=hp;refine⟨as,s _ _ h1 λe=>?_,aK.eh (λb xs e=>s _ _ e λq=>?_) h2⟩
 ·subst e;rw[hp]at h1;cases h1
 ·subst q;rw[hp]at e;cases e
theorem PrsS.eP {p l:Vs}{ps:List (Str×Str)} (s:bY p H H') (hp:Hv p H) (h:PrsS K H l ps):PrsS K H' l ps:=by
 obtain⟨as,h1,h2⟩:=h;obtain⟨D,dx,fs,hp⟩:=hp;refine⟨as,?_,aK.eh (λb xs e=>s _ _ e λq=>?_) h2⟩
 ·rcases h1 with h1 | (h1 |⟨o,h1⟩) |h1
  ·exact .inl (s _ _ h1 λe=>by subst e;rw[hp]at h1;cases h1)
  ·exact .inr (.inl (.inl (s _ _ h1 λe=>by subst e;rw[hp]at h1;cases h1)))
  ·exact .inr (.inl (.inr ⟨o,s _ _ h1 λe=>by subst e;rw[hp]at h1;cases h1⟩))
  ·exact .inr (.inr h1)
 ·subst q;rw[hp]at e;cases e
section
variable {RC:Vs}
inductive spRInit (K:FG) (C RC:Vs) (vs:Vr) (H:Hp) (Q:VK) (_E:XK):Prop where
 |mk (p dx k l1 l2:Vs) (ac:Aa) (r:Str) (ns bs:List (Str×Str)) (aZ:vs=[.ref p,.ref k,.ref l1,.ref l2]) (bG:H p=some (.ins RC dx [])) (bJ:aE C H k ac r) (cY:ac.length<=8) (dw:(ac.map (·.1)).Nodup) (f9:PrsS K H l1 ns) (js:PrsS K H l2 bs) (jr:Km ac ns) (z_8:Km ac bs) (z_9:∀H',bY p H H'->gE RC H' p k ac ns bs->(∀ll,LetL RC H' p ll->H ll=none)->Q .aT H')
noncomputable abbrev NRI:Vp:=["self", "kind", "needs", "bars", "unions"]
theorem scRI:AH NRI ["self", "kind", "needs", "bars"] (defScope CD):=bH
theorem QE (F:aQ K "__init__" "Rule.__init__" CD f fd) (B:Bl mg) (hD:mg "dict" = none) (T:Dh K C) (RT:Hu K RC) (GM:Mt P w K mg base C "marks" 2 ["self"] (spMarks C)) (GP:Fn P w K mg base "pairs_of" 3 ["things", "marks"] (spPairs K)) (GU:Fn P w K mg base "unions_of" 1 ["marks"] (spUni K)) (GF:Mt P w K mg base RC "first_fault" 1 ["self", "number"] (spFF RC)) :
  aB P w K mg base aL 4 f fd ["self", "kind", "needs", "bars"] (spRInit K C RC):=by
 obtain⟨fM,dM,GM,mM,bM⟩:=GM.ex;obtain⟨fP,dP,GP,mP,kP,bP⟩:=GP.ex;obtain⟨fU,dU,GU,mU,kU,bU⟩:=GU.ex;obtain⟨fF,dF,GF,mF,bF⟩:=GF.ex;refine F.m scRI λvs H Q E h=>?_;obtain⟨p,dx,k,l1,l2,ac,r,ns,bs,rfl,hp,KA,h8,nd,PL1,PL2,PN,PB,hG⟩:=h;refine⟨Zj,λae A outer s hr=>?_⟩;have cZ:aD 1 _:=hr.mono qc;have gk:aD 2 _:=hr.mono qc
 refine⟨_,AC (A3 (pv 0) (pv 1) Zj)
  (AC (A3 (pv 0) (A9 (DZ rfl) rfl hD Gs (AA (An (pv 1) T.cl mM GM gk bM .nil AL) AB)) rfl)
  (CC (AC (A3 (pv 0) (AO GP hr rfl mP kP bP .nil AL (AA (pv 2) (AA (AU (pv 0) rfl) AB))) rfl)
  (AC (A3 (pv 0) (AO GP hr rfl mP kP bP .nil AL (AA (pv 3) (AA (AU (pv 0) rfl) AB))) rfl)
  (AC (Am (i:=4) scRI.nd rfl (Or.inl rfl) (AO GU cZ rfl mU kU bU .nil AL (AA (A9 (HQ rfl) rfl B.list Bm (AA (K4 PySem.F.slot_dict_values PySem.F.type_dict_values IS (AU (pv 0) rfl)) AB)) AB)))
  (AD (A3 (pv 0) (BE ["self"] [some 0] qd qb qd rfl (BS (pv 4)) (λ_ _ _ _ _ _=>Gj (C6 (EZ (BD (pv 1) RT.cl mF GF cZ bF .nil AL (AA (pv 0) AB))))) (λ_ _ _ _ _ _=>pv 0)) rfl))))))),?_⟩
 have hkp:k≠p:=λz=>by
  obtain⟨x,d1,o1,d2,o2,a,_⟩:=KA.ex;subst z;rw[hp]at a;have q:=FM d1 d2 r;cases a
 have iP:Hv p H:=⟨_,_,_,hp⟩;refine⟨_,Zj,_,Zj,p,RC,dx,_,Zj,hp,RT.cl,RT.nK,(by show 0<1000;decide),?_⟩;have s1:bY p H (upd H p (.ins RC dx (AY "own_kind" (.ref k) []))):=bY.upd (λ_ _ e _=>e);have al:=U (H:=H) (a:=p) (o:=.ins RC dx (AY "own_kind" (.ref k) []));generalize upd H p (.ins RC dx (AY "own_kind" (.ref k) []))=H1 at s1 al ⊢;have KA1:=KA.eP s1 hkp iP;obtain⟨dk,e1,e2,hk1⟩:=KA1.ins;refine⟨_,Zj,k,dk,_,Zj,hk1,(B2 _ _ _),k,ac,r,Zj,KA1,qe,λla as1 H2 s2 hla hta=>?_⟩;rw[Ki]at hta;obtain⟨n1,q1⟩:=Mb (K:=K) hta
 have z1:(C9 ac).length<=1000:=by
  have h3:(C9 ac).length=(Ab ac).length:=AK _;have:=CJ ac;omega
 refine⟨la,as1,C9 ac,Zj,aJ.of hla,n1,z1,q1,λd hd=>?_⟩;have am:=s2 _ _ al;have gU:p≠d:=AJ am hd;refine⟨_,Zj,p,RC,dx,_,Zj,by rw[AE gU];exact am,RT.cl,RT.nM,(by show 1<1000;decide),?_⟩;refine⟨d,kM ac,by rw[AE (Ne.symm gU),U];rfl,λob=>?_⟩
 have s3:bY p H (upd (upd (upd H2 d (HO.dK (Ay [] (C9 ac)))) p (HO.ins RC dx (AY "numbered_marks" (V.ref d) (AY "own_kind" (V.ref k) [])))) d (HO.cH ob (HO.dK (kM ac)))):=λb o e h=>by
  have e2:=s2 _ _ (s1 b o e h);rw[AE (AJ e2 hd),AE h,AE (AJ e2 hd)];exact e2
 have gv:(upd (upd (upd H2 d (HO.dK (Ay [] (C9 ac)))) p (HO.ins RC dx (AY "numbered_marks" (V.ref d) (AY "own_kind" (V.ref k) [])))) d (HO.cH ob (HO.dK (kM ac)))) p=some (.ins RC dx (iM k d)):=by rw[AE gU,U];rfl
 have ig:(upd (upd (upd H2 d (HO.dK (Ay [] (C9 ac)))) p (HO.ins RC dx (AY "numbered_marks" (V.ref d) (AY "own_kind" (V.ref k) [])))) d (HO.cH ob (HO.dK (kM ac)))) d=some (.cH ob (.dK (kM ac))):=U;generalize upd (upd (upd H2 d (HO.dK (Ay [] (C9 ac)))) p (HO.ins RC dx (AY "numbered_marks" (V.ref d) (AY "own_kind" (V.ref k) [])))) d (HO.cH ob (HO.dK (kM ac)))=H3 at s3 gv ig ⊢;clear hla hta n1 q1 s2 am hd hk1 KA1 al s1
 have hIn:∀ps:List (Str×Str),Km ac ps->∀q∈ps,(A4 (kM ac) (Sum.inr q.1:Key)).isSome=true/\(A4 (kM ac) (Sum.inr q.2:Key)).isSome=true/\q.1≠q.2:=λps hps q hq=>by
  obtain⟨a1,a2,a3⟩:=hps.2 q hq;exact⟨by rw[Lp nd a1];rfl,by rw[Lp nd a2];rfl,a3⟩
 refine⟨_,Zj,_,Zj,p,RC,dx,_,_,Zj,gv,RT.cl,RT.nM,SS k d,l1,d,kM ac,ns,Zj,PL1.eP s3 iP,.inr ⟨ob,ig⟩,PN.1,hIn ns PN,λln H4 s4 hln0 jc=>?_⟩;have hp4:=s4 _ _ gv;have nln:ln≠p:=Ne.symm (AJ gv hln0);refine⟨_,Zj,p,RC,dx,_,Zj,hp4,RT.cl,RT.nN,Nat.lt_of_le_of_lt (AV _ _ _) (by show 2<1000;decide),?_⟩;have iP4:Hv p H4:=⟨_,_,_,hp4⟩;have sN4:bY p H4 (upd H4 p (HO.ins RC dx (AY "needs" (V.ref ln) (iM k d)))):=bY.upd (λ_ _ e _=>e);have s5:bY p H (upd H4 p (HO.ins RC dx (AY "needs" (V.ref ln) (iM k d)))):=bY.upd (s3.then s4);have hp5:(upd H4 p (HO.ins RC dx (AY "needs" (V.ref ln) (iM k d)))) p=some (.ins RC dx (iD k d ln)):=U;have hd5:(upd H4 p (HO.ins RC dx (AY "needs" (V.ref ln) (iM k d)))) d=some (.cH ob (.dK (kM ac))):=by rw[AE (Ne.symm gU)];exact s4 _ _ ig
 have cr:=jc.eP sN4 iP4;generalize upd H4 p (HO.ins RC dx (AY "needs" (V.ref ln) (iM k d)))=H5 at sN4 s5 hp5 hd5 cr ⊢;clear sN4 iP4 jc hp4 ig gv s4 s3;refine⟨_,Zj,_,Zj,p,RC,dx,_,_,Zj,hp5,RT.cl,RT.nM,SU k d ln,l2,d,kM ac,bs,Zj,PL2.eP s5 iP,.inr ⟨ob,hd5⟩,PB.1,hIn bs PB,λlb H6 s6 hlb0 hlb=>?_⟩;have hp6:=s6 _ _ hp5;refine⟨_,Zj,p,RC,dx,_,Zj,hp6,RT.cl,RT.nB,Nat.lt_of_le_of_lt (Nat.le_trans (AV _ _ _) (Nat.succ_le_succ (AV _ _ _))) (by show 3<1000;decide),?_⟩;have iP6:Hv p H6:=⟨_,_,_,hp6⟩;have sN6:bY p H6 (upd H6 p (HO.ins RC dx (AY "bars" (V.ref lb) (iD k d ln)))):=bY.upd (λ_ _ e _=>e);have s7:bY p H (upd H6 p (HO.ins RC dx (AY "bars" (V.ref lb) (iD k d ln)))):=bY.upd (s5.then s6);have hp7:(upd H6 p (HO.ins RC dx (AY "bars" (V.ref lb) (iD k d ln)))) p=some (.ins RC dx (jw k d ln lb)):=U;have hd7:(upd H6 p (HO.ins RC dx (AY "bars" (V.ref lb) (iD k d ln)))) d=some (.cH ob (.dK (kM ac))):=by rw[AE (Ne.symm gU)];exact s6 _ _ hd5
 have cu:=(cr.same s6).eP sN6 iP6;have cv:=hlb.eP sN6 iP6;generalize upd H6 p (HO.ins RC dx (AY "bars" (V.ref lb) (iD k d ln)))=H7 at sN6 s7 hp7 hd7 cu cv ⊢;clear sN6 iP6 cr hlb hp6 hd5 hp5 s6 s5;have R4:=QD k d ln lb;refine⟨_,Zj,p,RC,dx,_,_,Zj,hp7,RT.cl,RT.nM,R4.om,d,Zj,.inl ⟨_,.inr ⟨ob,hd7⟩⟩,d,kM ac,Zj,Zj,.inr ⟨ob,hd7⟩,λvw hvw=>?_⟩;have sv:=AF (aA.refl _) hvw (o:=L9 d vw);refine⟨vw,d,kM ac,Zj,U,.inr ⟨ob,sv _ _ hd7⟩,λlv hlv=>?_⟩;have sl:=AF sv hlv (o:=HO.lst ((kM ac).map (·.2)))
 have gG:(kM ac).map (·.2)=A1 (Ab ac):=by
  rw[SR nd];unfold C9 A1;rw[map_map];rfl
 have hm8:(Ab ac).length<=8:=Nat.le_trans (CJ ac) h8;refine⟨lv,Ab ac,Zj,aJ.of (by rw[U,gG]),hm8,λlu H8 s8 hlu=>?_⟩;have s78:=sl.trans s8;have hul:(gy (Ab ac)).length<=256:=by rw[Mc];exact Uv hm8
 have B8:RuB RC H8 p k ac ns bs:=RuB.same s78 ⟨dx,_,d,ln,lb,ob,hp7,R4,hd7,cu,cv⟩;refine⟨_,Zj,lu,Zj,⟨_,aJ.of hlu⟩,Bp (K:=K) (a:=lu) (xs:=A1 (gy (Ab ac))) (λi ys H9=>ys=A1 (((gy (Ab ac)).take i).filter λn=>(CW ac ns bs n).isNone)/\aA H8 H9) ⟨Zj,aA.refl _⟩ (λi ys H9 _ ⟨_,e⟩=>aJ.of (e _ _ hlu)) (λi ys H9 ⟨e,_⟩=>?_) ?_ ?_⟩
 ·have:=length_filter_le (λn=>(CW ac ns bs n).isNone) ((gy (Ab ac)).take i);rw[ZD]at this;rw[e,CS];omega
 ·rintro i v ys H9 hi ⟨rfl,s9⟩;unfold A1 at hi;rw[ZH]at hi;obtain⟨u,hu,rfl⟩:=Z6.mp hi;have hp9:=s9 _ _ (s78 _ _ hp7);have ht:((gy (Ab ac)).take (i+1)).filter (λn=>(CW ac ns bs n).isNone)=((gy (Ab ac)).take i).filter (λn=>(CW ac ns bs n).isNone)++[u].filter (λn=>(CW ac ns bs n).isNone):=by rw[ZG,hu,List.filter_append];rfl
  refine⟨_,rfl,p,dx,_,rfl,hp9,R4.no _ qb,_,rfl,p,k,ac,ns,bs,u,rfl,B8.same s9,nd,PN,PB,λv H10 s10 hv=>⟨_,rfl,?_⟩⟩;cases hf:CW ac ns bs u with
  |none =>
   rw[hf]at hv;have hv':v=.aT:=hv;rw[ZN hv'];refine Af ⟨_,Zj,?_,s9.trans s10⟩;rw[ht,List.filter_cons_of_pos (by rw[hf];rfl),List.filter_nil];unfold A1;rw[Zw];rfl
  |some t =>
   rw[hf]at hv;obtain⟨q',rfl,_⟩:=hv;rw[ZQ (show ¬ V.ref q'=V.aT from λz=>nomatch z)];refine AX ⟨?_,s9.trans s10⟩;rw[ht,List.filter_cons_of_neg (by rw[hf];simp),List.filter_nil,Zv]
 ·rintro ys H9 ⟨rfl,s9⟩ ll jd;rw[CS,ZE];have s79:=s78.trans s9;have hp9:=s79 _ _ hp7;have npl:ll≠p:=Ne.symm (AJ hp9 jd);have sl9:=AF (aA.refl _) jd (o:=HO.lst (A1 (FX ac ns bs)));refine⟨_,Zj,p,RC,dx,_,Zj,by rw[AE (Ne.symm npl)];exact hp9,RT.cl,RT.nL,Nat.lt_of_le_of_lt (Nat.le_trans (AV _ _ _) (Nat.succ_le_succ (Nat.le_trans (AV _ _ _) (Nat.succ_le_succ (AV _ _ _))))) (by show 4<1000;decide),?_⟩;have sE:=s79.trans sl9;have iPE:Hv p (upd H9 ll (HO.lst (A1 (FX ac ns bs)))):=⟨_,_,_,sE _ _ hp7⟩;have sNE:bY p (upd H9 ll (HO.lst (A1 (FX ac ns bs)))) (upd (upd H9 ll (HO.lst (A1 (FX ac ns bs)))) p (HO.ins RC dx (iL k d ln lb ll))):=bY.upd (λ_ _ e _=>e);refine hG _ (bY.upd (s7.then sE)) ⟨dx,_,d,ln,lb,ob,ll,U,Tc k d ln lb ll,?_,(cu.same sE).eP sNE iPE,(cv.same sE).eP sNE iPE,SW k d ln lb ll,?_⟩ λl' ⟨dx',fs',e1,e2⟩=>?_
  ·rw[AE (Ne.symm gU)];exact sE _ _ hd7
  ·rw[AE npl,U];rfl
  ·have e3:some (HO.ins RC dx (iL k d ln lb ll))=some (HO.ins RC dx' fs'):=U.symm.trans e1;have e4:fs'=iL k d ln lb ll:=by cases e3;rfl
   rw[e4,SW]at e2;have e5:l'=ll:=by cases e2;rfl
   rw[e5];cases e6:H ll with
   |none=>rfl
   |some o =>
    have:=s79 _ _ (s7 ll o e6 npl);rw[jd]at this;cases this
end
section
variable {RC cN cV:Vs}
inductive spNthG (RC cN:Vs) (vs:Vr) (H:Hp) (Q:VK) (E:XK):Prop where
 |mk (p k:Vs) (ac:Aa) (ns bs:List (Str×Str)) (n:Nat) (aZ:vs=[.ref p,.int (n:Int)]) (bG:gE RC H p k ac ns bs) (bJ:(FX ac ns bs).length<=n) (cY:Uq H E cN)
theorem Ux:AH ["self", "number"] ["self", "number"] (defScope D2):=bH
theorem Rg (F:aQ K "nth" "Rule.nth" D2 f fd) (B:Bl mg) (RT:Hu K RC) (EN:C4 P w K mg base "BadNumber" cN) (GW:Fn P w K mg base "is_whole" 1 ["thing"] spIsWhole):aB P w K mg base (cE P w) 5 f fd ["self", "number"] (spNthG RC cN):=by
 obtain⟨fW,dW,GW,mW,kW,bW⟩:=GW.ex;obtain⟨fX,dX,MX,GX,bX⟩:=EN.make;have mX:=EN.cls;refine F.n Ux λvs H Q E h=>?_;obtain⟨p,k,ac,ns,bs,n,rfl,⟨dx,fs,d,ln,lb,ob,ll,hp,R,hd,jc,hlb,jd,hl⟩,hn,hU⟩:=h;refine⟨Zj,λae A outer s hr=>?_⟩;have cZ:aD 1 _:=hr.mono qc;have gk:aD 2 _:=hr.mono qc;have rz:=Bv (P:=P) (w:=w) (K:=K) (mg:=mg) (base:=base) (N:=["self", "number"]) (qual := "Rule.nth") (scope:=defScope D2) (f:=f) (cd:=ae) (A:=A) (outer:=outer) (s:=s) (H:=H) (E:=E);have never:∀ {st:List Stmt},eI (Au (cE P w) P w K mg base ["self", "number"] "Rule.nth" (defScope D2) f ae A outer s H E) st (λ_ _ _=>False):=λ{st} _ _ _ _ _ _ z=>z.elim;refine⟨_,AC (Ac (PW.pt (B9 (Ah (Ae (AO GW cZ Zj mW kW bW .nil AL (AA (pv 1) AB)))) (BW (Ah (Cl DD ID AI (pv 1) (AM (Av K Zj) Zj B.len PySem.boot_len (AA (AU (pv 0) Zj) AB))))))) (AD (BH rz Zj MX.cls (BG MX GX gk Zj mX bX .nil AL (AA Al AB)))) AR) never,?_⟩;refine⟨_,Zj,_,Zj,_,Zj,AX ?_⟩;refine⟨_,Zj,_,_,Zj,Zj,_,Zj,?_⟩;rw[ZN (show(0:Int)<=(n:Int) by omega)];refine Af ⟨_,Zj,p,RC,dx,_,_,Zj,hp,RT.cl,RT.nL,jd,ll,_,Zj,.inl (aJ.of hl),_,_,Zj,Zj,_,Zj,?_⟩;rw[ZQ (show ¬ (n:Int)<(((A1 (FX ac ns bs)).length:Nat):Int) by rw[CS];omega)];exact Af (BN (te:=λ_=>tC (.str "")) MX.cls (aA.refl _) hU)
structure Own (C VC RC:Vs) (H:Hp) (p v k:Vs) (n:Nat) (ac:Aa) (r:Str) (ns bs:List (Str×Str)):Prop where
 ru:gE RC H p k ac ns bs
 ka:aE C H k ac r
 asc:jq ac
 hv:dc VC H v k n
inductive spOwnG (C VC RC:Vs) (vs:Vr) (H:Hp) (Q:VK) (_E:XK):Prop where
 |mk (p v k:Vs) (n:Nat) (ac:Aa) (r:Str) (ns bs:List (Str×Str)) (aZ:vs=[.ref p,.ref v]) (bG:Own C VC RC H p v k n ac r ns bs) (bJ:∀H',aA H H'->Q (.int (n:Int)) H')
theorem Uy:AH ["self", "value"] ["self", "value"] (defScope Cq):=bH
theorem Rh (F:aQ K "own_number" "Rule.own_number" Cq f fd) (RT:Hu K RC) (VT:Fx K VC) (neK:W.findIn K (.ref C) "__ne__" = some (some (.builtin "object.__ne__"))) (hm:W.mroIn K C (.type "object")=some true)
  (GE:Mt P w K mg base C "__eq__" 2 ["self", "other"] (spEqK C)) (jl:Mt P w K mg base VC "kind" 1 ["self"] (spVKind VC)) (GVN:Mt P w K mg base VC "number" 1 ["self"] (spVNumber VC)):aB P w K mg base aL 4 f fd ["self", "value"] (spOwnG C VC RC):=by
 obtain⟨fE,dE,GE,mE,bE⟩:=GE.ex;obtain⟨fK,dK,jl,mK,bK⟩:=jl.ex;obtain⟨fN,dN,GVN,mN,bN⟩:=GVN.ex;refine F.m Uy λvs H Q E h=>?_;obtain⟨p,v,k,n,ac,r,ns,bs,rfl,O,q⟩:=h;refine⟨Zj,λae A outer s hr=>?_⟩;have cZ:aD 1 _:=hr.mono qc;obtain⟨dx,fs,d,ln,lb,ob,ll,hp,R,_⟩:=id O.ru;obtain⟨dv,hv⟩:=id O.hv;obtain⟨dk,e1,e2,hk⟩:=O.ka.ins
 refine⟨_,AC (Ac (AW (HR GE hr bE mE neK hm) (An (pv 1) VT.cl mK jl cZ bK .nil AL) (AU (pv 0) Zj) (AT _)) (AD Ap) AR)
  (AD (AN (An (pv 1) VT.cl mN GVN cZ bN .nil AL))),?_⟩
 refine⟨_,Zj,v,dv,_,Zj,hv,Hr _ _ qb qb,v,k,n,Zj,O.hv,_,Zj,p,RC,dx,_,_,Zj,hp,RT.cl,RT.nK,R.ok,?_⟩;refine⟨k,dk,_,k,dk,_,Zj,Zj,hk,hk,k,k,ac,r,Zj,O.ka,O.asc,.inr ⟨ac,r,O.ka,O.asc,λH1 s1=>⟨_,Zj,_,Zj,_,Zj,?_⟩⟩⟩;rw[ZN ⟨rfl,rfl⟩];exact AX ⟨_,Zj,v,dv,_,Zj,s1 _ _ hv,Hr _ _ qb qb,v,k,n,Zj,O.hv.same s1,q _ s1⟩
structure Flt (C VC RC:Vs) (H:Hp) (p v:Vs) (t:Str×Str×Str):Prop where
 ex:∃k n ac r ns bs,Own C VC RC H p v k n ac r ns bs/\(ac.map (·.1)).Nodup/\Km ac ns/\Km ac bs/\ac.length<=60/\n - (n&&&CA (Ab ac))=0/\CW ac ns bs n=some t
inductive spFaultG (C VC RC:Vs) (vs:Vr) (H:Hp) (Q:VK) (_E:XK):Prop where
 |mk (p v:Vs) (t:Str×Str×Str) (aZ:vs=[.ref p,.ref v]) (bG:Flt C VC RC H p v t) (bJ:∀q H',aA H H'->Q (.ref q) H')
theorem scFault:AH ["self", "value", "number"] ["self", "value"] (defScope Em):=bH
theorem N0 (F:aQ K "fault" "Rule.fault" Em f fd) (RT:Hu K RC) (VT:Fx K VC) (GO:Mt P w K mg base RC "own_number" 4 ["self", "value"] (spOwnG C VC RC)) (GVR:Mt P w K mg base VC "rest" 4 ["self"] (spVRest C VC)) (GF:Mt P w K mg base RC "first_fault" 1 ["self", "number"] (spFF RC)) :
  aB P w K mg base aL 5 f fd ["self", "value"] (spFaultG C VC RC):=by
 obtain⟨fO,dO,GO,mO,bO⟩:=GO.ex;obtain⟨fR,dR,GVR,mR,bR⟩:=GVR.ex;obtain⟨fF,dF,GF,mF,bF⟩:=GF.ex;refine F.m scFault λvs H Q E h=>?_;obtain⟨p,v,t,rfl,⟨k,n,ac,r,ns,bs,O,nd,pn,pb,gi,h0,hf⟩,q⟩:=h;refine⟨Zj,λae A outer s hr=>?_⟩;have cZ:aD 1 _:=hr.mono qc;obtain⟨dx,fs,d,ln,lb,ob,ll,hp,R,_⟩:=id O.ru;obtain⟨dv,hv⟩:=id O.hv
 refine⟨_,AC (Am (i:=2) scFault.nd Zj (Or.inl Zj) (BD (pv 0) RT.cl mO GO hr bO .nil AL (AA (pv 1) AB)))
  (AD (AN (Ev (AW Ck (An (pv 1) VT.cl mR GVR hr bR .nil AL) AI (AT _)) (DS (AA Al AB)) (BD (pv 0) RT.cl mF GF cZ bF .nil AL (AA (pv 2) AB))))),?_⟩
 refine⟨_,Zj,p,dx,_,Zj,hp,R.no _ qb,_,Zj,p,v,k,n,ac,r,ns,bs,Zj,O,λH1 s1=>?_⟩;refine⟨_,Zj,v,dv,_,Zj,s1 _ _ hv,Hr _ _ qb qb,v,k,n,ac,r,Zj,O.hv.same s1,O.ka.same s1,gi,λH2 s2=>⟨Zj,_,Zj,?_⟩⟩;have iB:=s1.trans s2;rw[h0];refine AX ⟨_,Zj,p,dx,_,Zj,iB _ _ hp,R.no _ qb,_,Zj,p,k,ac,ns,bs,n,Zj,(O.ru.same iB).b,nd,pn,pb,λx H3 s3 hx=>?_⟩;rw[hf]at hx;obtain⟨q1,rfl,_⟩:=hx;exact q q1 H3 (iB.trans s3)
theorem Td:AH ["self", "value"] ["self", "value"] (defScope Fk):=bH
inductive spLetsG (C VC RC:Vs) (vs:Vr) (H:Hp) (Q:VK) (_E:XK):Prop where
 |mk (p v:Vs) (t:Str×Str×Str) (aZ:vs=[.ref p,.ref v]) (bG:Flt C VC RC H p v t) (bJ:∀H',aA H H'->Q (.bl false) H')
theorem QF (F:aQ K "lets" "Rule.lets" Fk f fd) (RT:Hu K RC) (GFt:Mt P w K mg base RC "fault" 5 ["self", "value"] (spFaultG C VC RC)):aB P w K mg base aL 6 f fd ["self", "value"] (spLetsG C VC RC):=by
 obtain⟨fF,dF,GF,mF,bF⟩:=GFt.ex;refine F.m Td λvs H Q E h=>?_;obtain⟨p,v,t,rfl,FL,q⟩:=h;refine⟨Zj,λae A outer s hr=>?_⟩;obtain⟨k,n,ac,r,ns,bs,O,_⟩:=FL.ex;obtain⟨dx,fs,d,ln,lb,ob,ll,hp,R,_⟩:=id O.ru;refine⟨_,AD (AN (Kq (EZ (BD (pv 0) RT.cl mF GF hr bF .nil AL (AA (pv 1) AB))))),?_⟩;exact⟨_,Zj,p,dx,_,Zj,hp,R.no _ qb,_,Zj,p,v,t,Zj,FL,λq1 H1 s1=>q H1 s1⟩
theorem Ri:AH ["self", "value"] ["self", "value"] (defScope Cr):=bH
inductive spPlaceG (C VC RC cV:Vs) (vs:Vr) (H:Hp) (Q:VK) (E:XK):Prop where
 |mk (p v:Vs) (t:Str×Str×Str) (aZ:vs=[.ref p,.ref v]) (bG:Flt C VC RC H p v t) (bJ:Uq H E cV)
theorem N1 (F:aQ K "place" "Rule.place" Cr f fd) (RT:Hu K RC) (EV:C4 P w K mg base "Never" cV) (GL:Mt P w K mg base RC "lets" 6 ["self", "value"] (spLetsG C VC RC)) :
  aB P w K mg base (cE P w) 7 f fd ["self", "value"] (spPlaceG C VC RC cV):=by
 obtain⟨fL,dL,GL,mL,bL⟩:=GL.ex;obtain⟨fX,dX,MX,GX,bX⟩:=EV.make;have mX:=EV.cls;refine F.n Ri λvs H Q E h=>?_;obtain⟨p,v,t,rfl,FL,hU⟩:=h;refine⟨Zj,λae A outer s hr=>?_⟩;have gk:aD 2 _:=hr.mono qc;obtain⟨k,n,ac,r,ns,bs,O,_⟩:=FL.ex;obtain⟨dx,fs,d,ln,lb,ob,ll,hp,R,_⟩:=id O.ru;have rz:=Bv (P:=P) (w:=w) (K:=K) (mg:=mg) (base:=base) (N:=["self", "value"]) (qual := "Rule.place") (scope:=defScope Cr) (f:=f) (cd:=ae) (A:=A) (outer:=outer) (s:=s) (H:=H) (E:=E);have never:∀ {st:List Stmt},eI (Au (cE P w) P w K mg base ["self", "value"] "Rule.place" (defScope Cr) f ae A outer s H E) st (λ_ _ _=>False):=λ{st} _ _ _ _ _ _ z=>z.elim;refine⟨_,AC (Ac (Ah (Ae (BD (pv 0) RT.cl mL GL hr bL .nil AL (AA (pv 1) AB)))) (AD (BH rz Zj MX.cls (BG MX GX gk Zj mX bX .nil AL (AA Al AB)))) AR) never,?_⟩;exact⟨_,Zj,p,dx,_,Zj,hp,R.no _ qb,_,Zj,p,v,t,Zj,FL,λH1 s1=>⟨_,Zj,Af (BN (te:=λ_=>tC (.str "")) MX.cls s1 hU)⟩⟩
end
end Mk
end
section
namespace Mk
open PySem L2 MK PySem.NumText
structure FunC (K:FG) (x qual:Str) (st:Stmt) (f:Vs) (fd:FuncData) (c:Vs):Prop where
 ex:∃(oc:Value) (od:Option Vs) (kV doc pm:Value) (an:Option Vs) (ct:Value) (gd:Array (Option Value)),
  fd=W.fnOf x qual (defArgs st) (defBody st) (defScope st) .none kV doc pm an (.ref c) ct/\K.lookup f=some ⟨oc,od,.func fd,gd⟩/\W.codeIn K (.ref c) qual=true
theorem FunC.ok {x qual:Str}{st:Stmt}{c:Vs}{N ps:Vp}{k:Nat}{sp:Sp} (F:FunC K x qual st f fd c) (S:AH N ps (defScope st)) (len:∀vs H Q E,sp vs H Q E->vs.length=ps.length)
  (bg:∀(A:Around) (outer:List Env) (s:Vt) (H:Hp) (vs:Vr) (Q:VK) (E:XK),aD k (A.deeper (PyProof.Rows.envOfC qual (defScope st) s.heap.objs.size f (.ref c)))->sp vs H Q E ->
   ∃t,eI (Au aL P w K mg base N qual (defScope st) f (.ref c) A outer s H E).dZ (defBody st) t/\t { nx:=λ_ H'=>Q .aT H',rt:=Q } (Ca N vs) H):aB P w K mg base aL (k+1) f fd ps sp:=by
 obtain⟨oc,od,kV,doc,pm,an,ct,gd,rfl,lk,fJ⟩:=F.ex;refine Lz lk fJ S len λA outer s H vs Q E hr ic=>?_;obtain⟨t,h,q⟩:=bg A outer s H vs Q E hr ic;exact⟨t,h.dZ,q⟩
noncomputable def Rj:Stmt->List Stmt | .For _ _ b _ _=>b |_=>[]
noncomputable def Te:Stmt->Expr | .Assign _ v _=>v |_=>.Name "" ⟨0,0,0,0⟩
noncomputable def AS (i:Nat):Expr->Expr | .Call _ es _ _=>es.getD i (.Name "" ⟨0,0,0,0⟩) |e=>e
noncomputable def Gf (l:List Stmt) (i:Nat):Stmt:=l.getD i (.Pass ⟨0,0,0,0⟩)
noncomputable def Uz (i:Nat):Expr->Expr | .List es _=>es.getD i (.Name "" ⟨0,0,0,0⟩) |e=>e
noncomputable def DA:Stmt->Expr | .Expr e _=>e |_=>.Name "" ⟨0,0,0,0⟩
noncomputable def D9:List Stmt:=Rj (Gf (defBody BV) 0)
noncomputable def N2:Expr:=Uz 0 (Te (Gf D9 4))
noncomputable def N3:Expr:=AS 0 (DA (Gf D9 5))
noncomputable def N4:Expr:=AS 0 (DA (Gf D9 6))
noncomputable def N5:Expr:=AS 0 (DA (Gf D9 7))
noncomputable def N6:Expr:=AS 0 (DA (Gf D9 8))
noncomputable def N7:Expr:=AS 0 (DA (Gf D9 9))
noncomputable def N8:Expr:=AS 0 (DA (Gf D9 10))
noncomputable def N9:Expr:=AS 0 (DA (Gf D9 11))
noncomputable def OA:Expr:=AS 0 (DA (Gf D9 12))
noncomputable def Im:Expr:=AS 0 (DA (Gf D9 13))
noncomputable def Io:Expr:=AS 0 (DA (Gf D9 14))
noncomputable def B4:Expr->Expr | .Lambda _ b _ _=>b |e=>e
noncomputable def Cy:Expr->Arguments | .Lambda a _ _ _=>a |_=>defArgs BV
noncomputable def Ba:Expr->Scope | .Lambda _ _ sc _=>sc |_=>defScope BV
noncomputable def A8:Expr->Pos | .Lambda _ _ _ p=>p |_=>⟨0,0,0,0⟩
noncomputable def LS:List Pos:=[A8 (AS 0 N2),A8 (AS 0 N3),A8 (AS 0 N4),A8 (AS 0 N5),A8 (AS 0 N6),A8 (AS 0 N7),A8 (AS 0 N8),A8 (AS 0 N9),A8 (AS 0 OA),A8 (AS 0 Im),A8 (AS 0 Io)]
theorem EE (j:Nat):∀l,LS[j]?=some l->∀q∈LS,q=l\/(q.line==l.line&&q.col==l.col)=false:=by
 have key:(LS.all λl=>LS.all λq=>decide (q=l) || !(q.line==l.line&&q.col==l.col))=true:=by decide +kernel
 intro l hl q hq;have h1:=List.all_eq_true.mp (List.all_eq_true.mp key l (ZS hl)) q hq;rw[Bool.or_eq_true]at h1;rcases h1 with z |z
 ·exact .inl (ZW z)
 ·exact .inr (by rw[Bool.not_eq_true']at z;exact z)
theorem F2 {α β:Type} [BEq α] [LawfulBEq α] {x:α}{v:β}:∀ {l:List (α×β)},l.lookup x=some v->(x,v)∈l
  | [],h=>by cases h
  | (y,u)::r,h=>by
    rw[ZB]at h;cases e:x==y with
    |true =>
      rw[e]at h;cases h;rw[eq_of_beq e];exact ZK ..
    |false =>
      rw[e]at h;exact ZT _ (F2 h)
theorem Rk {scope:Scope}{cD:List (Str×Vs)} (h:scope.names.all (λp=>!(p.2 == .cell ||p.2 == .free)||(cD.lookup p.1).isSome)=true):∀x,(scope.names.lookup x=some .cell\/scope.names.lookup x=some .free)->∃c,cD.lookup x=some c:=λx hx=>by
 have g:∀k,scope.names.lookup x=some k->(k == .cell ||k == .free)=true->∃c,cD.lookup x=some c:=λk e hk=>by
  have:=List.all_eq_true.mp h _ (F2 e);simp only[hk,Bool.not_true,Bool.false_or]at this;exact Option.isSome_iff_exists.mp this
 rcases hx with z |z
 ·exact g _ z rfl
 ·exact g _ z rfl
noncomputable def qL:Str := "law.<locals>." ++ "<lambda>"
theorem aG.same {P0:Vs}{q:Str}{ls:List Pos} (s:aA H H') (h:aG H P0 q ls):aG H' P0 q ls:=by
 obtain⟨ps,h1,h2,h3⟩:=h;refine⟨ps,s _ _ h1,h2,λx hx=>?_⟩;rcases h3 x hx with z |⟨c,z1,z2⟩
 ·exact .inl z
 ·exact .inr ⟨c,z1,s _ _ z2⟩
theorem aG.sameX {d:Vs}{P0:Vs}{q:Str}{ls:List Pos}{x y:Int} (hd:H d=some (.lst [.int x,.int y])) (s:UY d H H') (h:aG H P0 q ls):aG H' P0 q ls:=by
 obtain⟨ps,h1,h2,h3⟩:=h;refine⟨ps,s.old _ _ h1 (λz=>by subst z;rw[hd]at h1;cases h1),h2,λx hx=>?_⟩;rcases h3 x hx with z |⟨c,z1,z2⟩
 ·exact .inl z
 ·exact .inr ⟨c,z1,s.old _ _ z2 (λz=>by subst z;rw[hd]at z2;cases z2)⟩
def Rt (P0:Vs) (H H':Hp):Prop:=∀b o,H b=some o->b≠P0->H' b=some o
theorem Rt.trans {P0:Vs}{H1 H2:Hp} (a:Rt P0 H H1) (b:Rt P0 H1 H2):Rt P0 H H2:=λc o e h=>b c o (a c o e h) h
theorem Rt.same {P0:Vs} (s:aA H H'):Rt P0 H H':=λb o e _=>s b o e
theorem Rt.cC {P0:Vs} (s:MF P0 H H'):Rt P0 H H':=λb o e h=>s b o h e
noncomputable abbrev eK:Aa:=[("A", 1),("B", 2)]
noncomputable abbrev B7:Vp:=["_law_script", "_law_dice", "_law_met_here", "_law_kind", "_law_more", "_law_other", "_law_rule"]
theorem scLaw:AH B7 ["_law_script"] (defScope BV):=bH
noncomputable def Rl (j:Nat):Str:=if j=1 then "bits" else if j=3 then "name" else "at"
noncomputable def Rm (j m:Nat):V:=if j=0 then .int 1 else if j=1 then .int ((4*m:Nat):Int)else if j=2 then .int 2 else .str "B"
inductive Ex (ec:Nat->Vs) (m j e:Nat) (H:Hp):Prop
 |pl (h:H e=some (Co e (ec j) none)) (hj:4<=j)
 |fl (d:Vs) (h:H e=some (Co e (ec j) (some d))) (hd:H d=some (.xd [(Rl j,Rm j m)])) (hj:j<4)
structure Wo (C RC P0 bd a d k o ru:Vs) (m:Nat) (H:Hp):Prop where
 ka:aE C H k eK "bar"
 kb:aE C H o eK "drop"
 ru:gE RC H ru k eK [] [("A", "B")]
 tab:aG H P0 qL LS
 hb:Rd H bd (.dK CP)
 m0:1<=m/\m<=9
def bQ (C RC P0 bd a d k o ru:Vs) (ec:Nat->Vs) (m j:Nat):TE:=λσ H Q=>(∃x2,σ=[some (.ref a),some (.ref d),x2,some (.ref k),some (.int (m:Int)),some (.ref o),some (.ref ru)])/\Wo C RC P0 bd a d k o ru m H/\∀e H',Rt P0 H H'->aG H' P0 qL LS->Ex ec m j e H'->Q (.ref e) H'
theorem PE.weak {X:Cx}{e:Expr}{t t':TE} (h:PE X e t) (w:∀σ H Q,t' σ H Q->t σ H Q):PE X e t':=λaa s σ H Q I q=>h aa s σ H Q I (w σ H Q q)
section
variable {RC cM cR c P0 bd a d k o ru:Vs}{ec:Nat->Vs}{m:Nat}
theorem B5 {X:Cx}{Nl:Vp}{ix:List Nat}{scope:Scope}{cD:List (Str×Vs)} (h1:ix.length=Nl.length)
  (h2:(List.range Nl.length).all (λi=>match Nl[i]?,ix[i]? with |some x,some j=>decide (X.N[j]?=some x)&&decide (X.env.scope.names.lookup x=some .cell)&&decide (scope.names.lookup x=some .free) |_,_=>false)=true)
  (h3:∀p∈cD,X.env.cells.lookup p.1=some p.2) (h4:scope.names.all (λp=>!(p.2 == .cell ||p.2 == .free)||(cD.lookup p.1).isSome)=true) (h5:∀x,X.fn x=true):LamN X Nl ix scope cD:=by
 refine⟨h1,λi x h=>?_,λx c h=>h3 _ (F2 h),Rk h4,h5⟩;have hi:i<Nl.length:=(Z8.mp h).1;have:=List.all_eq_true.mp h2 i (mem_range.mpr hi);rw[h]at this;cases e:ix[i]? with
 |none=>rw[e]at this;cases this
 |some j =>
  rw[e]at this;simp only[Bool.and_eq_true,decide_eq_true_eq]at this;exact⟨j,Zj,this.1.1,this.1.2,this.2⟩
structure Ecs (K:FG) (ec:Nat->Vs) (cM:Vs):Prop where
 cx:∀j,j<11->BF K (ec j)=true
 mr:∀j,j<11->(E8 K (ec j)).contains (.ref cM)=true
theorem Jh {Q:VK}{j:Nat} (ZC:Ecs K ec cM) (hj:j<4) (h:∀e H',aA H H'->Ex ec m j e H'->Q (.ref e) H'):iG (Rl j) H (RE K cM Q) (ec j) (Rm j m):=λe d H' s _ _ _ he hd=>⟨ec j,rfl,ZC.cx j qe,ZC.mr j qe,λe' he'=>h e' H' s (.fl d he' hd hj)⟩
theorem Hw {Q:VK}{j:Nat} (ZC:Ecs K ec cM) (hj:4<=j) (hj2:j<11) (h:∀e H',aA H H'->Ex ec m j e H'->Q (.ref e) H'):Uq H (RE K cM Q) (ec j):=λe H' s _ he=>⟨ec j,rfl,ZC.cx j hj2,ZC.mr j hj2,λe' he'=>h e' H' s (.pl he' hj)⟩
theorem aE.kp {p:Vs}{r:Str} (s:∀b o,H b=some o->(∀ps,o≠ .fb ps)->H' b=some o) (h:aE C H p ac r):aE C H' p ac r:=by
 obtain⟨dx,d1,o1,d2,o2,a,b,c⟩:=h.ex;exact⟨⟨dx,d1,o1,d2,o2,s _ _ a (λ_ z=>nomatch z),s _ _ b (λ_ z=>nomatch z),s _ _ c (λ_ z=>nomatch z)⟩⟩
theorem eF.kp {l:Vs}{ps:List (Str×Str)} (s:∀b o,H b=some o->(∀ps,o≠ .fb ps)->H' b=some o) (h:eF H l ps):eF H' l ps:=by
 obtain⟨as,h1,h2⟩:=h;exact⟨as,s _ _ h1 (λ_ z=>nomatch z),aK.eh (λb xs e=>s _ _ e (λ_ z=>nomatch z)) h2⟩
theorem Wo.keep (W:Wo C RC P0 bd a d k o ru m H) (s:Rt P0 H H'):∀b o,H b=some o->(∀ps,o≠ .fb ps)->H' b=some o:=λb o e n=>s b o e λz=>by
 obtain⟨ps,hp,_⟩:=W.tab;subst z;rw[hp]at e;cases e;exact n _ rfl
theorem Wo.go (W:Wo C RC P0 bd a d k o ru m H) (s:Rt P0 H H') (ht:aG H' P0 qL LS):Wo C RC P0 bd a d k o ru m H':=by
 have kp:=W.keep s;refine⟨W.ka.kp kp,W.kb.kp kp,?_,ht,?_,W.m0⟩
 ·obtain⟨dx,fs,d,ln,lb,ob,ll,h1,R,h2,h3,h4,h5,h6⟩:=W.ru;exact⟨dx,fs,d,ln,lb,ob,ll,kp _ _ h1 (λ_ z=>nomatch z),R,kp _ _ h2 (λ_ z=>nomatch z),h3.kp kp,h4.kp kp,h5,kp _ _ h6 (λ_ z=>nomatch z)⟩
 ·rcases W.hb with h |⟨o,h⟩
  ·exact .inl (kp _ _ h (λ_ z=>nomatch z))
  ·exact .inr ⟨o,kp _ _ h (λ_ z=>nomatch z)⟩
theorem Mf (x y:Str):(x++y).cps.toList=x.cps.toList++y.cps.toList:=by
 show(x.cps++y.cps).toList=_;exact Array.toList_append
theorem Ro (x y:Str):(x++y).length=x.length+y.length:=by rw[←Ax,Mf,ZJ,Ax,Ax]
theorem Mg:jq eK:=by
 intro p hp;simp only[mem_cons,not_mem_nil,or_false]at hp;rcases hp with rfl |rfl <;> decide +kernel
theorem Tf:BY eK=[1,2]:=by
 unfold BY;rw[show(AZ eK).map (·.1)=[1,2] by decide +kernel];exact List.mergeSort_of_pairwise qc
theorem Dk:Ab eK=[1,2]:=by
 unfold Ab;rw[Tf];decide
theorem U0:Km eK [("A", "B")]:=by
 refine⟨qc,λp hp=>?_⟩;obtain rfl:=mem_singleton.mp hp;unfold Et;rw[Dk];decide +kernel
theorem Tg:FX eK [] [("A", "B")]=[0,1,2]:=by
 unfold FX;rw[Dk];decide +kernel
theorem U1:∀m,m<10->4*m - (4*m&&&kn eK)=4*m:=by decide +kernel
section
variable {f0 jG:Vs}{jH:FuncData}{A:Around}{outer:List Env}{s:Vt}{E:XK}
 (FT:aQ K "_law_met" "_law_met" Cf jG jH) (fj:mg "_law_met" = some (.ref jG)) (fq:Binds K jH ["_law_deed"] []) (xm:BF K cM=true) (mM:mg "MarkError" = some (.ref cM)) (ZC:Ecs K ec cM) (LC:Oy (Au aL P w K mg base B7 "law" (defScope BV) f0 (.ref c) A outer s H E).dZ c P0) (hr:aD 10 (Au aL P w K mg base B7 "law" (defScope BV) f0 (.ref c) A outer s H E).dZ.A)
include FT fj fq xm mM ZC LC hr
theorem Ti {fX:Vs}{dX:FuncData} (GX:aB P w K mg base (cE P w) 6 fX dX ["kind", "number"] (spMadeG C (ec 1))) (mX:mg "made" = some (.ref fX)) (kX:W.keepIn K (.ref fX)=true) (bX:Binds K dX ["kind", "number"] []):PE (Au aL P w K mg base B7 "law" (defScope BV) f0 (.ref c) A outer s H E).dZ N3 (bQ C RC P0 bd a d k o ru ec m 1):=by
 refine PE.weak (Cw (X:=(Au aL P w K mg base B7 "law" (defScope BV) f0 (.ref c) A outer s H E).dZ) (params:=Cy (AS 0 N3)) (body:=B4 (AS 0 N3)) (scope:=Ba (AS 0 N3)) (Nl:=["_law_kind", "_law_more"]) (ix:=[3,4]) (k:=8) (cG:=A8 (AS 0 N3)) (ls:=LS) FT xm mM hr rfl fj FT.kp fq LC (ZS (i:=1) rfl) (EE 1 _ rfl) rfl rfl (B5 rfl qd (by intro p hp;simp only[mem_cons,not_mem_nil,or_false]at hp;rcases hp with rfl |rfl <;> kernel_rfl) qd (λ_=>rfl)) (λ_ _ _=>rfl) rfl rfl rfl qb
    (tl:=λE=>HD (spMadeG C (ec 1)) [] E (As (C5 0) (As (il (rI CMul λi j=>.int (i*j)) (tC (.int 4)) (C5 1)) B6)))
    (λlf c' A' cI s' H' E hr=>AO GX (hr.mono qc) rfl mX kX bX .nil Dl (AA (pv 0) (AA (Ak Fb AI (pv 1)) AB)))) ?_
 rintro σ H Q ⟨⟨x2,rfl⟩,W,q⟩;refine⟨W.tab,λH1 sB hT=>?_⟩;have W1:=W.go (Rt.cC sB) hT;have e4:=U1 m (by have:=W.m0;omega);have eV:(V.int ((4*m - (4*m&&&kn eK):Nat):Int))=Rm 1 m:=by rw[e4];rfl
 refine⟨_,Zj,_,Zj,_,_,Zj,Zj,?_,k,eK,4*m,?_,W1.ka,by have:=W.m0;omega,by rw[e4];have:=W.m0;omega,?_⟩
 ·exact .inl ⟨qc,qc⟩
 ·rw[Int.natCast_mul];rfl
 ·rw[eV];exact Jh (j:=1) ZC qc λe H' s' x=>q e H' ((Rt.cC sB).trans (Rt.same s')) (aG.same s' hT) x
theorem Tj (RT:Hu K RC) {fX:Vs}{dX:FuncData} (GX:aB P w K mg base (cE P w) 5 fX dX ["self", "number"] (spNthG RC (ec 6))) (mX:Fe K RC "nth" fX) (bX:Binds K dX ["self", "number"] []):PE (Au aL P w K mg base B7 "law" (defScope BV) f0 (.ref c) A outer s H E).dZ N8 (bQ C RC P0 bd a d k o ru ec m 6):=by
 refine PE.weak (Cw (X:=(Au aL P w K mg base B7 "law" (defScope BV) f0 (.ref c) A outer s H E).dZ) (params:=Cy (AS 0 N8)) (body:=B4 (AS 0 N8)) (scope:=Ba (AS 0 N8)) (Nl:=["_law_more", "_law_rule"]) (ix:=[4,6]) (k:=8) (cG:=A8 (AS 0 N8)) (ls:=LS) FT xm mM hr rfl fj FT.kp fq LC (ZS (i:=6) rfl) (EE 6 _ rfl) rfl rfl (B5 rfl qd (by intro p hp;simp only[mem_cons,not_mem_nil,or_false]at hp;rcases hp with rfl |rfl <;> kernel_rfl) qd (λ_=>rfl)) (λ_ _ _=>rfl) rfl rfl rfl qb
    (tl:=λE=>Jn RC "nth" (spNthG RC (ec 6)) [] E (C5 1) (As (il (gY λi j=>.int (i+j)) (tC (.int 2)) (C5 0)) B6))
    (λlf c' A' cI s' H' E hr=>BD (pv 1) RT.cl mX GX (hr.mono qc) bX .nil Dl (AA (Ak CT AI (pv 0)) AB))) ?_
 rintro σ H Q ⟨⟨x2,rfl⟩,W,q⟩;refine⟨W.tab,λH1 sB hT=>?_⟩;have W1:=W.go (Rt.cC sB) hT;have fin:∀ {H2:Hp},Rt P0 H1 H2->aG H2 P0 qL LS->∀e H',aA H2 H'->Ex ec m 6 e H'->Q (.ref e) H':=λr t e H' s' x=>q e H' (((Rt.cC sB).trans r).trans (Rt.same s')) (aG.same s' t) x;obtain⟨dx,fs,d',ln,lb,ob,ll,hp,R,_⟩:=id W1.ru;refine⟨_,Zj,ru,dx,_,Zj,hp,R.no _ qb,_,Zj,_,_,Zj,Zj,ru,k,eK,[],[("A", "B")],2+m,?_,W1.ru,?_,Hw (j:=6) ZC qc qc (fin (λ_ _ e _=>e) hT)⟩
 ·rw[Int.natCast_add];rfl
 ·rw[Tg];have:=W.m0;show 3<=2+m;omega
theorem Tk {fX:Vs}{dX:FuncData} (GX:aB P w K mg base (cE P w) 7 fX dX ["kind", "text"] (spReadG bd (ec 2))) (mX:mg "read" = some (.ref fX)) (kX:W.keepIn K (.ref fX)=true) (bX:Binds K dX ["kind", "text"] []):PE (Au aL P w K mg base B7 "law" (defScope BV) f0 (.ref c) A outer s H E).dZ N4 (bQ C RC P0 bd a d k o ru ec m 2):=by
 refine PE.weak (Cw (X:=(Au aL P w K mg base B7 "law" (defScope BV) f0 (.ref c) A outer s H E).dZ) (params:=Cy (AS 0 N4)) (body:=B4 (AS 0 N4)) (scope:=Ba (AS 0 N4)) (Nl:=["_law_kind", "_law_more"]) (ix:=[3,4]) (k:=8) (cG:=A8 (AS 0 N4)) (ls:=LS) FT xm mM hr rfl fj FT.kp fq LC (ZS (i:=2) rfl) (EE 2 _ rfl) rfl rfl (B5 rfl qd (by intro p hp;simp only[mem_cons,not_mem_nil,or_false]at hp;rcases hp with rfl |rfl <;> kernel_rfl) qd (λ_=>rfl)) (λ_ _ _=>rfl) rfl rfl rfl qb
    (tl:=λE=>HD (spReadG bd (ec 2)) [] E (As (C5 0) (As (il (λx y H Q=>∃i j,x=.str i/\y=.str j/\i.length+j.length<=sizeLine/\Q (.str (i++j)) H) (tC (.str "A|")) (il (λx y H Q=>∃(c:Nat) (n:Int),x=.str ⟨#[c]⟩/\y=.int n/\1<=n/\n<=20/\∀z:Str,z.cps.toList=replicate n.toNat c->Q (.str z) H) (tC (.str "a")) (C5 1))) B6)))
    (λlf c' A' cI s' H' E hr=>g9.h (JO GX (hr.mono qc) rfl mX kX bX .nil Dl (A6 (.mk (pv 0)) (A6 (HY Kv (.mk Al) (HY JN (.mk Al) (.mk (pv 1)))) A5))))) ?_
 rintro σ H Q ⟨⟨x2,rfl⟩,W,q⟩;refine⟨W.tab,λH1 sB hT=>?_⟩;have W1:=W.go (Rt.cC sB) hT;have fin:∀ {H2:Hp},Rt P0 H1 H2->aG H2 P0 qL LS->∀e H',aA H2 H'->Ex ec m 2 e H'->Q (.ref e) H':=λr t e H' s' x=>q e H' (((Rt.cC sB).trans r).trans (Rt.same s')) (aG.same s' t) x;have m0:=W.m0;refine⟨_,Zj,_,Zj,97,_,qb,Zj,qe,qe,λz hz=>?_⟩;obtain⟨m',rfl⟩:∃m',m=m'+1:=⟨m - 1,qe⟩;have hz2:z.cps.toList=97::replicate m' 97:=by rw[hz,Int.toNat_natCast,replicate_succ]
 have hzl:z.length=m'+1:=by rw[←Ax,hz2,length_cons,length_replicate]
 have eN:("A|" : Str).length=2:=by decide +kernel
 have ec2:("A|" ++ z:Str).cps.toList=65::124::97::replicate m' 97:=by rw[Mf,hz2,show("A|" : Str).cps.toList=[65,124] by decide +kernel];rfl
 refine⟨_,_,Zj,Zj,Nat.le_of_lt (AQ (by rw[eN,hzl];omega)),.ref k,_,2,Zj,?_,?_,Ut ec2,W1.hb,Jh (j:=2) ZC qc (fin (λ_ _ e _=>e) hT)⟩
 ·rw[←Array.all_toList,ec2];simp
 ·rw[Ro,eN,hzl];omega
theorem Tl {fX:Vs}{dX:FuncData} (GX:aB P w K mg base (cE P w) 6 fX dX ["kind", "names"] (spValueG C (ec 5))) (mX:mg "value_of" = some (.ref fX)) (kX:W.keepIn K (.ref fX)=true) (bX:Binds K dX ["kind", "names"] []):PE (Au aL P w K mg base B7 "law" (defScope BV) f0 (.ref c) A outer s H E).dZ N7 (bQ C RC P0 bd a d k o ru ec m 5):=by
 refine PE.weak (Cw (X:=(Au aL P w K mg base B7 "law" (defScope BV) f0 (.ref c) A outer s H E).dZ) (params:=Cy (AS 0 N7)) (body:=B4 (AS 0 N7)) (scope:=Ba (AS 0 N7)) (Nl:=["_law_kind", "_law_more"]) (ix:=[3,4]) (k:=8) (cG:=A8 (AS 0 N7)) (ls:=LS) FT xm mM hr rfl fj FT.kp fq LC (ZS (i:=5) rfl) (EE 5 _ rfl) rfl rfl (B5 rfl qd (by intro p hp;simp only[mem_cons,not_mem_nil,or_false]at hp;rcases hp with rfl |rfl <;> kernel_rfl) qd (λ_=>rfl)) (λ_ _ _=>rfl) rfl rfl rfl qb
    (tl:=λE=>HD (spValueG C (ec 5)) [] E (As (C5 0) (As (QV (As (il (λx y H Q=>∃(c:Nat) (n:Int),x=.str ⟨#[c]⟩/\y=.int n/\1<=n/\n<=20/\∀z:Str,z.cps.toList=replicate n.toNat c->Q (.str z) H) (tC (.str "A")) (il (gY λi j=>.int (i+j)) (tC (.int 1)) (C5 1))) B6)) B6)))
    (λlf c' A' cI s' H' E hr=>g9.h (JO GX (hr.mono qc) rfl mX kX bX .nil Dl (A6 (.mk (pv 0)) (A6 (EX (A6 (HY JN (.mk Al) (HY CT (.mk AI) (.mk (pv 1)))) A5)) A5))))) ?_
 rintro σ H Q ⟨⟨x2,rfl⟩,W,q⟩;refine⟨W.tab,λH1 sB hT=>?_⟩;have W1:=W.go (Rt.cC sB) hT;have fin:∀ {H2:Hp},Rt P0 H1 H2->aG H2 P0 qL LS->∀e H',aA H2 H'->Ex ec m 5 e H'->Q (.ref e) H':=λr t e H' s' x=>q e H' (((Rt.cC sB).trans r).trans (Rt.same s')) (aG.same s' t) x;have m0:=W.m0;refine⟨_,Zj,_,Zj,_,_,Zj,Zj,65,_,qb,Zj,qe,qe,λz hz=>⟨i9,λl hl=>?_⟩⟩;have s2:=AF (aA.refl _) hl (o:=HO.lst [V.str z]);refine⟨k,l,eK, "bar", z,Zj,W1.ka.same s2,U,λhm=>?_,Hw (j:=5) ZC qc qc (fin (Rt.same s2) (aG.same s2 hT))⟩
 have hzl:z.length=m+1:=by
  rw[←Ax,hz,length_replicate];omega
 have:z = "A" \/ z = "B" := by simpa using hm
 rcases this with e |e <;> (rw[e]at hzl;exact absurd (show 1=m+1 from hzl) qe)
theorem Tm {fV:Vs}{dV:FuncData} (MV:Mk K VC fV) (GV:aB P w K mg base aL 4 fV dV ["self", "kind", "number"] (c7 C VC)) (mV:mg "Value" = some (.ref VC)) (bV:Binds K dV ["self", "kind", "number"] []) {fX:Vs}{dX:FuncData} (GX:aB P w K mg base (cE P w) 6 fX dX ["one", "other"] (de C VC (ec 7))) (mX:mg "union" = some (.ref fX)) (kX:W.keepIn K (.ref fX)=true) (bX:Binds K dX ["one", "other"] []):PE (Au aL P w K mg base B7 "law" (defScope BV) f0 (.ref c) A outer s H E).dZ N9 (bQ C RC P0 bd a d k o ru ec m 7):=by
 refine PE.weak (Cw (X:=(Au aL P w K mg base B7 "law" (defScope BV) f0 (.ref c) A outer s H E).dZ) (params:=Cy (AS 0 N9)) (body:=B4 (AS 0 N9)) (scope:=Ba (AS 0 N9)) (Nl:=["_law_kind", "_law_other"]) (ix:=[3,5]) (k:=8) (cG:=A8 (AS 0 N9)) (ls:=LS) FT xm mM hr rfl fj FT.kp fq LC (ZS (i:=7) rfl) (EE 7 _ rfl) rfl rfl (B5 rfl qd (by intro p hp;simp only[mem_cons,not_mem_nil,or_false]at hp;rcases hp with rfl |rfl <;> kernel_rfl) qd (λ_=>rfl)) (λ_ _ _=>rfl) rfl rfl rfl qb
    (tl:=λE=>HD (de C VC (ec 7)) [] E (As (HE VC (c7 C VC) [] E0 (As (C5 0) (As (tC (.int 1)) B6))) (As (HE VC (c7 C VC) [] E0 (As (C5 1) (As (tC (.int 1)) B6))) B6)))
    (λlf c' A' cI s' H' E hr=>AO GX (hr.mono qc) rfl mX kX bX .nil Dl (AA (Bt MV GV (hr.mono qc) rfl mV bV .nil AL (AA (pv 0) (AA AI AB))) (AA (Bt MV GV (hr.mono qc) rfl mV bV .nil AL (AA (pv 1) (AA AI AB))) AB)))) ?_
 rintro σ H Q ⟨⟨x2,rfl⟩,W,q⟩;refine⟨W.tab,λH1 sB hT=>?_⟩;have W1:=W.go (Rt.cC sB) hT;have fin:∀ {H2:Hp},Rt P0 H1 H2->aG H2 P0 qL LS->∀e H',aA H2 H'->Ex ec m 7 e H'->Q (.ref e) H':=λr t e H' s' x=>q e H' (((Rt.cC sB).trans r).trans (Rt.same s')) (aG.same s' t) x;refine⟨_,Zj,?_⟩;intro q1 d1 jA iF hn1;have sN:=BK (D:=VC) jA iF hn1;refine⟨q1,d1,k,eK, "bar", 1,Zj,U,W1.ka.same sN,qc,.inr qb,λH2 sd V1=>⟨Zj,?_⟩⟩;have s2:=BB sN jA sd;refine⟨_,Zj,?_⟩;intro q2 d2 hq2 hd2 hn2;have sM:=BK (D:=VC) hq2 hd2 hn2;refine⟨q2,d2,o,eK, "drop", 1,Zj,U,(W1.kb.same s2).same sM,qc,.inr qb,λH3 se V2=>⟨Zj,?_⟩⟩;have s3:=BB sM hq2 se;have ju:=s2.trans s3;exact⟨q1,q2,k,o,1,1,eK,eK, "bar", "drop", Zj,V1.same s3,V2,W1.ka.same ju,W1.kb.same ju,Mg,Mg,qb,Hw (j:=7) ZC qc qc (fin (Rt.same ju) (aG.same ju hT))⟩
theorem Rp (RT:Hu K RC) {fV:Vs}{dV:FuncData} (MV:Mk K VC fV) (GV:aB P w K mg base aL 4 fV dV ["self", "kind", "number"] (c7 C VC)) (mV:mg "Value" = some (.ref VC)) (bV:Binds K dV ["self", "kind", "number"] []) {fX:Vs}{dX:FuncData} (GX:aB P w K mg base (cE P w) 7 fX dX ["self", "value"] (spPlaceG C VC RC (ec 9))) (mX:Fe K RC "place" fX) (bX:Binds K dX ["self", "value"] []):PE (Au aL P w K mg base B7 "law" (defScope BV) f0 (.ref c) A outer s H E).dZ Im (bQ C RC P0 bd a d k o ru ec m 9):=by
 refine PE.weak (Cw (X:=(Au aL P w K mg base B7 "law" (defScope BV) f0 (.ref c) A outer s H E).dZ) (params:=Cy (AS 0 Im)) (body:=B4 (AS 0 Im)) (scope:=Ba (AS 0 Im)) (Nl:=["_law_kind", "_law_rule"]) (ix:=[3,6]) (k:=8) (cG:=A8 (AS 0 Im)) (ls:=LS) FT xm mM hr rfl fj FT.kp fq LC (ZS (i:=9) rfl) (EE 9 _ rfl) rfl rfl (B5 rfl qd (by intro p hp;simp only[mem_cons,not_mem_nil,or_false]at hp;rcases hp with rfl |rfl <;> kernel_rfl) qd (λ_=>rfl)) (λ_ _ _=>rfl) rfl rfl rfl qb
    (tl:=λE=>Jn RC "place" (spPlaceG C VC RC (ec 9)) [] E (C5 1) (As (HE VC (c7 C VC) [] E0 (As (C5 0) (As (tC (.int 3)) B6))) B6))
    (λlf c' A' cI s' H' E hr=>BD (pv 1) RT.cl mX GX (hr.mono qc) bX .nil Dl (AA (Bt MV GV (hr.mono qc) rfl mV bV .nil AL (AA (pv 0) (AA AI AB))) AB))) ?_
 rintro σ H Q ⟨⟨x2,rfl⟩,W,q⟩;refine⟨W.tab,λH1 sB hT=>?_⟩;have W1:=W.go (Rt.cC sB) hT;have fin:∀ {H2:Hp},Rt P0 H1 H2->aG H2 P0 qL LS->∀e H',aA H2 H'->Ex ec m 9 e H'->Q (.ref e) H':=λr t e H' s' x=>q e H' (((Rt.cC sB).trans r).trans (Rt.same s')) (aG.same s' t) x;obtain⟨dx,fs,d',ln,lb,ob,ll,hp,R,_⟩:=id W1.ru;refine⟨_,Zj,ru,dx,_,Zj,hp,R.no _ qb,_,Zj,?_⟩;intro q1 d1 jA iF hn1;have sN:=BK (D:=VC) jA iF hn1;refine⟨q1,d1,k,eK, "bar", 3,Zj,U,W1.ka.same sN,qc,.inr qb,λH2 sd V1=>⟨Zj,?_⟩⟩;have s2:=BB sN jA sd;refine⟨ru,q1,("bar", "A", "B"),Zj,⟨k,3,eK, "bar", [],[("A", "B")],⟨W1.ru.same s2,W1.ka.same s2,Mg,V1⟩,qb,?_,?_,qc,?_,qb⟩,Hw (j:=9) ZC qc qc (fin (Rt.same s2) (aG.same s2 hT))⟩
 ·exact⟨qc,λp hp=>by cases hp⟩
 ·exact U0
 ·rw[Dk];decide +kernel
theorem Tn {fI:Vs}{dI:FuncData}{ds:Vq} (MI:Mk K C fI) (GI:aB P w K mg base (cE P w) 6 fI dI ["self", "rows", "rest"] (spInitG C (ec 0))) (mC:mg "Kind" = some (.ref C)) (bI:Binds K dI ["self", "rows", "rest"] ds) (vI:Vals [.str "bar"] ds):PE (Au aL P w K mg base B7 "law" (defScope BV) f0 (.ref c) A outer s H E).dZ N2 (bQ C RC P0 bd a d k o ru ec m 0):=by
 refine PE.weak (Cw (X:=(Au aL P w K mg base B7 "law" (defScope BV) f0 (.ref c) A outer s H E).dZ) (params:=Cy (AS 0 N2)) (body:=B4 (AS 0 N2)) (scope:=Ba (AS 0 N2)) (Nl:=["_law_more"]) (ix:=[4]) (k:=8) (cG:=A8 (AS 0 N2)) (ls:=LS) FT xm mM hr rfl fj FT.kp fq LC (ZS (i:=0) rfl) (EE 0 _ rfl) rfl rfl (B5 rfl qd (by intro p hp;simp only[mem_cons,not_mem_nil,or_false]at hp;rcases hp with rfl <;> kernel_rfl) qd (λ_=>rfl)) (λ_ _ _=>rfl) rfl rfl rfl qb
    (tl:=λE=>HE C (spInitG C (ec 0)) [.str "bar"] E (As (QV (As (QU (As (tC (.str "A")) (As (tC (.int 1)) B6))) (As (QU (As (tC (.str "B")) (As (il (gY λi j=>.int (i+j)) (il (rI QR λi j=>.int (i ^ j.toNat)) (tC (.int 2)) (tC (.int 20))) (C5 0)) B6))) B6))) B6))
    (λlf c' A' cI s' H' E hr=>Bt MI GI (hr.mono qc) rfl mC bI vI Dl (gH.h (A6 (EX (Dx (Bw (EW (KH A5))) (Dx (Bw (EW (A6 (HY CT (HY OJ (.mk AI) (.mk AI)) (.mk (pv 0))) A5))) A5))) A5)))) ?_
 rintro σ H Q ⟨⟨x2,rfl⟩,W,q⟩;refine⟨W.tab,λH1 sB hT=>?_⟩;have W1:=W.go (Rt.cC sB) hT;have fin:∀ {H2:Hp},Rt P0 H1 H2->aG H2 P0 qL LS->∀e H',aA H2 H'->Ex ec m 0 e H'->Q (.ref e) H':=λr t e H' s' x=>q e H' (((Rt.cC sB).trans r).trans (Rt.same s')) (aG.same s' t) x;refine⟨fg,λb1 h1=>⟨_,_,Zj,Zj,⟨qc,qc,qc⟩,_,Zj,_,_,Zj,Zj,fg,λb2 h2=>⟨fg,λl hl=>?_⟩⟩⟩;have sa:=AF (aA.refl _) h1 (o:=HO.tup [V.str "A", V.int 1]);have sb:=AF (aA.refl _) h2 (o:=HO.tup [V.str "B", V.int ((2:Int) ^ (20:Int).toNat+(m:Int))]);have sc:=AF (aA.refl _) hl (o:=HO.lst [V.ref b1,V.ref b2]);intro p dx hp ax aw;have sN:=BK (D:=C) hp ax aw;have st:=((sa.trans sb).trans sc).trans sN;have m0:=W.m0;refine⟨p,dx,l,1048576+m,_,Zj,U,⟨⟨b1,b2,sN _ _ U,sN _ _ (sc _ _ (sb _ _ U)),?_⟩,qe⟩,Jh (j:=0) ZC qc (fin (Rt.same st) (aG.same st hT))⟩;have:=sN _ _ (sc _ _ (U (H:=upd H1 b1 (HO.tup [V.str "A", V.int 1])) (a:=b2) (o:=HO.tup [V.str "B", V.int ((2:Int) ^ (20:Int).toNat+(m:Int))])));rw[this,show(2:Int) ^ (20:Int).toNat=1048576 by decide,Int.natCast_add];rfl
theorem Rr {BC:Vs} (BT:Pw K BC) {fB fX:Vs}{dB dX:FuncData} (MB:Mk K BC fB) (GB:aB P w K mg base aL 1 fB dB ["self", "kind"] (spBInit BC)) (mB:mg "Book" = some (.ref BC)) (bB:Binds K dB ["self", "kind"] []) (GX:aB P w K mg base (cE P w) 3 fX dX ["self"] (spTbG BC (ec 10))) (mX:Fe K BC "take_back" fX) (bX:Binds K dX ["self"] []):PE (Au aL P w K mg base B7 "law" (defScope BV) f0 (.ref c) A outer s H E).dZ Io (bQ C RC P0 bd a d k o ru ec m 10):=by
 refine PE.weak (Cw (X:=(Au aL P w K mg base B7 "law" (defScope BV) f0 (.ref c) A outer s H E).dZ) (params:=Cy (AS 0 Io)) (body:=B4 (AS 0 Io)) (scope:=Ba (AS 0 Io)) (Nl:=["_law_kind"]) (ix:=[3]) (k:=8) (cG:=A8 (AS 0 Io)) (ls:=LS) FT xm mM hr rfl fj FT.kp fq LC (ZS (i:=10) rfl) (EE 10 _ rfl) rfl rfl (B5 rfl qd (by intro p hp;simp only[mem_cons,not_mem_nil,or_false]at hp;rcases hp with rfl <;> kernel_rfl) qd (λ_=>rfl)) (λ_ _ _=>rfl) rfl rfl rfl qb
    (tl:=λE=>Jn BC "take_back" (spTbG BC (ec 10)) [] E (HE BC (spBInit BC) [] E0 (As (C5 0) B6)) B6)
    (λlf c' A' cI s' H' E hr=>An (Bt MB GB (hr.mono qc) rfl mB bB .nil AL (AA (pv 0) AB)) BT.cl mX GX (hr.mono qc) bX .nil Dl)) ?_
 rintro σ H Q ⟨⟨x2,rfl⟩,W,q⟩;refine⟨W.tab,λH1 sB hT=>?_⟩;have W1:=W.go (Rt.cC sB) hT;have fin:∀ {H2:Hp},Rt P0 H1 H2->aG H2 P0 qL LS->∀e H',aA H2 H'->Ex ec m 10 e H'->Q (.ref e) H':=λr t e H' s' x=>q e H' (((Rt.cC sB).trans r).trans (Rt.same s')) (aG.same s' t) x;refine⟨_,Zj,?_⟩;intro p dx hp ax aw;have sN:=BK (D:=BC) hp ax aw;refine⟨p,dx,.ref k,Zj,U,λd1 l H2 sd h2 h3=>⟨Zj,?_⟩⟩;have st:=BB sN hp sd;refine⟨p,dx,_,Zj,h2,?_,p,dx,d1,l,.ref k,Zj,h2,h3,Hw (j:=10) ZC qc qc (fin (Rt.same st) (aG.same st hT))⟩;unfold Ka;rw[AG,Zs qb,AG,Zs qb,AG,Zs qb];rfl
end
end
noncomputable def gV3 (vs zs:Vr):Vr:=match vs,zs with | [a,b],[c]=>[a,b,c] |_,_=>[]
noncomputable def gU3 (us ws:Vq):Vq:=match us,ws with | [a,b],[c]=>[a,b,c] |_,_=>[]
theorem Rs:∀m:Nat,m<10->(toString ((m:Nat):Int):Str)∉ aV:=by decide +kernel
theorem vm2:CQ eK 2=[("B" : Str)]:=by
 unfold CQ;rw[Dk];decide +kernel
theorem vm3:CQ eK 3=[("A" : Str),("B" : Str)]:=by
 unfold CQ;rw[Dk];decide +kernel
theorem U2 (t:Vs):GY (kM eK) (Ay [] [((Sum.inr "A" : Key),V.ref t)])=[((Sum.inr "A" : Key),V.ref t)]:=by
 unfold GY kM C9;rw[Dk];rfl
section
variable {RC cM cR c P0 bd a d k o ru:Vs}{ec:Nat->Vs}{m:Nat}
variable {f0 jG:Vs}{jH:FuncData}{A:Around}{outer:List Env}{s:Vt}{E:XK}
 (FT:aQ K "_law_met" "_law_met" Cf jG jH) (fj:mg "_law_met" = some (.ref jG)) (fq:Binds K jH ["_law_deed"] []) (xm:BF K cM=true) (mM:mg "MarkError" = some (.ref cM)) (ZC:Ecs K ec cM) (LC:Oy (Au aL P w K mg base B7 "law" (defScope BV) f0 (.ref c) A outer s H E).dZ c P0) (hr:aD 10 (Au aL P w K mg base B7 "law" (defScope BV) f0 (.ref c) A outer s H E).dZ.A)
include FT fj fq xm mM ZC LC hr
theorem To (B:Bl mg) {fI:Vs}{dI:FuncData} (MI:Mk K C fI) (GI:aB P w K mg base (cE P w) 6 fI dI ["self", "rows", "rest"] (spInitU C (ec 4))) {gI:Vq->Vq->Vq} (kbI:Cm K dI ["self", "rows", "rest"] ["rest"] gI gV3) (mC:mg "Kind" = some (.ref C)):PE (Au aL P w K mg base B7 "law" (defScope BV) f0 (.ref c) A outer s H E).dZ N6 (bQ C RC P0 bd a d k o ru ec m 4):=by
 refine PE.weak (Cw (X:=(Au aL P w K mg base B7 "law" (defScope BV) f0 (.ref c) A outer s H E).dZ) (params:=Cy (AS 0 N6)) (body:=B4 (AS 0 N6)) (scope:=Ba (AS 0 N6)) (Nl:=["_law_more"]) (ix:=[4]) (k:=8) (cG:=A8 (AS 0 N6)) (ls:=LS) FT xm mM hr rfl fj FT.kp fq LC (ZS (i:=4) rfl) (EE 4 _ rfl) rfl rfl (B5 rfl qd (by intro p hp;simp only[mem_cons,not_mem_nil,or_false]at hp;rcases hp with rfl <;> kernel_rfl) qd (λ_=>rfl)) (λ_ _ _=>rfl) rfl rfl rfl qb
    (λlf c' A' cI s' H' E hr=>NK MI GI (hr.mono qc) rfl mC kbI Dl (AA (CB (AA (DS (AA Al (AA AI AB))) AB)) AB) (Ez (A9 Iu rfl B.str Ep (AA (pv 0) AB)) HF))) ?_
 rintro σ H Q ⟨⟨x2,rfl⟩,W,q⟩;refine⟨W.tab,λH1 sB hT=>?_⟩;have W1:=W.go (Rt.cC sB) hT;have fin:∀ {H2:Hp},Rt P0 H1 H2->aG H2 P0 qL LS->∀e H',aA H2 H'->Ex ec m 4 e H'->Q (.ref e) H':=λr t e H' s' x=>q e H' (((Rt.cC sB).trans r).trans (Rt.same s')) (aG.same s' t) x;have m0:=W.m0;refine⟨fg,λb1 h1=>⟨i9,λl hl=>⟨_,Zj,_,Zj,?_,?_⟩⟩⟩
 ·show m.log2<1920;exact Nat.lt_of_le_of_lt (Nat.log2_le_self m) qe
 have sa:=AF (aA.refl _) h1 (o:=HO.tup [V.str "A", V.int 1]);have sc:=AF (aA.refl _) hl (o:=HO.lst [V.ref b1]);intro p dx hp ax aw;have sN:=BK (D:=C) hp ax aw;have st:=(sa.trans sc).trans sN;refine⟨p,dx,l,[("A", .num 1)],_,Zj,U,⟨[b1],sN _ _ U,.cons ⟨_,sN _ _ (sc _ _ U),Zj⟩ .nil⟩,qc,qc,?_,Rs m qe,λe H' old he=>?_⟩
 ·intro i r h;obtain rfl:i=0:=by have:=(Z8.mp h).1;simpa using this
  cases h;exact⟨TD,qc,⟨qb,qb,qb⟩,qb,trivial,qc⟩
 have gz:=BB (sa.trans sc |>.trans sN) (none_of (sa.trans sc) hp) old;exact⟨ec 4,Zj,ZC.cx 4 qc,ZC.mr 4 qc,λe' he'=>fin (Rt.same gz) (aG.same gz hT) e' H' (aA.refl _) (.pl he' qc)⟩
theorem Tp {fE:Vs}{dE:FuncData} (ME:Mk K EC fE) (GE:aB P w K mg base (cE P w) 4 fE dE ["self", "kind", "other", "pairs"] (Gu K C EC (ec 8))) (mE:mg "Edition" = some (.ref EC)) (bE:Binds K dE ["self", "kind", "other", "pairs"] []):PE (Au aL P w K mg base B7 "law" (defScope BV) f0 (.ref c) A outer s H E).dZ OA (bQ C RC P0 bd a d k o ru ec m 8):=by
 refine PE.weak (Cw (X:=(Au aL P w K mg base B7 "law" (defScope BV) f0 (.ref c) A outer s H E).dZ) (params:=Cy (AS 0 OA)) (body:=B4 (AS 0 OA)) (scope:=Ba (AS 0 OA)) (Nl:=["_law_kind", "_law_more", "_law_other"]) (ix:=[3,4,5]) (k:=8) (cG:=A8 (AS 0 OA)) (ls:=LS) FT xm mM hr rfl fj FT.kp fq LC (ZS (i:=8) rfl) (EE 8 _ rfl) rfl rfl (B5 rfl qd (by intro p hp;simp only[mem_cons,not_mem_nil,or_false]at hp;rcases hp with rfl |rfl |rfl <;> kernel_rfl) qd (λ_=>rfl)) (λ_ _ _=>rfl) rfl rfl rfl qb
    (λlf c' A' cI s' H' E hr=>Bt ME GE (hr.mono qc) rfl mE bE .nil Dl (gH.h (A6 (.mk (pv 0)) (A6 (.mk (pv 2)) (A6 (EX (Dx (Bw (EW (Dx (Bw (A6 (HY JN (.mk Al) (.mk (pv 1))) A5)) A5))) A5)) A5)))))) ?_
 rintro σ H Q ⟨⟨x2,rfl⟩,W,q⟩;refine⟨W.tab,λH1 sB hT=>?_⟩;have W1:=W.go (Rt.cC sB) hT;have fin:∀ {H2:Hp},Rt P0 H1 H2->aG H2 P0 qL LS->∀e H',aA H2 H'->Ex ec m 8 e H'->Q (.ref e) H':=λr t e H' s' x=>q e H' (((Rt.cC sB).trans r).trans (Rt.same s')) (aG.same s' t) x;have m0:=W.m0;refine⟨_,Zj,_,Zj,_,Zj,90,_,qb,Zj,qe,qe,λz hz=>⟨i9,λb1 h1=>⟨fg,λb2 h2=>⟨i9,λl hl=>?_⟩⟩⟩⟩;have sa:=AF (aA.refl _) h1 (o:=HO.tup [V.str z]);have sb:=AF (aA.refl _) h2 (o:=HO.tup [V.str "A", V.ref b1]);have sc:=AF (aA.refl _) hl (o:=HO.lst [V.ref b2]);intro p dx hp ax aw;have sN:=BK (D:=EC) hp ax aw;have st:=((sa.trans sb).trans sc).trans sN
 have hz0:z.cps.toList≠("A" : Str).cps.toList/\z.cps.toList≠("B" : Str).cps.toList:=by
  rw[hz];obtain⟨m',rfl⟩:∃m',m=m'+1:=⟨m - 1,qe⟩;rw[Int.toNat_natCast,replicate_succ];constructor <;> (intro z;have:=(List.cons.inj z).1;revert this;decide +kernel)
 have hz1:z∉ eK.map (·.1):=λh=>by
  have:z = "A" \/ z = "B" := by simpa using h
  rcases this with rfl |rfl
  ·exact hz0.1 rfl
  ·exact hz0.2 rfl
 have hv:A4 (kN eK) (Sum.inr z:Key)=none:=B1 hz1;refine⟨p,dx,k,o,eK,eK, "bar", "drop", .ref l,Zj,U,W1.ka.same st,qc,W1.kb.same st,qc,.inr ⟨l,[.ref b2],[false],Zj,sN _ _ U,(by show 1<=1000;decide),.cons (.inr ⟨b2,_,Zj,sN _ _ (sc _ _ U),.inr ⟨_,_,Zj,.inr ⟨b1,[.str z],_,[false],Zj,sN _ _ (sc _ _ (sb _ _ U)),.inl ⟨"A", Zj,Zj⟩,(by show 1<=1000;decide),.cons (.inl ⟨z,Zj,by rw[hv];rfl⟩) .nil,by simp⟩⟩⟩) .nil,.inl ⟨Zj,λe H' old he=>?_⟩⟩⟩;have gz:=BB st (none_of ((sa.trans sb).trans sc) hp) old;exact⟨ec 8,Zj,ZC.cx 8 qc,ZC.mr 8 qc,λe' he'=>fin (Rt.same gz) (aG.same gz hT) e' H' (aA.refl _) (.pl he' qc)⟩
theorem Tq (ET:Nu K EC) {fE fV fX:Vs}{dE dV dX:FuncData} (ME:Mk K EC fE) (GE:aB P w K mg base (cE P w) 4 fE dE ["self", "kind", "other", "pairs"] (Gu K C EC (ec 8))) (mE:mg "Edition" = some (.ref EC)) (bE:Binds K dE ["self", "kind", "other", "pairs"] []) (MV:Mk K VC fV) (GV:aB P w K mg base aL 4 fV dV ["self", "kind", "number"] (c7 C VC)) (mV:mg "Value" = some (.ref VC)) (bV:Binds K dV ["self", "kind", "number"] [])
  (GX:aB P w K mg base (cE P w) 7 fX dX ["self", "value"] (spLedG C VC EC (ec 3))) (mX:Fe K EC "led" fX) (bX:Binds K dX ["self", "value"] []):PE (Au aL P w K mg base B7 "law" (defScope BV) f0 (.ref c) A outer s H E).dZ N5 (bQ C RC P0 bd a d k o ru ec m 3):=by
 refine PE.weak (Cw (X:=(Au aL P w K mg base B7 "law" (defScope BV) f0 (.ref c) A outer s H E).dZ) (params:=Cy (AS 0 N5)) (body:=B4 (AS 0 N5)) (scope:=Ba (AS 0 N5)) (Nl:=["_law_kind", "_law_more", "_law_other"]) (ix:=[3,4,5]) (k:=8) (cG:=A8 (AS 0 N5)) (ls:=LS) FT xm mM hr rfl fj FT.kp fq LC (ZS (i:=3) rfl) (EE 3 _ rfl) rfl rfl (B5 rfl qd (by intro p hp;simp only[mem_cons,not_mem_nil,or_false]at hp;rcases hp with rfl |rfl |rfl <;> kernel_rfl) qd (λ_=>rfl)) (λ_ _ _=>rfl) rfl rfl rfl qb
    (λlf c' A' cI s' H' E hr=>BD (Bt ME GE (hr.mono qc) rfl mE bE .nil Dl (gH.h (A6 (.mk (pv 0)) (A6 (.mk (pv 2)) (A6 (EX (Dx (Bw (EW (Dx (Bw A5) A5))) A5)) A5))))) ET.cl mX GX (hr.mono qc) bX .nil Dl (AA (Bt MV GV (hr.mono qc) rfl mV bV .nil AL (gH.h (A6 (.mk (pv 0)) (A6 (HY CT (.mk AI) (HY Dq (.mk (pv 1)) (.mk AI))) A5)))) AB))) ?_
 rintro σ H Q ⟨⟨x2,rfl⟩,W,q⟩;refine⟨W.tab,λH1 sB hT=>?_⟩;have W1:=W.go (Rt.cC sB) hT;have fin:∀ {H2:Hp},Rt P0 H1 H2->aG H2 P0 qL LS->∀e H',aA H2 H'->Ex ec m 3 e H'->Q (.ref e) H':=λr t e H' s' x=>q e H' (((Rt.cC sB).trans r).trans (Rt.same s')) (aG.same s' t) x;have m0:=W.m0;refine⟨_,Zj,_,Zj,(by show 0<=sizeLine;decide),λb1 h1=>⟨fg,λb2 h2=>⟨i9,λl hl=>?_⟩⟩⟩;have sa:=AF (aA.refl _) h1 (o:=HO.tup []);have sb:=AF (aA.refl _) h2 (o:=HO.tup [V.str "A", V.ref b1]);have sc:=AF (aA.refl _) hl (o:=HO.lst [V.ref b2]);intro p dx hp ax aw;have sN:=BK (D:=EC) hp ax aw;have st:=((sa.trans sb).trans sc).trans sN;refine⟨p,dx,k,o,eK,eK, "bar", "drop", .ref l,Zj,U,W1.ka.same st,qc,W1.kb.same st,qc,.inr ⟨l,[.ref b2],[true],Zj,sN _ _ U,(by show 1<=1000;decide),.cons (.inr ⟨b2,_,Zj,sN _ _ (sc _ _ U),.inr ⟨_,_,Zj,.inr ⟨b1,[],true,[],Zj,sN _ _ (sc _ _ (sb _ _ U)),.inl ⟨"A", Zj,?_⟩,(by show 0<=1000;decide),.nil,Zj⟩⟩⟩) .nil,.inr ⟨[b2],[(Sum.inr "A", V.ref b1)],Zj,Zj,.cons (sN _ _ (sc _ _ U)) .nil,.inr ⟨(by show 1<=1;decide),λH2 old ED=>⟨Zj,?_⟩⟩⟩⟩⟩
 ·unfold kM C9;rw[Dk];rfl
 rw[U2]at ED;have s2:=BB st (none_of ((sa.trans sb).trans sc) hp) old;have hb1:H2 b1=some (.tup []):=old _ _ (sN _ _ (sc _ _ (sb _ _ U))) (AJ (sc _ _ (sb _ _ U)) hp);obtain⟨i6,d2,ob,am,hd2⟩:=id ED;refine⟨p,i6,_,Zj,am,SN _ _ _,_,Zj,_,Zj,_,_,Zj,Zj,(by show(0:Int)<2;decide),_,_,Zj,Zj,?_⟩;intro q1 d1 jA iF hn1;have sM:=BK (D:=VC) jA iF hn1;have e2:(V.int (2+(m:Int) % 2))=V.int ((2+m % 2:Nat):Int):=by congr 1
 refine⟨q1,d1,k,eK, "bar", 2+m % 2,?_,U,(W1.ka.same s2).same sM,Z2 (show 2+m % 2<4 by omega) qc,.inr ?_,λH3 se V1=>⟨Zj,?_⟩⟩
 ·rw[←e2];rfl
 ·rcases Nat.mod_two_eq_zero_or_one m with h |h <;> rw[h] <;> decide +kernel
 have s3:=BB sM jA se;have ju:=s2.trans s3
 have hm:∃pre:Vp,CQ eK (2+m % 2)=pre++[("B" : Str)]/\∀x∈pre,x = "A" := by
  rcases Nat.mod_two_eq_zero_or_one m with h |h <;> rw[h]
  ·exact⟨[],vm2,λx hx=>by cases hx⟩
  ·exact⟨["A"],vm3,λx hx=>by simpa using hx⟩
 obtain⟨pre,jf,h2'⟩:=hm;exact⟨p,q1,k,o,b1,_,eK, "bar", pre,Zj,ED.same s3,s3 _ _ hb1,V1,W1.ka.same ju,Mg,qc,jf,h2',Jh (j:=3) ZC qc (fin (Rt.same ju) (aG.same ju hT))⟩
end
end Mk
end
section
namespace L2
open PySem PySem.Spec PyProof.Rows
theorem OB {a:Vs}{xs:Vr}{g:TG}{tt:TT}{te:TE}{ix:List (Option Nat)}{R:Vr->Hp->Prop}{σ:St}{H1:Hp} (Pv:Nat->Vr->Hp->Prop) (h0:Pv 0 [] H1) (hl:∀i ys H,i<=xs.length->Pv i ys H->aJ K H a xs) (hz:∀i ys H,Pv i ys H->ys.length<=1000)
  (hs:∀i x ys H p,xs[i]?=some x->Pv i ys H->H p=none->g (.ref p) (Bq ix σ) (upd H p (.tup [.int i,x])) λcS H2=>tt cS H2 λb H3=>if b=true then te cS H3 λy H4=>Pv (i+1) (ys++[y]) H4 else Pv (i+1) ys H3) (hd:∀ys H,Pv xs.length ys H->R ys H) :
  ∃W:Nat->Nat->Vr->Hp->Prop,(∃m,W 0 m [] H1)/\∀i m ys H,W i m ys H ->
   ((jK K a).stop i H/\ys.length<=sizeLine/\R ys H) \/
   ((jK K a).go i H/\∃N:Vr->Hp->Prop,(∀cW H',N cW H'->cW.length<=sizeLine/\∃m',m'<m/\W (i+1) m' cW H') /\
    ∀x H',(jK K a).hX i H x H'->g x (Bq ix σ) H' λcS H2=>tt cS H2 λb H3=>if b=true then te cS H3 λy H4=>N (ys++[y]) H4 else N ys H3):=by
 refine⟨λi m ys H=>m=xs.length - i/\i<=xs.length/\Pv i ys H,⟨_,Zj,Nat.zero_le _,h0⟩,?_⟩;rintro i m ys H ⟨rfl,hi,hp⟩;by_cases aX:i<xs.length
 ·have hx:xs[i]?=some xs[i]:=Z7 aX;refine .inr ⟨⟨xs,xs[i],hl i ys H hi hp,hx⟩,Pv (i+1),λcW H' q=>⟨Nat.le_of_lt (AQ (hz _ cW H' q)),xs.length - (i+1),qe,Zj,aX,q⟩,?_⟩;rintro x H' ⟨p,y,hn,rfl,hy,rfl⟩
  have ex:y=xs[i]:=by
   have:=hy xs (hl i ys H hi hp);rw[hx]at this;exact(Option.some.inj this).symm
  subst ex;exact hs i xs[i] ys H p hx hp hn
 ·have e:i=xs.length:=by omega
  subst e;exact .inl ⟨⟨xs,hl _ ys H hi hp,ZA _⟩,Nat.le_of_lt (AQ (hz _ ys H hp)),hd ys H hp⟩
end L2
namespace Mk
open PySem L2 MK PySem.NumText
theorem DQ {X:Cx}{st:Stmt}{rest:List Stmt}{t u:TS} (h1:PSw X st t) (h2:gq X rest u):gq X (st::rest) (UZ t u):=⟨Gq h1.h h2.h⟩
noncomputable def gVR (t:Vs) (vs zs:Vr):Vr:=match vs,zs with | [a,b],[c]=>[a,b,.ref t,c] |_,_=>[]
noncomputable def gUR (t:Vs) (us ws:Vq):Vq:=match us,ws with | [a,b],[c]=>[a,b,.ref t,c] |_,_=>[]
structure QG (P:Program) (w:World) (K:FG) (mg:SV) (base:Heap) (C cA cU:Vs):Prop where
 T:Dh K C
 cls:mg "Kind" = some (.ref C)
 make:∃f fd,Mk K C f/\aB P w K mg base aL 6 f fd ["self", "rows", "rest"] (spInit C)/\aB P w K mg base (cE P w) 6 f fd ["self", "rows", "rest"] (spInitG C cA)/\aB P w K mg base (cE P w) 6 f fd ["self", "rows", "rest"] (spInitU C cU) /\
  (∃g,Cm K fd ["self", "rows", "rest"] ["rest"] g gV3)/\∃ds,Binds K fd ["self", "rows", "rest"] ds/\Vals [.str "bar"] ds
structure QH (P:Program) (w:World) (K:FG) (mg:SV) (base:Heap) (C RC:Vs):Prop where
 RT:Hu K RC
 cls:mg "Rule" = some (.ref RC)
 make:∃f fd t,Mk K RC f/\aB P w K mg base aL 4 f fd ["self", "kind", "needs", "bars"] (spRInit K C RC)/\(∃g,Cm K fd ["self", "kind", "needs", "bars"] ["bars"] g (gVR t))/\∀H,bZ K H t []
structure U3 (P:Program) (w:World) (K:FG) (mg:SV) (base:Heap) (C EC cP:Vs):Prop where
 ET:Nu K EC
 cls:mg "Edition" = some (.ref EC)
 make:∃f fd,Mk K EC f/\aB P w K mg base (cE P w) 4 f fd ["self", "kind", "other", "pairs"] (Gu K C EC cP)/\Binds K fd ["self", "kind", "other", "pairs"] []
structure QI (P:Program) (w:World) (K:FG) (mg:SV) (base:Heap) (BC:Vs):Prop where
 BT:Pw K BC
 cls:mg "Book" = some (.ref BC)
 make:∃f fd,Mk K BC f/\aB P w K mg base aL 1 f fd ["self", "kind"] (spBInit BC)/\Binds K fd ["self", "kind"] []
structure Eca (K:FG) (ec:Nat->Vs):Prop where
 at_:∀j,j<11->Pk K ec (ec j) j
 fl:∀j,j<4->UP K (ec j) (Rl j)
theorem Ga {l:Vs}{rows:List (Str×Th)} (s:aA H H') (h:RowsAt H l rows):RowsAt H' l rows:=by
 obtain⟨as,h1,h2⟩:=h;exact⟨as,s _ _ h1,La (SameT.of s) h2⟩
theorem QJ:JW [("A", .num 1),("B", .num 2)]:=by
 intro i r h;have hi:i=0\/i=1:=by have:i<2:=(Z8.mp h).1;omega
 rcases hi with rfl |rfl
 ·cases h;exact⟨TD,qc,⟨qb,qb,qb⟩,qb,trivial,qc⟩
 ·cases h;exact⟨IA,qc,⟨qb,qb,qb⟩,qb,trivial,qc⟩
theorem QK:C7 [("A", .num 1),("B", .num 2)]=eK:=by decide +kernel
theorem Ru:∀m:Nat,m<10->SeqAt.shaped (.list [.int 1,.int ((4*m:Nat):Int),.int 2,.str "B"])=true:=by decide +kernel
theorem Rv:∀m:Nat,m<10->SeqAt.shaped (.list [.int 1,.int (4*(m:Int)),.int 2,.str "B"])=true:=by decide +kernel
theorem Rw:∀m:Nat,m<10->PyData.eqv (.list [.int 1,.int ((4*m:Nat):Int),.int 2,.str "B"]) (.list [.int 1,.int (4*(m:Int)),.int 2,.str "B"])=true:=by decide +kernel
theorem U4 (a b c:Int) (x:Str):BL K H [.int a,.int b,.int c,.str x] [V.int a,V.int b,V.int c,V.str x]:=by
 rw[BL];refine⟨_,_,Zj,by rw[Cd],?_⟩;rw[BL];refine⟨_,_,Zj,by rw[Cd],?_⟩;rw[BL];refine⟨_,_,Zj,by rw[Cd],?_⟩;rw[BL];refine⟨_,_,Zj,by rw[Cd],?_⟩;rw[BL]
theorem Ex.kp {ec:Nat->Vs}{m j e:Nat} (s:∀b o,H b=some o->(∀ps,o≠ .fb ps)->(∀xs,o≠ .lst xs)->H' b=some o) (h:Ex ec m j e H):Ex ec m j e H':=by
 rcases h with⟨h,hj⟩ |⟨d,h,hd,hj⟩
 ·exact .pl (s _ _ h (λ_ z=>nomatch z) (λ_ z=>nomatch z)) hj
 ·exact .fl d (s _ _ h (λ_ z=>nomatch z) (λ_ z=>nomatch z)) (s _ _ hd (λ_ z=>nomatch z) (λ_ z=>nomatch z)) hj
theorem Ex.at {ec:Nat->Vs}{m j e:Nat} (h:Ex ec m j e H):∃dx,H e=some (Co e (ec j) dx)/\(dx=none\/∃d u,dx=some d/\H d=some u):=by
 rcases h with⟨h,hj⟩ |⟨d,h,hd,hj⟩
 ·exact⟨none,h,.inl Zj⟩
 ·exact⟨some d,h,.inr ⟨d,_,Zj,hd⟩⟩
theorem Ex.fld {ec:Nat->Vs}{m j e:Nat} (h:Ex ec m j e H) (h4:j<4):∃d,H e=some (Co e (ec j) (some d))/\H d=some (.xd [(Rl j,Rm j m)]):=by
 rcases h with⟨h,hj⟩ |⟨d,h,hd,hj⟩
 ·omega
 ·exact⟨d,h,hd⟩
theorem Rt.kp {P0:Vs} (s:Rt P0 H H') (t:aG H P0 qL LS):∀b o,H b=some o->(∀ps,o≠ .fb ps)->H' b=some o:=λb o e n=>s b o e λz=>by
 obtain⟨ps,hp,_⟩:=t;subst z;rw[hp]at e;cases e;exact n _ rfl
structure Rx (P0:Vs) (ec:Nat->Vs) (m:Nat) (HL:Hp) (l:Vs) (es:List Vs) (H:Hp):Prop where
 r:Rt P0 HL H
 tab:aG H P0 qL LS
 n:HL l=none
 hl:H l=some (.lst (es.map V.ref))
 ex:∀j e,es[j]?=some e->Ex ec m j e H
theorem Rx.step {P0:Vs}{ec:Nat->Vs}{m:Nat}{HL:Hp}{l:Vs}{es:List Vs}{e:Vs} (h:Rx P0 ec m HL l es H) (s:Rt P0 H H') (t:aG H' P0 qL LS) (x:Ex ec m es.length e H'):H' l=some (.lst (es.map V.ref))/\Rx P0 ec m HL l (es++[e]) (upd H' l (.lst (es.map V.ref++[.ref e]))):=by
 have kp:=s.kp h.tab;have gF:=kp _ _ h.hl (λ_ z=>nomatch z)
 have up:∀b o,H' b=some o->(∀ps,o≠ .fb ps)->(∀xs,o≠ .lst xs)->(upd H' l (.lst (es.map V.ref++[.ref e]))) b=some o:=λb o eb _ n=>by
  rw[AE (λz=>by subst z;rw[gF]at eb;cases eb;exact n _ rfl)];exact eb
 refine⟨gF,λb o eb hb=>?_,?_,h.n,?_,λj e' hj=>?_⟩
 ·rw[AE (AJ eb h.n)];exact s _ _ (h.r b o eb hb) hb
 ·obtain⟨ps,h1,h2,h3⟩:=t;refine⟨ps,by rw[AE (λz=>by subst z;rw[gF]at h1;cases h1)];exact h1,h2,λx hx=>?_⟩;rcases h3 x hx with z |⟨c,z1,z2⟩
  ·exact .inl z
  ·exact .inr ⟨c,z1,by rw[AE (λz=>by subst z;rw[gF]at z2;cases z2)];exact z2⟩
 ·rw[U,Zw];rfl
 ·by_cases aX:j<es.length
  ·rw[List.getElem?_append_left aX]at hj;exact(h.ex j e' hj).kp λb o eb n1 n2=>up b o (kp b o eb n1) n1 n2
  ·have:j=es.length:=by
    have:=(Z8.mp hj).1;rw[ZJ]at this;have:j<es.length+1:=this;omega
   subst this;rw[getElem?_append_right (ZA _),Nat.sub_self]at hj;cases hj;exact x.kp up
def Mh (K:FG) (P0 bd:Vs):Sp:=λvs H Q _=>∃(a:Vs) (ns:List Int),vs=[.ref a]/\aJ K H a (ns.map V.int)/\ns.length<=63/\aG H P0 qL LS/\Rd H bd (.dK CP)/\∀H',Q (.bl true) H'
noncomputable def st0 (a:Vs) (f:Nat->Option V):St:=[some (.ref a),f 1,f 2,f 3,f 4,f 5,f 6]
noncomputable def gS (a d k o ru:Vs) (m:Nat) (x2:Option V):St:=[some (.ref a),some (.ref d),x2,some (.ref k),some (.int (m:Int)),some (.ref o),some (.ref ru)]
structure RdI (a l bd P0:Vs) (as:List Vs) (i:Nat) (σ:St) (H:Hp):Prop where
 st:∃f,σ=st0 a f
 hl:H l=some (.lst (as.map V.ref))
 hb:Rd H bd (.dK CP)
 tb:aG H P0 qL LS
 ds:∀(j:Nat) b,i<=j->as[j]?=some b->∃x y:Int,H b=some (.lst [.int x,.int y])
def Rq (d P0:Vs) (H H':Hp):Prop:=∀b o,H b=some o->b≠d->b≠P0->H' b=some o
theorem RdI.fin {a l bd d P0:Vs}{as:List Vs}{i:Nat}{σ aO:St} (h:RdI a l bd P0 as i σ H) (nd:as.Nodup) (hla:l∉ as) (hdi:as[i]?=some d) (R:Rq d P0 H H') (hT:aG H' P0 qL LS) (hs:∃f,aO=st0 a f):RdI a l bd P0 as (i+1) aO H':=by
 obtain⟨x,y,hd⟩:=h.ds i d (ZA _) hdi
 have nt:∀ {b:Vs}{o:HO},H b=some o->(∀ps,o≠ .fb ps)->b≠P0:=λe n z=>by
  obtain⟨ps,hp,_⟩:=h.tb;subst z;rw[hp]at e;cases e;exact n _ rfl
 refine⟨hs,R _ _ h.hl (λz=>hla (z ▸ ZS hdi)) (nt h.hl (λ_ z=>nomatch z)),?_,hT,λj b hj e=>?_⟩
 ·rcases h.hb with q |⟨o,q⟩
  ·exact .inl (R _ _ q (λz=>by subst z;rw[hd]at q;cases q) (nt q (λ_ z=>nomatch z)))
  ·exact .inr ⟨o,R _ _ q (λz=>by subst z;rw[hd]at q;cases q) (nt q (λ_ z=>nomatch z))⟩
 have hbd:b≠d:=λz=>by
  subst z;obtain⟨hj2,ej⟩:=Z8.mp e;obtain⟨hi2,ei⟩:=Z8.mp hdi;exact(List.pairwise_iff_getElem.mp nd) i j hi2 hj2 qe (by rw[ei,ej])
 obtain⟨x5,y5,e5⟩:=h.ds j b qe e;exact⟨x5,y5,R _ _ e5 hbd (nt e5 (λ_ z=>nomatch z))⟩
def QL (C RC P0 bd:Vs) (ec:Nat->Vs) (j:Nat):TE:=λσ H Q=>∃(a d k o ru:Vs) (m:Nat),bQ C RC P0 bd a d k o ru ec m j σ H Q
theorem PE.fZ {X:Cx}{e:Expr}{RC P0 bd:Vs}{ec:Nat->Vs}{j:Nat} (h:∀a d k o ru m,PE X e (bQ C RC P0 bd a d k o ru ec m j)):PE X e (QL C RC P0 bd ec j):=λaa s σ H Q I ⟨a,d,k,o,ru,m,q⟩=>h a d k o ru m aa s σ H Q I q
theorem bQ.app {RC P0 bd a d k o ru l:Vs}{ec:Nat->Vs}{m j:Nat}{HL:Hp}{es:List Vs}{R:Hp->Prop} (W:Wo C RC P0 bd a d k o ru m HL) (h:Rx P0 ec m HL l es H) (hj:es.length=j) (h10:j<=20) (hR:∀e H',Rx P0 ec m HL l (es++[e]) H'->R H'):QL C RC P0 bd ec j (gS a d k o ru m (some (.ref l))) H (λv H1=>L5 (.ref l) [v] H1 (λ_ H2=>R H2)):=by
 refine⟨a,d,k,o,ru,m,⟨_,Zj⟩,W.go h.r h.tab,λe H' rt tb x=>?_⟩;subst hj;obtain⟨h1,h2⟩:=h.step rt tb x;exact⟨l,_,_,Zj,Zj,h1,AQ (by rw[AK];omega),hR e _ h2⟩
section
variable {RC BC cM c P0 bd:Vs}{ec:Nat->Vs}
theorem Tr {f0 jG:Vs}{jH:FuncData} (F:FunC K "law" "law" BV f0 fd c) (FT:aQ K "_law_met" "_law_met" Cf jG jH) (fj:mg "_law_met" = some (.ref jG)) (fq:Binds K jH ["_law_deed"] [])
  (hC:W.CodeHd base c P0) (hBu:base.BuiltinsAt mg P0) (B:Bl mg) (xm:BF K cM=true) (mM:mg "MarkError" = some (.ref cM)) (ZC:Ecs K ec cM) (EA:Eca K ec)
  (KO:QG P w K mg base C (ec 0) (ec 4)) (VO:MU P w K mg base C VC) (RO:QH P w K mg base C RC) (EO:U3 P w K mg base C EC (ec 8)) (BO:QI P w K mg base BC)
  (GRd:Fn P w K mg base "_law_rounds" 2 ["_law_script", "_law_most"] (spRounds K)) (GRo:Fn P w K mg base "_law_roll" 2 ["_law_dice", "_law_many"] spRoll) (GA:Fn P w K mg base "_law_alone" 1 ["_law_e", "_law_own"] (spAlone K ec))
  (G2:ik P w K mg base "made" 6 ["kind", "number"] (spMadeG C (ec 1))) (G3:ik P w K mg base "read" 7 ["kind", "text"] (spReadG bd (ec 2))) (G4:gJ P w K mg base EC "led" 7 ["self", "value"] (spLedG C VC EC (ec 3)))
  (G6:ik P w K mg base "value_of" 6 ["kind", "names"] (spValueG C (ec 5))) (G7:gJ P w K mg base RC "nth" 5 ["self", "number"] (spNthG RC (ec 6))) (G8:ik P w K mg base "union" 6 ["one", "other"] (de C VC (ec 7)))
  (G10:gJ P w K mg base RC "place" 7 ["self", "value"] (spPlaceG C VC RC (ec 9))) (G11:gJ P w K mg base BC "take_back" 3 ["self"] (spTbG BC (ec 10))) :
  aB P w K mg base aL 11 f0 fd ["_law_script"] (Mh K P0 bd):=by
 obtain⟨fRd,dRd,GRd,mRd,kRd,bRd⟩:=GRd.ex;obtain⟨fRo,dRo,GRo,mRo,kRo,bRo⟩:=GRo.ex;obtain⟨fA,dA,GA,mA,kA,bA⟩:=GA.ex;obtain⟨f2,d2,G2,m2,k2,b2⟩:=G2.ex;obtain⟨f3,d3,G3,m3,k3,b3⟩:=G3.ex;obtain⟨f4,d4,G4,m4,b4⟩:=G4.ex;obtain⟨f6,d6,G6,m6,k6,b6⟩:=G6.ex;obtain⟨f7,d7,G7,m7,b7⟩:=G7.ex;obtain⟨f8,d8,G8,m8,k8,b8⟩:=G8.ex;obtain⟨f10,d10,G10,m10,b10⟩:=G10.ex;obtain⟨f11,d11,G11,m11,b11⟩:=G11.ex;obtain⟨fI,dI,MI,GI,GIG,GIU,⟨gI,kbI⟩,ds,bI,vI⟩:=KO.make;obtain⟨fV,dV,MV,GV,bV⟩:=VO.make;obtain⟨fR,dR,tR,MR,GR,⟨gR,kbR⟩,hTR⟩:=RO.make;obtain⟨fE,dE,ME,GE,bE⟩:=EO.make;obtain⟨fB,dB,MB,GB,bB⟩:=BO.make;have mC:=KO.cls;have mV:=VO.cls;have mR:=RO.cls;have mE:=EO.cls;have mB:=BO.cls;refine F.ok scLaw (λvs H Q E h=>?_) (λA outer s H vs Q E hr h=>?_)
 ·obtain⟨a,ns,rfl,_⟩:=h;rfl
 ·obtain⟨a,ns,rfl,hS,h63,hTab,hB,kend⟩:=h;have hu:=Cc hr;have hu64:=hr.units;have cZ:aD 1 _:=hr.mono qc;have gk:aD 2 _:=hr.mono qc;have hr5:aD 5 _:=hr.mono qc;have hr7:aD 7 _:=hr.mono qc;have nd:=scLaw.nd;have LC:Oy (Au aL P w K mg base B7 "law" (defScope BV) f0 (.ref c) A outer s H E).dZ c P0:=⟨rfl,hC,hBu⟩
  refine⟨_,gq.h (JK (UR PassesOwn.never Zj (Sx (JO GRd gk Zj mRd kRd bRd .nil AL (A6 (.mk (pv 0)) (A6 (.mk AI) A5)))) (Ar (i:=1) nd Zj (Or.inl Zj))
    (JK (KJ (i:=4) nd rfl (Or.inr rfl) (HY CT (.mk AI) (JO GRo gk rfl mRo kRo bRo .nil AL (A6 (.mk (pv 1)) (A6 (.mk AI) A5)))))
    (JK (KJ (i:=3) nd rfl (Or.inr rfl) (.mk (Bt MI GI hr7 rfl mC bI vI AL (gH.h (A6 (EX (Dx (Bw (EW (KH A5))) (Dx (Bw (EW (KH A5))) A5))) A5)))))
    (JK (KJ (i:=5) nd rfl (Or.inr rfl) (.mk (Jy MI GI hr7 rfl mC kbI (gH.h (A6 (EX (Dx (Bw (EW (KH A5))) (Dx (Bw (EW (KH A5))) A5))) A5)) (Ez Al HF))))
    (DQ (KJ (i:=6) nd rfl (Or.inr rfl) (.mk (Jy MR GR hr5 rfl mR kbR (AA (pv 3) AB) (Ez (g9.h (EX (Dx (Bw (EW (EW A5))) A5))) HF))))
    (DQ (KJ (i:=2) nd rfl (Or.inl rfl) (EX (A6 (.mk (PE.fZ (C:=C) (RC:=RC) (bd:=bd) λ_ _ _ _ _ _=>Tn FT fj fq xm mM ZC LC hr MI GIG mC bI vI)) A5)))
    (DQ (.mk (Ai (Cb PySem.F.plainAttrs_list PySem.F.slot_list_append PySem.F.type_list_append Aw (pv 2) (AA (PE.fZ (C:=C) (RC:=RC) (bd:=bd) λ_ _ _ _ _ _=>Ti FT fj fq xm mM ZC LC hr G2 m2 k2 b2) AB))))
    (DQ (.mk (Ai (Cb PySem.F.plainAttrs_list PySem.F.slot_list_append PySem.F.type_list_append Aw (pv 2) (AA (PE.fZ (C:=C) (RC:=RC) (bd:=bd) λ_ _ _ _ _ _=>Tk FT fj fq xm mM ZC LC hr G3 m3 k3 b3) AB))))
    (DQ (.mk (Ai (Cb PySem.F.plainAttrs_list PySem.F.slot_list_append PySem.F.type_list_append Aw (pv 2) (AA (PE.fZ (C:=C) (RC:=RC) (bd:=bd) λ_ _ _ _ _ _=>Tq FT fj fq xm mM ZC LC hr EO.ET ME GE mE bE MV GV mV bV G4 m4 b4) AB))))
    (DQ (.mk (Ai (Cb PySem.F.plainAttrs_list PySem.F.slot_list_append PySem.F.type_list_append Aw (pv 2) (AA (PE.fZ (C:=C) (RC:=RC) (bd:=bd) λ_ _ _ _ _ _=>To FT fj fq xm mM ZC LC hr B MI GIU kbI mC) AB))))
    (DQ (.mk (Ai (Cb PySem.F.plainAttrs_list PySem.F.slot_list_append PySem.F.type_list_append Aw (pv 2) (AA (PE.fZ (C:=C) (RC:=RC) (bd:=bd) λ_ _ _ _ _ _=>Tl FT fj fq xm mM ZC LC hr G6 m6 k6 b6) AB))))
    (DQ (.mk (Ai (Cb PySem.F.plainAttrs_list PySem.F.slot_list_append PySem.F.type_list_append Aw (pv 2) (AA (PE.fZ (C:=C) (RC:=RC) (bd:=bd) λ_ _ _ _ _ _=>Tj FT fj fq xm mM ZC LC hr RO.RT G7 m7 b7) AB))))
    (DQ (.mk (Ai (Cb PySem.F.plainAttrs_list PySem.F.slot_list_append PySem.F.type_list_append Aw (pv 2) (AA (PE.fZ (C:=C) (RC:=RC) (bd:=bd) λ_ _ _ _ _ _=>Tm FT fj fq xm mM ZC LC hr MV GV mV bV G8 m8 k8 b8) AB))))
    (DQ (.mk (Ai (Cb PySem.F.plainAttrs_list PySem.F.slot_list_append PySem.F.type_list_append Aw (pv 2) (AA (PE.fZ (C:=C) (RC:=RC) (bd:=bd) λ_ _ _ _ _ _=>Tp FT fj fq xm mM ZC LC hr ME GE mE bE) AB))))
    (DQ (.mk (Ai (Cb PySem.F.plainAttrs_list PySem.F.slot_list_append PySem.F.type_list_append Aw (pv 2) (AA (PE.fZ (C:=C) (RC:=RC) (bd:=bd) λ_ _ _ _ _ _=>Rp FT fj fq xm mM ZC LC hr RO.RT MV GV mV bV G10 m10 b10) AB))))
    (DQ (.mk (Ai (Cb PySem.F.plainAttrs_list PySem.F.slot_list_append PySem.F.type_list_append Aw (pv 2) (AA (PE.fZ (C:=C) (RC:=RC) (bd:=bd) λ_ _ _ _ _ _=>Rr FT fj fq xm mM ZC LC hr BO.BT MB GB mB bB G11 m11 b11) AB))))
    (DQ (UV (.mk (Ah (Ae (AM (Bu rfl) rfl B.all Df (AA (HM [] [] qd qb qd qd rfl (JC rfl B.enum (AA (pv 2) AB)) (λ_ _ _ _ _ _=>BM)
      (λ_ _ _ _ _ _=>AO GA cZ rfl mA kA bA .nil AL (AA (pv 1) (AA (pv 0) AB)))) AB))))) (MJ (.mk Ap)) O0)
    (MJ (UV (.mk (AW (Sn K rfl hu64) (g9.h (EX (A6 (.mk (Go rfl (Bi (BP K rfl) (pv 2) AI (λ_ _=>rfl)) rfl)) (A6 (.mk (Go rfl (Bi (BP K rfl) (pv 2) AI (λ_ _=>rfl)) rfl)) (A6 (.mk (Go rfl (Bi (BP K rfl) (pv 2) AI (λ_ _=>rfl)) rfl)) (A6 (.mk (Go rfl (Bi (BP K rfl) (pv 2) AI (λ_ _=>rfl)) rfl)) A5))))))
      (g9.h (EX (A6 (.mk AI) (A6 (HY Fb (.mk AI) (.mk (pv 4))) (A6 (.mk AI) (A6 (.mk Al) A5)))))) (AT _))) (MJ (.mk Ap)) O0)))))))))))))))))))
   (MJ (.mk (AN CY)))),?_⟩
  refine⟨_,Zj,a,ns,Zj,hS,h63,λl as H1 s1 hl nd' hla h5 bc=>?_⟩
  refine⟨l,Zj,⟨_,aJ.of hl⟩,DB (K:=K) (a:=l) (xs:=as.map V.ref) (λi σ H2=>RdI a l bd P0 as i σ H2)
   ⟨⟨λ_=>none,rfl⟩,hl,aA.rd s1 hB,aG.same s1 hTab,λj b _ e=>(bc b (ZS e)).2⟩ (λi σ H2 _ R=>aJ.of R.hl) ?_ (λσ H2 R=>by obtain⟨f,rfl⟩:=R.st;exact kend _)⟩
  rintro i v σ H2 hi RI;rw[ZH]at hi;obtain⟨d,hdi,rfl⟩:=Z6.mp hi;obtain⟨x,y,hd⟩:=RI.ds i d (ZA _) hdi;obtain⟨g,rfl⟩:=RI.st;refine⟨_,Zj,d,x,y,9,Zj,hd,qc,qc,λr a' b' hr0 hr9=>⟨_,_,Zj,Zj,?_⟩⟩;obtain⟨m,rfl⟩:=Int.eq_ofNat_of_zero_le hr0;have m0:1<=1+m/\1+m<=9:=by omega
  have em:(V.int (1+(m:Int)))=V.int ((1+m:Nat):Int):=by rw[Int.natCast_add];rfl
  have ig:(upd H2 d (.lst [.int a',.int b'])) d=some (.lst [.int a',.int b']):=U;have q3:Rq d P0 H2 (upd H2 d (.lst [.int a',.int b'])):=λb o e hb _=>by rw[AE hb];exact e
  have t3:aG (upd H2 d (.lst [.int a',.int b'])) P0 qL LS:=aG.sameX hd ⟨λb o e hb=>by rw[AE hb];exact e,_,_,ig⟩ RI.tb
  have B3:Rd (upd H2 d (.lst [.int a',.int b'])) bd (.dK CP):=by
   rcases RI.hb with q |⟨o,q⟩
   ·exact .inl (by rw[AE (λz=>by subst z;rw[hd]at q;cases q)];exact q)
   ·exact .inr ⟨o,by rw[AE (λz=>by subst z;rw[hd]at q;cases q)];exact q⟩
  generalize upd H2 d (.lst [.int a',.int b'])=H3 at ig q3 t3 B3 ⊢;refine⟨fg,λb1 h1=>⟨fg,λb2 h2=>⟨fg,λr1 fu=>?_⟩⟩⟩;have sa:=((AF (aA.refl _) h1 (o:=HO.tup [V.str "A", V.int 1])).trans (AF (aA.refl _) h2 (o:=HO.tup [V.str "B", V.int 2]))).trans (AF (aA.refl _) fu (o:=HO.lst [V.ref b1,V.ref b2]));have ra:RowsAt (upd (upd (upd H3 b1 (HO.tup [V.str "A", V.int 1])) b2 (HO.tup [V.str "B", V.int 2])) r1 (HO.lst [V.ref b1,V.ref b2])) r1 [("A", .num 1),("B", .num 2)]:=⟨[b1,b2],U,.cons ⟨_,AF (aA.refl _) fu _ _ (AF (aA.refl _) h2 _ _ U),rfl⟩ (.cons ⟨_,AF (aA.refl _) fu _ _ U,rfl⟩ .nil)⟩;generalize upd (upd (upd H3 b1 (HO.tup [V.str "A", V.int 1])) b2 (HO.tup [V.str "B", V.int 2])) r1 (HO.lst [V.ref b1,V.ref b2])=H4 at sa ra ⊢;intro k dk hk hdk hnk;have sN:=BK (D:=C) hk hdk hnk;refine⟨k,dk,r1,_, "bar", Zj,U,Ga sN ra,qc,qc,QJ,qb,λH5 sd KA=>⟨Zj,?_⟩⟩;have s5:=sa.trans (BB sN hk sd);rw[QK]at KA;clear ra sa sd sN hk hdk hnk h1 h2 fu;refine⟨fg,λb1 h1=>⟨fg,λb2 h2=>⟨fg,λr1 fu=>?_⟩⟩⟩;have sa:=((AF (aA.refl _) h1 (o:=HO.tup [V.str "A", V.int 1])).trans (AF (aA.refl _) h2 (o:=HO.tup [V.str "B", V.int 2]))).trans (AF (aA.refl _) fu (o:=HO.lst [V.ref b1,V.ref b2]));have ra:RowsAt (upd (upd (upd H5 b1 (HO.tup [V.str "A", V.int 1])) b2 (HO.tup [V.str "B", V.int 2])) r1 (HO.lst [V.ref b1,V.ref b2])) r1 [("A", .num 1),("B", .num 2)]:=⟨[b1,b2],U,.cons ⟨_,AF (aA.refl _) fu _ _ (AF (aA.refl _) h2 _ _ U),rfl⟩ (.cons ⟨_,AF (aA.refl _) fu _ _ U,rfl⟩ .nil)⟩;generalize upd (upd (upd H5 b1 (HO.tup [V.str "A", V.int 1])) b2 (HO.tup [V.str "B", V.int 2])) r1 (HO.lst [V.ref b1,V.ref b2])=H6 at sa ra ⊢;intro o do' ho hdo hno
  have sN:=BK (D:=C) ho hdo hno;refine⟨o,do',r1,_, "drop", Zj,U,Ga sN ra,qc,qc,QJ,qb,λH7 sd KB=>⟨Zj,?_⟩⟩;have s57:=sa.trans (BB sN ho sd);have s7:=s5.trans s57;rw[QK]at KB;have KA7:=KA.same s57;clear ra sa sd sN ho hdo hno h1 h2 fu;refine⟨λσ H'=>∃ru x2,σ=gS a d k o ru (1+m) x2/\aA H3 H'/\Wo C RC P0 bd a d k o ru (1+m) H',λR hR=>?_,?_⟩
  ·refine⟨_,Zj,fg,λb1 h1=>⟨i9,λr1 fu=>?_⟩⟩;have sa:=(AF (aA.refl _) h1 (o:=HO.tup [V.str "A", V.str "B"])).trans (AF (aA.refl _) fu (o:=HO.lst [V.ref b1]));have ra:eF (upd (upd H7 b1 (HO.tup [V.str "A", V.str "B"])) r1 (HO.lst [V.ref b1])) r1 [("A", "B")]:=⟨[b1],U,.cons (AF (aA.refl _) fu _ _ U) .nil⟩;generalize upd (upd H7 b1 (HO.tup [V.str "A", V.str "B"])) r1 (HO.lst [V.ref b1])=H8 at sa ra ⊢;intro ru dr hru hdr hnr;have sN:=BK (D:=RC) hru hdr hnr;have st:=sa.trans sN;refine⟨ru,dr,k,tR,r1,eK, "bar", [],[("A", "B")],Zj,U,KA7.same st,qc,qb,⟨[],.inr (hTR _),.nil⟩,(ra.same sN).s,⟨qc,λp hp=>by cases hp⟩,U0,λH9 sd RU _=>⟨Zj,hR _ _ ⟨ru,g 2,?_,?_,?_⟩⟩⟩
   ·unfold gS;rw[←em];rfl
   ·exact s7.trans (sa.trans (BB sN hru sd))
   ·have s79:=sa.trans (BB sN hru sd);have s39:=s7.trans s79;exact⟨KA7.same s79,KB.same s79,RU,aG.same s39 t3,aA.rd s39 B3,m0⟩
  clear KA KA7 KB s5 s57 s7;rintro σ HL ⟨ru,x2,rfl,s3L,W⟩;clear em hr0 hr9;generalize 1+m=m at m0 W ⊢;refine⟨λσ H'=>∃l2 es,σ=gS a d k o ru m (some (.ref l2))/\es.length=1/\Rx P0 ec m HL l2 es H',λR hR=>?_,?_⟩
  ·refine⟨a,d,k,o,ru,m,⟨_,Zj⟩,W,λe H' rt tb x=>⟨i9,λl2 eN=>hR _ _ ⟨l2,[e],Zj,Zj,?_⟩⟩⟩;have su:=AF (aA.refl H') eN (o:=HO.lst [V.ref e])
   have hn:HL l2=none:=by
    cases q:HL l2 with
    |none=>rfl
    |some u =>
     by_cases hq:l2=P0
     ·obtain⟨ps,hp,_⟩:=tb;rw[hq,hp]at eN;cases eN
     ·rw[rt _ _ q hq]at eN;cases eN
   refine⟨rt.trans (Rt.same su),aG.same su tb,hn,U,λj e' hj=>?_⟩;have hj0:j=0:=by have:j<1:=(Z8.mp hj).1;omega
   subst hj0;cases hj;exact x.kp λb o eb _ _=>su _ _ eb
  rintro σ H' ⟨l2,es,rfl,e0,X⟩;refine⟨λσ H'=>∃l2 es,σ=gS a d k o ru m (some (.ref l2))/\es.length=2/\Rx P0 ec m HL l2 es H',λR hR=>⟨_,Zj,.inl ⟨Zj,_,aJ.of X.hl⟩,bQ.app (R:=R _) W X e0 qc λe H' X'=>hR _ _ ⟨l2,es++[e],Zj,by rw[ZJ,e0];rfl,X'⟩⟩,?_⟩;clear X e0;clear es l2;rintro σ H' ⟨l2,es,rfl,e0,X⟩;refine⟨λσ H'=>∃l2 es,σ=gS a d k o ru m (some (.ref l2))/\es.length=3/\Rx P0 ec m HL l2 es H',λR hR=>⟨_,Zj,.inl ⟨Zj,_,aJ.of X.hl⟩,bQ.app (R:=R _) W X e0 qc λe H' X'=>hR _ _ ⟨l2,es++[e],Zj,by rw[ZJ,e0];rfl,X'⟩⟩,?_⟩;clear X e0;clear es l2;rintro σ H' ⟨l2,es,rfl,e0,X⟩;refine⟨λσ H'=>∃l2 es,σ=gS a d k o ru m (some (.ref l2))/\es.length=4/\Rx P0 ec m HL l2 es H',λR hR=>⟨_,Zj,.inl ⟨Zj,_,aJ.of X.hl⟩,bQ.app (R:=R _) W X e0 qc λe H' X'=>hR _ _ ⟨l2,es++[e],Zj,by rw[ZJ,e0];rfl,X'⟩⟩,?_⟩;clear X e0;clear es l2;rintro σ H' ⟨l2,es,rfl,e0,X⟩;refine⟨λσ H'=>∃l2 es,σ=gS a d k o ru m (some (.ref l2))/\es.length=5/\Rx P0 ec m HL l2 es H',λR hR=>⟨_,Zj,.inl ⟨Zj,_,aJ.of X.hl⟩,bQ.app (R:=R _) W X e0 qc λe H' X'=>hR _ _ ⟨l2,es++[e],Zj,by rw[ZJ,e0];rfl,X'⟩⟩,?_⟩;clear X e0;clear es l2;rintro σ H' ⟨l2,es,rfl,e0,X⟩;refine⟨λσ H'=>∃l2 es,σ=gS a d k o ru m (some (.ref l2))/\es.length=6/\Rx P0 ec m HL l2 es H',λR hR=>⟨_,Zj,.inl ⟨Zj,_,aJ.of X.hl⟩,bQ.app (R:=R _) W X e0 qc λe H' X'=>hR _ _ ⟨l2,es++[e],Zj,by rw[ZJ,e0];rfl,X'⟩⟩,?_⟩;clear X e0;clear es l2;rintro σ H' ⟨l2,es,rfl,e0,X⟩;refine⟨λσ H'=>∃l2 es,σ=gS a d k o ru m (some (.ref l2))/\es.length=7/\Rx P0 ec m HL l2 es H',λR hR=>⟨_,Zj,.inl ⟨Zj,_,aJ.of X.hl⟩,bQ.app (R:=R _) W X e0 qc λe H' X'=>hR _ _ ⟨l2,es++[e],Zj,by rw[ZJ,e0];rfl,X'⟩⟩,?_⟩;clear X e0;clear es l2;rintro σ H' ⟨l2,es,rfl,e0,X⟩;refine⟨λσ H'=>∃l2 es,σ=gS a d k o ru m (some (.ref l2))/\es.length=8/\Rx P0 ec m HL l2 es H',λR hR=>⟨_,Zj,.inl ⟨Zj,_,aJ.of X.hl⟩,bQ.app (R:=R _) W X e0 qc λe H' X'=>hR _ _ ⟨l2,es++[e],Zj,by rw[ZJ,e0];rfl,X'⟩⟩,?_⟩;clear X e0;clear es l2;rintro σ H' ⟨l2,es,rfl,e0,X⟩;refine⟨λσ H'=>∃l2 es,σ=gS a d k o ru m (some (.ref l2))/\es.length=9/\Rx P0 ec m HL l2 es H',λR hR=>⟨_,Zj,.inl ⟨Zj,_,aJ.of X.hl⟩,bQ.app (R:=R _) W X e0 qc λe H' X'=>hR _ _ ⟨l2,es++[e],Zj,by rw[ZJ,e0];rfl,X'⟩⟩,?_⟩;clear X e0;clear es l2;rintro σ H' ⟨l2,es,rfl,e0,X⟩;refine⟨λσ H'=>∃l2 es,σ=gS a d k o ru m (some (.ref l2))/\es.length=10/\Rx P0 ec m HL l2 es H',λR hR=>⟨_,Zj,.inl ⟨Zj,_,aJ.of X.hl⟩,bQ.app (R:=R _) W X e0 qc λe H' X'=>hR _ _ ⟨l2,es++[e],Zj,by rw[ZJ,e0];rfl,X'⟩⟩,?_⟩;clear X e0;clear es l2;rintro σ H' ⟨l2,es,rfl,e0,X⟩;refine⟨λσ H'=>∃l2 es,σ=gS a d k o ru m (some (.ref l2))/\es.length=11/\Rx P0 ec m HL l2 es H',λR hR=>⟨_,Zj,.inl ⟨Zj,_,aJ.of X.hl⟩,bQ.app (R:=R _) W X e0 qc λe H' X'=>hR _ _ ⟨l2,es++[e],Zj,by rw[ZJ,e0];rfl,X'⟩⟩,?_⟩;clear X e0;clear es l2;rintro σ H' ⟨l2,es,rfl,e0,X⟩;refine⟨λσ H'=>∃l2 es,σ=gS a d k o ru m (some (.ref l2))/\es.length=11/\Rx P0 ec m HL l2 es H',λR hR=>?_,?_⟩
  ·refine⟨_,Zj,l2,Zj,⟨_,aJ.of X.hl⟩,OB (K:=K) (a:=l2) (xs:=es.map V.ref) (λi ys H3=>i<=11/\aA H' H3/\ys=replicate i (V.bl true)) ⟨qc,aA.refl _,Zj⟩ (λi ys H3 _ ⟨_,s3,_⟩=>aJ.of (s3 _ _ X.hl)) (λi ys H3 ⟨hi,_,e⟩=>by rw[e,length_replicate];omega) ?_ ?_⟩
   ·rintro j v ys H3 p hj ⟨_,s4,rfl⟩ hp;rw[ZH]at hj;obtain⟨e,he,rfl⟩:=Z6.mp hj;have aX:j<11:=by rw[←e0];exact(Z8.mp he).1
    have s5:=s4.trans (AF (aA.refl _) hp (o:=HO.tup [.int j,.ref e]));obtain⟨dx,h1,h2⟩:=((X.ex j e he).kp λb o eb _ _=>s5 b o eb).at;refine⟨p,_,Zj,bZ.of U,Zj,_,_,Zj,_,_,Zj,Zj,_,Zj,_,Zj,e,_,j,dx,Zj,h1,h2,EA.at_ j aX,λH6 s6=>⟨aX,s5.trans s6,?_⟩⟩;rw[List.replicate_succ']
   ·rintro ys H3 ⟨_,s4,rfl⟩ q hq;have sq:=s4.trans (AF (aA.refl _) hq (o:=HO.lst (replicate (es.map V.ref).length (V.bl true))));refine⟨q,replicate 11 true,Zj,?_,_,Zj,?_⟩
    ·rw[AK,e0];exact aJ.of U
    ·refine Bj (λz=>by cases z) (λ_=>hR _ _ ⟨l2,es,Zj,e0,?_⟩);exact⟨X.r.trans (Rt.same sq),aG.same sq X.tab,X.n,sq _ _ X.hl,λj e hj=>(X.ex j e hj).kp λb o eb _ _=>sq b o eb⟩
  clear X e0;clear es l2;rintro σ H' ⟨l2,es,rfl,e0,X⟩;have gt:∀j,j<11->∃e,es[j]?=some e:=λj hj=>⟨es[j]'qe,Z7 qe⟩
  have at_:∀ {j:Nat}{e:Vs},es[j]?=some e->iz (es.map V.ref) (j:Int)=some (.ref e):=λ{j e} h=>by
   exact CK (by rw[ZH,h];rfl)
  obtain⟨e0',g0⟩:=gt 0 qc;obtain⟨e1',g1⟩:=gt 1 qc;obtain⟨e2',g2⟩:=gt 2 qc;obtain⟨e3',g3⟩:=gt 3 qc;obtain⟨d0,h0,i0⟩:=(X.ex 0 _ g0).fld qc;obtain⟨d1,h1,i1⟩:=(X.ex 1 _ g1).fld qc;obtain⟨d2',h2,i2⟩:=(X.ex 2 _ g2).fld qc;obtain⟨d3',h3,i3⟩:=(X.ex 3 _ g3).fld qc;refine⟨_,Zj,l2,_,_,_,Zj,Zj,aJ.of X.hl,at_ g0,e0',_,d0,_,_,Zj,h0,EA.fl 0 qc,i0,Zj,?_⟩;refine⟨_,Zj,l2,_,_,_,Zj,Zj,aJ.of X.hl,at_ g1,e1',_,d1,_,_,Zj,h1,EA.fl 1 qc,i1,Zj,?_⟩;refine⟨_,Zj,l2,_,_,_,Zj,Zj,aJ.of X.hl,at_ g2,e2',_,d2',_,_,Zj,h2,EA.fl 2 qc,i2,Zj,?_⟩;refine⟨_,Zj,l2,_,_,_,Zj,Zj,aJ.of X.hl,at_ g3,e3',_,d3',_,_,Zj,h3,EA.fl 3 qc,i3,Zj,?_⟩;refine⟨sl4,λp1 al=>⟨_,Zj,_,_,Zj,Zj,.inl ⟨qc,qc⟩,sl4,λp2 am=>?_⟩⟩;have sa:=AF (aA.refl _) al (o:=HO.lst [V.int 1,V.int ((4*m:Nat):Int),V.int 2,V.str "B"]);have sb:=AF (aA.refl _) am (o:=HO.lst [V.int 1,V.int (4*(m:Int)),V.int 2,V.str "B"]);have st:=sa.trans sb;have m9:m<10:=by omega
  refine⟨_,_,DN (sb _ _ U) (U4 _ _ _ _),DN U (U4 _ _ _ _),Ru m m9,Rv m m9,_,Zj,?_⟩;refine Bj (λz=>?_) (λ_=>?_)
  ·rw[Rw m m9]at z;cases z
  ·refine RI.fin nd' hla hdi (λb o eb h1 h2=>?_) (aG.same st X.tab) ⟨λn=>(gS a d k o ru m (some (.ref l2))).getD n none,Zj⟩;exact st _ _ (X.r _ _ (s3L _ _ (q3 b o eb h1 h2)) h2)
end
end Mk
end
section
namespace Mk
open PySem L2 MK
theorem Gb {dt:Vs}{tk:Tok}{kV doc pm ae ct:Value}{an:Option Vs}{n:Nat} (hd:K.lookup dt=some ⟨.type "tuple", none,.seq #[.str "" tk] n,#[]⟩) :
  Binds K (W.fnOf "__init__" "MarkError.__init__" (defArgs A7) (defBody A7) (defScope A7) (.ref dt) kV doc pm an ae ct) ["self", "words"] []:=by
 intro s us hK hl
 have eN:us.length=2:=by
  rw[Zv]at hl;exact hl
 match us,eN with
 | [u1,u2],_ =>
  have ho:=hK _ _ hd;intro M A E Q hq;unfold bindArgs;simp only[W.fnOf]
  repeat (first |with_reducible refine wpAny_seqItems ho rfl ?_ | (with_reducible refine Zz (wpAny_seqItems ho rfl ?_)) |wp_step)
  exact Eq.mp (congrArg (λz=>Q z s) qd) hq
theorem Hx {h:Heap}{N:Vs}{n:Str}{v:Value} (X:K.In h) (G:h.Ns N mg) (e:W.nsIn K N n=some (some v)):mg n=some v:=by
 obtain⟨o,es,ep,ho,hd,_,hf⟩:=G;unfold W.nsIn at e;split at e
 ·rename_i c d es' n' sl q;have:=X _ _ q;rw[ho]at this;cases this;cases hd;split at e
  ·rename_i he;cases e;rw[←hf];unfold nsFind findBy;rw[←Array.find?_toList,he];rfl
  ·split at e <;> cases e
 ·cases e
theorem Ry {kV doc pm ae ct:Value}{an:Option Vs} :
  Cm K (W.fnOf "__init__" "Kind.__init__" (defArgs At) (defBody At) (defScope At) .none kV doc pm an ae ct) ["self", "rows", "rest"] ["rest"] gU3 gV3:=by
 refine⟨λs us ws _ hl=>?_,λ{vs us zs ws} r rz=>?_⟩
 ·unfold gU3 at hl ⊢;split at hl
  ·exact .of_eq qd
  ·cases hl
 ·cases r with
  |nil=>exact .nil
  |cons r1 rr =>
   cases rr with
   |nil=>exact .nil
   |cons r2 rr =>
    cases rr with
    |cons _ _=>exact .nil
    |nil =>
     cases rz with
     |nil=>exact .nil
     |cons z1 zz =>
      cases zz with
      |nil=>exact .cons r1 (.cons r2 (.cons z1 .nil))
      |cons _ _=>exact .nil
theorem QM {kV doc pm ae ct:Value}{an:Option Vs} :
  Cm K (W.fnOf "steps_of" "steps_of" (defArgs CN) (defBody CN) (defScope CN) .none kV doc pm an ae ct) ["text", "lettered"] ["lettered"] gU2 gV2:=by
 refine⟨λs us ws _ hl=>?_,λ{vs us zs ws} r rz=>?_⟩
 ·unfold gU2 at hl ⊢;split at hl
  ·exact .of_eq qd
  ·cases hl
 ·cases r with
  |nil=>exact .nil
  |cons r1 rr =>
   cases rr with
   |cons _ _=>exact .nil
   |nil =>
    cases rz with
    |nil=>exact .nil
    |cons z1 zz =>
     cases zz with
     |nil=>exact .cons r1 (.cons z1 .nil)
     |cons _ _=>exact .nil
theorem Ts {kd:Vs}{v doc pm ae ct:Value}{an:Option Vs} (ok:W.nsOkIn K kd=true) (e:W.nsIn K kd "rest" = some (some v)) :
  Binds K (W.fnOf "__init__" "Kind.__init__" (defArgs At) (defBody At) (defScope At) .none (.ref kd) doc pm an ae ct) ["self", "rows", "rest"] [v]:=by
 intro s us hK hl
 have eN:us.length=2:=by
  rw[ZJ]at hl;exact Nat.succ.inj hl
 match us,eN with
 | [u1,u2],_ =>
  have G:s.heap.Ns kd (s.heap.nsMap kd):=.of_isNs (W.isNs_of_in hK ok);have hm:s.heap.nsMap kd "rest" = some v:=Hx hK G e;intro M A E Q hq;unfold bindArgs;simp only[W.fnOf]
  repeat (first | (with_reducible refine wpAny_nsGet G ?_;rw[hm]) |wp_step)
  exact Eq.mp (congrArg (λz=>Q z s) qd) hq
theorem Rz {kd t:Vs}{doc pm ae ct:Value}{an:Option Vs} (ok:W.nsOkIn K kd=true) (e:W.nsIn K kd "needs" = some (some (.ref t))) :
  Cm K (W.fnOf "__init__" "Rule.__init__" (defArgs CD) (defBody CD) (defScope CD) .none (.ref kd) doc pm an ae ct) ["self", "kind", "needs", "bars"] ["bars"] (gUR t) (gVR t):=by
 refine⟨λs us ws hK hl=>?_,λ{vs us zs ws} r rz=>?_⟩
 ·unfold gUR at hl ⊢;split at hl
  ·have G:s.heap.Ns kd (s.heap.nsMap kd):=.of_isNs (W.isNs_of_in hK ok);have hm:s.heap.nsMap kd "needs" = some (.ref t):=Hx hK G e;intro M A E Q hq;unfold bindArgs;simp only[W.fnOf]
   repeat (first | (with_reducible refine wpAny_nsGet G ?_;rw[hm]) |wp_step)
   exact Eq.mp (congrArg (λz=>Q z s) qd) hq
  ·cases hl
 ·cases r with
  |nil=>exact .nil
  |cons r1 rr =>
   cases rr with
   |nil=>exact .nil
   |cons r2 rr =>
    cases rr with
    |cons _ _=>exact .nil
    |nil =>
     cases rz with
     |nil=>exact .nil
     |cons z1 zz =>
      cases zz with
      |nil=>exact .cons r1 (.cons r2 (.cons rfl (.cons z1 .nil)))
      |cons _ _=>exact .nil
end Mk
end
section
namespace Mk
open PySem L2 MK PySem.W
noncomputable abbrev fO (x q:Str) (s:Stmt):=fnOf x q (defArgs s) (defBody s) (defScope s)
theorem Fa {K:Frag}{C:Vs}{T:String} (h:isClsIn K C=true) (h2:typeIn K (.ref C)=some (.type "type")) (e:subIn K (.type T) (.ref C)=some false):kitOne K (.type T) (.ref C)=some false:=by
 unfold kitOne;rw[Zs (by simp)];unfold kitCls;show(if _ then _ else _)=_;rw[Zr (by unfold isClsIn at h;rw[h,h2];simp)];exact e
theorem Gx {K:Frag}{C M:Vs}{f:Str} (h:(clsIn K C).map (λcd=>(cd.mro,cd.hasDict))=some (Ef C M,true)) (n:findIn K (.ref C) f=some none) (s:findIn K (.ref C) "__setattr__" = some (some (.builtin "object.__setattr__"))):NH K C M f:=by
 obtain⟨cd,e,z⟩:=Z6.mp h;exact⟨⟨cd,e,congrArg Prod.fst z,congrArg Prod.snd z⟩,n,s⟩
noncomputable def Ko (K:Frag) (c P:Vs):Bool:=match K.lookup c with
 |some ⟨.type "code", _,.fields vs,_⟩=>(match (vs[11]?:Option Value),vs.getD 18 Value.none,vs.getD 7 Value.none,vs.getD 9 Value.none,vs.getD 10 Value.none with
  |some (.ref p),.str _ _,.int _ _,.bool _,.int _ _=>p==P && !(c==P)
  |_,_,_,_,_=>false)
 |_=>false
theorem codeHd_of {K:Frag}{h:Heap}{c P:Vs} (X:K.In h) (q:Ko K c P=true):CodeHd h c P:=by
 unfold Ko at q;split at q
 ·rename_i d vs sl ho;split at q
  ·rename_i p f tf fl tg b tx tt h11 h18 h7 h9 h10;rw[Bool.and_eq_true,beq_iff_eq]at q;obtain⟨rfl,hn⟩:=q;refine⟨_,vs,f,tf,fl,tg,b,tx,tt,X _ _ ho,Zj,Zj,h11,?_,h18,h7,h9,h10,λz=>by simp[z]at hn⟩;rw[Array.getD_eq_getD_getElem?,h11];rfl
  ·cases q
 ·cases q
section
variable {P:Program}{w:World}{K:Frag}{mg:SV}{base:Heap}{x q:Str}{st:Stmt}{k:Nat}{ps:Vp}{sp:Sp}{f C:Vs}{fd:FuncData}{p1 p2 p3 p4 p5:Str}
theorem fnT (F:aQ K x x st f fd) (ok:aB P w K mg base aL k f fd ps sp) (m:mg x=some (.ref f)) (b:Binds K fd ps []):Fn P w K mg base x k ps sp:=⟨⟨f,fd,ok,m,F.kp,b⟩⟩
theorem mtT (a:findIn K (.ref C) x=some (some (.ref f))) (i:isFn K (.ref f)=true) (F:aQ K x q st f fd) (ok:aB P w K mg base aL k f fd ps sp) (b:Binds K fd ps []):Mt P w K mg base C x k ps sp:=⟨⟨f,fd,ok,⟨a,i,F.kp⟩,b⟩⟩
noncomputable abbrev fB (x q:Str) (st:Stmt) (kV doc pm:Value) (an:Option Vs) (ae ct:Value) (us:Vq):Sem (List (Str×Value)):=bindArgs (fO x q st .none kV doc pm an ae ct) ⟨us,[]⟩
theorem fG (F:aQ K x q st f fd) (h:∀a b c d e g u1,fB x q st a b c d e g [u1]=pure [(p1,u1)]):Binds K fd [p1] []:=F.binds λ_ _ _ _ _ _ us hl=>match us,hl with | [_],_=>h ..
theorem dH (F:aQ K x q st f fd) (h:∀a b c d e g u1 u2,fB x q st a b c d e g [u1,u2]=pure [(p1,u1),(p2,u2)]):Binds K fd [p1,p2] []:=F.binds λ_ _ _ _ _ _ us hl=>match us,hl with | [_,_],_=>h ..
theorem bi3 (F:aQ K x q st f fd) (h:∀a b c d e g u1 u2 u3,fB x q st a b c d e g [u1,u2,u3]=pure [(p1,u1),(p2,u2),(p3,u3)]):Binds K fd [p1,p2,p3] []:=F.binds λ_ _ _ _ _ _ us hl=>match us,hl with | [_,_,_],_=>h ..
theorem bi4 (F:aQ K x q st f fd) (h:∀a b c d e g u1 u2 u3 u4,fB x q st a b c d e g [u1,u2,u3,u4]=pure [(p1,u1),(p2,u2),(p3,u3),(p4,u4)]):Binds K fd [p1,p2,p3,p4] []:=F.binds λ_ _ _ _ _ _ us hl=>match us,hl with | [_,_,_,_],_=>h ..
end
def DG (K:Frag) (x:Str) (st:Stmt):Prop:=∃f fd,nsIn K mainGlobals x=some (some (.ref f))/\aQ K x x st f fd
def DM (K:Frag) (C:Vs) (x q:Str) (st:Stmt):Prop:=∃f fd,findIn K (.ref C) x=some (some (.ref f))/\isFn K (.ref f)=true/\(∃o,K.lookup f=some o/\o.cls=.type "function")/\aQ K x q st f fd
structure CF (K:Frag) (C:Vs):Prop where
 pg:plainGet K C Str.empty=true
 hd:hasDictIn K C=true
 po:plainOver K C=true
 sa:findIn K (.ref C) "__setattr__" = some (some (.builtin "object.__setattr__"))
 mz:makesIn K C=true
 kc:keepIn K (.ref C)=true
 qa:findIn K (.ref C) "__class__" = some (some (.builtin "object.__class__"))
 qm:mroIn K C (.type "object")=some true
 ql:isClsIn K C=true
 qy:typeIn K (.ref C)=some (.type "type")
 qs:subIn K (.type "list") (.ref C)=some false
 qi:subIn K (.type "int") (.ref C)=some false
 qt:subIn K (.type "tuple") (.ref C)=some false
 ne:findIn K (.ref C) "__ne__" = some (some (.builtin "object.__ne__"))
structure XF (K:Frag) (ec:Nat->Vs) (C:Vs) (j:Nat):Prop where
 cx:L2.BF K C=true
 ga:findIn K (.ref C) "__getattribute__" = some (some (.builtin "BaseException.__getattribute__"))
 gr:findIn K (.ref C) "__getattr__" = some none
 gb:mroIn K C (.type "BaseException")=some true
 kc:(clsIn K C).isSome=true
 ka:findIn K (.ref C) "__class__" = some (some (.builtin "object.__class__"))
 km:mroIn K C (.type "object")=some true
 kt:((List.range 11).all λi=>i==j ||decide (kitOne K (.ref C) (.ref (ec i))=some false))=true
 tv:kitOne K (.ref C) (.type "ValueError")=some true
 ke:keepIn K (.ref C)=true
theorem XF.at {K:Frag}{ec:Nat->Vs}{C:Vs}{j:Nat} (F:XF K ec C j) (hj:j<11) (e:C=ec j) (qn:specialIn K (.builtin "object.__class__") "__get__" = some (some (.builtin "getset_descriptor.__get__"))) (qt:takesIn K (.builtin "object.__class__")=some true):Pk K ec C j:=by
 refine⟨hj,⟨⟨F.ga,F.gr,F.gb⟩,F.kc,F.ka,qn,qt,F.km⟩,λi hi=>?_,F.tv⟩;have h:=List.all_eq_true.mp F.kt i (mem_range.mpr hi);rw[Bool.or_eq_true]at h;rcases h with z |z
 ·rw[eq_of_beq z,e,ZN rfl];exact FQ K _
 ·by_cases q:i=j
  ·rw[q,e,ZN rfl];exact FQ K _
  ·rw[ZQ q];exact ZW z
structure XP (K:Frag) (ec:Nat->Vs) (cM C f:Vs) (j:Nat):Prop where
 F:XF K ec C j
 n:((List.range 4).all λi=>!(E8 K C).contains (.ref (ec i)))=true
 m:(E8 K C).contains (.ref cM)=true
 i:findIn K (.ref C) "__init__" = some (some (.ref f))
structure XL (K:Frag) (ec:Nat->Vs) (cM C:Vs) (j:Nat) (fld:Str):Prop where
 F:XF K ec C j
 n:((List.range j).all λi=>!(E8 K C).contains (.ref (ec i)))=true
 m:(E8 K C).contains (.ref (ec j))=true
 gh:hasDictIn K C=true
 gn:findIn K (.ref C) fld=some none
 gs:findIn K (.ref C) "__setattr__" = some (some (.builtin "object.__setattr__"))
 s:(clsIn K C).map (λcd=>(cd.mro,cd.hasDict))=some (Ef C cM,true)
theorem all_mk {l:OpenLaw}{w:World}{K:Frag}{h:Heap}{mg:SV}{fz C VC EC RC DC BC aR kd dt cM c P0 e0 e1 e2 e3 e4 e5 e6 e7 e8 e9 gp fin iu fla:Vs} (X:K.In h) (G:h.Ns mainGlobals mg) (hfa:mg "law" = some (.ref fz))
  {ocla kVla dcla pmla ctla ocin dcin pmin cdin ctin kVei dcei pmei cdei ctei ocK:Value}{odla anla odin anin odei anei odR odK:Option Vs}{slla slin slei slK slR:Array (Option Value)}{tG tM tL tLi tB t1 t2 t3 t4 tE:Tok}{nRR epK nE:Nat}{esK:Array DictEntry}{jn:Vs}{j1 j2 j3 tLB:Tok}{odJ:Option Vs}{nJ:Nat}{slJ:Array (Option Value)}{fri k2 t5:Vs}{ocri dcri pmri cdri ctri ocK2:Value}{odri anri odK2 odT5:Option Vs}{slri slK2 slT5:Array (Option Value)}{epK2 nT5:Nat}{esK2:Array DictEntry}{fst:Vs}{ocst kVst dcst pmst cdst ctst:Value}{odst anst:Option Vs}{slst:Array (Option Value)}{bd:Vs}
  (aC:nsIn K mainGlobals "Kind" = some (some (.ref C)))
  (aVC:nsIn K mainGlobals "Value" = some (some (.ref VC)))
  (aEC:nsIn K mainGlobals "Edition" = some (some (.ref EC)))
  (aRC:nsIn K mainGlobals "Rule" = some (some (.ref RC)))
  (aDC:nsIn K mainGlobals "Reading" = some (some (.ref DC)))
  (aBC:nsIn K mainGlobals "Book" = some (some (.ref BC)))
  (aM:nsIn K mainGlobals "MarkError" = some (some (.ref cM)))
  (aX0:nsIn K mainGlobals "BadRows" = some (some (.ref e0)))
  (aX1:nsIn K mainGlobals "BadRest" = some (some (.ref e1)))
  (aX2:nsIn K mainGlobals "BadText" = some (some (.ref e2)))
  (aX3:nsIn K mainGlobals "Unled" = some (some (.ref e3)))
  (aX4:nsIn K mainGlobals "BadRule" = some (some (.ref e4)))
  (aX5:nsIn K mainGlobals "BadName" = some (some (.ref e5)))
  (aX6:nsIn K mainGlobals "BadNumber" = some (some (.ref e6)))
  (aX7:nsIn K mainGlobals "Unlike" = some (some (.ref e7)))
  (aX8:nsIn K mainGlobals "BadPairs" = some (some (.ref e8)))
  (aX9:nsIn K mainGlobals "Never" = some (some (.ref e9)))
  (aX10:nsIn K mainGlobals "Nothing" = some (some (.ref gp)))
  (z_VE:nsIn K mainGlobals "ValueError" = some none)
  (hwh:DG K "is_whole" FF)
  (hnm:DG K "is_name" JP)
  (huo:DG K "union_of" Hb)
  (hnx:DG K "next_mark" Fh)
  (hoo:DG K "is_one_of" Dy)
  (hno:DG K "is_names_of" Eg)
  (hth:DG K "thing_number" Da)
  (hro:DG K "row_number" Db)
  (hnb:DG K "numbered" DK)
  (hfi:DG K "first_names" Dz)
  (him:DG K "is_mark" JQ)
  (hmR:DM K C "rows" "Kind.rows" Fi)
  (hmK:DM K C "known" "Kind.known" Ei)
  (hmT:DM K C "rest" "Kind.rest" Fj)
  (hmM:DM K C "marks" "Kind.marks" Eh)
  (hmE:DM K C "__eq__" "Kind.__eq__" JR)
  (hlc:DG K "_law_cell" Hj)
  (hld:DG K "_law_drawn" Fq)
  (hlr:DG K "_law_roll" Hk)
  (hls:DG K "_law_rounds" Eo)
  (hxn:DG K "is_number" EI)
  (hxr:DG K "rest_of" JS)
  (hxi:DM K VC "__init__" "Value.__init__" Ej)
  (hxN:DM K VC "number" "Value.number" Dc)
  (hxK:DM K VC "kind" "Value.kind" Ek)
  (hxE:DM K VC "__eq__" "Value.__eq__" He)
  (hgl:DG K "is_letter" Fl)
  (hdS:DM K DC "settle" "Reading.settle" Ct)
  (hdP:DM K DC "take_part" "Reading.take_part" CG)
  (hdB:DM K DC "take_between" "Reading.take_between" Bg)
  (hdA:DM K DC "take_ahead" "Reading.take_ahead" By)
  (hdC:DM K DC "take_close" "Reading.take_close" Bz)
  (hdG:DM K DC "take_sign" "Reading.take_sign" CH)
  (hdN:DM K DC "ends" "Reading.ends" De)
  (hlA:DG K "_law_alone" Fs)
  (ho1:DG K "is_one_of" Dy)
  (heE:DG K "is_entry" Hi)
  (hmb:DG K "mark_bits" Fg)
  (hxM:DM K VC "marks" "Value.marks" D0)
  (hxR:DM K VC "rest" "Value.rest" El)
  (huq:DG K "unions_of" Ff)
  (hrp:DG K "is_pair" JT)
  (hrq:DG K "pairs_of" Hg)
  (hrf:DM K RC "first_fault" "Rule.first_fault" CV)
  (hrO:DM K RC "own_number" "Rule.own_number" Cq)
  (hrF:DM K RC "fault" "Rule.fault" Em)
  (hrW:DM K RC "lets" "Rule.lets" Fk)
  (hmN:DM K C "number" "Kind.number" CM)
  (hgf:DG K "is_figures" En)
  (hgp:DG K "is_part" JU)
  (hge:DG K "part_end" Hh)
  (hgo:DG K "number_of" Fo)
  (hdI:DM K DC "__init__" "Reading.__init__" Dd)
  (hti:DM K e2 "__init__" "BadText.__init__" FE)
  (hoi:DM K e0 "__init__" "BadRows.__init__" FC)
  (hqi:DM K e1 "__init__" "BadRest.__init__" FD)
  (hui:DM K e3 "__init__" "Unled.__init__" Ha)
  (hre:DG K "read" MM)
  (hmd:DG K "made" KK)
  (hvo:DG K "value_of" D1)
  (hsk:DG K "same_kind" DL)
  (huU:DG K "union" Hf)
  (heT:DG K "table_of" FH)
  (heI:DM K EC "__init__" "Edition.__init__" Ce)
  (heN:DM K EC "names_for" "Edition.names_for" Bd)
  (heL:DM K EC "led" "Edition.led" CO)
  (hrN:DM K RC "nth" "Rule.nth" D2)
  (hrP:DM K RC "place" "Rule.place" Cr)
  (hbI:DM K BC "__init__" "Book.__init__" Fp)
  (hbT:DM K BC "take_back" "Book.take_back" Bk)
  (hlo:DG K "_law_met" Cf)
  (ain:findIn K (.ref C) "__init__" = some (some (.ref fin)))
  (iin:isFn K (.ref fin)=true)
  (lin:K.lookup fin=some ⟨ocin,odin,.func (fO "__init__" "Kind.__init__" At .none (.ref kd) dcin pmin anin cdin ctin),slin⟩)
  (cin:codeIn K cdin "Kind.__init__" = true)
  (kin:keepIn K (.ref fin)=true)
  (ala:nsIn K mainGlobals "law" = some (some (.ref fla)))
  (lla:K.lookup fla=some ⟨ocla,odla,.func (fO "law" "law" BV .none kVla dcla pmla anla (.ref c) ctla),slla⟩)
  (cla:codeIn K (.ref c) "law" = true)
  (kla:keepIn K (.ref fla)=true)
  (aei:findIn K (.ref cM) "__init__" = some (some (.ref iu)))
  (iei:isFn K (.ref iu)=true)
  (lei:K.lookup iu=some ⟨(.type "function"),odei,.func (fO "__init__" "MarkError.__init__" A7 (.ref dt) kVei dcei pmei anei cdei ctei),slei⟩)
  (cei:codeIn K cdei "MarkError.__init__" = true)
  (kei:keepIn K (.ref iu)=true)
  (ast:nsIn K mainGlobals "steps_of" = some (some (.ref fst)))
  (lst:K.lookup fst=some ⟨ocst,odst,.func (fO "steps_of" "steps_of" CN .none kVst dcst pmst anst cdst ctst),slst⟩)
  (cst:codeIn K cdst "steps_of" = true)
  (kst:keepIn K (.ref fst)=true)
  (kdl:K.lookup kd=some ⟨ocK,odK,.dict esK epK,slK⟩)
  (kde:(esK.all λe=>match e.key with | .str _ _=>true |_=>false)=true)
  (kdr:nsIn K kd "rest" = some (some (.str "bar" tB)))
  (dtl:K.lookup dt=some ⟨.type "tuple", none,.seq #[.str "" tE] nE,#[]⟩)
  (vG:nsIn K mainGlobals "GREATEST" = some (some (.int 1048575 tG)))
  (vM:nsIn K mainGlobals "MOST_ROWS" = some (some (.int 10 tM)))
  (vL:nsIn K mainGlobals "LONGEST_NAME" = some (some (.int 6 tL)))
  (vLi:nsIn K mainGlobals "LIMIT" = some (some (.int 1099511627776 tLi)))
  (vR:nsIn K mainGlobals "RULES" = some (some (.ref aR)))
  (qn:specialIn K (.builtin "object.__class__") "__get__" = some (some (.builtin "getset_descriptor.__get__")))
  (qt:takesIn K (.builtin "object.__class__")=some true)
  (fC:CF K C)
  (fVC:CF K VC)
  (fEC:CF K EC)
  (fRC:CF K RC)
  (fDC:CF K DC)
  (fBC:CF K BC)
  (nC_numbers:findIn K (.ref C) "numbers" = some none)
  (nC_firsts:findIn K (.ref C) "firsts" = some none)
  (nC_rule:findIn K (.ref C) "rule" = some none)
  (nVC_own_kind:findIn K (.ref VC) "own_kind" = some none)
  (nVC_bits:findIn K (.ref VC) "bits" = some none)
  (nEC_own_kind:findIn K (.ref EC) "own_kind" = some none)
  (nEC_second_kind:findIn K (.ref EC) "second_kind" = some none)
  (nEC_table:findIn K (.ref EC) "table" = some none)
  (nRC_own_kind:findIn K (.ref RC) "own_kind" = some none)
  (nRC_numbered_marks:findIn K (.ref RC) "numbered_marks" = some none)
  (nRC_needs:findIn K (.ref RC) "needs" = some none)
  (nRC_bars:findIn K (.ref RC) "bars" = some none)
  (nRC_let_numbers:findIn K (.ref RC) "let_numbers" = some none)
  (nDC_steps:findIn K (.ref DC) "steps" = some none)
  (nDC_waiting:findIn K (.ref DC) "waiting" = some none)
  (nDC_wants_part:findIn K (.ref DC) "wants_part" = some none)
  (nBC_own_kind:findIn K (.ref BC) "own_kind" = some none)
  (nBC_entries:findIn K (.ref BC) "entries" = some none)
  (nBC_deeds:findIn K (.ref BC) "deeds" = some none)
  (xm:L2.BF K cM=true)
  (xc0:L2.BF K e0=true)
  (xc1:L2.BF K e1=true)
  (xc2:L2.BF K e2=true)
  (xc3:L2.BF K e3=true)
  (y4:XP K (λi=>([e0,e1,e2,e3,e4,e5,e6,e7,e8,e9,gp]:List Vs).getD i 0) cM e4 iu 4)
  (y5:XP K (λi=>([e0,e1,e2,e3,e4,e5,e6,e7,e8,e9,gp]:List Vs).getD i 0) cM e5 iu 5)
  (y6:XP K (λi=>([e0,e1,e2,e3,e4,e5,e6,e7,e8,e9,gp]:List Vs).getD i 0) cM e6 iu 6)
  (y7:XP K (λi=>([e0,e1,e2,e3,e4,e5,e6,e7,e8,e9,gp]:List Vs).getD i 0) cM e7 iu 7)
  (y8:XP K (λi=>([e0,e1,e2,e3,e4,e5,e6,e7,e8,e9,gp]:List Vs).getD i 0) cM e8 iu 8)
  (y9:XP K (λi=>([e0,e1,e2,e3,e4,e5,e6,e7,e8,e9,gp]:List Vs).getD i 0) cM e9 iu 9)
  (y10:XP K (λi=>([e0,e1,e2,e3,e4,e5,e6,e7,e8,e9,gp]:List Vs).getD i 0) cM gp iu 10)
  (y0:XL K (λi=>([e0,e1,e2,e3,e4,e5,e6,e7,e8,e9,gp]:List Vs).getD i 0) cM e0 0 "at")
  (y1:XL K (λi=>([e0,e1,e2,e3,e4,e5,e6,e7,e8,e9,gp]:List Vs).getD i 0) cM e1 1 "bits")
  (y2:XL K (λi=>([e0,e1,e2,e3,e4,e5,e6,e7,e8,e9,gp]:List Vs).getD i 0) cM e2 2 "at")
  (y3:XL K (λi=>([e0,e1,e2,e3,e4,e5,e6,e7,e8,e9,gp]:List Vs).getD i 0) cM e3 3 "name")
  (xmg:specialIn K (.ref cM) "__getattribute__" = some (some (.builtin "type.__getattribute__")))
  (xmr:readsIn K cM (.type "type")=true)
  (xmf:findCls K (.ref cM) (.type "type") "__init__" = some (.val (.ref iu)))
  (rL:K.lookup aR=some ⟨.type "tuple", odR,.seq #[.str "bar" t1,.str "drop" t2,.str "keep" t3,.str "leave" t4] nRR,slR⟩)
  (z_len:nsIn K mainGlobals "len" = some none)
  (z_isinstance:nsIn K mainGlobals "isinstance" = some none)
  (z_max:nsIn K mainGlobals "max" = some none)
  (z_min:nsIn K mainGlobals "min" = some none)
  (z_range:nsIn K mainGlobals "range" = some none)
  (z_list:nsIn K mainGlobals "list" = some none)
  (z_tuple:nsIn K mainGlobals "tuple" = some none)
  (z_sorted:nsIn K mainGlobals "sorted" = some none)
  (z_sum:nsIn K mainGlobals "sum" = some none)
  (z_all:nsIn K mainGlobals "all" = some none)
  (z_enumerate:nsIn K mainGlobals "enumerate" = some none)
  (z_int:nsIn K mainGlobals "int" = some none)
  (z_bool:nsIn K mainGlobals "bool" = some none)
  (z_str:nsIn K mainGlobals "str" = some none)
  (z_dict:nsIn K mainGlobals "dict" = some none)
  (vBD:nsIn K mainGlobals "BINDING" = some (some (.ref bd)))
  (vJN:nsIn K mainGlobals "JOINING" = some (some (.ref jn)))
  (vLB:nsIn K mainGlobals "LEAST_BINDING" = some (some (.int 1 tLB)))
  (jL:K.lookup jn=some ⟨.type "tuple", odJ,.seq #[.str "&" j1,.str "^" j2,.str "|" j3] nJ,slJ⟩)
  (ari:findIn K (.ref RC) "__init__" = some (some (.ref fri)))
  (iri:isFn K (.ref fri)=true)
  (lri:K.lookup fri=some ⟨ocri,odri,.func (fO "__init__" "Rule.__init__" CD .none (.ref k2) dcri pmri anri cdri ctri),slri⟩)
  (cri:codeIn K cdri "Rule.__init__" = true)
  (kri:keepIn K (.ref fri)=true)
  (k2l:K.lookup k2=some ⟨ocK2,odK2,.dict esK2 epK2,slK2⟩)
  (k2e:(esK2.all λe=>match e.key with | .str _ _=>true |_=>false)=true)
  (k2n:nsIn K k2 "needs" = some (some (.ref t5)))
  (t5l:K.lookup t5=some ⟨.type "tuple", odT5,.seq #[] nT5,slT5⟩)
  (xr0:(E8 K e0).contains (.ref cM)=true)
  (xr1:(E8 K e1).contains (.ref cM)=true)
  (xr2:(E8 K e2).contains (.ref cM)=true)
  (xr3:(E8 K e3).contains (.ref cM)=true)
  : ∃fd:FuncData,(∀(s:Vt) (v:Value),BindsTo s fd ⟨[v],[]⟩ [("_law_script", v)])/\∀base:Heap,K.In base->base.Ns mainGlobals mg->CodeHd base c P0->base.BuiltinsAt mg P0->aB l.prog w K mg base aL 11 fz fd ["_law_script"] (Mh K P0 bd):=by
 have MG:∀ {x:Str}{v:Value},nsIn K mainGlobals x=some (some v)->mg x=some v:=λh=>mg_of X G h;have MN:∀ {x:Str},nsIn K mainGlobals x=some none->mg x=none:=λh=>mg_none_of X G h;have T:Dh K C:=⟨⟨fC.pg,fC.hd,fC.po,fC.sa⟩,nC_numbers,nC_firsts,nC_rule⟩;have VT:Fx K VC:=⟨⟨fVC.pg,fVC.hd,fVC.po,fVC.sa⟩,nVC_own_kind,nVC_bits⟩;have ET:Nu K EC:=⟨⟨fEC.pg,fEC.hd,fEC.po,fEC.sa⟩,nEC_own_kind,nEC_second_kind,nEC_table⟩;have RT:Hu K RC:=⟨⟨fRC.pg,fRC.hd,fRC.po,fRC.sa⟩,nRC_own_kind,nRC_numbered_marks,nRC_needs,nRC_bars,nRC_let_numbers⟩;have DT:IB K DC:=⟨⟨fDC.pg,fDC.hd,fDC.po,fDC.sa⟩,nDC_steps,nDC_waiting,nDC_wants_part⟩;have BT:Pw K BC:=⟨⟨fBC.pg,fBC.hd,fBC.po,fBC.sa⟩,nBC_own_kind,nBC_entries,nBC_deeds⟩;have KI:KIsi K C:=⟨⟨fC.pg,fC.hd,fC.po,fC.sa⟩,fC.qa,qn,qt,fC.qm,Fa fC.ql fC.qy fC.qs⟩;have VI:KIsi K VC:=⟨⟨fVC.pg,fVC.hd,fVC.po,fVC.sa⟩,fVC.qa,qn,qt,fVC.qm,Fa fVC.ql fVC.qy fVC.qs⟩;have mCg:=MG aC;have mVg:=MG aVC;have hLi:=MG vLi;have vI:=Fa fVC.ql fVC.qy fVC.qi;have vT:=Fa fVC.ql fVC.qy fVC.qt;have qeC:=fC.ne;have qm:=fC.qm;have B:Bl mg:=⟨MN z_len,MN z_isinstance,MN z_max,MN z_min,MN z_range,MN z_list,MN z_tuple,MN z_sorted,MN z_sum,MN z_all,MN z_enumerate,MN z_int,MN z_bool,MN z_str⟩;have rT:∀H:Hp,bZ K H aR (aV.map V.str):=λH=>.inr ⟨_,_,_,rL,rfl,rfl,sl4,.cons ⟨_,rfl⟩ (.cons ⟨_,rfl⟩ (.cons ⟨_,rfl⟩ (.cons ⟨_,rfl⟩ .nil)))⟩;have jT:∀H:Hp,bZ K H jn [.str "&", .str "^", .str "|"]:=λH=>.inr ⟨_,_,_,jL,rfl,rfl,sl3,.cons ⟨_,rfl⟩ (.cons ⟨_,rfl⟩ (.cons ⟨_,rfl⟩ .nil))⟩
 have kdo:nsOkIn K kd=true:=by
  unfold nsOkIn;rw[kdl];exact kde
 have hG:=MG vG;have hM:=MG vM;have hL:=MG vL;have hR:=MG vR;have M:Ub mg (λi=>([e0,e1,e2,e3,e4,e5,e6,e7,e8,e9,gp]:List Vs).getD i 0):=⟨MG aX0,MG aX1,MG aX2,MG aX3,MG aX4,MG aX5,MG aX6,MG aX7,MG aX8,MG aX9,MG aX10,MN z_VE⟩;have Fin:=fun_mk (st:=At) lin cin kin;have Fst:=fun_mk (st:=CN) lst cst kst;have e:=hfa.symm.trans (MG ala);cases e;have Fla:FunC K "law" "law" BV fz (fO "law" "law" BV .none kVla dcla pmla anla (.ref c) ctla) c:=⟨⟨_,_,_,_,_,_,_,_,rfl,lla,cla⟩⟩;have jM:FunD K "__init__" "MarkError.__init__" A7 iu _:=⟨⟨_,_,_,_,_,_,_,_,_,_,rfl,lei,cei⟩⟩;obtain⟨fwh,dwh,awh,Fwh⟩:=hwh;have bwh:=fG (p1 := "thing") Fwh λ_ _ _ _ _ _ _=>rfl;obtain⟨fnm,dnm,anm,Fnm⟩:=hnm;have bnm:=fG (p1 := "thing") Fnm λ_ _ _ _ _ _ _=>rfl;obtain⟨fuo,duo,auo,Fuo⟩:=huo;have buo:=fG (p1 := "numbers") Fuo λ_ _ _ _ _ _ _=>rfl;obtain⟨fnx,dnx,anx,Fnx⟩:=hnx;have bnx:=fG (p1 := "numbers") Fnx λ_ _ _ _ _ _ _=>rfl;obtain⟨foo,doo,aoo,Foo⟩:=hoo;have boo:=dH (p1 := "thing") (p2 := "names") Foo λ_ _ _ _ _ _ _ _=>rfl;obtain⟨fno,dno,ano,Fno⟩:=hno;have bno:=dH (p1 := "parts") (p2 := "ahead") Fno λ_ _ _ _ _ _ _ _=>rfl;obtain⟨fth,dth,ath,Fth⟩:=hth;have bth:=dH (p1 := "thing") (p2 := "ahead") Fth λ_ _ _ _ _ _ _ _=>rfl;obtain⟨fro,dro,aro,Fro⟩:=hro;have bro:=dH (p1 := "row") (p2 := "ahead") Fro λ_ _ _ _ _ _ _ _=>rfl;obtain⟨fnb,dnb,anb,Fnb⟩:=hnb;have bnb:=fG (p1 := "rows") Fnb λ_ _ _ _ _ _ _=>rfl;obtain⟨ffi,dfi,afi,Ffi⟩:=hfi;have bfi:=fG (p1 := "numbers") Ffi λ_ _ _ _ _ _ _=>rfl;obtain⟨fim,dim,aim,Fim⟩:=him;have bim:=fG (p1 := "number") Fim λ_ _ _ _ _ _ _=>rfl;obtain⟨fmR,dmR,amR,imR,omR,FmR⟩:=hmR;have bmR:=fG (p1 := "self") FmR λ_ _ _ _ _ _ _=>rfl;obtain⟨fmK,dmK,amK,imK,omK,FmK⟩:=hmK;have bmK:=fG (p1 := "self") FmK λ_ _ _ _ _ _ _=>rfl;obtain⟨fmT,dmT,amT,imT,omT,FmT⟩:=hmT;have bmT:=fG (p1 := "self") FmT λ_ _ _ _ _ _ _=>rfl;obtain⟨fmM,dmM,amM,imM,omM,FmM⟩:=hmM;have bmM:=fG (p1 := "self") FmM λ_ _ _ _ _ _ _=>rfl;obtain⟨fmE,dmE,amE,imE,omE,FmE⟩:=hmE;have bmE:=dH (p1 := "self") (p2 := "other") FmE λ_ _ _ _ _ _ _ _=>rfl;obtain⟨flc,dlc,alc,Flc⟩:=hlc;have blc:=dH (p1 := "_law_script") (p2 := "_law_k") Flc λ_ _ _ _ _ _ _ _=>rfl;obtain⟨fld,dld,ald,Fld⟩:=hld;have bld:=dH (p1 := "_law_cell_here") (p2 := "_law_k") Fld λ_ _ _ _ _ _ _ _=>rfl;obtain⟨flr,dlr,alr,Flr⟩:=hlr;have blr:=dH (p1 := "_law_dice") (p2 := "_law_many") Flr λ_ _ _ _ _ _ _ _=>rfl;obtain⟨fls,dls,als,Fls⟩:=hls;have bls:=dH (p1 := "_law_script") (p2 := "_law_most") Fls λ_ _ _ _ _ _ _ _=>rfl;obtain⟨fxn,dxn,axn,Fxn⟩:=hxn;have bxn:=fG (p1 := "thing") Fxn λ_ _ _ _ _ _ _=>rfl;obtain⟨fxr,dxr,axr,Fxr⟩:=hxr;have bxr:=dH (p1 := "kind") (p2 := "number") Fxr λ_ _ _ _ _ _ _ _=>rfl;obtain⟨fxi,dxi,axi,ixi,oxi,Fxi⟩:=hxi;have bxi:=bi3 (p1 := "self") (p2 := "kind") (p3 := "number") Fxi λ_ _ _ _ _ _ _ _ _=>rfl;obtain⟨fxN,dxN,axN,iE,oxN,FxN⟩:=hxN;have bxN:=fG (p1 := "self") FxN λ_ _ _ _ _ _ _=>rfl;obtain⟨fxK,dxK,axK,ixK,oxK,FxK⟩:=hxK;have bxK:=fG (p1 := "self") FxK λ_ _ _ _ _ _ _=>rfl;obtain⟨fxE,dxE,axE,ixE,oxE,FxE⟩:=hxE;have bxE:=dH (p1 := "self") (p2 := "other") FxE λ_ _ _ _ _ _ _ _=>rfl;obtain⟨fgl,dgl,agl,Fgl⟩:=hgl;have bgl:=fG (p1 := "thing") Fgl λ_ _ _ _ _ _ _=>rfl;obtain⟨fdS,ddS,adS,idS,odS,FdS⟩:=hdS;have bdS:=dH (p1 := "self") (p2 := "binding") FdS λ_ _ _ _ _ _ _ _=>rfl;obtain⟨fdP,ddP,adP,idP,odP,FdP⟩:=hdP;have bdP:=dH (p1 := "self") (p2 := "part") FdP λ_ _ _ _ _ _ _ _=>rfl;obtain⟨fdB,ddB,adB,idB,odB,FdB⟩:=hdB;have bdB:=dH (p1 := "self") (p2 := "sign") FdB λ_ _ _ _ _ _ _ _=>rfl;obtain⟨fdA,ddA,adA,idA,odA,FdA⟩:=hdA;have bdA:=dH (p1 := "self") (p2 := "sign") FdA λ_ _ _ _ _ _ _ _=>rfl;obtain⟨fdC,ddC,adC,idC,odC,FdC⟩:=hdC;have bdC:=fG (p1 := "self") FdC λ_ _ _ _ _ _ _=>rfl;obtain⟨fdG,ddG,adG,idG,odG,FdG⟩:=hdG;have bdG:=dH (p1 := "self") (p2 := "sign") FdG λ_ _ _ _ _ _ _ _=>rfl;obtain⟨fdN,ddN,adN,idN,odN,FdN⟩:=hdN;have bdN:=fG (p1 := "self") FdN λ_ _ _ _ _ _ _=>rfl;obtain⟨flA,dlA,alA,FlA⟩:=hlA;have blA:=dH (p1 := "_law_e") (p2 := "_law_own") FlA λ_ _ _ _ _ _ _ _=>rfl;obtain⟨fo1,do1,ao1,Fo1⟩:=ho1;have bo1:=dH (p1 := "thing") (p2 := "names") Fo1 λ_ _ _ _ _ _ _ _=>rfl;obtain⟨feE,deE,aeE,FeE⟩:=heE;have beE:=bi3 (p1 := "thing") (p2 := "marks") (p3 := "names") FeE λ_ _ _ _ _ _ _ _ _=>rfl;obtain⟨fmb,dmb,amb,Fmb⟩:=hmb;have bmb:=fG (p1 := "kind") Fmb λ_ _ _ _ _ _ _=>rfl;obtain⟨fxM,dxM,axM,ixM,oxM,FxM⟩:=hxM;have bxM:=fG (p1 := "self") FxM λ_ _ _ _ _ _ _=>rfl;obtain⟨fxR,dxR,axR,ixR,oxR,FxR⟩:=hxR;have bxR:=fG (p1 := "self") FxR λ_ _ _ _ _ _ _=>rfl;obtain⟨fuq,duq,auq,Fuq⟩:=huq;have buq:=fG (p1 := "marks") Fuq λ_ _ _ _ _ _ _=>rfl;obtain⟨frp,drp,arp,Frp⟩:=hrp;have brp:=dH (p1 := "thing") (p2 := "marks") Frp λ_ _ _ _ _ _ _ _=>rfl;obtain⟨frq,drq,arq,Frq⟩:=hrq;have brq:=dH (p1 := "things") (p2 := "marks") Frq λ_ _ _ _ _ _ _ _=>rfl;obtain⟨ij,drf,arf,irf,orf,Frf⟩:=hrf;have brf:=dH (p1 := "self") (p2 := "number") Frf λ_ _ _ _ _ _ _ _=>rfl;obtain⟨frO,drO,arO,irO,orO,FrO⟩:=hrO;have brO:=dH (p1 := "self") (p2 := "value") FrO λ_ _ _ _ _ _ _ _=>rfl;obtain⟨frF,drF,arF,irF,orF,FrF⟩:=hrF;have brF:=dH (p1 := "self") (p2 := "value") FrF λ_ _ _ _ _ _ _ _=>rfl;obtain⟨frW,drW,arW,irW,orW,FrW⟩:=hrW;have brW:=dH (p1 := "self") (p2 := "value") FrW λ_ _ _ _ _ _ _ _=>rfl;obtain⟨fmN,dmN,amN,imN,omN,FmN⟩:=hmN;have bmN:=dH (p1 := "self") (p2 := "name") FmN λ_ _ _ _ _ _ _ _=>rfl;obtain⟨fgf,dgf,agf,Fgf⟩:=hgf;have bgf:=fG (p1 := "text") Fgf λ_ _ _ _ _ _ _=>rfl;obtain⟨fgp,dgp,agp,Fgp⟩:=hgp;have bgp:=dH (p1 := "text") (p2 := "lettered") Fgp λ_ _ _ _ _ _ _ _=>rfl;obtain⟨fge,dge,age,Fge⟩:=hge;have bge:=bi3 (p1 := "text") (p2 := "at") (p3 := "lettered") Fge λ_ _ _ _ _ _ _ _ _=>rfl;obtain⟨fgo,dgo,ago,Fgo⟩:=hgo;have bgo:=bi3 (p1 := "kind") (p2 := "steps") (p3 := "table") Fgo λ_ _ _ _ _ _ _ _ _=>rfl;obtain⟨fdI,ddI,adI,idI,odI,FdI⟩:=hdI;have bdI:=fG (p1 := "self") FdI λ_ _ _ _ _ _ _=>rfl;obtain⟨fti,dti,ati,iti,oti,Fti⟩:=hti;have bti:=dH (p1 := "self") (p2 := "at") Fti λ_ _ _ _ _ _ _ _=>rfl;obtain⟨foi,doi,aoi,ioi,ooi,Foi⟩:=hoi;have boi:=dH (p1 := "self") (p2 := "at") Foi λ_ _ _ _ _ _ _ _=>rfl;obtain⟨fqi,dqi,aqi,iqi,oqi,Fqi⟩:=hqi;have bqi:=dH (p1 := "self") (p2 := "bits") Fqi λ_ _ _ _ _ _ _ _=>rfl;obtain⟨fui,dui,aui,iui,oui,Fui⟩:=hui;have bui:=dH (p1 := "self") (p2 := "name") Fui λ_ _ _ _ _ _ _ _=>rfl;obtain⟨fre,dre,are,Fre⟩:=hre;have bre:=dH (p1 := "kind") (p2 := "text") Fre λ_ _ _ _ _ _ _ _=>rfl;obtain⟨fmd,dmd,amd,Fmd⟩:=hmd;have bmd:=dH (p1 := "kind") (p2 := "number") Fmd λ_ _ _ _ _ _ _ _=>rfl;obtain⟨fvo,dvo,avo,Fvo⟩:=hvo;have bvo:=dH (p1 := "kind") (p2 := "names") Fvo λ_ _ _ _ _ _ _ _=>rfl;obtain⟨fsk,dsk,ask,Fsk⟩:=hsk;have bsk:=dH (p1 := "one") (p2 := "other") Fsk λ_ _ _ _ _ _ _ _=>rfl;obtain⟨fuU,duU,auU,FuU⟩:=huU;have buU:=dH (p1 := "one") (p2 := "other") FuU λ_ _ _ _ _ _ _ _=>rfl;obtain⟨feT,deT,aeT,FeT⟩:=heT;have beT:=bi3 (p1 := "kind") (p2 := "other") (p3 := "pairs") FeT λ_ _ _ _ _ _ _ _ _=>rfl;obtain⟨feI,deI,aeI,ieI,oeI,FeI⟩:=heI;have beI:=bi4 (p1 := "self") (p2 := "kind") (p3 := "other") (p4 := "pairs") FeI λ_ _ _ _ _ _ _ _ _ _=>rfl;obtain⟨feN,deN,aeN,ieN,oeN,FeN⟩:=heN;have beN:=dH (p1 := "self") (p2 := "value") FeN λ_ _ _ _ _ _ _ _=>rfl;obtain⟨feL,deL,aeL,ieL,oeL,FeL⟩:=heL;have beL:=dH (p1 := "self") (p2 := "value") FeL λ_ _ _ _ _ _ _ _=>rfl;obtain⟨frN,drN,arN,irN,orN,FrN⟩:=hrN;have brN:=dH (p1 := "self") (p2 := "number") FrN λ_ _ _ _ _ _ _ _=>rfl;obtain⟨frP,drP,arP,irP,orP,FrP⟩:=hrP;have brP:=dH (p1 := "self") (p2 := "value") FrP λ_ _ _ _ _ _ _ _=>rfl;obtain⟨fbI,dbI,abI,ibI,obI,FbI⟩:=hbI;have bbI:=dH (p1 := "self") (p2 := "kind") FbI λ_ _ _ _ _ _ _ _=>rfl;obtain⟨fbT,dbT,abT,ibT,obT,FbT⟩:=hbT;have bbT:=fG (p1 := "self") FbT λ_ _ _ _ _ _ _=>rfl;obtain⟨flo,dlo,alo,Flo⟩:=hlo;have blo:=fG (p1 := "_law_deed") Flo λ_ _ _ _ _ _ _=>rfl;refine⟨fO "law" "law" BV .none kVla dcla pmla anla (.ref c) ctla,λs v=>.of_eq Zj,λbase _ _ hC hBu=>?_⟩;have FT:=@fnT l.prog w K mg base;have MT:=@mtT l.prog w K mg base;have Gwh:=FT (sp:=spIsWhole) Fwh (Kb Fwh B) (MG awh) bwh;have Gnm:=FT (sp:=spIsName) Fnm (NT Fnm B hL) (MG anm) bnm;have Guo:=FT (sp:=(spUnionOf K)) Fuo (LV Fuo) (MG auo) buo;have Gnx:=FT (sp:=(spNextMark K)) Fnx (KM Fnx B) (MG anx) bnx;have Goo:=FT (sp:=(Ci K)) Foo (LY Foo B) (MG aoo) boo;have Gno:=FT (sp:=spIsNamesOf) Fno (JV Fno B Goo) (MG ano) bno;have Gth:=FT (sp:=spThing) Fth (PL Fth B Gnx Gno Guo Gwh) (MG ath) bth;have Gro:=FT (sp:=spRow) Fro (PM Fro B hG Gnm Gth) (MG aro) bro;have Gnb:=FT (sp:=spNumbered) Fnb (KS Fnb B hM Gro) (MG anb) bnb;have Gfi:=FT (sp:=spFirsts) Ffi (Na Ffi) (MG afi) bfi;have Gim:=FT (sp:=spIsMark) Fim (NR Fim) (MG aim) bim;have GmR:=MT (sp:=(spRows C)) amR imR FmR (Q1 FmR B T) bmR;have GmK:=MT (sp:=(spKnown C)) amK imK FmK (PV FmK B T Guo) bmK;have GmT:=MT (sp:=(spRest C)) amT imT FmT (Q7 FmT T) bmT;have GmM:=MT (sp:=(spMarks C)) amM imM FmM (PX FmM B T Gim) bmM;have GmE:=MT (sp:=(spEqK C)) amE imE FmE (S9 FmE B T KI mCg GmR) bmE;have Glc:=FT (sp:=(spCell K)) Flc (Q4 Flc B) (MG alc) blc;have Gld:=FT (sp:=spDrawn) Fld (PY Fld) (MG ald) bld;have Glr:=FT (sp:=spRoll) Flr (Q5 Flr Gld) (MG alr) blr;have Gls:=FT (sp:=(spRounds K)) Fls (Nf Fls B Glc) (MG als) bls;have Gxn:=FT (sp:=spIsNumber) Fxn (Ja Fxn hLi (FT (sp:=D4 K) Fwh (Fz Fwh B) (MG awh) bwh)) (MG axn) bxn;have Gxr:=FT (sp:=(spRestOf C)) Fxr (Nh Fxr T GmK) (MG axr) bxr;have Gxi:=MT (sp:=(c7 C VC)) axi ixi Fxi (KZ Fxi T VT Gxn Gxr GmT) bxi;have GxN:=MT (sp:=(spVNumber VC)) axN iE FxN (Lc FxN VT) bxN;have GxK:=MT (sp:=(spVKind VC)) axK ixK FxK (Pj FxK VT) bxK;have GxE:=MT (sp:=(spVEq C VC)) axE ixE FxE (TB FxE B T VT VI vI mVg GmE) bxE;obtain⟨fE0,dE0,gE0,mE0,bE0⟩:=GxE.ex;have VO:MU l.prog w K mg base C VC:=⟨VT,mVg,⟨_,_,⟨fVC.mz,axi,ixi,fVC.kc⟩,KZ Fxi T VT Gxn Gxr GmT,bxi⟩,⟨_,_,gE0,mE0,bE0⟩,VI,fVC.ne,fVC.qi⟩;have Ggl:=FT (sp:=(spLet K)) Fgl (TK Fgl B) (MG agl) bgl;have GdS:=MT (sp:=(spSet DC bd)) adS idS FdS (TN FdS B DT (MG vBD)) bdS;have GdP:=MT (sp:=(spTP DC)) adP idP FdP (Uf FdP DT) bdP;have GdB:=MT (sp:=(spTB DC bd)) adB idB FdB (Uk FdB DT (MG vBD) (MG vJN) jT GdS) bdB;have GdA:=MT (sp:=(spTA DC)) adA idA FdA (Ul FdA DT) bdA;have GdC:=MT (sp:=(spTC DC bd)) adC idC FdC (Um FdC B DT (MG vLB) GdS) bdC;have GdG:=MT (sp:=(spTS DC bd)) adG idG FdG (Uo FdG DT GdB GdA GdC) bdG;have GdN:=MT (sp:=(spEnds DC bd)) adN idN FdN (RY FdN B DT (MG vLB) GdS) bdN;have GlA:=FT (sp:=(spAlone K (λi=>([e0,e1,e2,e3,e4,e5,e6,e7,e8,e9,gp]:List Vs).getD i 0))) FlA (Pm FlA B M) (MG alA) blA;have Go1:=FT (sp:=(spOne K)) Fo1 (TU Fo1 B) (MG ao1) bo1;have GeE:=FT (sp:=(spEnt K)) FeE (TV FeE B Go1) (MG aeE) beE;have Gmb:=FT (sp:=(spMarkBits C)) Fmb (Kj Fmb T GmM Guo) (MG amb) bmb;have GxM:=MT (sp:=(spVMarks C VC)) axM ixM FxM (Nv FxM T VT GmM) bxM;have GxR:=MT (sp:=(spVRest C VC)) axR ixR FxR (P8 FxR VT Gmb) bxR;have Guq:=FT (sp:=(spUni K)) Fuq (Tb Fuq) (MG auq) buq;have Grp:=FT (sp:=(spIsPair K)) Frp (Nz Frp B Go1) (MG arp) brp;have Grq:=FT (sp:=(spPairs K)) Frq (QB Frq B Grp) (MG arq) brq;have Grf:=MT (sp:=(spFF RC)) arf irf Frf (Uw Frf RT) brf;have GrO:=MT (sp:=(spOwnG C VC RC)) arO irO FrO (Rh FrO RT VT qeC qm GmE GxK GxN) brO;have GrF:=MT (sp:=(spFaultG C VC RC)) arF irF FrF (N0 FrF RT VT GrO GxR Grf) brF;have GrW:=MT (sp:=(spLetsG C VC RC)) arW irW FrW (QF FrW RT GrF) brW;have ME:Pn l.prog w K mg base cM:=⟨MG aM,xmg,xmr,⟨_,_,xmf,BZ jM (MN z_VE),kei,Gb dtl⟩⟩;have EO4:C4 l.prog w K mg base "BadRule" e4:=⟨MG aX4,⟨_,_,⟨y4.F.cx,y4.i,iei,⟨_,lei,rfl⟩,y4.F.ke⟩,BZ jM (MN z_VE),Gb dtl⟩⟩;have EO5:C4 l.prog w K mg base "BadName" e5:=⟨MG aX5,⟨_,_,⟨y5.F.cx,y5.i,iei,⟨_,lei,rfl⟩,y5.F.ke⟩,BZ jM (MN z_VE),Gb dtl⟩⟩;have EO6:C4 l.prog w K mg base "BadNumber" e6:=⟨MG aX6,⟨_,_,⟨y6.F.cx,y6.i,iei,⟨_,lei,rfl⟩,y6.F.ke⟩,BZ jM (MN z_VE),Gb dtl⟩⟩;have EO7:C4 l.prog w K mg base "Unlike" e7:=⟨MG aX7,⟨_,_,⟨y7.F.cx,y7.i,iei,⟨_,lei,rfl⟩,y7.F.ke⟩,BZ jM (MN z_VE),Gb dtl⟩⟩;have EO8:C4 l.prog w K mg base "BadPairs" e8:=⟨MG aX8,⟨_,_,⟨y8.F.cx,y8.i,iei,⟨_,lei,rfl⟩,y8.F.ke⟩,BZ jM (MN z_VE),Gb dtl⟩⟩;have EO9:C4 l.prog w K mg base "Never" e9:=⟨MG aX9,⟨_,_,⟨y9.F.cx,y9.i,iei,⟨_,lei,rfl⟩,y9.F.ke⟩,BZ jM (MN z_VE),Gb dtl⟩⟩;have EO10:C4 l.prog w K mg base "Nothing" gp:=⟨MG aX10,⟨_,_,⟨y10.F.cx,y10.i,iei,⟨_,lei,rfl⟩,y10.F.ke⟩,BZ jM (MN z_VE),Gb dtl⟩⟩;have X0:GQ l.prog w K mg base cM e0 "BadRows" "at" := ⟨MG aX0,⟨_,_,⟨xc0,aoi,ioi,ooi,y0.F.ke⟩,Po Foi ME,boi⟩,Gx y0.s y0.gn y0.gs⟩;have X1:GQ l.prog w K mg base cM e1 "BadRest" "bits" := ⟨MG aX1,⟨_,_,⟨xc1,aqi,iqi,oqi,y1.F.ke⟩,Pq Fqi ME,bqi⟩,Gx y1.s y1.gn y1.gs⟩;have X2:GQ l.prog w K mg base cM e2 "BadText" "at" := ⟨MG aX2,⟨_,_,⟨xc2,ati,iti,oti,y2.F.ke⟩,Pp Fti ME,bti⟩,Gx y2.s y2.gn y2.gs⟩;have X3:GQ l.prog w K mg base cM e3 "Unled" "name" := ⟨MG aX3,⟨_,_,⟨xc3,aui,iui,oui,y3.F.ke⟩,RH Fui ME,bui⟩,Gx y3.s y3.gn y3.gs⟩;have GrX:=FT (sp:=λvs H Q E=>spRow vs H Q E\/spRowG vs H Q E) Fro (aB.or (PM Fro B hG Gnm Gth) (RJ Fro B hG Gnm Gth)) (MG aro) bro;have GnX:ik l.prog w K mg base "numbered" 5 ["rows"] (spNumberedG e0):=⟨⟨_,_,JZ Fnb B hM X0 GrX,MG anb,Fnb.kp,bnb⟩⟩;have KO:QG l.prog w K mg base C e0 e4:=⟨T,mCg,⟨_,_,⟨fC.mz,ain,iin,fC.kc⟩,Q0 Fin B T hR rT Gnb Gfi Goo,Pr Fin GnX,Ps Fin T EO4 hR rT Gnb Goo,⟨_,Ry⟩,_,Ts kdo kdr,.cons ⟨_,rfl⟩ .nil⟩⟩;have Gmd:ik l.prog w K mg base "made" 6 ["kind", "number"] (spMadeG C e1):=⟨⟨_,_,Pt Fmd hLi T X1 Gwh Gxr GmT,MG amd,Fmd.kp,bmd⟩⟩;have Gvo:ik l.prog w K mg base "value_of" 6 ["kind", "names"] (spValueG C e5):=⟨⟨_,_,Nn Fvo B T VO Guo ⟨_,_,Ld FmN T EO5 Goo,⟨amN,imN,FmN.kp⟩,bmN⟩,MG avo,Fvo.kp,bvo⟩⟩;have Gsk:ik l.prog w K mg base "same_kind" 4 ["one", "other"] (de C VC e7):=⟨⟨_,_,Pu Fsk VT qeC qm EO7 GxK GmE,MG ask,Fsk.kp,bsk⟩⟩;have GuU:ik l.prog w K mg base "union" 6 ["one", "other"] (de C VC e7):=⟨⟨_,_,No FuU VO Gsk,MG auU,FuU.kp,buU⟩⟩;have GwX:=FT (sp:=D4 K) Fwh (Fz Fwh B) (MG awh) bwh;have GnG:=FT (sp:=Lf K) Fxn (MW Fxn hLi GwX) (MG axn) bxn;have Ggf:=FT (sp:=spFig) Fgf (TJ Fgf B GnG) (MG agf) bgf;have Ggp:=FT (sp:=spPart) Fgp (RP Fgp Gnm Ggf Ggl) (MG agp) bgp;have Gge:=FT (sp:=spPE) Fge (RR Fge B Ggp) (MG age) bge;have RD:Up l.prog w K mg base DC bd:=⟨DT,MG aDC,⟨_,_,⟨fDC.mz,adI,idI,fDC.kc⟩,TM FdI DT,bdI⟩,GdP,GdG,GdN⟩;have SO:Us l.prog w K mg base DC bd e2:=⟨⟨_,_,Ur Fst B RD X2 Gge,MG ast,kst,_,QM⟩⟩;have Gre:ik l.prog w K mg base "read" 7 ["kind", "text"] (spReadG bd e2):=⟨⟨_,_,P3 Fre SO Fgo (MG ago) bgo Gmd,MG are,Fre.kp,bre⟩⟩;have EdO:U3 l.prog w K mg base C EC e8:=⟨ET,MG aEC,⟨_,_,⟨fEC.mz,aeI,ieI,fEC.kc⟩,P6 FeI ET (TY FeT B (MN z_dict) T EO8 GmM GmR GeE) (MG aeT) FeT.kp beT,beI⟩⟩;have GeN:gJ l.prog w K mg base EC "names_for" 4 ["self", "value"] (spNfG C VC EC e3):=⟨⟨_,_,TZ FeN ET VT X3 GxM,⟨aeN,ieN,FeN.kp⟩,beN⟩⟩;have GeL:gJ l.prog w K mg base EC "led" 7 ["self", "value"] (spLedG C VC EC e3):=⟨⟨_,_,Rc FeL ET VT qeC qm GmE GxK GxN GeN Gvo,⟨aeL,ieL,FeL.kp⟩,beL⟩⟩;have Fri:=fun_mk (st:=CD) lri cri kri
 have k2o:nsOkIn K k2=true:=by
  unfold nsOkIn;rw[k2l];exact k2e
 have RuO:QH l.prog w K mg base C RC:=⟨RT,MG aRC,⟨_,_,_,⟨fRC.mz,ari,iri,fRC.kc⟩,QE Fri B (MN z_dict) T RT GmM Grq Guq Grf,⟨_,Rz k2o k2n⟩,λ_=>.inr ⟨_,_,_,t5l,rfl,rfl,Nat.zero_le _,.nil⟩⟩⟩;have GrN:gJ l.prog w K mg base RC "nth" 5 ["self", "number"] (spNthG RC e6):=⟨⟨_,_,Rg FrN B RT EO6 Gwh,⟨arN,irN,FrN.kp⟩,brN⟩⟩;have GrP:gJ l.prog w K mg base RC "place" 7 ["self", "value"] (spPlaceG C VC RC e9):=⟨⟨_,_,N1 FrP RT EO9 GrW,⟨arP,irP,FrP.kp⟩,brP⟩⟩;have BO:QI l.prog w K mg base BC:=⟨BT,MG aBC,⟨_,_,⟨fBC.mz,abI,ibI,fBC.kc⟩,Px FbI BT,bbI⟩⟩;have GbT:gJ l.prog w K mg base BC "take_back" 3 ["self"] (spTbG BC gp):=⟨⟨_,_,TH FbT B BT EO10,⟨abT,ibT,FbT.kp⟩,bbT⟩⟩;have ECs:Ecs K (λi=>([e0,e1,e2,e3,e4,e5,e6,e7,e8,e9,gp]:List Vs).getD i 0) cM:=⟨λj hj=>match j,hj with |0,_=>y0.F.cx |1,_=>y1.F.cx |2,_=>y2.F.cx |3,_=>y3.F.cx |4,_=>y4.F.cx |5,_=>y5.F.cx |6,_=>y6.F.cx |7,_=>y7.F.cx |8,_=>y8.F.cx |9,_=>y9.F.cx |10,_=>y10.F.cx |n+11,h=>absurd h qe,λj hj=>match j,hj with |0,_=>xr0 |1,_=>xr1 |2,_=>xr2 |3,_=>xr3 |4,_=>y4.m |5,_=>y5.m |6,_=>y6.m |7,_=>y7.m |8,_=>y8.m |9,_=>y9.m |10,_=>y10.m |n+11,h=>absurd h qe⟩;have EAs:Eca K (λi=>([e0,e1,e2,e3,e4,e5,e6,e7,e8,e9,gp]:List Vs).getD i 0):=⟨λj hj=>match j,hj with |0,_=>y0.F.at qc rfl qn qt |1,_=>y1.F.at qc rfl qn qt |2,_=>y2.F.at qc rfl qn qt |3,_=>y3.F.at qc rfl qn qt |4,_=>y4.F.at qc rfl qn qt |5,_=>y5.F.at qc rfl qn qt |6,_=>y6.F.at qc rfl qn qt |7,_=>y7.F.at qc rfl qn qt |8,_=>y8.F.at qc rfl qn qt |9,_=>y9.F.at qc rfl qn qt |10,_=>y10.F.at qc rfl qn qt |n+11,h=>absurd h qe,λj hj=>match j,hj with |0,_=>⟨⟨y0.F.ga,y0.F.gr,y0.F.gb⟩,y0.gh,y0.gn⟩ |1,_=>⟨⟨y1.F.ga,y1.F.gr,y1.F.gb⟩,y1.gh,y1.gn⟩ |2,_=>⟨⟨y2.F.ga,y2.F.gr,y2.F.gb⟩,y2.gh,y2.gn⟩ |3,_=>⟨⟨y3.F.ga,y3.F.gr,y3.F.gb⟩,y3.gh,y3.gn⟩ |n+4,h=>absurd h qe⟩;exact Tr Fla Flo (MG alo) blo hC hBu B xm (MG aM) ECs EAs KO VO RuO EdO BO Gls Glr GlA Gmd Gre GeL Gvo GrN GuU GrP GbT
theorem walk {l:OpenLaw}{q:Program}{loose:Vp}{XP:(Str->Option Value)->Heap->Prop}{YP:World->Heap->Prop}{d:DefRec}{K:Params->Frag}{c P0 bd:Vs}{dl:List DcE}{ep:Nat} (hn:l.most=some 63) (hdf:d.params.defaults=[]) (hb5:5<=bd) (hdl:dl.length<=1000) (fm:(dl.map (·.1)).Nodup) (he:gO dl=CP)
  (hY:∀(w:World) (h:Heap),YP w h->(K w.params).In h/\h.get? P0=some (tabObj #[])/\(K w.params).lookup P0=none/\CodeHd h c P0/\h.get? bd=some (dcObj w.params dl ep)/\(K w.params).lookup bd=none)
  (F:∀(w:World) (mg:SV) (fa:Vs) (h:Heap),(K w.params).In h->h.Ns mainGlobals mg->mg d.name=some (.ref fa) ->
   ∃fd:FuncData,(∀(s:Vt) (u:Value),BindsTo s fd ⟨[u],[]⟩ [("_law_script", u)])/\∀base:Heap,(K w.params).In base->base.Ns mainGlobals mg->CodeHd base c P0->base.BuiltinsAt mg P0->aB l.prog w (K w.params) mg base aL 11 fa fd ["_law_script"] (Mh (K w.params) P0 bd)) :
  WalkO q loose XP YP l.row.toRowW d [] (λf vs=>PySem.call f vs) :=
 L2.NQ (n:=63) (k:=11) (x := "_law_script") (CX:=λ_=>aL) (sp:=λw=>Mh (K w.params) P0 bd) hn qc hdf ⟨rfl,qc,qc⟩ hb5 hdl fm hY F
  (λ_ _ a ns hl hP hB hS=>⟨a,ns,rfl,hS,hl,⟨#[],hP,trivial,λ_ _=>.inl rfl⟩,he ▸ hB,λ_=>rfl⟩) λ_ _ _ _ _ z=>z
end Mk
end
section
namespace Hd
open PySem PySem.W PySem.Calls PyProof.Rows
def runT (tb:String->Option Builtin) (p:Program) (w:World) (n₀:Nat) (ann:Option Value):Nat->SharedT->Thread->Option SharedT
 |0,_,_=>none
 |n + 1,s,t=>match through t with
  |true=>some s
  |false=>match stepOk n₀ ann t with
   |false=>none
   |true=>match stepT (denote tb) p w s t with
    |some (s',t')=>runT tb p w n₀ ann n s' t'
    |none=>none
theorem runT_of {tb:String->Option Builtin}{p:Program}{w:World}{n₀:Nat}{ann:Option Value}:∀ {n:Nat}{s s':SharedT}{t:Thread},runT tb p w n₀ ann n s t=some s'->topRun tb p w n₀ ann n s.abs t=some s'.abs
 |0,_,_,_,h=>by cases h
 |n + 1,s,s',t,h=>by
  unfold runT at h
  unfold topRun
  cases ht:through t with
  |true=>rw[ht]at h;cases h;rfl
  |false=>
   rw[ht]at h
   cases hk:stepOk n₀ ann t with
   |false=>rw[hk]at h;cases h
   |true=>
    rw[hk]at h
    cases hs:stepT (denote tb) p w s t with
    |none=>rw[hs]at h;cases h
    |some r=>obtain⟨s₂,t₂⟩:=r;rw[hs]at h;rw[stepT_spec hs];exact runT_of h
def looksAt (p q:Program) (loose:List Str) (Xt:Shared->Bool) (as:List Addr) (h₀:Heap) (s:Shared):=
 (staticsOk (importedModules p.main.body) h₀ s.heap&&namesBound p s.heap&&gensDone s&&laidKept h₀ s.heap,openSeen q loose (importedModules p.main.body) Xt true s,as.map s.heap.get?)
theorem left_of {p q:Program}{loose:List Str}{Xt:Shared->Bool}{as:List Addr}{K:Params->Frag}{N M m₀:Nat}{ann:Option Value}{T0:Params->BT}{life:Life}
  (open_:∀w:World,(fencedOpening treeTable p w N).map (fun s=>(s.heap,s.gens,s.drawn,s.toks))=some (boot_heap w.params,#[],boot_drawn,boot_toks))
  (tree:∀P:Params,absHeap (T0 P) m₀ life=boot_heap P)
  (size:∀w:World,((boot_heap w.params).isNs mainGlobals,(boot_heap w.params).objs.size,(boot_heap w.params).nsMap mainGlobals "__annotations__")=(true,m₀,ann))
  (le:Nat.ble M N=true)
  (run:∀(w:World) (os:OsState),(runT treeTable p w m₀ ann M ⟨T0 w.params,m₀,life,#[],boot_drawn,boot_toks,os⟩ (topStub p)).map (fun s=>looksAt p q loose Xt as (boot_heap w.params) s.abs)=some (true,openGood q loose,(K w.params).map fun x=>some x.2)) :
  LeftO p q loose Xt (fun s=>as.map s.heap.get?) (fun w=>(K w.params).map fun x=>some x.2) N:=fun w=>by
 obtain⟨⟨h,gs,d,k,os⟩,e,e'⟩:=Option.map_eq_some_iff.mp (open_ w)
 obtain⟨rfl,rfl,rfl,rfl⟩:h=boot_heap w.params /\ gs=#[] /\ d=boot_drawn /\ k=boot_toks:=by simpa using e'
 obtain⟨z1,z2,z3⟩:_ /\ _ /\ _:=by simpa only[Prod.mk.injEq]using size w
 obtain⟨sT,r1,r2⟩:=Option.map_eq_some_iff.mp (run w os)
 have r3:=runT_of r1
 have r4:topRun treeTable p w m₀ ann M ⟨boot_heap w.params,#[],boot_drawn,boot_toks,os⟩ (topStub p)=some sT.abs:=by
  rw[←tree w.params]
  exact r3
 have r:=topRun_mono (N - M) _ _ _ _ r4
 rw[show M + (N - M)=N by have:=Nat.le_of_ble_eq_true le;omega]at r
 unfold looksAt at r2
 obtain⟨l1,l2,l3⟩:_ /\ _ /\ _:=by simpa only[Prod.mk.injEq]using r2
 have t:topFrom treeTable p w N ⟨boot_heap w.params,#[],boot_drawn,boot_toks,os⟩=some sT.abs:=by
  unfold topFrom
  dsimp only
  rw[z1,z2,z3,r]
  show(match staticsOk (importedModules p.main.body) (boot_heap w.params) sT.abs.heap&&namesBound p sT.abs.heap&&gensDone sT.abs&&laidKept (boot_heap w.params) sT.abs.heap with |true=>_ |false=>_)=_
  rw[l1]
 unfold openEnds
 rw[e]
 show(topFrom treeTable p w N _).map _=_
 rw[t]
 exact congrArg some (Prod.ext l2 l3)
end Hd
end
noncomputable section
open PySem PySem.W PySem.Calls PyProof.Rows
abbrev Mk.fS (x q:Str) (s:Stmt) (dV kV doc pm:Value) (an:Option Addr) (cd ct:Value):FuncData:=fnOf x q (L2.defArgs s) (L2.defBody s) (L2.defScope s) dV kV doc pm an cd ct
abbrev HT (x:Str) (a:Nat) (q:Str) (b c:Nat) (d e f g h:Int) (i j l m n:Nat) (o p:Int) (r:Nat):Obj:=⟨.type "code", none,.fields #[.str x a,.str q b,.str "/claim/cut.py" c,.int d 0,.int e 0,.int f 0,.int g 0,.int h 0,.ref i,.bool true,.int 181 0,.ref j,.none,.ref l,.ref m,.ref n,.int o 0,.int p 0,.str "/claim/cut.py" r],#[]⟩
abbrev Cs (P:PySem.Params) (x:Str) (t:Nat) (v:Value):DictEntry:=⟨PyData.keyHash P x,.str x t,v⟩
abbrev Mk.fN (x q:Str) (s:Stmt) (m:Str) (t c:Nat):Obj:=⟨.type "function", none,.func (Mk.fS x q s .none .none .none (.str m t) none (.ref c) .none),#[]⟩
abbrev Mk.eC (x:Str) (a b c d e f:Nat):Obj:=⟨.type "type", none,.cls ⟨x,[.ref a],[.ref b,.ref a,.type "ValueError", .type "Exception", .type "BaseException", .type "object"],c,x,true,[],[],false,none,false⟩,#[some (.ref d),none,some (.str x e),some (.str x f),some (.builtin "ValueError.__new__"),some (.bool true)]⟩
noncomputable def Mk.Kg (P:PySem.Params):PySem.W.Frag:=
 (nat_lit 2,⟨.none,none,(.dict #[] 0),#[]⟩)::(nat_lit 3,⟨.type "dict",none,(.dict #[Cs P "__name__" 165 (.str "law_markworks_k75_refusals_apart" 1461),Cs P "__doc__" 166 .none,Cs P "__package__" 167 .none,Cs P "__loader__" 168 (.builtin "__main__.__loader__#opaque"),Cs P "__spec__" 169 .none,Cs P "__annotations__" 170 (.ref 6),Cs P "__builtins__" 171 (.ref 4),Cs P "__file__" 173 (.str "/claim/cut.py" 172),Cs P "__cached__" 174 .none,Cs P "_wall" 193 (.ref 21),Cs P "MarkError" 222 (.ref 39),Cs P "BadRows" 247 (.ref 59),Cs P "BadRule" 263 (.ref 71),Cs P "BadName" 279 (.ref 83),Cs P "BadNumber" 295 (.ref 95),Cs P "BadRest" 320 (.ref 114),Cs P "Unlike" 336 (.ref 126),Cs P "BadText" 361 (.ref 145),Cs P "BadPairs" 377 (.ref 157),Cs P "Never" 393 (.ref 169),Cs P "Unled" 418 (.ref 188),Cs P "Nothing" 434 (.ref 200),Cs P "GREATEST" 442 (.int 1048575 441),Cs P "MOST_ROWS" 444 (.int 10 443),Cs P "LONGEST_NAME" 446 (.int 6 445),Cs P "RULES" 451 (.ref 203),Cs P "is_whole" 458 (.ref 210),Cs P "is_name" 464 (.ref 215),Cs P "is_mark" 471 (.ref 222),Cs P "union_of" 480 (.ref 229),Cs P "unions_of" 486 (.ref 234),Cs P "is_one_of" 494 (.ref 241),Cs P "mark_bits" 500 (.ref 246),Cs P "next_mark" 507 (.ref 253),Cs P "is_names_of" 513 (.ref 258),Cs P "thing_number" 519 (.ref 263),Cs P "row_number" 530 (.ref 270),Cs P "numbered" 541 (.ref 277),Cs P "first_names" 551 (.ref 284),Cs P "Kind" 649 (.ref 361),Cs P "LIMIT" 655 (.int 1099511627776 654),Cs P "is_number" 662 (.ref 372),Cs P "rest_of" 670 (.ref 379),Cs P "Value" 744 (.ref 436),Cs P "made" 754 (.ref 447),Cs P "value_of" 760 (.ref 452),Cs P "same_kind" 768 (.ref 459),Cs P "union" 776 (.ref 466),Cs P "turned" 783 (.ref 473),Cs P "is_pair" 791 (.ref 478),Cs P "pairs_of" 797 (.ref 483),Cs P "Rule" 941 (.ref 597),Cs P "JOINING" 947 (.ref 602),Cs P "BINDING" 963 (.ref 603),Cs P "LEAST_BINDING" 965 (.int 1 964),Cs P "is_letter" 972 (.ref 610),Cs P "is_figures" 978 (.ref 615),Cs P "is_part" 986 (.ref 622),Cs P "part_end" 996 (.ref 629),Cs P "Reading" 1080 (.ref 695),Cs P "steps_of" 1092 (.ref 707),Cs P "joined" 1101 (.ref 714),Cs P "part_number" 1110 (.ref 721),Cs P "number_of" 1122 (.ref 728),Cs P "LONGEST_BOOK_NAME" 1126 (.int 8 1125),Cs P "is_book_name" 1132 (.ref 733),Cs P "value_alone" 1140 (.ref 740),Cs P "book_of" 1149 (.ref 747),Cs P "Book" 1326 (.ref 883),Cs P "is_entry" 1334 (.ref 892),Cs P "table_of" 1340 (.ref 897),Cs P "Edition" 1450 (.ref 977),Cs P "read" 1460 (.ref 988),Cs P "_law_cell" 1470 (.ref 995),Cs P "_law_drawn" 1479 (.ref 1002),Cs P "_law_roll" 1488 (.ref 1009),Cs P "_law_rounds" 1494 (.ref 1014),Cs P "_law_met" 1502 (.ref 1021),Cs P "_law_alone" 1508 (.ref 1026),Cs P "law" 1514 (.ref 1031)] 80),#[]⟩)::(nat_lit 29,⟨.type "tuple",none,(.seq #[(.str "" 208)] 0),#[]⟩)::(nat_lit 35,HT "__init__" 209 "MarkError.__init__" 210 211 7 2 0 0 3 30 31 32 33 34 214 7 215)::(nat_lit 36,⟨.type "function",none,(.func (Mk.fS "__init__" "MarkError.__init__" (L2.inClass (Mk.top 2) 0) (.ref 29) .none .none (.str "markworks.errors" 194) none (.ref 35) .none)),#[]⟩)::(nat_lit 38,⟨.type "dict",none,(.dict #[Cs P "__module__" 203 (.str "markworks.errors" 194),Cs P "__firstlineno__" 207 (.int 5 206),Cs P "__init__" 216 (.ref 36),Cs P "__static_attributes__" 217 (.ref 37),Cs P "__weakref__" 219 (.ref 40),Cs P "__doc__" 220 .none] 3),#[]⟩)::(nat_lit 39,⟨.type "type",none,(.cls ⟨"MarkError", [(.type "ValueError")],[(.ref 39),(.type "ValueError"),(.type "Exception"),(.type "BaseException"),(.type "object")],38, "MarkError", true,[],[(.ref 59),(.ref 71),(.ref 83),(.ref 95),(.ref 114),(.ref 126),(.ref 145),(.ref 157),(.ref 169),(.ref 188),(.ref 200)],false,none,false⟩),#[(some (.ref 22)),none,(some (.str "MarkError" 196)),(some (.str "MarkError" 204)),(some (.builtin "ValueError.__new__")),(some (.bool true))]⟩)::(nat_lit 55,HT "__init__" 235 "BadRows.__init__" 236 237 11 2 0 0 3 50 51 52 53 54 240 11 241)::(nat_lit 56,Mk.fN "__init__" "BadRows.__init__" (L2.inClass (Mk.top 3) 0) "markworks.errors" 194 55)::(nat_lit 58,⟨.type "dict",none,(.dict #[Cs P "__module__" 230 (.str "markworks.errors" 194),Cs P "__firstlineno__" 234 (.int 9 233),Cs P "__init__" 242 (.ref 56),Cs P "__static_attributes__" 244 (.ref 57),Cs P "__doc__" 245 .none] 2),#[]⟩)::(nat_lit 59,Mk.eC "BadRows" 39 59 58 43 223 231)::(nat_lit 70,⟨.type "dict",none,(.dict #[Cs P "__module__" 255 (.str "markworks.errors" 194),Cs P "__firstlineno__" 259 (.int 14 258),Cs P "__static_attributes__" 260 (.ref 69),Cs P "__doc__" 261 .none] 2),#[]⟩)::(nat_lit 71,Mk.eC "BadRule" 39 71 70 62 248 256)::(nat_lit 82,⟨.type "dict",none,(.dict #[Cs P "__module__" 271 (.str "markworks.errors" 194),Cs P "__firstlineno__" 275 (.int 16 274),Cs P "__static_attributes__" 276 (.ref 81),Cs P "__doc__" 277 .none] 2),#[]⟩)::(nat_lit 83,Mk.eC "BadName" 39 83 82 74 264 272)::(nat_lit 94,⟨.type "dict",none,(.dict #[Cs P "__module__" 287 (.str "markworks.errors" 194),Cs P "__firstlineno__" 291 (.int 18 290),Cs P "__static_attributes__" 292 (.ref 93),Cs P "__doc__" 293 .none] 2),#[]⟩)::(nat_lit 95,Mk.eC "BadNumber" 39 95 94 86 280 288)::(nat_lit 110,HT "__init__" 308 "BadRest.__init__" 309 310 22 2 0 0 3 105 106 107 108 109 313 22 314)::(nat_lit 111,Mk.fN "__init__" "BadRest.__init__" (L2.inClass (Mk.top 7) 0) "markworks.errors" 194 110)::(nat_lit 113,⟨.type "dict",none,(.dict #[Cs P "__module__" 303 (.str "markworks.errors" 194),Cs P "__firstlineno__" 307 (.int 20 306),Cs P "__init__" 315 (.ref 111),Cs P "__static_attributes__" 317 (.ref 112),Cs P "__doc__" 318 .none] 2),#[]⟩)::(nat_lit 114,Mk.eC "BadRest" 39 114 113 98 296 304)::(nat_lit 125,⟨.type "dict",none,(.dict #[Cs P "__module__" 328 (.str "markworks.errors" 194),Cs P "__firstlineno__" 332 (.int 25 331),Cs P "__static_attributes__" 333 (.ref 124),Cs P "__doc__" 334 .none] 2),#[]⟩)::(nat_lit 126,Mk.eC "Unlike" 39 126 125 117 321 329)::(nat_lit 141,HT "__init__" 349 "BadText.__init__" 350 351 29 2 0 0 3 136 137 138 139 140 354 29 355)::(nat_lit 142,Mk.fN "__init__" "BadText.__init__" (L2.inClass (Mk.top 9) 0) "markworks.errors" 194 141)::(nat_lit 144,⟨.type "dict",none,(.dict #[Cs P "__module__" 344 (.str "markworks.errors" 194),Cs P "__firstlineno__" 348 (.int 27 347),Cs P "__init__" 356 (.ref 142),Cs P "__static_attributes__" 358 (.ref 143),Cs P "__doc__" 359 .none] 2),#[]⟩)::(nat_lit 145,Mk.eC "BadText" 39 145 144 129 337 345)::(nat_lit 156,⟨.type "dict",none,(.dict #[Cs P "__module__" 369 (.str "markworks.errors" 194),Cs P "__firstlineno__" 373 (.int 32 372),Cs P "__static_attributes__" 374 (.ref 155),Cs P "__doc__" 375 .none] 2),#[]⟩)::(nat_lit 157,Mk.eC "BadPairs" 39 157 156 148 362 370)::(nat_lit 168,⟨.type "dict",none,(.dict #[Cs P "__module__" 385 (.str "markworks.errors" 194),Cs P "__firstlineno__" 389 (.int 34 388),Cs P "__static_attributes__" 390 (.ref 167),Cs P "__doc__" 391 .none] 2),#[]⟩)::(nat_lit 169,Mk.eC "Never" 39 169 168 160 378 386)::(nat_lit 184,HT "__init__" 406 "Unled.__init__" 407 408 38 2 0 0 3 179 180 181 182 183 411 38 412)::(nat_lit 185,Mk.fN "__init__" "Unled.__init__" (L2.inClass (Mk.top 12) 0) "markworks.errors" 194 184)::(nat_lit 187,⟨.type "dict",none,(.dict #[Cs P "__module__" 401 (.str "markworks.errors" 194),Cs P "__firstlineno__" 405 (.int 36 404),Cs P "__init__" 413 (.ref 185),Cs P "__static_attributes__" 415 (.ref 186),Cs P "__doc__" 416 .none] 2),#[]⟩)::(nat_lit 188,Mk.eC "Unled" 39 188 187 172 394 402)::(nat_lit 199,⟨.type "dict",none,(.dict #[Cs P "__module__" 426 (.str "markworks.errors" 194),Cs P "__firstlineno__" 430 (.int 41 429),Cs P "__static_attributes__" 431 (.ref 198),Cs P "__doc__" 432 .none] 2),#[]⟩)::(nat_lit 200,Mk.eC "Nothing" 39 200 199 191 419 427)::(nat_lit 203,⟨.type "tuple",none,(.seq #[(.str "bar" 447),(.str "drop" 448),(.str "keep" 449),(.str "leave" 450)] 0),#[]⟩)::(nat_lit 209,HT "is_whole" 452 "is_whole" 453 454 48 1 0 0 3 204 205 206 207 208 456 48 457)::(nat_lit 210,Mk.fN "is_whole" "is_whole" (Mk.top 19) "markworks.kinds" 435 209)::(nat_lit 214,⟨.type "code",none,(.fields #[(.str "is_name" 459),(.str "is_name" 460),(.str "/claim/cut.py" 461),(.int 50 0),(.int 1 0),(.int 0 0),(.int 0 0),(.int 3 0),(.ref 211),(.bool true),(.int 181 0),(.ref 212),.none,.none,.none,(.ref 213),(.int 462 0),(.int 50 0),(.str "/claim/cut.py" 463)]),#[]⟩)::(nat_lit 215,Mk.fN "is_name" "is_name" (Mk.top 20) "markworks.kinds" 435 214)::(nat_lit 221,HT "is_mark" 465 "is_mark" 466 467 54 1 0 0 3 216 217 218 219 220 469 54 470)::(nat_lit 222,Mk.fN "is_mark" "is_mark" (Mk.top 21) "markworks.kinds" 435 221)::(nat_lit 228,HT "union_of" 472 "union_of" 473 474 56 1 0 0 3 223 224 225 226 227 478 56 479)::(nat_lit 229,Mk.fN "union_of" "union_of" (Mk.top 22) "markworks.kinds" 435 228)::(nat_lit 233,⟨.type "code",none,(.fields #[(.str "unions_of" 481),(.str "unions_of" 482),(.str "/claim/cut.py" 483),(.int 61 0),(.int 1 0),(.int 0 0),(.int 0 0),(.int 3 0),(.ref 230),(.bool true),(.int 181 0),(.ref 231),.none,.none,.none,(.ref 232),(.int 484 0),(.int 61 0),(.str "/claim/cut.py" 485)]),#[]⟩)::(nat_lit 234,Mk.fN "unions_of" "unions_of" (Mk.top 23) "markworks.kinds" 435 233)::(nat_lit 240,HT "is_one_of" 487 "is_one_of" 488 489 66 2 0 0 3 235 236 237 238 239 492 66 493)::(nat_lit 241,Mk.fN "is_one_of" "is_one_of" (Mk.top 24) "markworks.kinds" 435 240)::(nat_lit 245,⟨.type "code",none,(.fields #[(.str "mark_bits" 495),(.str "mark_bits" 496),(.str "/claim/cut.py" 497),(.int 68 0),(.int 1 0),(.int 0 0),(.int 0 0),(.int 3 0),(.ref 242),(.bool true),(.int 181 0),(.ref 243),.none,.none,.none,(.ref 244),(.int 498 0),(.int 68 0),(.str "/claim/cut.py" 499)]),#[]⟩)::(nat_lit 246,Mk.fN "mark_bits" "mark_bits" (Mk.top 25) "markworks.kinds" 435 245)::(nat_lit 252,HT "next_mark" 501 "next_mark" 502 503 70 1 0 0 3 247 248 249 250 251 505 70 506)::(nat_lit 253,Mk.fN "next_mark" "next_mark" (Mk.top 26) "markworks.kinds" 435 252)::(nat_lit 257,⟨.type "code",none,(.fields #[(.str "is_names_of" 508),(.str "is_names_of" 509),(.str "/claim/cut.py" 510),(.int 72 0),(.int 2 0),(.int 0 0),(.int 0 0),(.int 3 0),(.ref 254),(.bool true),(.int 181 0),(.ref 255),.none,.none,.none,(.ref 256),(.int 511 0),(.int 72 0),(.str "/claim/cut.py" 512)]),#[]⟩)::(nat_lit 258,Mk.fN "is_names_of" "is_names_of" (Mk.top 27) "markworks.kinds" 435 257)::(nat_lit 262,⟨.type "code",none,(.fields #[(.str "thing_number" 514),(.str "thing_number" 515),(.str "/claim/cut.py" 516),(.int 74 0),(.int 2 0),(.int 0 0),(.int 0 0),(.int 3 0),(.ref 259),(.bool true),(.int 181 0),(.ref 260),.none,.none,.none,(.ref 261),(.int 517 0),(.int 74 0),(.str "/claim/cut.py" 518)]),#[]⟩)::(nat_lit 263,Mk.fN "thing_number" "thing_number" (Mk.top 28) "markworks.kinds" 435 262)::(nat_lit 269,HT "row_number" 520 "row_number" 521 522 82 2 0 0 3 264 265 266 267 268 528 82 529)::(nat_lit 270,Mk.fN "row_number" "row_number" (Mk.top 29) "markworks.kinds" 435 269)::(nat_lit 276,HT "numbered" 531 "numbered" 532 533 92 1 0 0 3 271 272 273 274 275 539 92 540)::(nat_lit 277,Mk.fN "numbered" "numbered" (Mk.top 30) "markworks.kinds" 435 276)::(nat_lit 283,HT "first_names" 542 "first_names" 543 544 102 1 0 0 3 278 279 280 281 282 549 102 550)::(nat_lit 284,Mk.fN "first_names" "first_names" (Mk.top 31) "markworks.kinds" 435 283)::(nat_lit 292,⟨.type "dict",none,(.dict #[Cs P "rest" 565 (.str "bar" 564)] 1),#[]⟩)::(nat_lit 298,HT "__init__" 566 "Kind.__init__" 567 568 109 2 0 1 3 293 294 295 296 297 572 109 573)::(nat_lit 299,⟨.type "function",none,(.func (Mk.fS "__init__" "Kind.__init__" (L2.inClass (Mk.top 32) 0) .none (.ref 292) .none (.str "markworks.kinds" 435) none (.ref 298) .none)),#[]⟩)::(nat_lit 305,HT "rows" 575 "Kind.rows" 576 577 116 1 0 0 3 300 301 302 303 304 579 116 580)::(nat_lit 306,Mk.fN "rows" "Kind.rows" (L2.inClass (Mk.top 32) 1) "markworks.kinds" 435 305)::(nat_lit 312,HT "number" 582 "Kind.number" 583 584 119 2 0 0 3 307 308 309 310 311 587 119 588)::(nat_lit 313,Mk.fN "number" "Kind.number" (L2.inClass (Mk.top 32) 2) "markworks.kinds" 435 312)::(nat_lit 329,⟨.type "code",none,(.fields #[(.str "marks" 603),(.str "Kind.marks" 604),(.str "/claim/cut.py" 605),(.int 131 0),(.int 1 0),(.int 0 0),(.int 0 0),(.int 3 0),(.ref 326),(.bool true),(.int 181 0),(.ref 327),.none,.none,.none,(.ref 328),(.int 606 0),(.int 131 0),(.str "/claim/cut.py" 607)]),#[]⟩)::(nat_lit 330,Mk.fN "marks" "Kind.marks" (L2.inClass (Mk.top 32) 5) "markworks.kinds" 435 329)::(nat_lit 336,HT "known" 609 "Kind.known" 610 611 134 1 0 0 3 331 332 333 334 335 613 134 614)::(nat_lit 337,Mk.fN "known" "Kind.known" (L2.inClass (Mk.top 32) 6) "markworks.kinds" 435 336)::(nat_lit 343,HT "rest" 616 "Kind.rest" 617 618 137 1 0 0 3 338 339 340 341 342 620 137 621)::(nat_lit 344,Mk.fN "rest" "Kind.rest" (L2.inClass (Mk.top 32) 7) "markworks.kinds" 435 343)::(nat_lit 350,HT "__eq__" 623 "Kind.__eq__" 624 625 140 2 0 0 3 345 346 347 348 349 628 140 629)::(nat_lit 351,Mk.fN "__eq__" "Kind.__eq__" (L2.inClass (Mk.top 32) 8) "markworks.kinds" 435 350)::(nat_lit 360,⟨.type "dict",none,(.dict #[Cs P "__module__" 559 (.str "markworks.kinds" 435),Cs P "__firstlineno__" 563 (.int 107 562),Cs P "__init__" 574 (.ref 299),Cs P "rows" 581 (.ref 306),Cs P "number" 589 (.ref 313),Cs P "names" 596 (.ref 320),Cs P "aliases" 602 (.ref 325),Cs P "marks" 608 (.ref 330),Cs P "known" 615 (.ref 337),Cs P "rest" 622 (.ref 344),Cs P "__eq__" 630 (.ref 351),Cs P "__len__" 637 (.ref 358),Cs P "__static_attributes__" 641 (.ref 359),Cs P "__dict__" 643 (.ref 362),Cs P "__weakref__" 645 (.ref 363),Cs P "__doc__" 646 .none,Cs P "__hash__" 647 .none] 5),#[]⟩)::(nat_lit 361,⟨.type "type",none,(.cls ⟨"Kind", [(.type "object")],[(.ref 361),(.type "object")],360, "Kind", true,[],[],false,none,false⟩),#[none,none,(some (.str "Kind" 552)),(some (.str "Kind" 560)),(some (.builtin "object.__new__")),(some (.bool true))]⟩)::(nat_lit 371,HT "is_number" 656 "is_number" 657 658 147 1 0 0 3 366 367 368 369 370 660 147 661)::(nat_lit 372,Mk.fN "is_number" "is_number" (Mk.top 35) "markworks.values" 650 371)::(nat_lit 378,HT "rest_of" 663 "rest_of" 664 665 149 2 0 0 3 373 374 375 376 377 668 149 669)::(nat_lit 379,Mk.fN "rest_of" "rest_of" (Mk.top 36) "markworks.values" 650 378)::(nat_lit 392,HT "__init__" 683 "Value.__init__" 684 685 153 3 0 0 3 387 388 389 390 391 689 153 690)::(nat_lit 393,Mk.fN "__init__" "Value.__init__" (L2.inClass (Mk.top 37) 0) "markworks.values" 650 392)::(nat_lit 399,HT "number" 692 "Value.number" 693 694 161 1 0 0 3 394 395 396 397 398 696 161 697)::(nat_lit 400,Mk.fN "number" "Value.number" (L2.inClass (Mk.top 37) 1) "markworks.values" 650 399)::(nat_lit 406,HT "kind" 699 "Value.kind" 700 701 164 1 0 0 3 401 402 403 404 405 703 164 704)::(nat_lit 407,Mk.fN "kind" "Value.kind" (L2.inClass (Mk.top 37) 2) "markworks.values" 650 406)::(nat_lit 411,⟨.type "code",none,(.fields #[(.str "marks" 706),(.str "Value.marks" 707),(.str "/claim/cut.py" 708),(.int 167 0),(.int 1 0),(.int 0 0),(.int 0 0),(.int 3 0),(.ref 408),(.bool true),(.int 181 0),(.ref 409),.none,.none,.none,(.ref 410),(.int 709 0),(.int 167 0),(.str "/claim/cut.py" 710)]),#[]⟩)::(nat_lit 412,Mk.fN "marks" "Value.marks" (L2.inClass (Mk.top 37) 3) "markworks.values" 650 411)::(nat_lit 418,HT "rest" 712 "Value.rest" 713 714 170 1 0 0 3 413 414 415 416 417 716 170 717)::(nat_lit 419,Mk.fN "rest" "Value.rest" (L2.inClass (Mk.top 37) 4) "markworks.values" 650 418)::(nat_lit 425,HT "__eq__" 719 "Value.__eq__" 720 721 173 2 0 0 3 420 421 422 423 424 724 173 725)::(nat_lit 426,Mk.fN "__eq__" "Value.__eq__" (L2.inClass (Mk.top 37) 5) "markworks.values" 650 425)::(nat_lit 435,⟨.type "dict",none,(.dict #[Cs P "__module__" 678 (.str "markworks.values" 650),Cs P "__firstlineno__" 682 (.int 151 681),Cs P "__init__" 691 (.ref 393),Cs P "number" 698 (.ref 400),Cs P "kind" 705 (.ref 407),Cs P "marks" 711 (.ref 412),Cs P "rest" 718 (.ref 419),Cs P "__eq__" 726 (.ref 426),Cs P "__len__" 733 (.ref 433),Cs P "__static_attributes__" 736 (.ref 434),Cs P "__dict__" 738 (.ref 437),Cs P "__weakref__" 740 (.ref 438),Cs P "__doc__" 741 .none,Cs P "__hash__" 742 .none] 5),#[]⟩)::(nat_lit 436,⟨.type "type",none,(.cls ⟨"Value", [(.type "object")],[(.ref 436),(.type "object")],435, "Value", true,[],[],false,none,false⟩),#[none,none,(some (.str "Value" 671)),(some (.str "Value" 679)),(some (.builtin "object.__new__")),(some (.bool true))]⟩)::(nat_lit 446,HT "made" 745 "made" 746 747 178 2 0 0 3 441 442 443 444 445 752 178 753)::(nat_lit 447,Mk.fN "made" "made" (Mk.top 38) "markworks.values" 650 446)::(nat_lit 451,⟨.type "code",none,(.fields #[(.str "value_of" 755),(.str "value_of" 756),(.str "/claim/cut.py" 757),(.int 190 0),(.int 2 0),(.int 0 0),(.int 0 0),(.int 3 0),(.ref 448),(.bool true),(.int 181 0),(.ref 449),.none,.none,.none,(.ref 450),(.int 758 0),(.int 190 0),(.str "/claim/cut.py" 759)]),#[]⟩)::(nat_lit 452,Mk.fN "value_of" "value_of" (Mk.top 39) "markworks.values" 650 451)::(nat_lit 458,HT "same_kind" 761 "same_kind" 762 763 194 2 0 0 3 453 454 455 456 457 766 194 767)::(nat_lit 459,Mk.fN "same_kind" "same_kind" (Mk.top 40) "markworks.values" 650 458)::(nat_lit 465,HT "union" 769 "union" 770 771 198 2 0 0 3 460 461 462 463 464 774 198 775)::(nat_lit 466,Mk.fN "union" "union" (Mk.top 41) "markworks.values" 650 465)::(nat_lit 477,⟨.type "code",none,(.fields #[(.str "is_pair" 786),(.str "is_pair" 787),(.str "/claim/cut.py" 788),(.int 203 0),(.int 2 0),(.int 0 0),(.int 0 0),(.int 3 0),(.ref 474),(.bool true),(.int 181 0),(.ref 475),.none,.none,.none,(.ref 476),(.int 789 0),(.int 203 0),(.str "/claim/cut.py" 790)]),#[]⟩)::(nat_lit 478,Mk.fN "is_pair" "is_pair" (Mk.top 44) "markworks.rules" 784 477)::(nat_lit 482,⟨.type "code",none,(.fields #[(.str "pairs_of" 792),(.str "pairs_of" 793),(.str "/claim/cut.py" 794),(.int 207 0),(.int 2 0),(.int 0 0),(.int 0 0),(.int 3 0),(.ref 479),(.bool true),(.int 181 0),(.ref 480),.none,.none,.none,(.ref 481),(.int 795 0),(.int 207 0),(.str "/claim/cut.py" 796)]),#[]⟩)::(nat_lit 483,Mk.fN "pairs_of" "pairs_of" (Mk.top 45) "markworks.rules" 784 482)::(nat_lit 491,⟨.type "tuple",none,(.seq #[] 0),#[]⟩)::(nat_lit 492,⟨.type "tuple",none,(.seq #[] 0),#[]⟩)::(nat_lit 493,⟨.type "dict",none,(.dict #[Cs P "needs" 810 (.ref 491),Cs P "bars" 811 (.ref 492)] 2),#[]⟩)::(nat_lit 497,⟨.type "code",none,(.fields #[(.str "__init__" 812),(.str "Rule.__init__" 813),(.str "/claim/cut.py" 814),(.int 213 0),(.int 2 0),(.int 0 0),(.int 2 0),(.int 3 0),(.ref 494),(.bool true),(.int 181 0),(.ref 495),.none,.none,.none,(.ref 496),(.int 815 0),(.int 213 0),(.str "/claim/cut.py" 816)]),#[]⟩)::(nat_lit 498,⟨.type "function",none,(.func (Mk.fS "__init__" "Rule.__init__" (L2.inClass (Mk.top 46) 0) .none (.ref 493) .none (.str "markworks.rules" 784) none (.ref 497) .none)),#[]⟩)::(nat_lit 511,HT "first_fault" 825 "Rule.first_fault" 826 827 224 2 0 0 3 506 507 508 509 510 833 224 834)::(nat_lit 512,Mk.fN "first_fault" "Rule.first_fault" (L2.inClass (Mk.top 46) 2) "markworks.rules" 784 511)::(nat_lit 518,HT "own_number" 836 "Rule.own_number" 837 838 233 2 0 0 3 513 514 515 516 517 841 233 842)::(nat_lit 519,Mk.fN "own_number" "Rule.own_number" (L2.inClass (Mk.top 46) 3) "markworks.rules" 784 518)::(nat_lit 525,HT "lets" 844 "Rule.lets" 845 846 238 2 0 0 3 520 521 522 523 524 849 238 850)::(nat_lit 526,Mk.fN "lets" "Rule.lets" (L2.inClass (Mk.top 46) 4) "markworks.rules" 784 525)::(nat_lit 532,HT "fault" 852 "Rule.fault" 853 854 241 2 0 0 3 527 528 529 530 531 858 241 859)::(nat_lit 533,Mk.fN "fault" "Rule.fault" (L2.inClass (Mk.top 46) 5) "markworks.rules" 784 532)::(nat_lit 567,HT "nth" 892 "Rule.nth" 893 894 257 2 0 0 3 562 563 564 565 566 897 257 898)::(nat_lit 568,Mk.fN "nth" "Rule.nth" (L2.inClass (Mk.top 46) 10) "markworks.rules" 784 567)::(nat_lit 574,HT "place" 900 "Rule.place" 901 902 262 2 0 0 3 569 570 571 572 573 905 262 906)::(nat_lit 575,Mk.fN "place" "Rule.place" (L2.inClass (Mk.top 46) 11) "markworks.rules" 784 574)::(nat_lit 596,⟨.type "dict",none,(.dict #[Cs P "__module__" 805 (.str "markworks.rules" 784),Cs P "__firstlineno__" 809 (.int 211 808),Cs P "__init__" 817 (.ref 498),Cs P "kind" 824 (.ref 505),Cs P "first_fault" 835 (.ref 512),Cs P "own_number" 843 (.ref 519),Cs P "lets" 851 (.ref 526),Cs P "fault" 860 (.ref 533),Cs P "grown" 868 (.ref 540),Cs P "shrunk" 876 (.ref 547),Cs P "mended" 884 (.ref 554),Cs P "count" 891 (.ref 561),Cs P "nth" 899 (.ref 568),Cs P "place" 907 (.ref 575),Cs P "names_in" 913 (.ref 580),Cs P "never" 920 (.ref 587),Cs P "always" 928 (.ref 594),Cs P "__static_attributes__" 934 (.ref 595),Cs P "__dict__" 936 (.ref 598),Cs P "__weakref__" 938 (.ref 599),Cs P "__doc__" 939 .none] 4),#[]⟩)::(nat_lit 597,⟨.type "type",none,(.cls ⟨"Rule", [(.type "object")],[(.ref 597),(.type "object")],596, "Rule", true,[],[],false,none,false⟩),#[none,none,(some (.str "Rule" 798)),(some (.str "Rule" 806)),(some (.builtin "object.__new__")),(some (.bool true))]⟩)::(nat_lit 602,⟨.type "tuple",none,(.seq #[(.str "&" 944),(.str "^" 945),(.str "|" 946)] 0),#[]⟩)::(nat_lit 609,HT "is_letter" 966 "is_letter" 967 968 279 1 0 0 3 604 605 606 607 608 970 279 971)::(nat_lit 610,Mk.fN "is_letter" "is_letter" (Mk.top 51) "markworks.grammar" 942 609)::(nat_lit 614,⟨.type "code",none,(.fields #[(.str "is_figures" 973),(.str "is_figures" 974),(.str "/claim/cut.py" 975),(.int 281 0),(.int 1 0),(.int 0 0),(.int 0 0),(.int 3 0),(.ref 611),(.bool true),(.int 181 0),(.ref 612),.none,.none,.none,(.ref 613),(.int 976 0),(.int 281 0),(.str "/claim/cut.py" 977)]),#[]⟩)::(nat_lit 615,Mk.fN "is_figures" "is_figures" (Mk.top 52) "markworks.grammar" 942 614)::(nat_lit 621,HT "is_part" 979 "is_part" 980 981 287 2 0 0 3 616 617 618 619 620 984 287 985)::(nat_lit 622,Mk.fN "is_part" "is_part" (Mk.top 53) "markworks.grammar" 942 621)::(nat_lit 628,HT "part_end" 987 "part_end" 988 989 289 3 0 0 3 623 624 625 626 627 994 289 995)::(nat_lit 629,Mk.fN "part_end" "part_end" (Mk.top 54) "markworks.grammar" 942 628)::(nat_lit 642,HT "__init__" 1009 "Reading.__init__" 1010 1011 296 1 0 0 3 637 638 639 640 641 1013 296 1014)::(nat_lit 643,Mk.fN "__init__" "Reading.__init__" (L2.inClass (Mk.top 55) 0) "markworks.grammar" 942 642)::(nat_lit 649,HT "take_part" 1016 "Reading.take_part" 1017 1018 301 2 0 0 3 644 645 646 647 648 1021 301 1022)::(nat_lit 650,Mk.fN "take_part" "Reading.take_part" (L2.inClass (Mk.top 55) 1) "markworks.grammar" 942 649)::(nat_lit 656,HT "take_sign" 1024 "Reading.take_sign" 1025 1026 305 2 0 0 3 651 652 653 654 655 1029 305 1030)::(nat_lit 657,Mk.fN "take_sign" "Reading.take_sign" (L2.inClass (Mk.top 55) 2) "markworks.grammar" 942 656)::(nat_lit 663,HT "take_ahead" 1032 "Reading.take_ahead" 1033 1034 312 2 0 0 3 658 659 660 661 662 1037 312 1038)::(nat_lit 664,Mk.fN "take_ahead" "Reading.take_ahead" (L2.inClass (Mk.top 55) 3) "markworks.grammar" 942 663)::(nat_lit 670,HT "take_between" 1040 "Reading.take_between" 1041 1042 318 2 0 0 3 665 666 667 668 669 1045 318 1046)::(nat_lit 671,Mk.fN "take_between" "Reading.take_between" (L2.inClass (Mk.top 55) 4) "markworks.grammar" 942 670)::(nat_lit 677,HT "take_close" 1048 "Reading.take_close" 1049 1050 326 1 0 0 3 672 673 674 675 676 1052 326 1053)::(nat_lit 678,Mk.fN "take_close" "Reading.take_close" (L2.inClass (Mk.top 55) 5) "markworks.grammar" 942 677)::(nat_lit 684,HT "settle" 1055 "Reading.settle" 1056 1057 333 2 0 0 3 679 680 681 682 683 1060 333 1061)::(nat_lit 685,Mk.fN "settle" "Reading.settle" (L2.inClass (Mk.top 55) 6) "markworks.grammar" 942 684)::(nat_lit 691,HT "ends" 1063 "Reading.ends" 1064 1065 337 1 0 0 3 686 687 688 689 690 1067 337 1068)::(nat_lit 692,Mk.fN "ends" "Reading.ends" (L2.inClass (Mk.top 55) 7) "markworks.grammar" 942 691)::(nat_lit 694,⟨.type "dict",none,(.dict #[Cs P "__module__" 1004 (.str "markworks.grammar" 942),Cs P "__firstlineno__" 1008 (.int 294 1007),Cs P "__init__" 1015 (.ref 643),Cs P "take_part" 1023 (.ref 650),Cs P "take_sign" 1031 (.ref 657),Cs P "take_ahead" 1039 (.ref 664),Cs P "take_between" 1047 (.ref 671),Cs P "take_close" 1054 (.ref 678),Cs P "settle" 1062 (.ref 685),Cs P "ends" 1069 (.ref 692),Cs P "__static_attributes__" 1073 (.ref 693),Cs P "__dict__" 1075 (.ref 696),Cs P "__weakref__" 1077 (.ref 697),Cs P "__doc__" 1078 .none] 4),#[]⟩)::(nat_lit 695,⟨.type "type",none,(.cls ⟨"Reading", [(.type "object")],[(.ref 695),(.type "object")],694, "Reading", true,[],[],false,none,false⟩),#[none,none,(some (.str "Reading" 997)),(some (.str "Reading" 1005)),(some (.builtin "object.__new__")),(some (.bool true))]⟩)::(nat_lit 700,⟨.type "dict",none,(.dict #[Cs P "lettered" 1081 (.bool true)] 1),#[]⟩)::(nat_lit 706,HT "steps_of" 1082 "steps_of" 1083 1084 340 1 0 1 3 701 702 703 704 705 1090 340 1091)::(nat_lit 707,⟨.type "function",none,(.func (Mk.fS "steps_of" "steps_of" (Mk.top 56) .none (.ref 700) .none (.str "markworks.grammar" 942) none (.ref 706) .none)),#[]⟩)::(nat_lit 727,HT "number_of" 1111 "number_of" 1112 1113 369 3 0 0 3 722 723 724 725 726 1120 369 1121)::(nat_lit 728,Mk.fN "number_of" "number_of" (Mk.top 59) "markworks.grammar" 942 727)::(nat_lit 760,HT "__init__" 1162 "Book.__init__" 1163 1164 396 2 0 0 3 755 756 757 758 759 1167 396 1168)::(nat_lit 761,Mk.fN "__init__" "Book.__init__" (L2.inClass (Mk.top 65) 0) "markworks.books" 1123 760)::(nat_lit 823,HT "take_back" 1242 "Book.take_back" 1243 1244 436 1 0 0 3 818 819 820 821 822 1248 436 1249)::(nat_lit 824,Mk.fN "take_back" "Book.take_back" (L2.inClass (Mk.top 65) 9) "markworks.books" 1123 823)::(nat_lit 882,⟨.type "dict",none,(.dict #[Cs P "__module__" 1157 (.str "markworks.books" 1123),Cs P "__firstlineno__" 1161 (.int 394 1160),Cs P "__init__" 1169 (.ref 761),Cs P "entry" 1177 (.ref 768),Cs P "give" 1189 (.ref 775),Cs P "put" 1198 (.ref 782),Cs P "mark" 1207 (.ref 789),Cs P "unmark" 1216 (.ref 796),Cs P "turn" 1224 (.ref 803),Cs P "drop" 1232 (.ref 810),Cs P "reckon" 1241 (.ref 817),Cs P "take_back" 1250 (.ref 824),Cs P "value" 1258 (.ref 831),Cs P "changes" 1266 (.ref 838),Cs P "kind" 1273 (.ref 845),Cs P "names" 1280 (.ref 852),Cs P "having" 1288 (.ref 859),Cs P "lead" 1299 (.ref 866),Cs P "__eq__" 1307 (.ref 873),Cs P "__len__" 1314 (.ref 880),Cs P "__static_attributes__" 1318 (.ref 881),Cs P "__dict__" 1320 (.ref 884),Cs P "__weakref__" 1322 (.ref 885),Cs P "__doc__" 1323 .none,Cs P "__hash__" 1324 .none] 5),#[]⟩)::(nat_lit 883,⟨.type "type",none,(.cls ⟨"Book", [(.type "object")],[(.ref 883),(.type "object")],882, "Book", true,[],[],false,none,false⟩),#[none,none,(some (.str "Book" 1150)),(some (.str "Book" 1158)),(some (.builtin "object.__new__")),(some (.bool true))]⟩)::(nat_lit 891,⟨.type "code",none,(.fields #[(.str "is_entry" 1329),(.str "is_entry" 1330),(.str "/claim/cut.py" 1331),(.int 475 0),(.int 3 0),(.int 0 0),(.int 0 0),(.int 3 0),(.ref 888),(.bool true),(.int 181 0),(.ref 889),.none,.none,.none,(.ref 890),(.int 1332 0),(.int 475 0),(.str "/claim/cut.py" 1333)]),#[]⟩)::(nat_lit 892,Mk.fN "is_entry" "is_entry" (Mk.top 67) "markworks.editions" 1327 891)::(nat_lit 896,⟨.type "code",none,(.fields #[(.str "table_of" 1335),(.str "table_of" 1336),(.str "/claim/cut.py" 1337),(.int 479 0),(.int 3 0),(.int 0 0),(.int 0 0),(.int 3 0),(.ref 893),(.bool true),(.int 181 0),(.ref 894),.none,.none,.none,(.ref 895),(.int 1338 0),(.int 479 0),(.str "/claim/cut.py" 1339)]),#[]⟩)::(nat_lit 897,Mk.fN "table_of" "table_of" (Mk.top 68) "markworks.editions" 1327 896)::(nat_lit 910,HT "__init__" 1353 "Edition.__init__" 1354 1355 490 4 0 0 3 905 906 907 908 909 1360 490 1361)::(nat_lit 911,Mk.fN "__init__" "Edition.__init__" (L2.inClass (Mk.top 69) 0) "markworks.editions" 1327 910)::(nat_lit 931,HT "names_for" 1377 "Edition.names_for" 1378 1379 501 2 0 0 3 926 927 928 929 930 1384 501 1385)::(nat_lit 932,Mk.fN "names_for" "Edition.names_for" (L2.inClass (Mk.top 69) 3) "markworks.editions" 1327 931)::(nat_lit 938,HT "led" 1387 "Edition.led" 1388 1389 509 2 0 0 3 933 934 935 936 937 1393 509 1394)::(nat_lit 939,Mk.fN "led" "Edition.led" (L2.inClass (Mk.top 69) 4) "markworks.editions" 1327 938)::(nat_lit 976,⟨.type "dict",none,(.dict #[Cs P "__module__" 1348 (.str "markworks.editions" 1327),Cs P "__firstlineno__" 1352 (.int 488 1351),Cs P "__init__" 1362 (.ref 911),Cs P "kind" 1369 (.ref 918),Cs P "other" 1376 (.ref 925),Cs P "names_for" 1386 (.ref 932),Cs P "led" 1395 (.ref 939),Cs P "is_led_to_let" 1404 (.ref 946),Cs P "first_unled" 1413 (.ref 953),Cs P "first_mixed" 1420 (.ref 960),Cs P "pairs" 1427 (.ref 967),Cs P "behind" 1439 (.ref 974),Cs P "__static_attributes__" 1443 (.ref 975),Cs P "__dict__" 1445 (.ref 978),Cs P "__weakref__" 1447 (.ref 979),Cs P "__doc__" 1448 .none] 4),#[]⟩)::(nat_lit 977,⟨.type "type",none,(.cls ⟨"Edition", [(.type "object")],[(.ref 977),(.type "object")],976, "Edition", true,[],[],false,none,false⟩),#[none,none,(some (.str "Edition" 1341)),(some (.str "Edition" 1349)),(some (.builtin "object.__new__")),(some (.bool true))]⟩)::(nat_lit 987,HT "read" 1453 "read" 1454 1455 538 2 0 0 3 982 983 984 985 986 1458 538 1459)::(nat_lit 988,Mk.fN "read" "read" (Mk.top 71) "markworks.texts" 1451 987)::(nat_lit 994,HT "_law_cell" 1463 "_law_cell" 1464 1465 541 2 0 0 3 989 990 991 992 993 1468 541 1469)::(nat_lit 995,Mk.fN "_law_cell" "_law_cell" (Mk.top 73) "law_markworks_k75_refusals_apart" 1461 994)::(nat_lit 1001,HT "_law_drawn" 1471 "_law_drawn" 1472 1473 545 2 0 0 3 996 997 998 999 1000 1477 545 1478)::(nat_lit 1002,Mk.fN "_law_drawn" "_law_drawn" (Mk.top 74) "law_markworks_k75_refusals_apart" 1461 1001)::(nat_lit 1008,HT "_law_roll" 1480 "_law_roll" 1481 1482 550 2 0 0 3 1003 1004 1005 1006 1007 1486 550 1487)::(nat_lit 1009,Mk.fN "_law_roll" "_law_roll" (Mk.top 75) "law_markworks_k75_refusals_apart" 1461 1008)::(nat_lit 1013,⟨.type "code",none,(.fields #[(.str "_law_rounds" 1489),(.str "_law_rounds" 1490),(.str "/claim/cut.py" 1491),(.int 557 0),(.int 2 0),(.int 0 0),(.int 0 0),(.int 3 0),(.ref 1010),(.bool true),(.int 181 0),(.ref 1011),.none,.none,.none,(.ref 1012),(.int 1492 0),(.int 557 0),(.str "/claim/cut.py" 1493)]),#[]⟩)::(nat_lit 1014,Mk.fN "_law_rounds" "_law_rounds" (Mk.top 76) "law_markworks_k75_refusals_apart" 1461 1013)::(nat_lit 1020,HT "_law_met" 1495 "_law_met" 1496 1497 559 1 0 0 3 1015 1016 1017 1018 1019 1500 559 1501)::(nat_lit 1021,Mk.fN "_law_met" "_law_met" (Mk.top 77) "law_markworks_k75_refusals_apart" 1461 1020)::(nat_lit 1025,⟨.type "code",none,(.fields #[(.str "_law_alone" 1503),(.str "_law_alone" 1504),(.str "/claim/cut.py" 1505),(.int 565 0),(.int 2 0),(.int 0 0),(.int 0 0),(.int 3 0),(.ref 1022),(.bool true),(.int 181 0),(.ref 1023),.none,.none,.none,(.ref 1024),(.int 1506 0),(.int 565 0),(.str "/claim/cut.py" 1507)]),#[]⟩)::(nat_lit 1026,Mk.fN "_law_alone" "_law_alone" (Mk.top 78) "law_markworks_k75_refusals_apart" 1461 1025)::(nat_lit 1030,⟨.type "code",none,(.fields #[(.str "law" 1509),(.str "law" 1510),(.str "/claim/cut.py" 1511),(.int 571 0),(.int 1 0),(.int 0 0),(.int 0 0),(.int 3 0),(.ref 1027),(.bool true),(.int 181 0),(.ref 1028),.none,.none,.none,(.ref 1029),(.int 1512 0),(.int 571 0),(.str "/claim/cut.py" 1513)]),#[]⟩)::(nat_lit 1031,Mk.fN "law" "law" (Mk.top 79) "law_markworks_k75_refusals_apart" 1461 1030)::
 []
noncomputable def Mk.Kf (P:PySem.Params):PySem.W.Frag:=(nat_lit 1028,⟨.none,none,(.fields #[]),#[]⟩):: (nat_lit 603,⟨.type "dict",none,(.dict #[Cs P "(" 948 (.int 0 949),Cs P "|" 950 (.int 1 951),Cs P "^" 952 (.int 2 953),Cs P "&" 954 (.int 3 955),Cs P "~" 956 (.int 4 957)] 5),#[]⟩):: Mk.Kg P
noncomputable def Mk.Kas:List Nat:=1028:: 603:: 2:: 3:: 29:: 35:: 36:: 38:: 39:: 55:: 56:: 58:: 59:: 70:: 71:: 82:: 83:: 94:: 95:: 110:: 111:: 113:: 114:: 125:: 126:: 141:: 142:: 144:: 145:: 156:: 157:: 168:: 169:: 184:: 185:: 187:: 188:: 199:: 200:: 203:: 209:: 210:: 214:: 215:: 221:: 222:: 228:: 229:: 233:: 234:: 240:: 241:: 245:: 246:: 252:: 253:: 257:: 258:: 262:: 263:: 269:: 270:: 276:: 277:: 283:: 284:: 292:: 298:: 299:: 305:: 306:: 312:: 313:: 329:: 330:: 336:: 337:: 343:: 344:: 350:: 351:: 360:: 361:: 371:: 372:: 378:: 379:: 392:: 393:: 399:: 400:: 406:: 407:: 411:: 412:: 418:: 419:: 425:: 426:: 435:: 436:: 446:: 447:: 451:: 452:: 458:: 459:: 465:: 466:: 477:: 478:: 482:: 483:: 491:: 492:: 493:: 497:: 498:: 511:: 512:: 518:: 519:: 525:: 526:: 532:: 533:: 567:: 568:: 574:: 575:: 596:: 597:: 602:: 609:: 610:: 614:: 615:: 621:: 622:: 628:: 629:: 642:: 643:: 649:: 650:: 656:: 657:: 663:: 664:: 670:: 671:: 677:: 678:: 684:: 685:: 691:: 692:: 694:: 695:: 700:: 706:: 707:: 727:: 728:: 760:: 761:: 823:: 824:: 882:: 883:: 891:: 892:: 896:: 897:: 910:: 911:: 931:: 932:: 938:: 939:: 976:: 977:: 987:: 988:: 994:: 995:: 1001:: 1002:: 1008:: 1009:: 1013:: 1014:: 1020:: 1021:: 1025:: 1026:: 1030:: 1031:: []
noncomputable def Mk.loose:List PySem.Str:=Str.ofString "_wall" :: Str.ofString "MarkError" :: Str.ofString "BadRows" :: Str.ofString "BadRule" :: Str.ofString "BadName" :: Str.ofString "BadNumber" :: Str.ofString "BadRest" :: Str.ofString "Unlike" :: Str.ofString "BadText" :: Str.ofString "BadPairs" :: Str.ofString "Never" :: Str.ofString "Unled" :: Str.ofString "Nothing" :: Str.ofString "GREATEST" :: Str.ofString "MOST_ROWS" :: Str.ofString "LONGEST_NAME" :: Str.ofString "RULES" :: Str.ofString "is_whole" :: Str.ofString "is_name" :: Str.ofString "is_mark" :: Str.ofString "union_of" :: Str.ofString "unions_of" :: Str.ofString "is_one_of" :: Str.ofString "mark_bits" :: Str.ofString "next_mark" :: Str.ofString "is_names_of" :: Str.ofString "thing_number" :: Str.ofString "row_number" :: Str.ofString "numbered" :: Str.ofString "first_names" :: Str.ofString "Kind" :: Str.ofString "LIMIT" :: Str.ofString "is_number" :: Str.ofString "rest_of" :: Str.ofString "Value" :: Str.ofString "made" :: Str.ofString "value_of" :: Str.ofString "same_kind" :: Str.ofString "union" :: Str.ofString "turned" :: Str.ofString "is_pair" :: Str.ofString "pairs_of" :: Str.ofString "Rule" :: Str.ofString "JOINING" :: Str.ofString "BINDING" :: Str.ofString "LEAST_BINDING" :: Str.ofString "is_letter" :: Str.ofString "is_figures" :: Str.ofString "is_part" :: Str.ofString "part_end" :: Str.ofString "Reading" :: Str.ofString "steps_of" :: Str.ofString "joined" :: Str.ofString "part_number" :: Str.ofString "number_of" :: Str.ofString "LONGEST_BOOK_NAME" :: Str.ofString "is_book_name" :: Str.ofString "value_alone" :: Str.ofString "book_of" :: Str.ofString "Book" :: Str.ofString "is_entry" :: Str.ofString "table_of" :: Str.ofString "Edition" :: Str.ofString "read" :: Str.ofString "_law_cell" :: Str.ofString "_law_drawn" :: Str.ofString "_law_roll" :: Str.ofString "_law_rounds" :: Str.ofString "_law_met" :: Str.ofString "_law_alone" :: []
abbrev Mk.dl:List L2.DcE:=[("(", 948,0,949),("|", 950,1,951),("^", 952,2,953),("&", 954,3,955),("~", 956,4,957)]
abbrev Mk.ep:Nat:=5
def Mk.T0 (P:Params):BT:=.node (boot_o_0 P)
 (.node (boot_o_1 P) (.node (boot_o_3 P) (.node (boot_o_7 P) .nil .nil) .nil) (.node (boot_o_5 P) (.node (boot_o_9 P) .nil .nil) .nil))
 (.node (boot_o_2 P) (.node (boot_o_4 P) (.node (boot_o_8 P) .nil .nil) .nil) (.node (boot_o_6 P) (.node (boot_o_10 P) .nil .nil) .nil))
theorem Mk.tree (P:Params):absHeap (Mk.T0 P) (nat_lit 11) {}=boot_heap P:=by kernel_rfl
theorem Mk.size (w:World):((boot_heap w.params).isNs mainGlobals,(boot_heap w.params).objs.size,(boot_heap w.params).nsMap mainGlobals "__annotations__")=(true,(nat_lit 11),some (.ref (nat_lit 6))):=by kernel_rfl
theorem Mk.opens (w:World):(fencedOpening treeTable PySem.Challenge.pw_markworks_k75_refusals_apart w (nat_lit 15308)).map (fun s=>(s.heap,s.gens,s.drawn,s.toks))=some (boot_heap w.params,#[],boot_drawn,boot_toks):=boot_open qd qc (fun s=>qd) w
theorem Mk.twin:Function.const _ true (@Hd.runT,@Hd.looksAt)=true:=by k_qdec
abbrev Mk.qv:Program:=view PySem.Challenge.pw_markworks_k75_refusals_apart [nat_lit 79]
abbrev Mk.Xt (s:Shared):Bool:=xlAt Mk.qv [] s&&recOk [] s
abbrev Mk.RQ (w:World) (os:OsState):Prop:=(Option.map (fun s=>Fast.tw8257016192812374322 PySem.Challenge.pw_markworks_k75_refusals_apart (view PySem.Challenge.pw_markworks_k75_refusals_apart [nat_lit 79]) Mk.loose (fun s=>xlAt (view PySem.Challenge.pw_markworks_k75_refusals_apart [nat_lit 79]) [] s&&recOk [] s) Mk.Kas (boot_heap w.params) s.abs)
   (Fast.tw16599536794577742827 Fast.tw14364793385576792824 PySem.Challenge.pw_markworks_k75_refusals_apart w (nat_lit 11) (some (Value.ref (nat_lit 6))) (nat_lit 7606) ⟨Mk.T0 w.params,nat_lit 11,{},#[],boot_drawn,boot_toks,os⟩ (topStub PySem.Challenge.pw_markworks_k75_refusals_apart))) =
  some (true,openGood (view PySem.Challenge.pw_markworks_k75_refusals_apart [nat_lit 79]) Mk.loose,(Mk.Kf w.params).map fun x=>some x.2)
def Mk.sF (b:Bool) (w:World):World:={ w with params:={ w.params with followText:=fun s=>if s== "special-get-raises" then b else w.params.followText s } }
theorem Mk.sF_eq (w:World):Mk.sF (w.params.followText "special-get-raises") w=w:=by
 have:(fun s=>if s== "special-get-raises" then w.params.followText "special-get-raises" else w.params.followText s)=w.params.followText:=funext fun s=>by
  by_cases h:s = "special-get-raises"
  · rw[h];rfl
  · rw[if_neg (by simpa using h)]
 unfold Mk.sF
 rw[this]
theorem Mk.run_t (w:World) (os:OsState):Mk.RQ (Mk.sF true w) os:=by kernel_rfl
theorem Mk.run_f (w:World) (os:OsState):Mk.RQ (Mk.sF false w) os:=by kernel_rfl
theorem Mk.run_q (w:World) (os:OsState):Mk.RQ w os:=by
 have e:=Mk.sF_eq w
 cases h:w.params.followText "special-get-raises" with
 |true=>rw[h]at e;rw[←e];exact Mk.run_t w os
 |false=>rw[h]at e;rw[←e];exact Mk.run_f w os
theorem Mk.left:LeftO PySem.Challenge.pw_markworks_k75_refusals_apart Mk.qv Mk.loose Mk.Xt (fun s=>Mk.Kas.map s.heap.get?) (fun w=>(Mk.Kf w.params).map fun x=>some x.2) (nat_lit 15308):=by
 refine Hd.left_of (M:=nat_lit 7606) (T0:=Mk.T0) Mk.opens Mk.tree Mk.size qc fun w os=>?_
 have h:=Mk.run_q w os
 unfold Mk.RQ at h
 rw[←Fast.te8257016192812374322,←Fast.te16599536794577742827,←Fast.te14364793385576792824]at h
 exact h
theorem Mk.kg_in {P:Params}{h:Heap} (X:(Mk.Kf P).In h):(Mk.Kg P).In h /\ h.get? 1028=some (tabObj #[]) /\ h.get? 603=some (L2.dcObj P Mk.dl Mk.ep):=by
 have e:(Mk.Kg P).lookup 1028=none:=by kernel_rfl
 have e2:(Mk.Kg P).lookup 603=none:=by kernel_rfl
 refine⟨fun b o z=>X b o ?_,X _ _ (by unfold Mk.Kf;rw[List.lookup_cons];rfl),X _ _ (by unfold Mk.Kf;rw[List.lookup_cons];show List.lookup 603 ((603,_):: Mk.Kg P)=_;rw[List.lookup_cons];rfl)⟩
 unfold Mk.Kf
 rw[List.lookup_cons]
 have nb:(b== 1028)=false:=by
  cases q:(b== 1028)with
  |false=>rfl
  |true=>rw[beq_iff_eq.mp q,e]at z;cases z
 rw[nb]
 show List.lookup b ((603,_):: Mk.Kg P)=_
 rw[List.lookup_cons]
 have nb2:(b== 603)=false:=by
  cases q:(b== 603)with
  |false=>rfl
  |true=>rw[beq_iff_eq.mp q,e2]at z;cases z
 rw[nb2]
 exact z
def Mk.dL:DefRec:=⟨"law", L2.defArgs (Mk.top (nat_lit 79)),L2.defBody (Mk.top (nat_lit 79)),L2.defScope (Mk.top (nat_lit 79)),match Mk.top (nat_lit 79)with | .FunctionDef _ _ _ _ _ _ _ _ _ p=>p |_=>⟨0,0,0,0⟩⟩
end
open PySem PySem.W PyProof.Rows
set_option maxRecDepth 100000 in
set_option maxHeartbeats 0 in
theorem PySem.Challenge.cw_markworks_k75_refusals_apart_holds : PySem.Challenge.rw_markworks_k75_refusals_apart.Holds := by
 w_on;o_law
 refine PySem.W.holds_open (r:=PySem.Challenge.rw_markworks_k75_refusals_apart.row) (q:=Mk.qv) (loose:=Mk.loose) (Xt:=Mk.Xt) (XP:=XL Mk.qv []) (YP:=InK Mk.Kf) (d:=Mk.dL) (kwd:=[]) Mk.left
  (fun w s e=>InK.of (fun P=>qd) w s e) InK.keeps (fun s e=>xl_of s (Bool.and_eq_true_iff.mp e).1) XL.keeps qd qd qd (fun s e=>recFacts_of (Bool.and_eq_true_iff.mp e).2) (by rfl) (by assumption) qb ⟨rfl,rfl,rfl,rfl,rfl,qb⟩ ?hw ?hc
 case hw=>w_witness2
 have aux:Function.const _ True (PySem.Challenge.rw_markworks_k75_refusals_apart,Mk.Kg):=by k_fill;trivial
 refine Mk.walk (l:=PySem.Challenge.rw_markworks_k75_refusals_apart) (c:=1030) (P0:=1028) (bd:=603) (dl:=Mk.dl) (ep:=Mk.ep) (K:=Mk.Kg) rfl rfl qc qc qb rfl (fun w h Y=>⟨(Mk.kg_in Y).1,(Mk.kg_in Y).2.1,qd,Mk.codeHd_of (Mk.kg_in Y).1 qd,(Mk.kg_in Y).2.2,qd⟩) ?F
 case F=>
  intro w mg fa h KX G hmg
  refine' Mk.all_mk KX G hmg ?aC ?aVC ?aEC ?aRC ?aDC ?aBC ?aM ?aX0 ?aX1 ?aX2 ?aX3 ?aX4 ?aX5 ?aX6 ?aX7 ?aX8 ?aX9 ?aX10 ?z_VE ?hwh ?hnm ?huo ?hnx ?hoo ?hno ?hth ?hro ?hnb ?hfi ?him ?hmR ?hmK ?hmT ?hmM ?hmE ?hlc ?hld ?hlr ?hls ?hxn ?hxr ?hxi ?hxN ?hxK ?hxE ?hgl ?hdS ?hdP ?hdB ?hdA ?hdC ?hdG ?hdN ?hlA ?ho1 ?heE ?hmb ?hxM ?hxR ?huq ?hrp ?hrq ?hrf ?hrO ?hrF ?hrW ?hmN ?hgf ?hgp ?hge ?hgo ?hdI ?hti ?hoi ?hqi ?hui ?hre ?hmd ?hvo ?hsk ?huU ?heT ?heI ?heN ?heL ?hrN ?hrP ?hbI ?hbT ?hlo ?ain ?iin ?lin ?cin ?kin ?ala ?lla ?cla ?kla ?aei ?iei ?lei ?cei ?kei ?ast ?lst ?cst ?kst ?kdl ?kde ?kdr ?dtl ?vG ?vM ?vL ?vLi ?vR ?qn ?qt ?fC ?fVC ?fEC ?fRC ?fDC ?fBC ?nC_numbers ?nC_firsts ?nC_rule ?nVC_own_kind ?nVC_bits ?nEC_own_kind ?nEC_second_kind ?nEC_table ?nRC_own_kind ?nRC_numbered_marks ?nRC_needs ?nRC_bars ?nRC_let_numbers ?nDC_steps ?nDC_waiting ?nDC_wants_part ?nBC_own_kind ?nBC_entries ?nBC_deeds ?xm ?xc0 ?xc1 ?xc2 ?xc3 ?y4 ?y5 ?y6 ?y7 ?y8 ?y9 ?y10 ?y0 ?y1 ?y2 ?y3 ?xmg ?xmr ?xmf ?rL ?z_len ?z_isinstance ?z_max ?z_min ?z_range ?z_list ?z_tuple ?z_sorted ?z_sum ?z_all ?z_enumerate ?z_int ?z_bool ?z_str ?z_dict ?vBD ?vJN ?vLB ?jL ?ari ?iri ?lri ?cri ?kri ?k2l ?k2e ?k2n ?t5l ?xr0 ?xr1 ?xr2 ?xr3
  case aC|aVC|aEC|aRC|aDC|aBC|aM|aX0|aX1|aX2|aX3|aX4|aX5|aX6|aX7|aX8|aX9|aX10|z_VE=>k_is
  case hwh|hnm|huo|hnx|hoo|hno|hth|hro|hnb|hfi|him|hlc|hld|hlr|hls|hxn|hxr|hgl|hlA|ho1|heE|hmb|huq|hrp|hrq|hgf|hgp|hge|hgo|hre|hmd|hvo|hsk|huU|heT|hlo=>
   refine' ⟨_,_,?a,L2.fun_mk ?b ?c ?d⟩
   case a |b |c |d=>k_is
  case hmR|hmK|hmT|hmM|hmE|hxi|hxN|hxK|hxE|hdS|hdP|hdB|hdA|hdC|hdG|hdN|hxM|hxR|hrf|hrO|hrF|hrW|hmN|hdI|hti|hoi|hqi|hui|heI|heN|heL|hrN|hrP|hbI|hbT=>
   refine' ⟨_,_,?a,?i,⟨_,?o,?q⟩,L2.fun_mk ?b ?c ?d⟩
   case a |i |b=>k_is
   case o |q=>first |rfl |k_is
   case c |d=>k_is
  case ain|iin|lin|cin|kin|ala|lla|cla|kla|aei|iei|lei|cei|kei|ast|lst|cst|kst|kdl=>k_is
  case kde=>simp
  case kdr|dtl|vG|vM|vL|vLi|vR|qn|qt=>k_is
  case fC|fVC|fEC|fRC|fDC|fBC=>
   refine' ⟨?_,?_,?_,?_,?_,?_,?_,?_,?_,?_,?_,?_,?_,?_⟩<;>k_is
  case nC_numbers|nC_firsts|nC_rule|nVC_own_kind|nVC_bits|nEC_own_kind|nEC_second_kind|nEC_table|nRC_own_kind|nRC_numbered_marks|nRC_needs|nRC_bars|nRC_let_numbers|nDC_steps|nDC_waiting|nDC_wants_part|nBC_own_kind|nBC_entries|nBC_deeds=>k_is
  case xm|xc0|xc1|xc2|xc3=>kernel_rfl
  case y4|y5|y6|y7|y8|y9|y10=>
   exact⟨⟨qd,qd,qd,qd,qd,qd,qd,qd,qd,qd⟩,qd,qd,qd⟩
  case y0|y1|y2|y3=>
   exact⟨⟨qd,qd,qd,qd,qd,qd,qd,qd,qd,qd⟩,qd,qd,qd,qd,qd,qd⟩
  case xmg|xmr|xmf=>kernel_rfl
  case rL|z_len|z_isinstance|z_max|z_min|z_range|z_list|z_tuple|z_sorted|z_sum|z_all|z_enumerate|z_int|z_bool|z_str|z_dict|vBD|vJN|vLB|jL|ari|iri|lri|cri|kri|k2l=>k_is
  case k2e=>simp
  case k2n|t5l=>k_is
  case xr0|xr1|xr2|xr3=>kernel_rfl
