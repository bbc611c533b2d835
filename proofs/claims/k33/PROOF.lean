import PyProof.Rows.All
import Wide.All
import OpenK.AllK
import PySem.Challenge.RW_markworks_k33_whole_reckoned
set_option genSizeOf false
set_option Elab.async false
set_option linter.all false
set_option maxRecDepth 100000
set_option maxHeartbeats 4000000
abbrev Xj:=PySem.Shared
abbrev Xi:=PySem.Addr
abbrev Xg:=List PySem.Value
abbrev Xf:=List PySem.Str
def Zj {α:Sort _} {a:α}:a=a:=rfl
abbrev Z9:=@Array.getElem?_eq_some_iff
abbrev Z8:=@List.getElem?_eq_some_iff
abbrev Z7:=@List.getElem?_eq_getElem
abbrev Z6:=@Option.map_eq_some_iff
abbrev Z5:=@PySem.lookup_relabel_local
abbrev Z4:=@PySem.wpAny_isSubtype_exc
abbrev Z3:=@PySem.wpAny_Call_Name_kw
abbrev Z2:=@Nat.lt_of_lt_of_le
abbrev Z1:=@Int.natCast_nonneg
abbrev Z0:=@PySem.wpAny_truthy_bool
abbrev ZY:=@PySem.wpAny_loadPart_at
abbrev ZX:=@PySem.Heap.get?_push_of_some
abbrev ZW:=@PySem.Heap.get?_update_other
abbrev ZV:=@of_decide_eq_true
abbrev ZU:=@PySem.Heap.get?_update_self
abbrev ZT:=@List.mem_append_right
abbrev ZS:=@List.length_filter_le
abbrev ZR:=@List.mem_cons_of_mem
abbrev ZQ:=@List.mem_of_getElem?
abbrev ZP:=@List.mem_append_left
abbrev ZO:=@decide_eq_false
abbrev ZN:=@PySem.Heap.get?_push_size
abbrev ZM:=@List.filterMap_cons
abbrev ZL:=@decide_eq_true
abbrev ZK:=@PySem.wpAny_holding
abbrev ZJ:=@PySem.wpAny_standAt
abbrev ZI:=@List.mem_cons_self
abbrev ZH:=@List.length_append
abbrev ZG:=@List.mem_singleton
abbrev ZF:=@Nat.lt_irrefl
abbrev ZE:=@List.getElem?_map
abbrev ZD:=@List.take_add_one
abbrev ZC:=@Nat.ne_of_lt
abbrev ZB:=@List.take_length
abbrev ZA:=@List.length_take
abbrev Zz:=@List.lookup_cons
abbrev Zy:=@Nat.le_refl
abbrev Zx:=@PySem.wpAny_bind
abbrev Zw:=@PySem.wpAny_pure
abbrev Zv:=@PySem.wpAny_mono
abbrev Zu:=@List.map_append
abbrev Zt:=@List.append_nil
abbrev Zs:=@List.nodup_cons
abbrev Zr:=@List.mem_map
abbrev Zq:=@if_neg
abbrev Zp:=@if_pos
def qb {p:Prop} (h:p:=by decide +kernel):p:=h
def qc {p:Prop} (h:p:=by decide):p:=h
def qe {p:Prop} (h:p:=by omega):p:=h
def qd {α:Sort _} {a b:α} (h:a=b:=by kernel_rfl):a=b:=h
def AK {α:Type u}{β:Type v}{as:List α} (f:α->β):(as.map f).length=as.length:=List.length_map f
abbrev Aa:=List (PySem.Str×Nat)
abbrev VS:=PySem.Value->PySem.Shared->Prop
abbrev LO:=List (PySem.Addr×PySem.Obj)
abbrev SV:=PySem.Str->Option PySem.Value
open PySem in
abbrev FG:=W.Frag
open List (all_append all_map any_cons any_eq_true any_map append_nil cons_lt_cons_iff contains_cons filterMap_cons filter_append filter_cons find?_cons foldl_append foldl_cons getD_eq_getElem?_getD getElem?_append_right getElem?_map getElem_mem length_append length_cons length_filter_le length_nil length_singleton length_take lookup_cons map_append map_cons map_map map_nil mem_append mem_append_left mem_append_right mem_cons mem_cons_of_mem mem_cons_self mem_filter mem_map mem_of_getElem? mem_of_mem_take mem_range mem_singleton nil_append nodup_cons nodup_nil not_mem_nil of_mem_zip pairwise_cons size_toArray sum_append sum_cons take_add_one take_length take_of_length_le)
open PySem.Heap (get?_push_of_some get?_push_size get?_update_other get?_update_self lt_size)
section
namespace L2
open PySem
def sl1:1<=sizeLine:=by decide
def eV:2<=sizeLine:=by decide
def gO:3<=sizeLine:=by decide
def sl4:4<=sizeLine:=by decide
def sl6:6<=sizeLine:=by decide
def sl7:7<=sizeLine:=by decide
def sl9:9<=sizeLine:=by decide
end L2
end
section
namespace L2
open PySem PySem.Spec PyProof.Rows
abbrev Key:=Sum Int Str
noncomputable def HW:Key->Value->Bool
 | .inl k,v=>Value.isInt k v
 | .inr x,v=>Value.isStrOf x v
noncomputable def Wl (w:World):Key->Int
 | .inl k=>hashInt k
 | .inr x=>hashStr w x
def A6:∀ {k:Key}{v:Value},HW k v=true->(∃i t,k=Sum.inl i/\v=Value.int i t)\/(∃x t,k=Sum.inr x/\v=Value.str x t)
 | .inl i,v,h=>by
  obtain⟨t,e⟩:=Value.isInt_shape (k:=i) (v:=v) h;exact .inl ⟨i,t,Zj,e⟩
 | .inr x,v,h=>by
  obtain⟨t,e⟩:=Value.isStrOf_shape (x:=x) (v:=v) h;exact .inr ⟨x,t,Zj,e⟩
def O5 (i:Int) (t:Tok):HW (.inl i) (.int i t)=true:=by simp[HW,Value.isInt]
def O6 (x:Str) (t:Tok):HW (.inr x) (.str x t)=true:=by simp[HW,Value.isStrOf]
def UM (a b:Int):decide ((Sum.inl a:Key)=Sum.inl b)=(a==b):=by
 by_cases e:a=b
 ·subst e;simp
 ·have h:¬ (Sum.inl a:Key)=Sum.inl b:=λq=>e (Sum.inl.inj q);rw[ZO h];exact(beq_eq_false_iff_ne.mpr e).symm
def UN (a b:Str):decide ((Sum.inr a:Key)=Sum.inr b)=decide (a=b):=by
 by_cases e:a=b
 ·subst e;simp
 ·have h:¬ (Sum.inr a:Key)=Sum.inr b:=λq=>e (Sum.inr.inj q);rw[ZO h,ZO e]
def UO (a:Int) (b:Str):decide ((Sum.inl a:Key)=Sum.inr b)=false:=ZO (λq=>nomatch q)
def UP (a:Str) (b:Int):decide ((Sum.inr a:Key)=Sum.inl b)=false:=ZO (λq=>nomatch q)
noncomputable def AY (prog:Program) (w:World):PySem.KeyKind prog w Key where
 is:=HW
 hash:=Wl w
 inj:=λv a b ha hb=>by
  rcases A6 ha with⟨i,t,rfl,rfl⟩ |⟨x,t,rfl,rfl⟩
  ·rcases A6 hb with⟨j,u,rfl,e⟩ |⟨y,u,rfl,e⟩
   ·injection e with e1 _;rw[e1]
   ·exact nomatch e
  ·rcases A6 hb with⟨j,u,rfl,e⟩ |⟨y,u,rfl,e⟩
   ·exact nomatch e
   ·injection e with e1 _;rw[e1]
 byValue:=λk v h=>by
  rcases A6 h with⟨i,t,rfl,rfl⟩ |⟨x,t,rfl,rfl⟩ <;> rfl
 pyHash:=λhv h=>by
  rcases A6 hv with⟨i,t,rfl,rfl⟩ |⟨x,t,rfl,rfl⟩
  ·exact wpAny_pyHash_int h
  ·exact wpAny_pyHash_str h
 eqBool:=λhu hv h=>by
  rcases A6 hu with⟨i,t,rfl,rfl⟩ |⟨x,t,rfl,rfl⟩
  ·rcases A6 hv with⟨j,u,rfl,rfl⟩ |⟨y,u,rfl,rfl⟩
   ·rw[UM]at h;exact wpAny_eqBool_int h
   ·rw[UO]at h;exact SeqAt.EqAt.int_str i t y u _ _ _ _ h
  ·rcases A6 hv with⟨j,u,rfl,rfl⟩ |⟨y,u,rfl,rfl⟩
   ·rw[UP]at h;exact SeqAt.EqAt.str_int x t j u _ _ _ _ h
   ·rw[UN]at h;exact wpAny_eqBool_str h
 «strs»:=λk x t v h=>by
  rcases A6 h with⟨i,u,rfl,e⟩ |⟨y,u,rfl,e⟩
  ·exact nomatch e
  ·injection e with e1 _
   subst e1;cases v <;> rfl
def Kw (prog:Program) (w:World) (i:Int) (t:Tok):(AY prog w).is (.inl i) (.int i t)=true:=O5 i t
def Du (prog:Program) (w:World) (x:Str) (t:Tok):(AY prog w).is (.inr x) (.str x t)=true:=O6 x t
inductive V where
 |aO |bl (b:Bool) |int (i:Int) |str (x:Str) |iN (b:Array UInt8) |jN (b:UInt64) |ref (a:Xi) |ty (n:String)
 deriving DecidableEq
abbrev _root_.Xh:=List V
def RelV:V->Value->Prop
 | .aO,u=>u=Value.none
 | .bl b,u=>u=Value.bool b
 | .int i,u=>∃t,u=Value.int i t
 | .str x,u=>∃t,u=Value.str x t
 | .iN b,u=>∃t,u=Value.bytes b t
 | .jN b,u=>∃t,u=Value.float b t
 | .ref a,u=>u=Value.ref a
 | .ty n,u=>u=Value.type n
abbrev Vals:Xh->Xg->Prop:=Paired RelV
def Vals.length {xs:Xh}{us:Xg} (r:Vals xs us):xs.length=us.length:=Paired.length r
def Vals.get:∀ {xs:Xh}{us:Xg}{i:Nat}{x:V},Vals xs us->xs[i]?=some x->∃u,us[i]?=some u/\RelV x u
 |_,_,_,_,.nil,e=>by simp at e
 |_,_,0,_,.cons r _,e=>by simp at e;subst e;exact⟨_,Zj,r⟩
 |_,_,i+1,x,.cons _ t,e=>by
  obtain⟨u,h1,h2⟩:=Vals.get (i:=i) (x:=x) t (by simpa using e);exact⟨u,by simpa using h1,h2⟩
def Vals.set {x:V}{u:Value} (r:RelV x u):∀ {xs:Xh}{us:Xg} (i:Nat),Vals xs us->Vals (xs.set i x) (us.set i u)
 |_,_,_,.nil=>.nil
 |_,_,0,.cons _ t=>.cons r t
 |_,_,i+1,.cons q t=>.cons q (Vals.set r i t)
def Vals.append:∀ {xs ys:Xh}{us ws:Xg},Vals xs us->Vals ys ws->Vals (xs++ys) (us++ws)
 |_,_,_,_,.nil,s=>s
 |_,_,_,_,.cons r t,s=>.cons r (Vals.append t s)
def eh:Option V->Option Value->Prop
 |some v,some u=>RelV v u
 |none,none=>True
 |_,_=>False
def KV {κ:Type}:List (κ×V)->List (κ×Value)->Prop:=Paired λ(p:κ×V) (q:κ×Value)=>p.1=q.1/\RelV p.2 q.2
noncomputable def kV:Key->V
 | .inl i=>.int i
 | .inr x=>.str x
abbrev LK:=List (Key×V)
inductive HO where
 |lst (xs:Xh)
 |tup (xs:Xh)
 |dK (kvs:LK) |dT (kvs:List (List Key×V))
 |set (S:Int->Bool) (n:Nat)
 |ins (C dx:Xi) (fs:List (Str×V))
 |own (x:Xi)
 |xd (fs:List (Str×V))
 |met (f x:Xi)
 |rng (lo hi:Int)
 |bG (o:Obj) (u:HO)
 |fj (ps:Array Value)
 |ext (φ:Heap->Prop)
set_option genInjectivity false
abbrev Hp:=Xi->Option HO
noncomputable def upd (H:Hp) (a:Xi) (o:HO):Hp:=λb=>if b=a then some o else H b
def AB {H:Hp}{a:Xi}{o:HO}:upd H a o a=some o:=by unfold upd;rw[Zp rfl]
def AF {H:Hp}{a b:Xi}{o:HO} (h:b≠a):upd H a o b=H b:=by unfold upd;rw[Zq h]
def SM {H:Hp}{a:Xi}{o u:HO}:upd (upd H a o) a u=upd H a u:=by
 funext b;unfold upd;split <;> rfl
def FL {H:Hp}{a b:Xi}{o u:HO} (h:H a=some o) (h':H b=some u) (d:o≠u):a≠b:=by
 intro e;subst e;rw[h]at h';exact d (Option.some.inj h')
def AI {H:Hp}{a b:Xi}{o:HO} (h:H a=some o) (h':H b=none):a≠b:=by
 intro e;subst e;rw[h]at h';cases h'
section
variable (P:Program) (w:World)
def aP (H:Hp) (h:Heap) (a:Xi):HO->Prop
 | .lst xs=>xs.length<=sizeLine/\∃(its:Xg) (n:Nat),Vals xs its/\h.get? a=some { cls:=.type "list", data:=.seq its.toArray n }
 | .tup xs=>xs.length<=sizeLine/\∃its:Xg,Vals xs its/\IsTup h a its.toArray
 | .dK kvs=>kvs.length<=sizeLine/\(a==sysModules)=false/\∃vs,KV kvs vs/\h.DictOf (AY P w) a vs
 | .dT kvs=>kvs.length<=sizeLine/\(a==sysModules)=false/\∃xs:List (List Key×Xi×Value),
   Paired (λ(p:List Key×V) (q:List Key×Xi×Value)=>p.1=q.1/\H q.2.1=some (.tup (p.1.map kV))/\RelV p.2 q.2.2) kvs xs /\
   ∃o es ep,h.get? a=some o/\o.ExactDict/\o.data=.dict es ep/\es.toList=xs.map (entryOfKey (tupleKind (AY P w)))/\(xs.map (·.1)).Nodup
 | .set S n=>h.SetOf (intKind P w) a S n
 | .ins C dx fs=>H dx=some (.own a)/\fs.length<=1000/\dx≠a/\h.get? a=some (W.instObj C dx) /\
   ∃mA,h.Ns1 dx mA/\(∀f,eh (fs.lookup f) (mA f))/\PySem.Within mA (fs.map (·.1))
 | .own _=>∃o,h.get? a=some o
 | .xd fs=>∃mA,h.Ns1 a mA/\∀f,eh (fs.lookup f) (mA f)
 | .rng lo hi=>∃t u v,h.get? a=some { cls:=.type "range", data:=.fields #[.int lo t,.int hi u,.int 1 v] }
 | .bG o u=>h.get? a=some o/\aP H h a u
 | .fj ps=>h.get? a=some { cls:=.none,data:=.fields ps }
 | .met f x=>h.get? a=some (W.methodObj (.ref f) (.ref x))
 | .ext φ=>φ h/\(∃o,h.get? a=some o)/\∀h1 h2:Heap,φ h1->(∀o,h1.get? a=some o->h2.get? a=some o)->φ h2
def dv (H:Hp) (h:Heap):Prop:=∀a o,H a=some o->aP P w H h a o
end
section
variable {P:Program}{w:World}{H H':Hp}{h h':Heap}{a:Xi}{o:HO}
def aP.lt (x:aP P w H h a o):a<h.objs.size:=by
 cases o with
 |lst xs=>obtain⟨_,_,_,_,e⟩:=x;exact lt_size e
 |tup xs=>obtain⟨_,_,_,p⟩:=x;exact p.lt
 |dK kvs=>obtain⟨_,_,_,_,o,_,_,e,_⟩:=x;exact lt_size e
 |dT kvs=>obtain⟨_,_,_,_,o,_,_,e,_⟩:=x;exact lt_size e
 |set S n=>obtain⟨o,_,_,_,e,_⟩:=x;exact lt_size e
 |ins C dx fs=>obtain⟨_,_,_,e,_⟩:=x;exact lt_size e
 |own y=>obtain⟨_,e⟩:=x;exact lt_size e
 |xd fs=>obtain⟨_,⟨_,_,_,e,_⟩,_⟩:=x;exact lt_size e
 |rng lo hi=>obtain⟨_,_,_,e⟩:=x;exact lt_size e
 |bG ob u=>obtain⟨e,_⟩:=x;exact lt_size e
 |fj ps=>exact lt_size (show h.get? a=some _ from x)
 |met f y=>exact lt_size (show h.get? a=some _ from x)
 |ext φ=>obtain⟨_,⟨_,e⟩,_⟩:=x;exact lt_size e
def Paired.mapP {α β:Type}{F G:α->β->Prop}:∀ {l₁:List α}{l₂:List β},Paired F l₁ l₂->(∀a b,F a b->G a b)->Paired G l₁ l₂
 |_,_,.nil,_=>.nil
 |_,_,.cons r t,f=>.cons (f _ _ r) (Paired.mapP t f)
def aP.eB (x:aP P w H h a o) (k:∀b u,(b=a\/H b=some (.own a))->h.get? b=some u->h'.get? b=some u)
  (ho:∀b,H b=some (.own a)->H' b=some (.own a)) (ht:∀b xs,H b=some (.tup xs)->H' b=some (.tup xs)):aP P w H' h' a o:=by
 induction o with
 |lst xs=>obtain⟨z,its,n,r,e⟩:=x;exact⟨z,its,n,r,k _ _ (.inl Zj) e⟩
 |tup xs=>obtain⟨z,its,r,ob,e,c⟩:=x;exact⟨z,its,r,ob,k _ _ (.inl Zj) e,c⟩
 |dK kvs=>obtain⟨z,y,vs,r,ob,es,ep,e,c⟩:=x;exact⟨z,y,vs,r,ob,es,ep,k _ _ (.inl Zj) e,c⟩
 |dT kvs =>
  obtain⟨z,y,xs,r,ob,es,ep,e,c⟩:=x;exact⟨z,y,xs,Paired.mapP r λp q z=>⟨z.1,ht _ _ z.2.1,z.2.2⟩,ob,es,ep,k _ _ (.inl Zj) e,c⟩
 |set S n=>obtain⟨ob,es,ep,t,e,c⟩:=x;exact⟨ob,es,ep,t,k _ _ (.inl Zj) e,c⟩
 |ins C dx fs =>
  obtain⟨d,z,ne,e,mA,⟨od,es,ep,e2,c⟩,r⟩:=x;exact⟨ho _ d,z,ne,k _ _ (.inl Zj) e,mA,⟨od,es,ep,k _ _ (.inr d) e2,c⟩,r⟩
 |own y=>obtain⟨ob,e⟩:=x;exact⟨ob,k _ _ (.inl Zj) e⟩
 |xd fs=>obtain⟨mA,⟨od,es,ep,e,c⟩,r⟩:=x;exact⟨mA,⟨od,es,ep,k _ _ (.inl Zj) e,c⟩,r⟩
 |rng lo hi=>obtain⟨t,u,v,e⟩:=x;exact⟨t,u,v,k _ _ (.inl Zj) e⟩
 |bG ob u ih=>obtain⟨e,q⟩:=x;exact⟨k _ _ (.inl Zj) e,ih q⟩
 |fj ps =>
  have e:h.get? a=some { cls:=.none,data:=.fields ps }:=x;show h'.get? a=some { cls:=.none,data:=.fields ps };exact k a _ (.inl Zj) e
 |met f y =>
  have e:h.get? a=some (W.methodObj (.ref f) (.ref y)):=x;show h'.get? a=some (W.methodObj (.ref f) (.ref y));exact k a _ (.inl Zj) e
 |ext φ=>obtain⟨p,⟨o,e⟩,st⟩:=x;exact⟨st _ _ p λo q=>k _ _ (.inl Zj) q,⟨o,k _ _ (.inl Zj) e⟩,st⟩
def dv.lt (x:dv P w H h) (e:H a=some o):a<h.objs.size:=(x a o e).lt
def dv.fresh (x:dv P w H h) (e:h.objs.size<=a):H a=none:=by
 cases q:H a with
 |none=>rfl
 |some u=>exact absurd (Z2 (x.lt q) e) (ZF _)
def dv.kept (x:dv P w H h) (k:∀b u,h.get? b=some u->h'.get? b=some u):dv P w H h':=λa o e =>
 (x a o e).eB (λb u _ q=>k b u q) (λ_ q=>q) λ_ _ q=>q
def dv.laid (x:dv P w H h) (k:∀b u,h.get? b=some u->h'.get? b=some u) (hp:h.objs.size<=a) (new:aP P w (upd H a o) h' a o):dv P w (upd H a o) h':=λb u e=>by
 have hn:=x.fresh hp;by_cases hb:b=a
 ·subst hb;rw[AB]at e;cases e;exact new
 ·rw[AF hb]at e;exact(x b u e).eB (λc v _ q=>k c v q) (λc q=>by rw[AF (AI q hn)];exact q) λc xs q=>by rw[AF (AI q hn)];exact q
end
def Rd (H:Hp) (a:Xi) (u:HO):Prop:=H a=some u\/∃o,H a=some (.bG o u)
def Rd.ok {P:Program}{w:World}{H:Hp}{h:Heap}{a:Xi}{u:HO} (r:Rd H a u) (x:dv P w H h):aP P w H h a u:=by
 rcases r with r |⟨o,r⟩
 ·exact x a u r
 ·obtain⟨_,q⟩:=x a _ r;exact q
def Mut:Option HO->Prop
 |some (.lst _)=>True
 |some (.dK _)=>True
 |some (.dT _)=>True
 |some (.set _ _)=>True
 |some (.ins _ _ _)=>True
 |some (.ext _)=>True
 |_=>False
section
variable {P:Program}{w:World}{H:Hp}{h h':Heap}{x e:Xi}{o':HO}
def dv.write (ok:dv P w H h) (mu:Mut (H x)) (he:e=x\/H e=some (.own x)) (k:∀b u,b≠e->h.get? b=some u->h'.get? b=some u) (heo:∃u,h'.get? e=some u)
  (new:aP P w (upd H x o') h' x o'):dv P w (upd H x o') h':=λb u q=>by
 have nown:∀c y,H c=some (.own y)->c≠x:=λc y r z=>by subst z;rw[r]at mu;exact mu
 have ntup:∀c xs,H c=some (.tup xs)->c≠x:=λc xs r z=>by subst z;rw[r]at mu;exact mu
 by_cases hb:b=x
 ·subst hb;rw[AB]at q;cases q;exact new
 ·rw[AF hb]at q;by_cases jK:b=e
  ·have q':H b=some (.own x):=by
    rcases he with z |z
    ·exact absurd (jK.trans z) hb
    ·rw[jK];exact z
   rw[q]at q';cases q';obtain⟨v,hv⟩:=heo;exact⟨v,by rw[jK];exact hv⟩
  ·refine(ok b u q).eB (λc v hc r=>k c v ?_ r) (λc r=>by rw[AF (nown c b r)];exact r) λc xs r=>by rw[AF (ntup c xs r)];exact r
   rcases hc with rfl |hc
   ·exact jK
   ·rintro rfl;rcases he with z |z
    ·exact nown c b hc z
    ·rw[hc]at z;cases z;exact hb rfl
end
structure Un (fs ex:List Xi) (H H':Hp) (h h':Heap):Prop where
 keep:∀b o,h.get? b=some o->H b=none->b∉ fs->b∉ ex->h'.get? b=some o
 slot:∀b o,h.get? b=some o->H b=none->b∈fs->b∉ ex->∃sl,h'.get? b=some { o with slots:=sl }
 free:∀b o,h.get? b=some o->H b=none->b∉ ex->H' b=none
 there:∀b o,h.get? b=some o->b∉ ex->∃o',h'.get? b=some o'
 fh:∀b xs,H b=some (.tup xs)->H' b=some (.tup xs)
 fb:∀b o u,H b=some (.bG o u)->H' b=some (.bG o u)
 eY:∀b ps,H b=some (.fj ps)->∃more,H' b=some (.fj (ps++more))
section
variable {fs fs' ex ex':List Xi}{H H1 H2:Hp}{h h1 h2 h':Heap}{a x e:Xi}{o:HO}
def Un.any (u:Un fs ex H H1 h h1) {b:Xi}{ob:Obj} (q:h.get? b=some ob) (n:H b=none) (hx:b∉ ex):∃sl,h1.get? b=some { ob with slots:=sl }:=by
 by_cases hb:b∈fs
 ·exact u.slot b ob q n hb hx
 ·exact⟨ob.slots,u.keep b ob q n hb hx⟩
def Un.kept (k:∀b u,h.get? b=some u->h'.get? b=some u):Un fs ex H H h h' :=
 ⟨λb ob q _ _ _=>k b ob q,λb ob q _ _ _=>⟨ob.slots,k b ob q⟩,λ_ _ _ n _=>n,λb ob q _=>⟨ob,k b ob q⟩,λ_ _ q=>q,λ_ _ _ q=>q,λ_ ps q=>⟨#[],by rw[q];simp⟩⟩
def Un.refl:Un fs ex H H h h:=Un.kept λ_ _ q=>q
def Un.laid (k:∀b u,h.get? b=some u->h'.get? b=some u) (hp:h.objs.size<=a) (hn:H a=none):Un fs ex H (upd H a o) h h' where
 keep:=λb u q _ _ _=>k b u q
 slot:=λb u q _ _ _=>⟨u.slots,k b u q⟩
 free:=λb u q n _=>by rw[AF (ZC (Z2 (lt_size q) hp))];exact n
 there:=λb u q _=>⟨u,k b u q⟩
 fh:=λb xs q=>by rw[AF (AI q hn)];exact q
 fb:=λb u xs q=>by rw[AF (AI q hn)];exact q
 eY:=λb ps q=>⟨#[],by rw[AF (AI q hn),q];simp⟩
def Un.write (mu:Mut (H x)) (he:e=x\/H e=some (.own x)) (k:∀b u,b≠e->h.get? b=some u->h'.get? b=some u) (heo:∃u,h'.get? e=some u):Un fs ex H (upd H x o) h h':=by
 have hx:∀b,H b=none->b≠x:=λb n z=>by subst z;rw[n]at mu;exact mu
 have hb:∀b,H b=none->b≠e:=λb n z=>by
  subst z;rcases he with r |r
  ·exact hx b n r
  ·rw[n]at r;cases r
 have hm:∀b u,H b=some u->¬ Mut (some u)->b≠x:=λb u q nm z=>by subst z;rw[q]at mu;exact nm mu
 refine⟨λb u q n _ _=>k b u (hb b n) q,λb u q n _ _=>⟨u.slots,k b u (hb b n) q⟩,λb u q n _=>by rw[AF (hx b n)];exact n,λb u q _=>?_,
  λb xs q=>by rw[AF (hm b _ q λz=>z)];exact q,λb u xs q=>by rw[AF (hm b _ q λz=>z)];exact q,λb ps q=>⟨#[],by rw[AF (hm b _ q λz=>z),q];simp⟩⟩
 by_cases jK:b=e
 ·subst jK;exact heo
 ·exact⟨u,k b u jK q⟩
end
noncomputable def trk (h:Heap) (H:Hp):List Xi:=(List.range h.objs.size).filter λa=>(H a).isSome
noncomputable def HX (h:Heap) (H:Hp):Heap:=W.hideAll h (trk h H)
def O7 (h:Heap) (H:Hp):(HX h H).objs.size=h.objs.size:=W.hideAll_size _ _
def QJ {h:Heap}{H:Hp}{b:Xi}{o:Obj} (e:h.get? b=some o) (n:H b=none):(HX h H).get? b=some o :=
 W.hideAll_get _ e λhm=>by
  have q:(H b).isSome=true:=(mem_filter.mp hm).2;rw[n]at q;simp at q
def SN {h:Heap}{H:Hp}{b:Xi}{o:Obj} (e:(HX h H).get? b=some o):h.get? b=some o/\H b=none:=by
 have e':h.get? b=some o:=W.of_hideAll (trk h H) e;refine⟨e',?_⟩;cases q:H b with
 |none=>rfl
 |some x =>
  have hm:b∈trk h H:=mem_filter.mpr ⟨mem_range.mpr (lt_size e'),by simp[q]⟩;have z:(HX h H).get? b=none:=W.hideAll_none (trk h H) hm;rw[z]at e;cases e
structure Mod (K:FG) (mg:SV) (base:Heap):Prop where
 kin:K.In base
 glob:base.Ns mainGlobals mg
 blt:∃mb,base.Ns builtinsNs mb/\∀x:Str,x≠ "__name__" -> mb x=bootBuiltins x
 nolimit:base.NoLimit
structure Cx where
 prog:Program
 w:World
 K:FG
 mg:Str->Option Value
 base:Heap
 A:Around
 N:Xf
 aY:Xj
 fc:Hp
 env:Env
 outer:List Env
 stack:List Env
 ex:List Xi
 fn:Str->Bool
 calm:Bool
 pn:LO
 xe:Value->Xj->Prop
noncomputable def du (l:List Env):List Xi:=l.filterMap (·.frame)
noncomputable abbrev Cx.fs (X:Cx):List Xi:=du X.outer
def Vis (sc:Scope) (x:Str):Prop:=sc.names.lookup x=some .local\/sc.names.lookup x=some .cell\/sc.names.lookup x=some .free
def Loc (sc:Scope) (x:Str):Prop:=sc.names.lookup x=some .local\/sc.names.lookup x=some .cell
def Wm (env:Env) (h:Heap) (m:SV) (x:Str) (u:Value):Prop :=
 (env.kindOf x=some .local/\m x=some u)\/((env.kindOf x=some .cell\/env.kindOf x=some .free)/\∃c,env.cells.lookup x=some c/\h.IsCell c (some u))
structure Cx.Ok (X:Cx):Prop where
 mod:Mod X.K X.mg X.base
 kind:X.env.scope.kind=.function
 glob:X.env.globals=mainGlobals
 blt:X.env.builtins=builtinsNs
 above:X.aY.heap.objs.size<=X.env.locals
 inj:∀x y c,X.env.cells.lookup x=some c->X.env.cells.lookup y=some c->x=y
 has:∀x,(X.env.kindOf x=some .cell\/X.env.kindOf x=some .free)->∃c,X.env.cells.lookup x=some c
 ji:∀x c,X.fn x=true->X.env.cells.lookup x=some c->X.aY.heap.objs.size<=c
 hd:X.calm=true->X.A.handled=none
 frames:X.A.frames=some X.stack
 gD:X.stack=X.outer\/(X.stack=X.env::X.outer/\X.env.frame=some X.env.locals)
 exf:∀b∈X.ex,b≠X.env.locals/\∀x c,X.env.cells.lookup x=some c->c≠b
 bs:∀b o,X.base.get? b=some o->X.aY.heap.get? b=some o/\X.fc b=none
 gT:X.base.objs.size<=X.aY.heap.objs.size
 gu:∀b o,X.base.get? b=some o->b∉ X.ex
 gc:∀b∈X.ex,b∉ X.fs
 dr:X.aY.heap.FunFrames X.base X.outer
 iz:∀b∈X.fs,X.fc b=none
structure Inv (X:Cx) (aa:LO) (σ:List (Option V)) (H:Hp) (s:Xj):Prop where
 ok:X.Ok
 os:s.os=X.aY.os
 bare:AllBare s.gens
 base:Un X.fs X.ex X.fc H X.aY.heap s.heap
 loc:∃m,s.heap.Ns X.env.locals m/\∀(i:Nat) (x:Str) (v:V),X.N[i]?=some x->σ[i]?=some (some v)->Vis X.env.scope x->∃u,RelV v u/\Wm X.env s.heap m x u
 cell:∀x c,X.env.cells.lookup x=some c->∃v,s.heap.IsCell c v
 free:H X.env.locals=none
 cG:∀x c,X.env.cells.lookup x=some c->H c=none
 pin:∀p∈X.pn++aa,s.heap.get? p.1=some p.2/\H p.1=none/\p.1≠X.env.locals/\p.1∉ X.fs/\∀v,p.2.data≠ .cell v
 aD:dv X.prog X.w H s.heap
 len:σ.length=X.N.length
section
variable {X:Cx}{aa:LO}{σ:List (Option V)}{H H':Hp}{s:Xj}{h':Heap}
def Cx.Ok.nofr (ok:X.Ok) {b:Xi}{o:Obj} (e:X.base.get? b=some o):b∉ X.fs:=λhb=>by
 have:=(ok.dr.mem hb).1;rw[e]at this;cases this
def Inv.bs (I:Inv X aa σ H s):∀b o,X.base.get? b=some o->s.heap.get? b=some o/\H b=none:=λb o e =>
 ⟨I.base.keep b o (I.ok.bs b o e).1 (I.ok.bs b o e).2 (I.ok.nofr e) (I.ok.gu b o e),I.base.free b o (I.ok.bs b o e).1 (I.ok.bs b o e).2 (I.ok.gu b o e)⟩
def Inv.bk (I:Inv X aa σ H s):∀b o,X.base.get? b=some o->s.heap.get? b=some o:=λb o e=>(I.bs b o e).1
def Inv.mod (I:Inv X aa σ H s):Mod X.K X.mg X.base:=I.ok.mod
def Inv.cV (I:Inv X aa σ H s):X.K.In s.heap:=I.ok.mod.kin.keeps I.bk
def Inv.fr (I:Inv X aa σ H s):∃m,Fr X.base X.env.locals s.heap m :=
 let ⟨m,hn,_⟩:=I.loc
 ⟨m,hn,I.bk,Nat.le_trans I.ok.gT I.ok.above⟩
def Inv.lt (I:Inv X aa σ H s):X.env.locals<s.heap.objs.size:=let ⟨_,hn,_⟩:=I.loc;hn.lt
def Inv.sz (I:Inv X aa σ H s):X.aY.heap.objs.size<=s.heap.objs.size:=Nat.le_trans I.ok.above (Nat.le_of_lt I.lt)
def Inv.nofs (I:Inv X aa σ H s) {a:Xi} (h:s.heap.objs.size<=a):a∉ X.fs:=λhb=>by
 obtain⟨_,o,ho,_⟩:=I.ok.dr.mem hb;exact absurd (Z2 (lt_size ho) (Nat.le_trans I.sz h)) (ZF _)
def Inv.jO (I:Inv X aa σ H s):∀x c,X.env.cells.lookup x=some c->c≠X.env.locals:=λx c e z=>by
 obtain⟨v,o,ho,hd⟩:=I.cell x c e;obtain⟨m,⟨o',es,ep,gY,hd',_⟩,_⟩:=I.loc;rw[z,gY]at ho;cases ho;rw[hd']at hd;cases hd
def Inv.dr (I:Inv X aa σ H s):s.heap.FunFrames X.base X.outer:=by
 have all:∀(l:List Env),(∀b∈du l,b∈X.fs)->X.aY.heap.FunFrames X.base l->s.heap.FunFrames X.base l:=by
  intro l;induction l with
  |nil=>intro _ _;trivial
  |cons env r ih =>
   intro hs hl;obtain⟨hk,⟨L,o,hf,hn,ho,hd⟩,hr⟩:=hl;have hL:L∈X.fs:=hs L (by unfold du;rw[ZM,hf];exact ZI);obtain⟨sl,e⟩:=I.base.slot L o ho (I.ok.iz L hL) hL λz=>I.ok.gc L z hL;exact⟨hk,⟨L,_,hf,hn,e,hd⟩,ih (λb hb=>hs b (by unfold du;rw[ZM,hf];exact ZR _ hb)) hr⟩
 exact all X.outer (λ_ hb=>hb) I.ok.dr
def Inv.stack (I:Inv X aa σ H s):s.heap.FunFrames X.base X.stack:=by
 rcases I.ok.gD with e |⟨e,hf⟩
 ·rw[e];exact I.dr
 ·rw[e];obtain⟨m,hn,_⟩:=I.loc;refine .cons (by rw[I.ok.kind];decide) hf hn ?_ I.dr;exact Heap.get?_none_of_le (Nat.le_trans I.ok.gT I.ok.above)
def Inv.d9 (I:Inv X aa σ H s):∀b∈du X.stack,b∈X.env.locals::X.fs:=λb hb=>by
 rcases I.ok.gD with e |⟨e,hf⟩
 ·rw[e]at hb;exact ZR _ hb
 ·rw[e]at hb;unfold du at hb;rw[ZM,hf]at hb;exact hb
def Inv.stkFree (I:Inv X aa σ H s):∀b∈du X.stack,H b=none:=λb hb=>by
 rcases mem_cons.mp (I.d9 b hb)with e |hb
 ·rw[e];exact I.free
 ·obtain⟨_,o,ho,_⟩:=I.ok.dr.mem hb;exact I.base.free b o ho (I.ok.iz b hb) λz=>I.ok.gc b z hb
def Inv.step {g':Array GenState}{t':Nat}{d':Drawn}{ch:List Xi} (I:Inv X aa σ H s)
  (jm:∀b∈ch,(b∈X.ex\/X.aY.heap.objs.size<=b)/\b≠X.env.locals/\(∀x c,X.env.cells.lookup x=some c->c≠b)/\∀p∈X.pn++aa,p.1≠b)
  (keep:∀b o,b≠X.env.locals->b∉ X.fs->b∉ ch->s.heap.get? b=some o->H b=none->h'.get? b=some o)
  (slot:∀b o,b≠X.env.locals->b∈X.fs->b∉ ch->s.heap.get? b=some o->H b=none->∃sl,h'.get? b=some { o with slots:=sl }) (free:∀b o,b∉ ch->s.heap.get? b=some o->H b=none->H' b=none)
  (there:∀b o,b∉ ch->s.heap.get? b=some o->∃o',h'.get? b=some o')
  (fh:∀b xs,H b=some (.tup xs)->H' b=some (.tup xs)) (fb:∀b o u,H b=some (.bG o u)->H' b=some (.bG o u)) (eY:∀b ps,H b=some (.fj ps)->∃more,H' b=some (.fj (ps++more)))
  (ns:∀m,s.heap.Ns X.env.locals m->h'.Ns X.env.locals m) (aD:dv X.prog X.w H' h') (hg:AllBare g') :
  Inv X aa σ H' { s with heap:=h',gens:=g',drawn:=d',toks:=t' }:=by
 have neL:∀b o,X.aY.heap.get? b=some o->b≠X.env.locals:=λb o e=>ZC (Z2 (lt_size e) I.ok.above)
 have neC:∀b o,X.aY.heap.get? b=some o->b∉ X.ex->b∉ ch:=λb o e hx hb=>by
  rcases (jm b hb).1 with z |z
  ·exact hx z
  ·exact absurd (Z2 (lt_size e) z) (ZF _)
 have cellK:∀x c,X.env.cells.lookup x=some c->∀v,s.heap.IsCell c v->h'.IsCell c v:=λx c e v ⟨o,ho,hd⟩=>by
  have nch:c∉ ch:=λz=>(jm c z).2.2.1 x c e rfl;by_cases hc:c∈X.fs
  ·obtain⟨sl,q⟩:=slot c o (I.jO x c e) hc nch ho (I.cG x c e);exact⟨_,q,hd⟩
  ·exact⟨o,keep c o (I.jO x c e) hc nch ho (I.cG x c e),hd⟩
 refine⟨I.ok,I.os,hg,⟨λb o e n hb hx=>?_,λb o e n hb hx=>?_,λb o e n hx=>?_,λb o e hx=>?_,λb xs e=>fh b xs (I.base.fh b xs e),λb o xs e=>fb b o xs (I.base.fb b o xs e),λb ps e=>?_⟩,?_,λx c e=>?_,?_,λx c e=>?_,λp hp=>?_,aD,I.len⟩
 ·exact keep b o (neL b o e) hb (neC b o e hx) (I.base.keep b o e n hb hx) (I.base.free b o e n hx)
 ·obtain⟨sl,e1⟩:=I.base.slot b o e n hb hx;obtain⟨sl',e2⟩:=slot b _ (neL b o e) hb (neC b o e hx) e1 (I.base.free b o e n hx);exact⟨sl',e2⟩
 ·obtain⟨o',e1⟩:=I.base.there b o e hx;exact free b o' (neC b o e hx) e1 (I.base.free b o e n hx)
 ·obtain⟨o',e1⟩:=I.base.there b o e hx;exact there b o' (neC b o e hx) e1
 ·obtain⟨m1,e1⟩:=I.base.eY b ps e;obtain⟨m2,e2⟩:=eY b _ e1;exact⟨m1++m2,by rw[e2,Array.append_assoc]⟩
 ·obtain⟨m,hn,hl⟩:=I.loc;refine⟨m,ns m hn,λi x v e1 e2 e3=>?_⟩;obtain⟨u,r,l⟩:=hl i x v e1 e2 e3;refine⟨u,r,?_⟩;rcases l with l |⟨k,c,e,z⟩
  ·exact .inl l
  ·exact .inr ⟨k,c,e,cellK x c e _ z⟩
 ·obtain⟨v,z⟩:=I.cell x c e;exact⟨v,cellK x c e v z⟩
 ·obtain⟨m,⟨o,_,_,ho,_⟩,_⟩:=I.loc;exact free _ o (λz=>(jm _ z).2.1 Zj) ho I.free
 ·obtain⟨v,o,ho,hd⟩:=I.cell x c e;exact free c o (λz=>(jm c z).2.2.1 x c e Zj) ho (I.cG x c e)
 ·obtain⟨e,n,ne,nf,d⟩:=I.pin p hp;have nch:p.1∉ ch:=λz=>(jm p.1 z).2.2.2 p hp rfl;exact⟨keep p.1 p.2 ne nf nch e n,free p.1 p.2 nch e n,ne,nf,d⟩
def Inv.un {t':Nat} (I:Inv X aa σ H s) (u:Un X.fs [] H H' s.heap h') (aD:dv X.prog X.w H' h'):Inv X aa σ H' { s with heap:=h',toks:=t' }:=by
 obtain⟨m,⟨o,es,ep,ho,r⟩,_⟩:=id I.loc;obtain⟨sl,hL⟩:=u.any ho I.free (by simp)
 exact I.step (g':=s.gens) (d':=s.drawn) (ch:=[]) (λ_ z=>nomatch z) (λb o _ hb _ e n=>u.keep b o e n hb (by simp)) (λb o _ hb _ e n=>u.slot b o e n hb (by simp)) (λb o _ e n=>u.free b o e n (by simp)) (λb o _ e=>u.there b o e (by simp)) u.fh u.fb u.eY (λm' hm=>by
  obtain⟨o',jo,ep',gY,r'⟩:=hm;rw[ho]at gY;cases gY
  exact⟨_,jo,ep',hL,r'⟩) aD I.bare
def Inv.call {g':Array GenState}{t':Nat}{d':Drawn}{ch:List Xi} (I:Inv X aa σ H s) (u:Un (du X.stack) ch H H' s.heap h') (aD:dv X.prog X.w H' h') (hg:AllBare g')
  (jm:∀b∈ch,(b∈X.ex\/X.aY.heap.objs.size<=b)/\b≠X.env.locals/\(∀x c,X.env.cells.lookup x=some c->c≠b)/\∀p∈X.pn++aa,p.1≠b) :
  Inv X aa σ H' { s with heap:=h',gens:=g',drawn:=d',toks:=t' }:=by
 obtain⟨m,⟨o,es,ep,ho,r⟩,_⟩:=id I.loc;obtain⟨sl,hL⟩:=u.any ho I.free λz=>(jm _ z).2.1 rfl
 exact I.step (ch:=ch) jm (λb o hL hb hc e n=>u.keep b o e n (λz=>(mem_cons.mp (I.d9 b z)).elim hL hb) hc) (λb o _ _ hc e n=>u.any e n hc) (λb o hc e n=>u.free b o e n hc) (λb o hc e=>u.there b o e hc) u.fh u.fb u.eY (λm' hm=>by
  obtain⟨o',jo,ep',gY,r'⟩:=hm;rw[ho]at gY;cases gY
  exact⟨_,jo,ep',hL,r'⟩) aD hg
def Inv.turned {t':Nat}{it:Xi} (I:Inv X aa σ H s) (k:∀b o,b≠it->s.heap.get? b=some o->h'.get? b=some o) (hn:H it=none) (hL:it≠X.env.locals)
  (h1:it∈X.ex\/X.aY.heap.objs.size<=it) (h2:∀x c,X.env.cells.lookup x=some c->c≠it) (h3:∀p∈X.pn++aa,p.1≠it):Inv X aa σ H { s with heap:=h',toks:=t' }:=by
 have nit:∀b u,H b=some u->b≠it:=λb u e z=>by rw[z,hn]at e;cases e
 refine I.step (g':=s.gens) (d':=s.drawn) (ch:=[it]) (λb hb=>?_) (λb o _ _ hc e _=>k b o (λz=>hc (by simp[z])) e) (λb o _ _ hc e _=>⟨o.slots,k b o (λz=>hc (by simp[z])) e⟩) (λ_ _ _ _ n=>n)
  (λb o hc e=>⟨o,k b o (λz=>hc (by simp[z])) e⟩) (λ_ _ e=>e) (λ_ _ _ e=>e) (λb ps e=>⟨#[],by rw[e];simp⟩) (λm hm=>?_) (λb u e=>?_) I.bare
 ·have e:b=it:=by simpa using hb
  subst e;exact⟨h1,hL,h2,h3⟩
 ·obtain⟨o,es,ep,ho,r⟩:=hm;exact⟨o,es,ep,k _ o (Ne.symm hL) ho,r⟩
 ·refine(I.aD b u e).eB (λc v hc q=>k c v ?_ q) (λ_ q=>q) λ_ _ q=>q;rcases hc with z |z
  ·rw[z];exact nit b u e
  ·exact nit c _ z
def Inv.tok (I:Inv X aa σ H s) (t:Nat):Inv X aa σ H { s with toks:=t }:=I.un (h':=s.heap) (t':=t) Un.refl I.aD
def Inv.kept {t':Nat} (I:Inv X aa σ H s) (k:∀b u,s.heap.get? b=some u->h'.get? b=some u):Inv X aa σ H { s with heap:=h',toks:=t' }:=I.un (Un.kept k) (I.aD.kept k)
def Inv.laid {a:Xi}{o:HO}{t':Nat} (I:Inv X aa σ H s) (k:∀b u,s.heap.get? b=some u->h'.get? b=some u) (hp:s.heap.objs.size<=a) (new:aP X.prog X.w (upd H a o) h' a o) :
  Inv X aa σ (upd H a o) { s with heap:=h',toks:=t' }:=I.un (Un.laid k hp (I.aD.fresh hp)) (I.aD.laid k hp new)
def Inv.write {x e:Xi}{o:HO}{t':Nat} (I:Inv X aa σ H s) (mu:Mut (H x)) (he:e=x\/H e=some (.own x)) (k:∀b u,b≠e->s.heap.get? b=some u->h'.get? b=some u) (heo:∃u,h'.get? e=some u)
  (new:aP X.prog X.w (upd H x o) h' x o):Inv X aa σ (upd H x o) { s with heap:=h',toks:=t' }:=I.un (Un.write mu he k heo) (I.aD.write mu he k heo new)
def Inv.weak {aJ:List (Option V)} (I:Inv X aa σ H s) (hl:aJ.length=σ.length) (w:∀(i:Nat) v,aJ[i]?=some (some v)->σ[i]?=some (some v)):Inv X aa aJ H s :=
 ⟨I.ok,I.os,I.bare,I.base,let ⟨m,hn,jH⟩:=I.loc;⟨m,hn,λi x v e1 e2 e3=>jH i x v e1 (w i v e2) e3⟩,I.cell,I.free,I.cG,I.pin,I.aD,hl.trans I.len⟩
def Inv.cL {pins':LO} (I:Inv X aa σ H s) (h:∀p∈pins',s.heap.get? p.1=some p.2/\H p.1=none/\p.1≠X.env.locals/\p.1∉ X.fs/\∀v,p.2.data≠ .cell v):Inv X pins' σ H s :=
 ⟨I.ok,I.os,I.bare,I.base,I.loc,I.cell,I.free,I.cG,λp hp=>(mem_append.mp hp).elim (λz=>I.pin p (ZP _ z)) (h p),I.aD,I.len⟩
def Kx {N:Xf} (hN:N.Nodup) {i j:Nat}{x:Str} (a:N[i]?=some x) (b:N[j]?=some x):i=j:=by
 obtain⟨h1,e1⟩:=Z8.mp a;obtain⟨h2,e2⟩:=Z8.mp b;exact(List.getElem_inj hN).mp (e1.trans e2.symm)
def JL {M:Model}{A:Around}{E:VS}{i:Nat}{x:Str}{v:V}{u:Value}{Q:Unit->Xj->Prop} (I:Inv X aa σ H s) (hN:X.N.Nodup) (hi:X.N[i]?=some x) (hx:Loc X.env.scope x) (r:RelV v u)
  (h:∀s',Inv X aa (σ.set i (some v)) H s'->(∃a,Heap.SameBut a s.heap s'.heap/\(a=X.env.locals\/X.env.cells.lookup x=some a))->Q () s') (hf:X.fn x=true\/X.env.scope.names.lookup x=some .local:=by first |exact .inl rfl |exact .inr rfl |assumption):wpAny M A (storeName X.env x u) Q E s:=by
 obtain⟨m,hn,hl⟩:=id I.loc;have bp:(X.env.scope.kind == .class||(X.env.scope.kind == .module&&X.env.locals != X.env.globals))=false:=by rw[I.ok.kind];rfl
 have hiσ:i<σ.length:=by rw[I.len];exact(Z8.mp hi).1
 have jO:=I.jO
 have tracked:∀ {a:Xi}{h':Heap},(∃o,s.heap.get? a=some o/\H a=none)->Heap.SameBut a s.heap h'->dv X.prog X.w H h':=λ{a h'} ha hs b ob e=>by
  obtain⟨_,_,cf⟩:=ha;refine(I.aD b ob e).eB (λc w' hc q=>(hs.2 c ?_).trans q) (λ_ q=>q) λ_ _ q=>q;rintro rfl;rcases hc with rfl |hc
  ·rw[cf]at e;cases e
  ·rw[cf]at hc;cases hc
 rcases hx with hk |hk
 ·refine wpAny_storeName_local hk hn (λh' hn' hs=>?_) bp;obtain⟨oL,_,_,iR,_⟩:=id hn;refine h _ ⟨I.ok,I.os,I.bare,⟨λb o e n hb hx=>?_,λb o e n hb hx=>?_,I.base.free,λb o e hx=>?_,I.base.fh,I.base.fb,I.base.eY⟩,⟨_,hn',λj y v' e1 e2 e3=>?_⟩,λy c e=>?_,I.free,I.cG,λp hp=>?_,tracked ⟨oL,iR,I.free⟩ hs,by simpa using I.len⟩ ⟨_,hs,.inl Zj⟩
  ·exact(hs.2 b (ZC (Z2 (lt_size e) I.ok.above))).trans (I.base.keep b o e n hb hx)
  ·obtain⟨sl,e1⟩:=I.base.slot b o e n hb hx;exact⟨sl,(hs.2 b (ZC (Z2 (lt_size e) I.ok.above))).trans e1⟩
  ·obtain⟨o',e1⟩:=I.base.there b o e hx;exact⟨o',(hs.2 b (ZC (Z2 (lt_size e) I.ok.above))).trans e1⟩
  ·by_cases hj:j=i
   ·subst hj;rw[hi]at e1;cases e1;rw[List.getElem?_set_self hiσ]at e2;cases e2;exact⟨u,r,.inl ⟨hk,by simp⟩⟩
   ·rw[List.getElem?_set_ne (Ne.symm hj)]at e2;obtain⟨u',r',q⟩:=hl j y v' e1 e2 e3;refine⟨u',r',?_⟩;rcases q with⟨k,e⟩ |⟨k,c,e,z⟩
    ·refine .inl ⟨k,?_⟩;have:y≠x:=λe=>hj (Kx hN e1 (e ▸ hi));simp[this,e]
    ·exact .inr ⟨k,c,e,z.sameBut hs (jO y c e)⟩
  ·obtain⟨w',z⟩:=I.cell y c e;exact⟨w',z.sameBut hs (jO y c e)⟩
  ·obtain⟨e,n,ne,nf,d⟩:=I.pin p hp;exact⟨(hs.2 p.1 ne).trans e,n,ne,nf,d⟩
 ·have hfn:X.fn x=true:=by
   rcases hf with z |z
   ·exact z
   ·rw[z]at hk;cases hk
  obtain⟨c,hc⟩:=I.ok.has x (.inl hk);obtain⟨w',z⟩:=I.cell x c hc;refine wpAny_storeName_cell I.ok.kind hk hc z (λh' iM hs=>?_);obtain⟨oc,hoc,hocd⟩:=id z;refine h { s with heap:=h' } ⟨I.ok,I.os,I.bare,⟨λb o e n hb hx=>?_,λb o e n hb hx=>?_,I.base.free,λb o e hx=>?_,I.base.fh,I.base.fb,I.base.eY⟩,⟨m,hn.sameBut hs (Ne.symm (jO x c hc)),λj y v' e1 e2 e3=>?_⟩,λy c' e=>?_,I.free,I.cG,λp hp=>?_,tracked ⟨oc,hoc,I.cG x c hc⟩ hs,by simpa using I.len⟩ ⟨c,hs,.inr hc⟩
  ·exact(hs.2 b (ZC (Z2 (lt_size e) (I.ok.ji x c hfn hc)))).trans (I.base.keep b o e n hb hx)
  ·obtain⟨sl,e1⟩:=I.base.slot b o e n hb hx;exact⟨sl,(hs.2 b (ZC (Z2 (lt_size e) (I.ok.ji x c hfn hc)))).trans e1⟩
  ·obtain⟨o',e1⟩:=I.base.there b o e hx;exact⟨o',(hs.2 b (ZC (Z2 (lt_size e) (I.ok.ji x c hfn hc)))).trans e1⟩
  ·by_cases hj:j=i
   ·subst hj;rw[hi]at e1;cases e1;rw[List.getElem?_set_self hiσ]at e2;cases e2;exact⟨u,r,.inr ⟨.inl hk,c,hc,iM⟩⟩
   ·rw[List.getElem?_set_ne (Ne.symm hj)]at e2;obtain⟨u',r',q⟩:=hl j y v' e1 e2 e3;refine⟨u',r',?_⟩;rcases q with q |⟨k,c',e,z'⟩
    ·exact .inl q
    ·refine .inr ⟨k,c',e,z'.sameBut hs ?_⟩;rintro rfl;exact hj (Kx hN e1 (I.ok.inj _ _ _ e hc ▸ hi))
  ·by_cases hcc:c'=c
   ·subst hcc;exact⟨_,iM⟩
   ·obtain⟨w2,z2⟩:=I.cell y c' e;exact⟨w2,z2.sameBut hs hcc⟩
  ·obtain⟨e,n,ne,nf,d⟩:=I.pin p hp;refine⟨(hs.2 p.1 ?_).trans e,n,ne,nf,d⟩;intro q;rw[q,hoc]at e;have q':oc=p.2:=Option.some.inj e;exact d w' (by rw[←q'];exact hocd)
def Cb {M:Model}{A:Around}{E:VS}{i:Nat}{x:Str}{v:V}{u:Value}{Q:Unit->Xj->Prop} (I:Inv X aa σ H s) (hN:X.N.Nodup) (hi:X.N[i]?=some x) (hx:Loc X.env.scope x) (r:RelV v u)
  (h:∀s',Inv X aa (σ.set i (some v)) H s'->Q () s') (hf:X.fn x=true\/X.env.scope.names.lookup x=some .local:=by first |exact .inl rfl |exact .inr rfl |assumption):wpAny M A (storeName X.env x u) Q E s :=
 JL I hN hi hx r (λs' I' _=>h s' I') hf
def Inv.call' {s':Xj}{ch:List Xi} (I:Inv X aa σ H s) (ho:s'.os=s.os) (u:Un (du X.stack) ch H H' s.heap s'.heap) (aD:dv X.prog X.w H' s'.heap) (hg:AllBare s'.gens)
  (jm:∀b∈ch,(b∈X.ex\/X.aY.heap.objs.size<=b)/\b≠X.env.locals/\(∀x c,X.env.cells.lookup x=some c->c≠b)/\∀p∈X.pn++aa,p.1≠b):Inv X aa σ H' s':=by
 obtain⟨h',g',d',t',o'⟩:=s';have e:o'=s.os:=ho;subst e;exact I.call (g':=g') (t':=t') (d':=d') u aD hg jm
end
abbrev XK:=Value->Option Xi->Hp->Prop
abbrev St:=List (Option V)
abbrev VK:=V->Hp->Prop
abbrev TE:=St->Hp->VK->Prop
abbrev TT:=St->Hp->(Bool->Hp->Prop)->Prop
abbrev TA:=St->Hp->(Xh->Hp->Prop)->Prop
structure DQ where
 nx:St->Hp->Prop
 rt:VK
 bk:St->Hp->Prop:=λ_ _=>False
 ct:St->Hp->Prop:=λ_ _=>False
abbrev TS:=DQ->St->Hp->Prop
inductive EP (X:Cx) (aa:LO) (σ:St) (Q:VK) (u:Value) (s':Xj):Prop where
 |mk (v:V) (H':Hp) (i:Inv X aa σ H' s') (r:RelV v u) (q:Q v H'):EP X aa σ Q u s'
def TP (X:Cx) (aa:LO) (σ:St) (Q:Bool->Hp->Prop) (b:Bool) (s':Xj):Prop:=∃H',Inv X aa σ H' s'/\Q b H'
inductive AP (X:Cx) (aa:LO) (σ:St) (Q:Xh->Hp->Prop) (us:Xg) (s':Xj):Prop where
 |mk (vs:Xh) (H':Hp) (i:Inv X aa σ H' s') (r:Vals vs us) (q:Q vs H'):AP X aa σ Q us s'
def SP (X:Cx) (aa:LO) (D:DQ) (f:Flow) (s':Xj):Prop :=
 match f with
 | .next=>∃aJ H',Inv X aa aJ H' s'/\D.nx aJ H'
 | .brk=>∃aJ H',Inv X aa aJ H' s'/\D.bk aJ H'
 | .cont=>∃aJ H',Inv X aa aJ H' s'/\D.ct aJ H'
 | .ret u=>∃v aJ H',Inv X aa aJ H' s'/\RelV v u/\D.rt v H'
def PE (X:Cx) (e:Expr) (t:TE):Prop :=
 ∀(aa:LO) (s:Xj) (σ:St) (H:Hp) (Q:VK),Inv X aa σ H s->t σ H Q->wpAny (model X.prog X.w) X.A (eval e X.env) (EP X aa σ Q) X.xe s
def PT (X:Cx) (e:Expr) (t:TT):Prop :=
 ∀(aa:LO) (s:Xj) (σ:St) (H:Hp) (Q:Bool->Hp->Prop),Inv X aa σ H s->t σ H Q->wpAny (model X.prog X.w) X.A (isTrue e X.env (eval e X.env)) (TP X aa σ Q) X.xe s
def PW (X:Cx) (e:Expr) (t:TT):Prop :=
 ∀(whole:Sem Value) (aa:LO) (s:Xj) (σ:St) (H:Hp) (Q:Bool->Hp->Prop),Inv X aa σ H s->t σ H Q->wpAny (model X.prog X.w) X.A (isTrue e X.env whole) (TP X aa σ Q) X.xe s
def PW.pt {X:Cx}{e:Expr}{t:TT} (h:PW X e t):PT X e t:=h _
def PA (X:Cx) (es:List Expr) (t:TA):Prop :=
 ∀(pos:Pos) (aa:LO) (s:Xj) (σ:St) (H:Hp) (Q:Xh->Hp->Prop),Inv X aa σ H s->t σ H Q->wpAny (model X.prog X.w) X.A (spliced (backTo pos (starEach es X.env))) (AP X aa σ Q) X.xe s
def PS (X:Cx) (st:Stmt) (t:TS):Prop :=
 ∀(aa:LO) (s:Xj) (σ:St) (H:Hp) (D:DQ),Inv X aa σ H s->t D σ H->wpAny (model X.prog X.w) X.A (exec st X.env) (SP X aa D) X.xe s
def eN (X:Cx) (st:List Stmt) (t:TS):Prop :=
 ∀(aa:LO) (s:Xj) (σ:St) (H:Hp) (D:DQ),Inv X aa σ H s->t D σ H->wpAny (model X.prog X.w) X.A (execs st X.env) (SP X aa D) X.xe s
def aG {α:Type}{t:Sem α}{Q Q':α->Xj->Prop}{M:Model}{A:Around}{E:VS}{s:Xj} (h:wpAny M A t Q E s) (hQ:∀a s,Q a s->Q' a s):wpAny M A t Q' E s:=Zv h hQ λ_ _ x=>x
end L2
variable {X:L2.Cx}{H:L2.Hp}{H':L2.Hp}{s:PySem.Shared}{pos:PySem.Pos}{σ:L2.St}{P:PySem.Program}{w:PySem.World}{A:PySem.Around}{aa:LO}{x:PySem.Str}{a:PySem.Addr}{K:FG}{C:PySem.Addr}{E:VS}{h:PySem.Heap}{us:List PySem.Value}{u:PySem.Value}{xs:List L2.V}{e:PySem.Expr}{te:L2.TE}{base:PySem.Heap}{N:List PySem.Str}{mg:SV}
namespace L2
open PySem PySem.Spec PyProof.Rows
section
inductive ExV (o:Option (Option V)) (k:V->Prop):Prop where
 |mk (v:V) (h:o=some (some v)) (q:k v):ExV o k
inductive ExB (x:V) (k:Bool->Prop):Prop where
 |mk (c:Bool) (h:x=.bl c) (q:k c):ExB x k
inductive ExI (x y:V) (k:Int->Int->Prop):Prop where
 |mk (i j:Int) (h:x=.int i) (h':y=.int j) (q:k i j):ExI x y k
def DR (i:Nat):TE:=λσ H Q=>ExV σ[i]? λv=>Q v H
def tC (v:V):TE:=λ_ H Q=>Q v H
def QK {i:Nat} (hN:X.N[i]?=some x) (hv:Vis X.env.scope x) (hd:(x==("__debug__" : Str))=false:=by decide) (fm:(x==("__classdict__" : Str))=false:=by decide):PE X (.Name x pos) (DR i):=by
 intro aa s σ H Q I h;obtain⟨v,e,h⟩:=h;obtain⟨m,hn,hl⟩:=I.loc;obtain⟨u,r,l⟩:=hl i x v hN e hv;have fin:EP X aa σ Q u s:=⟨v,H,I,r,h⟩;rcases l with⟨hk,hm⟩ |⟨hk,c,hc,bo⟩
 ·exact wpAny_Name (wpAny_loadName_local I.ok.kind hk hn hm fin) hd
 ·rcases hk with hk |hk
  ·exact wpAny_Name (wpAny_loadName_cell I.ok.kind hk hc bo fin) hd
  ·exact wpAny_Name (wpAny_loadName_free I.ok.kind hk hc bo fin fm) hd
def AD {i j pos}:PE X (.Constant (.int i) j pos) (tC (.int i)):=λ_ _ _ H _ I h=>wpAny_Constant_int ⟨.int i,H,I.tok _,⟨_,rfl⟩,h⟩
def DB {b j pos}:PE X (.Constant (.bool b) j pos) (tC (.bl b)):=λ_ _ _ H _ I h=>Constant_bool ⟨.bl b,H,I,rfl,h⟩
def J5 {j pos}:PE X (.Constant .none j pos) (tC .aO):=λ_ _ _ H _ I h=>Constant_none ⟨.aO,H,I,rfl,h⟩
def AJ {x j pos}:PE X (.Constant (.str x) j pos) (tC (.str x)):=λ_ _ _ H _ I h=>Calls.Constant_str ⟨.str x,H,I.tok _,⟨_,rfl⟩,h⟩
def Gl (X:Cx) (x:Str):Prop:=X.env.kindOf x=some .globalImplicit
def Bu {Q:VS} (I:Inv X aa σ H s) (hg:Gl X x) (hm:X.mg x=some u) (h:Q u s)
  (hd:(x==("__debug__" : Str))=false:=by decide):wpAny (model X.prog X.w) X.A (eval (.Name x pos) X.env) Q E s :=
 Calls.Name_function_global I.ok.kind hg (Calls.loadGlobal_global (by rw[I.ok.glob];exact I.mod.glob.keeps I.bk) hm h) hd
def En {Q:VS} (I:Inv X aa σ H s) (hg:Gl X x) (hm:X.mg x=none) (hv:bootBuiltins x=some u) (h:Q u s)
  (hn:x≠ "__name__" := by decide) (hd:(x==("__debug__" : Str))=false:=by decide):wpAny (model X.prog X.w) X.A (eval (.Name x pos) X.env) Q E s:=by
 obtain⟨mb,h1,h2⟩:=I.mod.blt;exact Calls.Name_function_global I.ok.kind hg (Calls.loadGlobal_builtin (by rw[I.ok.glob];exact I.mod.glob.keeps I.bk) hm (by rw[I.ok.blt];exact h1.keeps I.bk) ((h2 x hn).trans hv) h) hd
def BL {v:V} (hg:Gl X x) (hm:X.mg x=some u) (r:RelV v u) (hd:(x==("__debug__" : Str))=false:=by decide):PE X (.Name x pos) (tC v) :=
 λ_ _ _ H _ I h=>Bu I hg hm ⟨v,H,I,r,h⟩ hd
def J6 {v:V} (hg:Gl X x) (hm:X.mg x=none) (hv:bootBuiltins x=some u) (r:RelV v u) (hn:x≠ "__name__" := by decide) (hd:(x==("__debug__" : Str))=false:=by decide):PE X (.Name x pos) (tC v) :=
 λ_ _ _ H _ I h=>En I hg hm hv ⟨v,H,I,r,h⟩ hn hd
variable {a b:Expr}{ta tb:TE}
def PC (X:Cx) (op:CmpOp) (a b:Expr) (t:TE):Prop :=
 ∀(aa:LO) (s:Xj) (σ:St) (H:Hp) (Q:VK),Inv X aa σ H s->t σ H Q ->
  wpAny (model X.prog X.w) X.A (eval a X.env) (λv aF=>wpAny (model X.prog X.w) X.A (eval b X.env) (λu s₂=>wpAny (model X.prog X.w) X.A (compareOp op v u) (EP X aa σ Q) X.xe s₂) X.xe aF) X.xe s
def Ky (b:Expr) {op:CmpOp} (h:op≠ .In) (h2:op≠ .NotIn):behindInMarks op b=false:=by
 have e1:(op==CmpOp.In)=false:=by cases op <;> first |rfl |exact absurd rfl h
 have e2:(op==CmpOp.NotIn)=false:=by cases op <;> first |rfl |exact absurd rfl h2
 cases b <;> simp[behindInMarks,e1,e2]
def Wn (ta:TE):TE:=λσ H Q=>ta σ H λx H1=>Q (.bl (decide (x=.aO))) H1
def RelV.none_iff {x:V}{v:Value} (r:RelV x v):(v==Value.none)=decide (x=.aO):=by
 cases x with
 |aO=>cases r;rfl
 |bl _=>cases r;rfl
 |int _=>obtain⟨t,rfl⟩:=r;rfl
 |str _=>obtain⟨t,rfl⟩:=r;rfl
 |iN _=>obtain⟨t,rfl⟩:=r;rfl
 |jN _=>obtain⟨t,rfl⟩:=r;rfl
 |ref _=>cases r;rfl
 |ty _=>cases r;rfl
def Mf {j pos'} (ha:PE X a ta):PC X .Is a (.Constant .none j pos') (Wn ta):=by
 intro aa s σ H Q I h;refine aG (ha aa s σ H _ I h) λv s1 ⟨x,H1,I1,r1,q1⟩=>?_;exact Constant_none (is_none_gen ⟨.bl _,H1,I1,by rw[r1.none_iff];rfl,q1⟩)
def tB (t:TE):TT:=λσ H Q=>t σ H λx H1=>ExB x λc=>Q c H1
def QL {op:CmpOp}{t:TE} (h:PC X op a b t) (h1:behindInMarks op b=false:=by first |exact Ky _ qc qc |rfl):PE X (.Compare a [op] [b] pos) t:=λaa s σ H Q I hw=>wpAny_Compare1 (h aa s σ H Q I hw) h1
def GQ {op:CmpOp}{t:TE} (h:PC X op a b t) (h1:behindInMarks op b=false:=by first |exact Ky _ qc qc |rfl):PT X (.Compare a [op] [b] pos) (tB t):=by
 intro aa s σ H Q I hw;refine wpAny_isTrue_Compare1 (aG (h aa s σ H _ I hw) λv s1 h1=>aG h1 λu s2 h2=>aG h2 λc s3 ⟨x,H1,I1,r1,q1⟩=>?_) h1;obtain⟨d,rfl,q⟩:=q1;cases r1;exact Z0 ⟨H1,I1,q⟩
def Aw {t:TE} (h:PE X e t) (he:∀whole,isTrue e X.env whole=(do let v ←whole;standAt e.pos;holding [v] (truthy v)):=by intro _;rfl):PT X e (tB t):=by
 intro aa s σ H Q I hw;refine isTrue_plain (aG (h aa s σ H _ I hw) λv s1 ⟨x,H1,I1,r1,q1⟩=>?_) (he _);obtain⟨d,rfl,q⟩:=q1;cases r1;exact Z0 ⟨H1,I1,q⟩
variable {tA tB':TT}{rest:List Expr}
def Vi (t u:TT):TT:=λσ H Q=>t σ H λc H1=>if c=true then u σ H1 Q else Q false H1
def tOr (t u:TT):TT:=λσ H Q=>t σ H λc H1=>if c=true then Q true H1 else u σ H1 Q
def Wo (t:TT):TT:=λσ H Q=>t σ H λc H1=>Q (!c) H1
def Bh (ha:PT X a tA):PW X (.BoolOp .And [a] pos) tA:=by
 intro wh aa s σ H Q I h;refine isTrue_and (aG (ha aa s σ H Q I h) λc s1 e=>?_);cases c with
 |true=>exact isTrue_and_nil e
 |false=>exact e
def Cc (ha:PT X a tA):PW X (.BoolOp .Or [a] pos) tA:=by
 intro wh aa s σ H Q I h;refine isTrue_or (aG (ha aa s σ H Q I h) λc s1 e=>?_);cases c with
 |false=>exact isTrue_or_nil e
 |true=>exact e
def CP (ha:PT X a tA) (hb:PW X (.BoolOp .And (b::rest) pos) tB'):PW X (.BoolOp .And (a::b::rest) pos) (Vi tA tB'):=by
 intro wh aa s σ H Q I h;refine isTrue_and (aG (ha aa s σ H _ I h) λc s1 ⟨H1,I1,q1⟩=>?_);cases c with
 |true=>exact hb wh aa s1 σ H1 Q I1 q1
 |false=>exact⟨H1,I1,q1⟩
def Dv (ha:PT X a tA) (hb:PW X (.BoolOp .Or (b::rest) pos) tB'):PW X (.BoolOp .Or (a::b::rest) pos) (tOr tA tB'):=by
 intro wh aa s σ H Q I h;refine isTrue_or (aG (ha aa s σ H _ I h) λc s1 ⟨H1,I1,q1⟩=>?_);cases c with
 |true=>exact⟨H1,I1,q1⟩
 |false=>exact hb wh aa s1 σ H1 Q I1 q1
def BM (ha:PT X a tA):PT X (.UnaryOp .Not a pos) (Wo tA):=by
 intro aa s σ H Q I h;exact isTrue_not (ha aa s σ H (λc H1=>Q (!c) H1) I h)
def Vj (ta tb:TE):TE:=λσ H Q=>ta σ H λx H1=>ExB x λc=>if c=true then tb σ H1 Q else Q (.bl false) H1
def Wp (ta tb:TE):TE:=λσ H Q=>ta σ H λx H1=>ExB x λc=>if c=true then Q (.bl true) H1 else tb σ H1 Q
def Vk (ta:TE):TE:=λσ H Q=>ta σ H λx H1=>ExB x λc=>Q (.bl (!c)) H1
def C0 {op}{t:TE} (h:PE X a t):PE X (.BoolOp op [a] pos) t:=λaa s σ H Q I hw=>BoolOp_one (h aa s σ H Q I hw)
def C1 (ha:PE X a ta) (hb:PE X (.BoolOp .And (b::rest) pos) tb):PE X (.BoolOp .And (a::b::rest) pos) (Vj ta tb):=by
 intro aa s σ H Q I h;refine BoolOp_and (aG (ha aa s σ H _ I h) λv s1 ⟨x,H1,I1,r1,q1⟩=>?_);obtain⟨c,rfl,q1⟩:=q1;cases r1;refine Z0 ?_;cases c with
 |true=>exact hb aa s1 σ H1 Q I1 q1
 |false=>exact⟨.bl false,H1,I1,rfl,q1⟩
def Ts (ha:PE X a ta) (hb:PE X (.BoolOp .Or (b::rest) pos) tb):PE X (.BoolOp .Or (a::b::rest) pos) (Wp ta tb):=by
 intro aa s σ H Q I h;refine BoolOp_or (aG (ha aa s σ H _ I h) λv s1 ⟨x,H1,I1,r1,q1⟩=>?_);obtain⟨c,rfl,q1⟩:=q1;cases r1;refine Z0 ?_;cases c with
 |false=>exact hb aa s1 σ H1 Q I1 q1
 |true=>exact⟨.bl true,H1,I1,rfl,q1⟩
def QM (ha:PE X a ta):PE X (.UnaryOp .Not a pos) (Vk ta):=by
 intro aa s σ H Q I h;refine UnaryOp_ (aG (ha aa s σ H _ I h) λv s1 ⟨x,H1,I1,r1,q1⟩=>?_);obtain⟨c,rfl,q1⟩:=q1;cases r1;exact not_of (Z0 ⟨.bl (!c),H1,I1,Zj,q1⟩)
def tIf (t:TT) (ta tb:TE):TE:=λσ H Q=>t σ H λc H1=>if c=true then ta σ H1 Q else tb σ H1 Q
def Bf {c:Expr} (hc:PT X c tA) (ha:PE X a ta) (hb:PE X b tb):PE X (.IfExp c a b pos) (tIf tA ta tb):=by
 intro aa s σ H Q I h;refine wpAny_IfExp (aG (hc aa s σ H _ I h) λd s1 ⟨H1,I1,q1⟩=>?_);cases d with
 |true=>exact ha aa s1 σ H1 Q I1 q1
 |false=>exact hb aa s1 σ H1 Q I1 q1
end
def aI (K:FG) (H:Hp) (a:Xi) (xs:Xh):Prop :=
 Rd H a (.lst xs) \/
  ∃(o:Obj) (its:Array Value) (n:Nat),K.lookup a=some o/\o.cls=.type "list" /\ o.dict=none/\o.data=.seq its n/\its.size<=sizeLine/\Vals xs its.toList
def aX (K:FG) (H:Hp) (a:Xi) (xs:Xh):Prop :=
 Rd H a (.tup xs) \/
  ∃(o:Obj) (its:Array Value) (n:Nat),K.lookup a=some o/\o.cls=.type "tuple" /\ o.data=.seq its n/\its.size<=sizeLine/\Vals xs its.toList
noncomputable def Wq:Value->Option V
 | .none=>some .aO
 | .bool b=>some (.bl b)
 | .int i _=>some (.int i)
 | .str x _=>some (.str x)
 | .bytes b _=>some (.iN b)
 | .float b _=>some (.jN b)
 | .ref a=>some (.ref a)
 | .type n=>some (.ty n)
 |_=>none
def RelV.abs {x:V} (r:RelV x u):Wq u=some x:=by
 cases x with
 |aO=>cases r;rfl
 |bl _=>cases r;rfl
 |int _=>obtain⟨t,rfl⟩:=r;rfl
 |str _=>obtain⟨t,rfl⟩:=r;rfl
 |iN _=>obtain⟨t,rfl⟩:=r;rfl
 |jN _=>obtain⟨t,rfl⟩:=r;rfl
 |ref _=>cases r;rfl
 |ty _=>cases r;rfl
def RelV.inj {x y:V}{u:Value} (r:RelV x u) (q:RelV y u):x=y:=Option.some.inj (r.abs.symm.trans q.abs)
def Vals.inj:∀ {xs ys:Xh}{us:Xg},Vals xs us->Vals ys us->xs=ys
 |_,_,_,.nil,.nil=>rfl
 |_,_,_,.cons r t,.cons r' t'=>by rw[r.inj r',Vals.inj t t']
section
variable {ys:Xh}
def aI.of (h:H a=some (.lst xs)):aI K H a xs:=.inl (.inl h)
def aX.of (h:H a=some (.tup xs)):aX K H a xs:=.inl (.inl h)
def Inv.list (I:Inv X aa σ H s) (h:aI X.K H a xs):∃its:Xg,Vals xs its/\PlainL s.heap a its.toArray/\xs.length<=sizeLine:=by
 rcases h with h |⟨o,its,n,hk,hc,hd,hs,hz,r⟩
 ·obtain⟨z,its,n,r,e⟩:=h.ok I.aD;exact⟨its,r,⟨_,n,e,Zj,Zj,Zj⟩,z⟩
 ·refine⟨its.toList,r,⟨o,n,I.cV a o hk,hc,hd,by simpa using hs⟩,?_⟩;have e:=r.length;simp only[Array.length_toList]at e;omega
def Inv.tuple (I:Inv X aa σ H s) (h:aX X.K H a xs):∃its:Xg,Vals xs its/\IsTup s.heap a its.toArray/\xs.length<=sizeLine:=by
 rcases h with h |⟨o,its,n,hk,hc,hs,hz,r⟩
 ·obtain⟨z,its,r,p⟩:=h.ok I.aD;exact⟨its,r,p,z⟩
 ·refine⟨its.toList,r,⟨o,I.cV a o hk,hc,n,by simpa using hs⟩,?_⟩;have e:=r.length;simp only[Array.length_toList]at e;omega
def Inv.list_inj (I:Inv X aa σ H s) (h:aI X.K H a xs) (h':aI X.K H a ys):xs=ys:=by
 obtain⟨its,r,⟨o,n,e,_,_,d⟩,_⟩:=I.list h;obtain⟨its',r',⟨o',n',e',_,_,d'⟩,_⟩:=I.list h';rw[e]at e';cases e';rw[d]at d';injection d' with d1 _
 have:its=its':=by simpa using congrArg Array.toList d1
 subst this;exact r.inj r'
def Inv.tuple_inj (I:Inv X aa σ H s) (h:aX X.K H a xs) (h':aX X.K H a ys):xs=ys:=by
 obtain⟨its,r,⟨o,e,_,n,d⟩,_⟩:=I.tuple h;obtain⟨its',r',⟨o',e',_,n',d'⟩,_⟩:=I.tuple h';rw[e]at e';cases e';rw[d]at d';injection d' with d1 _
 have:its=its':=by simpa using congrArg Array.toList d1
 subst this;exact r.inj r'
end
noncomputable abbrev Cx.gp (X:Cx) (E:VS):Cx:={ X with xe:=E }
noncomputable abbrev Cx.gi (X:Cx):Cx:=X.gp λ_ _=>False
def Cx.Ok.gp {X:Cx} (ok:X.Ok) (E:VS):(X.gp E).Ok :=
 ⟨ok.mod,ok.kind,ok.glob,ok.blt,ok.above,ok.inj,ok.has,ok.ji,ok.hd,ok.frames,ok.gD,ok.exf,ok.bs,ok.gT,ok.gu,ok.gc,ok.dr,ok.iz⟩
def Cx.Ok.d8 (ok:(X.gp E).Ok):X.Ok :=
 ⟨ok.mod,ok.kind,ok.glob,ok.blt,ok.above,ok.inj,ok.has,ok.ji,ok.hd,ok.frames,ok.gD,ok.exf,ok.bs,ok.gT,ok.gu,ok.gc,ok.dr,ok.iz⟩
section
def Inv.gp (I:Inv X aa σ H s) (E:VS):Inv (X.gp E) aa σ H s:=⟨I.ok.gp E,I.os,I.bare,I.base,I.loc,I.cell,I.free,I.cG,I.pin,I.aD,I.len⟩
def Inv.d8 (I:Inv (X.gp E) aa σ H s):Inv X aa σ H s:=⟨I.ok.d8,I.os,I.bare,I.base,I.loc,I.cell,I.free,I.cG,I.pin,I.aD,I.len⟩
def SP.d8 {D:DQ}{f:Flow}{s':Xj} (h:SP (X.gp E) aa D f s'):SP X aa D f s':=by
 cases f with
 |next=>obtain⟨aJ,H',I,q⟩:=h;exact⟨aJ,H',I.d8,q⟩
 |brk=>obtain⟨aJ,H',I,q⟩:=h;exact⟨aJ,H',I.d8,q⟩
 |cont=>obtain⟨aJ,H',I,q⟩:=h;exact⟨aJ,H',I.d8,q⟩
 |ret u=>obtain⟨v,aJ,H',I,r,q⟩:=h;exact⟨v,aJ,H',I.d8,r,q⟩
def eN.gi {st:List Stmt}{t:TS} (h:eN X.gi st t):eN X st t:=λaa s σ H D I hw =>
 Zv (h aa s σ H D (I.gp _) hw) (λ_ _ q=>q.d8) λ_ _ z=>False.elim z
end
section
variable {st:Stmt}{rest:List Stmt}{t u:TS}
def Tt:TS:=λD σ H=>D.nx σ H
def Vl (t u:TS):TS:=λD σ H=>t { D with nx:=u D } σ H
def AT:eN X [] Tt:=λ_ _ σ H _ I h=>wpAny_execs_nil ⟨σ,H,I,h⟩
def AG (h1:PS X st t) (h2:eN X rest u):eN X (st::rest) (Vl t u):=by
 intro aa s σ H D I h;refine wpAny_execs_cons (aG (h1 aa s σ H { D with nx:=u D } I h) λf s1 q=>?_);cases f with
 |next =>
  obtain⟨aJ,H',I',q⟩:=q;exact h2 aa s1 aJ H' D I' q
 |ret v=>exact q
 |brk=>exact q
 |cont=>exact q
def AE (h1:PS X st t):eN X [st] t:=by
 intro aa s σ H D I h;refine wpAny_execs_cons (aG (h1 aa s σ H D I h) λf s1 q=>?_);cases f with
 |next=>exact wpAny_execs_nil q
 |ret v=>exact q
 |brk=>exact q
 |cont=>exact q
def Inv.quiet (I:Inv X aa σ H s):interactive X.env=false:=by simp[interactive,I.ok.kind]
def Vm (te:TE):TS:=λD σ H=>te σ H λ_ H1=>D.nx σ H1
def BD (he:PE X e te) (hs:swapsWith e none pos.line X.env=pure false:=by rfl):PS X (.Expr e pos) (Vm te):=by
 intro aa s σ H D I h;exact wpAny_Expr_any (aG (he aa s σ H _ I h) λv s1 ⟨x,H1,I1,r1,q1⟩=>⟨σ,H1,I1,q1⟩) I.quiet hs
def QN (te:TE):TS:=λD σ H=>te σ H D.rt
def AQ (he:PE X e te):PS X (.Return (some e) pos) (QN te):=by
 intro aa s σ H D I h;exact wpAny_Return_some (aG (he aa s σ H _ I h) λv s1 ⟨x,H1,I1,r1,q1⟩=>⟨x,σ,H1,I1,r1,q1⟩)
def UQ (c:TT) (t u:TS):TS:=λD σ H=>c σ H λb H1=>if b=true then t D σ H1 else u D σ H1
def Ai {c:Expr}{a b:List Stmt}{tc:TT} (hc:PT X c tc) (ha:eN X a t) (hb:eN X b u):PS X (.If c a b pos) (UQ tc t u):=by
 intro aa s σ H D I h;refine wpAny_If (aG (hc aa s σ H _ I h) λd s1 ⟨H1,I1,q1⟩=>?_);cases d with
 |true=>exact ha aa s1 σ H1 D I1 q1
 |false=>exact hb aa s1 σ H1 D I1 q1
def UR:TS:=λ_ _ _=>False
def Am:PS X st UR:=λ_ _ _ _ _ _ h=>h.elim
end
abbrev TG:=V->St->Hp->(St->Hp->Prop)->Prop
abbrev TGs:=Xh->St->Hp->(St->Hp->Prop)->Prop
def PG (X:Cx) (target:Expr) (t:TG):Prop :=
 ∀(aa:LO) (s:Xj) (σ:St) (H:Hp) (v:V) (u:Value) (Q:St->Hp->Prop),Inv X aa σ H s->RelV v u->t v σ H Q ->
  wpAny (model X.prog X.w) X.A (assign target X.env u) (λ_ s'=>∃aJ H',Inv X aa aJ H' s'/\Q aJ H') X.xe s
def PGs (X:Cx) (ts:List Expr) (t:TGs):Prop :=
 ∀(aa:LO) (s:Xj) (σ:St) (H:Hp) (vs:Xh) (us:Xg) (Q:St->Hp->Prop),Inv X aa σ H s->Vals vs us->t vs σ H Q ->
  wpAny (model X.prog X.w) X.A (assignInOrder ((assignEach ts X.env).map (·.2)) us) (λ_ s'=>∃aJ H',Inv X aa aJ H' s'/\Q aJ H') X.xe s
abbrev US:=V->V->V->Hp->(Hp->Prop)->Prop
def Vn (X:Cx) (t:US):Prop :=
 ∀(aa:LO) (s:Xj) (σ:St) (H:Hp) (o i v:V) (ov iv u:Value) (Q:Hp->Prop),Inv X aa σ H s->RelV o ov->RelV i iv->RelV v u->t o i v H Q ->
  wpAny (model X.prog X.w) X.A (setItem ov iv u) (λ_ s'=>∃H',Inv X aa σ H' s'/\Q H') X.xe s
abbrev TIp:=V->V->Hp->VK->Prop
def PIp (X:Cx) (op:Operator) (t:TIp):Prop :=
 ∀(aa:LO) (s:Xj) (σ:St) (H:Hp) (x y:V) (v u:Value) (Q:VK),Inv X aa σ H s->RelV x v->RelV y u->t x y H Q ->
  wpAny (model X.prog X.w) X.A (inplaceOp op v u) (EP X aa σ Q) X.xe s
section
def Cd (i:Nat):TG:=λv σ H Q=>Q (σ.set i (some v)) H
def Af {i:Nat} (hN:X.N.Nodup) (hi:X.N[i]?=some x) (hx:Loc X.env.scope x) (hf:X.fn x=true\/X.env.scope.names.lookup x=some .local:=by first |exact .inl rfl |exact .inr rfl |assumption):PG X (.Name x pos) (Cd i):=by
 intro aa s σ H v u Q I r h;exact wpAny_assign_Name (Cb I hN hi hx r (λs' I'=>⟨_,H,I',h⟩) hf)
def SQ:TGs:=λvs σ H Q=>vs=[]/\Q σ H
inductive ExC (vs:Xh) (k:V->Xh->Prop):Prop where
 |mk (v:V) (r:Xh) (h:vs=v::r) (q:k v r):ExC vs k
def HY (t:TG) (u:TGs):TGs:=λvs σ H Q=>ExC vs λv r=>t v σ H λaJ H'=>u r aJ H' Q
def Bi:PGs X [] SQ:=by
 intro aa s σ H vs us Q I r h;obtain⟨e,h⟩:=h;subst e;cases r;exact assignInOrder_nil ⟨σ,H,I,h⟩
def Ak {es:List Expr}{t:TG}{u:TGs} (h1:PG X e t) (h2:PGs X es u)
  (hs:(assignEach (e::es) X.env).map (·.2)=assign e X.env::(assignEach es X.env).map (·.2):=by rfl):PGs X (e::es) (HY t u):=by
 intro aa s σ H vs us Q I r h;obtain⟨v,vr,e1,h⟩:=h;subst e1;cases r with
 |cons r rr =>
  rw[hs];refine assignInOrder_cons (aG (h1 aa s σ H _ _ _ I r h) λ_ s1 ⟨i6,H1,I1,q1⟩=>?_);exact h2 aa s1 i6 H1 _ _ Q I1 rr q1
inductive ExT (K:FG) (n:Nat) (v:V) (H:Hp) (k:Xh->Prop):Prop where
 |mk (a:Xi) (xs:Xh) (h1:v=.ref a) (h2:aX K H a xs) (h3:xs.length=n) (q:k xs):ExT K n v H k
def SR (K:FG) (n:Nat) (t:TGs):TG:=λv σ H Q=>ExT K n v H λxs=>t xs σ H Q
def CQ {es:List Expr}{k:Nat}{t:TGs}{n:Nat} (hc:X.calm=true) (h:PGs X es t)
  (hn:(assignEach es X.env).length=n:=by rfl) (hst:(assignEach es X.env).findIdx? (·.1)=none:=by rfl):PG X (.Tuple es k pos) (SR X.K n t):=by
 intro aa s σ H v u Q I r hw;obtain⟨a,xs,e1,hq,hl,hw⟩:=hw;subst e1;cases r;obtain⟨its,rv,ht,hz⟩:=I.tuple hq;refine assign_Tuple_tuple (I.ok.hd hc) ht (by simp[hn,←hl,rv.length]) hst λh' hx=>?_;have I1:Inv X aa σ H { s with heap:=h' }:=I.kept (t':=s.toks) λb o e=>hx b o (ZC (lt_size e)) e;exact h aa _ σ H xs _ Q I1 (by simpa using rv) hw
def Ws (to ti:TE) (t:US):TG:=λv σ H Q=>to σ H λo H1=>ti σ H1 λi H2=>t o i v H2 λH3=>Q σ H3
def J7 {o i:Expr}{to ti:TE}{t:US} (ho:PE X o to) (hi:PE X i ti) (hs:Vn X t)
  (ha:∀v,assign (.Subscript o i pos) X.env v=(do
   let ov ←holding [v] (eval o X.env)
   let iv ←holding [v,ov] (eval i X.env)
   standAt pos
   holding [v,ov,iv] (setItem ov iv v)
   release [v,ov,iv] []):=by intro _;rfl):PG X (.Subscript o i pos) (Ws to ti t):=by
 intro aa s σ H v u Q I r h;rw[ha];refine Zx (ZK (aG (ho aa s σ H _ I h) λov s1 ⟨x,H1,I1,r1,q1⟩=>?_));refine Zx (ZK (aG (hi aa s1 σ H1 _ I1 q1) λiv s2 ⟨y,H2,I2,r2,q2⟩=>?_));refine Zx (ZJ (Zx (ZK (aG (hs aa s2 σ H2 x y v ov iv u _ I2 r1 r2 r q2) λ_ s3 ⟨H3,I3,q3⟩=>?_))));exact wpAny_release ⟨σ,H3,I3,q3⟩
def UT (te:TE) (g:TG):TS:=λD σ H=>te σ H λx H1=>g x σ H1 D.nx
def C2 {tg:Expr}{g:TG} (he:PE X e te) (hg:PG X tg g) (hs:swapsWithSole [tg] e pos.line X.env=pure false:=by rfl) (hw:swappedStores [tg] e X.env=pure none:=by rfl)
  (h1:(assignEach [tg] X.env).map (·.2)=[assign tg X.env]:=by rfl):PS X (.Assign [tg] e pos) (UT te g):=by
 intro aa s σ H D I h;refine wpAny_Assign_stores (aG (he aa s σ H _ I h) λv s1 ⟨x,H1,I1,r1,q1⟩=>?_) hs hw;rw[h1];exact aG (hg aa s1 σ H1 x v _ I1 r1 q1) λ_ s2 q=>q
def Ae {i:Nat}{pos':Pos} (hN:X.N.Nodup) (hi:X.N[i]?=some x) (hx:Loc X.env.scope x) (he:PE X e te) (hs:swapsWith e (some (.Name x pos')) pos.line X.env=pure false:=by rfl) (hf:X.fn x=true\/X.env.scope.names.lookup x=some .local:=by first |exact .inl rfl |exact .inr rfl |assumption) :
  PS X (.Assign [.Name x pos'] e pos) (UT te (Cd i)):=by
 intro aa s σ H D I h;refine wpAny_Assign_Name (aG (he aa s σ H _ I h) λv s1 ⟨y,H1,I1,r1,q1⟩=>?_) hs;exact Cb I1 hN hi hx r1 (λs2 I2=>⟨_,H1,I2,q1⟩) hf
def Wt (i:Nat) (te:TE) (ti:TIp):TS:=λD σ H=>∃x,σ[i]?=some (some x)/\te σ H λy H1=>ti x y H1 λz H2=>D.nx (σ.set i (some z)) H2
def Mg {i:Nat}{op:Operator}{ti:TIp}{pos':Pos} (hN:X.N.Nodup) (hi:X.N[i]?=some x) (hx:Loc X.env.scope x) (he:PE X e te) (ho:PIp X op ti) (hf:X.fn x=true\/X.env.scope.names.lookup x=some .local:=by first |exact .inl rfl |exact .inr rfl |assumption) :
  PS X (.AugAssign (.Name x pos') op e pos) (Wt i te ti):=by
 intro aa s σ H D I h;obtain⟨v,e1,h⟩:=h;obtain⟨m,hn,hl⟩:=I.loc;have vis:Vis X.env.scope x:=by rcases hx with k |k;exact .inl k;exact .inr (.inl k)
 obtain⟨u,r,l⟩:=hl i x v hi e1 vis;refine wpAny_AugAssign_Name ?_
 have go:wpAny (model X.prog X.w) X.A (eval e X.env) (λw s₂=>wpAny (model X.prog X.w) X.A (inplaceOp op u w) (λr s₃=>wpAny (model X.prog X.w) X.A (storeName X.env x r) (λ_=>SP X aa D .next) X.xe s₃) X.xe s₂) X.xe s:=by
  refine aG (he aa s σ H _ I h) λw s1 ⟨y,H1,I1,r1,q1⟩=>?_;refine aG (ho aa s1 σ H1 v y u w _ I1 r r1 q1) λz s2 ⟨zv,H2,I2,r2,q2⟩=>?_;exact Cb I2 hN hi hx r2 (λs3 I3=>⟨_,H2,I3,q2⟩) hf
 rcases l with⟨hk,hm⟩ |⟨hk,c,hc,bo⟩
 ·exact wpAny_loadName_local I.ok.kind hk hn hm go
 ·rcases hk with hk |hk
  ·exact wpAny_loadName_cell I.ok.kind hk hc bo go
  ·rcases hx with k |k
   ·have:X.env.scope.names.lookup x=some .free:=hk;rw[k]at this;cases this
   ·have:X.env.scope.names.lookup x=some .free:=hk;rw[k]at this;cases this
end
section
def QO (c:TT) (tb:TS):TS:=λD σ H=>∃W:Nat->St->Hp->Prop,(∃m,W m σ H)/\∀m σ H,W m σ H ->
 c σ H λb H1=>if b=true then ∃N:St->Hp->Prop,(∀aJ H',N aJ H'->∃m',m'<m/\W m' aJ H')/\tb { D with nx:=N,ct:=N,bk:=D.nx } σ H1 else D.nx σ H1
def FM {c:Expr}{body:List Stmt}{tc:TT}{tb:TS} (hp:PassesOwn (model X.prog X.w) X.A X.env X.xe) (hc:PT X c tc) (hb:eN X body tb):PS X (.While c body [] pos) (QO tc tb):=by
 intro aa s σ H D I h;obtain⟨W,⟨m0,w0⟩,turn⟩:=h;refine wpAny_While (codeAny_whileLoop (λn s'=>∃aJ H',Inv X aa aJ H' s'/\W n aJ H') ?_ m0 ⟨σ,H,I,w0⟩);rintro n s1 ⟨i6,H1,I1,w1⟩;refine wpAny_passesOwn hp (aG (hc aa s1 i6 H1 _ I1 (turn n i6 H1 w1)) λb s2 ⟨H2,I2,q2⟩=>?_);cases b with
 |true =>
  obtain⟨N,hN,q2⟩:=q2;rw[Zp rfl];refine wpAny_passesOwn hp (aG (hb aa s2 i6 H2 _ I2 q2) λf s3 q3=>?_);cases f with
  |next =>
   obtain⟨i5,H3,I3,n3⟩:=q3;obtain⟨m',hm,w3⟩:=hN i5 H3 n3;exact⟨m',hm,i5,H3,I3,w3⟩
  |cont =>
   obtain⟨i5,H3,I3,n3⟩:=q3;obtain⟨m',hm,w3⟩:=hN i5 H3 n3;exact⟨m',hm,i5,H3,I3,w3⟩
  |brk=>exact q3
  |ret v=>exact q3
 |false =>
  rw[Zq Bool.false_ne_true];exact wpAny_execs_nil ⟨i6,H2,I2,q2⟩
end
structure It where
 go:Nat->Hp->Prop
 g8:Nat->Hp->V->Hp->Prop
 stop:Nat->Hp->Prop
def Eo (X:Cx) (aa:LO) (H:Hp) (b:Xi):Prop :=
 H b=none/\b≠X.env.locals/\b∉ X.fs/\(b∈X.ex\/X.aY.heap.objs.size<=b)/\(∀x c,X.env.cells.lookup x=some c->c≠b)/\∀p∈X.pn++aa,p.1≠b
def Inv.gR {b:Xi} (I:Inv X aa σ H s) (hb:s.heap.objs.size<=b) (hn:H' b=none):Eo X aa H' b:=by
 refine⟨hn,Nat.ne_of_gt (Z2 I.lt hb),I.nofs hb,.inr (Nat.le_trans I.sz hb),λx c e z=>?_,λp hp z=>?_⟩
 ·obtain⟨v,q⟩:=I.cell x c e;exact absurd (Z2 q.lt (by rw[z];exact hb)) (ZF _)
 ·exact absurd (Z2 (lt_size (I.pin p hp).1) (by rw[z];exact hb)) (ZF _)
structure Mh (P:Program) (w:World) (K:FG) (tg:Expr) (J:It) (fp:List Xi) (it:Xi) (tn:Nat->Heap->Prop):Prop where
 mem:it∈fp
 obj:∀i h,tn i h->∀b∈fp,∃o,h.get? b=some o/\∀v,o.data≠ .cell v
 keep:∀i h h',tn i h->(∀b∈fp,∀o,h.get? b=some o->h'.get? b=some o)->tn i h'
 item:∀(X:Cx),X.prog=P->X.w=w->X.K=K->X.calm=true->∀(i:Nat) (aa:LO) (s:Xj) (σ:St) (H:Hp) (E:VS),Inv X aa σ H s->(∀b∈fp,Eo X aa H b)->tn i s.heap->J.go i H ->
  wpAny (model P w) X.A (pyNext (.ref it)) (λr s1=>∃u,r=some u /\
   wpAny (model P w) X.A (letOwnedTupleGo tg (.ref it) u) (λ_ s2=>∃x H',Inv X aa σ H' s2/\RelV x u/\J.g8 i H x H'/\tn (i+1) s2.heap/\∀b∈fp,H' b=none) E s1) E s
 done:∀(X:Cx),X.prog=P->X.w=w->X.K=K->X.calm=true->∀(i:Nat) (aa:LO) (s:Xj) (σ:St) (H:Hp) (E:VS),Inv X aa σ H s->(∀b∈fp,Eo X aa H b)->tn i s.heap->J.stop i H ->
  wpAny (model P w) X.A (pyNext (.ref it)) (λr s1=>r=none/\Inv X aa σ H s1) E s
 self:∀(A:Around) (i:Nat) (s:Xj) (Q:VS) (E:VS),tn i s.heap->Q (.ref it) s->wpAny (model P w) A (pyIter (.ref it)) Q E s
abbrev TI:=St->Hp->(It->Hp->Prop)->Prop
def PIE (X:Cx) (aa:LO) (σ:St) (tg:Expr) (R:It->Hp->Prop) (itv:Value) (s2:Xj):Prop :=
 ∃(it:Xi) (fp:List Xi) (tn:Nat->Heap->Prop) (J:It) (H':Hp),itv=.ref it/\Inv X aa σ H' s2/\Mh X.prog X.w X.K tg J fp it tn/\tn 0 s2.heap/\(∀b∈fp,Eo X aa H' b)/\R J H'
def PI (X:Cx) (tg iter:Expr) (wi:TI):Prop :=
 ∀(aa:LO) (s:Xj) (σ:St) (H:Hp) (R:It->Hp->Prop),Inv X aa σ H s->wi σ H R ->
  wpAny (model X.prog X.w) X.A (eval iter X.env) (λv s1=>wpAny (model X.prog X.w) X.A (pyIter v) (PIE X aa σ tg R) X.xe s1) X.xe s
def Nz {M:Model}{tg:Expr}{it:Xi}{o:Obj}{n:String}{vs:Array Value}{Q:Unit->Xj->Prop} (ho:s.heap.get? it=some o) (hc:o.cls=.type n) (hd:o.data=.fields vs)
    (hn:["enumerate", "zip", "dict_itemiterator", "dict_reverseitemiterator", "odict_iterator", "itertools.zip_longest", "itertools.pairwise"].contains n=false) (hQ:Q () s):wpAny M A (letOwnedTupleGo tg (.ref it) u) Q E s:=by
  unfold letOwnedTupleGo
  cases tg <;> first
    |exact Zw hQ
    | (cases u <;> first
        |exact Zw hQ
        | (refine Zx (wpAny_load ho ?_)
           rw[hc,hd];show wpAny M A (if (["enumerate", "zip", "dict_itemiterator", "dict_reverseitemiterator", "odict_iterator", "itertools.zip_longest", "itertools.pairwise"].contains n&&vs[0]?==some (rawInt _))=true then _ else _) Q E s;rw[Zq (by intro h;rw[hn,Bool.false_and]at h;cases h)]
           exact Zw hQ))
noncomputable def iY (K:FG) (a:Xi):It :=
 ⟨λi H=>∃xs x,aI K H a xs/\xs[i]?=some x,λi H x H'=>H'=H/\∀xs,aI K H a xs->xs[i]?=some x,λi H=>∃xs,aI K H a xs/\xs.length<=i⟩
noncomputable def Itt (K:FG) (a:Xi):It :=
 ⟨λi H=>∃xs x,aX K H a xs/\xs[i]?=some x,λi H x H'=>H'=H/\∀xs,aX K H a xs->xs[i]?=some x,λi H=>∃xs,aX K H a xs/\xs.length<=i⟩
noncomputable def jP (lo:Int) (n:Nat):It:=⟨λi _=>i<n,λi H x H'=>H'=H/\x=.int (lo+i),λi _=>n<=i⟩
def JM {tg:Expr} (a it:Xi):Mh P w K tg (iY K a) [it] it (λi h=>h.IsListIter it a i) where
 mem:=by simp
 obj:=λi h st b hb=>by
  have e:b=it:=by simpa using hb
  subst e;obtain⟨o,e,c,d⟩:=st;exact⟨o,e,λv z=>by rw[d]at z;cases z⟩
 keep:=λi h h' st k=>st.at λo e=>k it (by simp) o e
 item:=by
  intro X hP hw hK hc i aa s σ H E I hf st hg;subst hP hw hK;obtain⟨xs,x,hq,hx⟩:=hg;obtain⟨its,rv,p,hz⟩:=I.list hq;obtain⟨u,hu,ru⟩:=rv.get hx;obtain⟨f0,f1,f2,f3,f4,f5⟩:=hf it (by simp);refine wpAny_pyNext_list_item st p.isList (x:=u) (by simpa using hu) λh' gq sb=>?_;have I1:Inv X aa σ H { s with heap:=h' }:=I.turned (t':=s.toks) (λb o hb e=>(sb.2 b hb).trans e) f0 f1 f3 f4 f5;obtain⟨o,e,c,d⟩:=id gq;exact⟨u,Zj,Nz (s:={ s with heap:=h' }) e c d qc ⟨x,H,I1,ru,⟨Zj,λys hy=>by rw[I.list_inj hy hq];exact hx⟩,gq,λb hb=>(hf b hb).1⟩⟩
 done:=by
  intro X hP hw hK hc i aa s σ H E I hf st hg;subst hP hw hK;obtain⟨xs,hq,hx⟩:=hg;obtain⟨its,rv,p,hz⟩:=I.list hq;obtain⟨f0,f1,f2,f3,f4,f5⟩:=hf it (by simp);have hl:=rv.length;exact wpAny_pyNext_list_end (I.ok.hd hc) st p.isList (by simp;omega) λh' eb=>⟨Zj,I.turned (t':=s.toks) (λb o hb e=>eb b o hb e) f0 f1 f3 f4 f5⟩
 self:=λ_ _ _ _ _ st h=>wpAny_pyIter_listiter st h
def Mi {tg:Expr} (a it:Xi):Mh P w K tg (Itt K a) [it] it (λi h=>h.IsTupleIter it a i) where
 mem:=by simp
 obj:=λi h st b hb=>by
  have e:b=it:=by simpa using hb
  subst e;obtain⟨o,e,c,d⟩:=st;exact⟨o,e,λv z=>by rw[d]at z;cases z⟩
 keep:=λi h h' st k=>st.at λo e=>k it (by simp) o e
 item:=by
  intro X hP hw hK hc i aa s σ H E I hf st hg;subst hP hw hK;obtain⟨xs,x,hq,hx⟩:=hg;obtain⟨its,rv,p,hz⟩:=I.tuple hq;obtain⟨u,hu,ru⟩:=rv.get hx;obtain⟨f0,f1,f2,f3,f4,f5⟩:=hf it (by simp);refine wpAny_pyNext_tuple_item st (show s.heap.IsTuple a its.toArray from p) (x:=u) (by simpa using hu) λh' gq sb=>?_;have I1:Inv X aa σ H { s with heap:=h' }:=I.turned (t':=s.toks) (λb o hb e=>(sb.2 b hb).trans e) f0 f1 f3 f4 f5;obtain⟨o,e,c,d⟩:=id gq;exact⟨u,Zj,Nz (s:={ s with heap:=h' }) e c d qc ⟨x,H,I1,ru,⟨Zj,λys hy=>by rw[I.tuple_inj hy hq];exact hx⟩,gq,λb hb=>(hf b hb).1⟩⟩
 done:=by
  intro X hP hw hK hc i aa s σ H E I hf st hg;subst hP hw hK;obtain⟨xs,hq,hx⟩:=hg;obtain⟨its,rv,p,hz⟩:=I.tuple hq;obtain⟨f0,f1,f2,f3,f4,f5⟩:=hf it (by simp);have hl:=rv.length;exact wpAny_pyNext_tuple_end (I.ok.hd hc) st (show s.heap.IsTuple a its.toArray from p) (by simp;omega) λh' eb=>⟨Zj,I.turned (t':=s.toks) (λb o hb e=>eb b o hb e) f0 f1 f3 f4 f5⟩
 self:=λ_ _ _ _ _ st h=>wpAny_pyIter_tupleiter st h
def Mj {tg:Expr} (it:Xi) (lo:Int) (n:Nat):Mh P w K tg (jP lo n) [it] it (λi h=>IsRangeIter h it (lo+(i:Nat)*1) ((n:Int) - (i:Nat)) 1) where
 mem:=by simp
 obj:=λi h st b hb=>by
  have e:b=it:=by simpa using hb
  subst e
  exact⟨_,st,λv z=>by
   have z':Data.fields _=Data.cell v:=z
   cases z'⟩
 keep:=λi h h' st k=>k it (by simp) _ st
 item:=by
  intro X hP hw hK hc i aa s σ H E I hf st hg;subst hP hw hK;obtain⟨f0,f1,f2,f3,f4,f5⟩:=hf it (by simp);have W:=Walks.range (prog:=X.prog) (w:=X.w) (I.ok.hd hc) it lo 1 n;refine W.item i s _ _ hg st λv h' tk hv gq kk=>?_;obtain⟨t,rfl⟩:=hv;have I1:Inv X aa σ H { s with heap:=h',toks:=tk }:=I.turned (λb o hb e=>kk b o (by simpa using hb) e) f0 f1 f3 f4 f5;refine⟨_,Zj,Nz (s:={ s with heap:=h',toks:=tk }) (n := "range_iterator") gq Zj Zj qc ⟨.int (lo+i),H,I1,⟨t,?_⟩,⟨Zj,Zj⟩,gq,λb hb=>(hf b hb).1⟩⟩;rw[Int.mul_one]
 done:=by
  intro X hP hw hK hc i aa s σ H E I hf st hg;subst hP hw hK;obtain⟨f0,f1,f2,f3,f4,f5⟩:=hf it (by simp);exact wpAny_pyNext_range_end (I.ok.hd hc) st (by have:n<=i:=hg;omega) λh' eb=>⟨Zj,I.turned (t':=s.toks) (λb o hb e=>eb b o hb e) f0 f1 f3 f4 f5⟩
 self:=λ_ _ _ _ _ st h=>wpAny_pyIter_rangeiter st h
section
variable {tg:Expr}
def QP (K:FG) (tl:TE):TI:=λσ H R=>tl σ H λx H1=>∃a,x=.ref a/\(∃xs,aI K H1 a xs)/\R (iY K a) H1
def Wu (K:FG) (tl:TE):TI:=λσ H R=>tl σ H λx H1=>∃a,x=.ref a/\(∃xs,aX K H1 a xs)/\R (Itt K a) H1
def Bj {l:Expr}{tl:TE} (hl:PE X l tl):PI X tg l (QP X.K tl):=by
 intro aa s σ H R I h;refine aG (hl aa s σ H _ I h) λv s1 ⟨x,H1,I1,r1,q1⟩=>?_;obtain⟨a,e,⟨xs,hq⟩,q⟩:=q1;subst e;cases r1;obtain⟨its,rv,p,hz⟩:=I1.list hq;refine wpAny_pyIter_list p.isList ?_;refine⟨s1.heap.objs.size,[s1.heap.objs.size],_,_,H1,Zj,I1.kept (t':=s1.toks) λb o e=>ZX _ e,JM a _,⟨_,ZN _ Zj,Zj,Zj⟩,λb hb=>?_,q⟩;have e:b=s1.heap.objs.size:=by simpa using hb
 subst e;exact I1.gR (Zy _) (I1.aD.fresh (Zy _))
def QQ {l:Expr}{tl:TE} (hl:PE X l tl):PI X tg l (Wu X.K tl):=by
 intro aa s σ H R I h;refine aG (hl aa s σ H _ I h) λv s1 ⟨x,H1,I1,r1,q1⟩=>?_;obtain⟨a,e,⟨xs,hq⟩,q⟩:=q1;subst e;cases r1;obtain⟨its,rv,p,hz⟩:=I1.tuple hq;refine wpAny_pyIter_tuple (show s1.heap.IsTuple a its.toArray from p) ?_;refine⟨s1.heap.objs.size,[s1.heap.objs.size],_,_,H1,Zj,I1.kept (t':=s1.toks) λb o e=>ZX _ e,Mi a _,⟨_,ZN _ Zj,Zj,Zj⟩,λb hb=>?_,q⟩;have e:b=s1.heap.objs.size:=by simpa using hb
 subst e;exact I1.gR (Zy _) (I1.aD.fresh (Zy _))
def QR {R:It->Hp->Prop}{lo hi:Int}{t u v:Tok}{tk:Nat} (I:Inv X aa σ H s) (h1:-(2 ^ 62)<=lo) (h2:lo<2 ^ 62) (h3:-(2 ^ 62)<=hi) (h4:hi<2 ^ 62)
  (q:R (jP lo (hi - lo).toNat) H):wpAny (model X.prog X.w) X.A (pyIter (.ref s.heap.objs.size)) (PIE X aa σ tg R) E { s with heap:=s.heap.push { cls:=.type "range", data:=.fields #[.int lo t,.int hi u,.int 1 v] },toks:=tk }:=by
 refine wpAny_pyIter_range (IsRange.new ..) (small_one h1 h2 h3 h4) ?_;have I1:Inv X aa σ H { s with heap:=s.heap.push { cls:=.type "range", data:=.fields #[.int lo t,.int hi u,.int 1 v] },toks:=tk }:=I.kept λb o e=>ZX _ e
 refine⟨(s.heap.push { cls:=.type "range", data:=.fields #[.int lo t,.int hi u,.int 1 v] }).objs.size,[(s.heap.push { cls:=.type "range", data:=.fields #[.int lo t,.int hi u,.int 1 v] }).objs.size],_,_,H,Zj,
  I1.kept (t':=tk) λb o e=>ZX _ e,Mj _ lo (hi - lo).toNat,?_,λb hb=>?_,q⟩
 ·have e1:lo+((0:Nat):Int)*1=lo:=by simp
  have e2:(((hi - lo).toNat:Nat):Int) - ((0:Nat):Int)=Builtin.Range.rangeSize lo hi 1:=by rw[rangeSize_one];split <;> omega
  show IsRangeIter _ _ (lo+((0:Nat):Int)*1) ((((hi - lo).toNat:Nat):Int) - ((0:Nat):Int)) 1;rw[e1,e2];exact ZN _ rfl
 ·have e:b=(s.heap.push { cls:=.type "range", data:=.fields #[.int lo t,.int hi u,.int 1 v] }).objs.size:=by simpa using hb
  subst e;exact I1.gR (Zy _) (I1.aD.fresh (Zy _))
def Vo (ta:TA):TI:=λσ H R=>ta σ H λvs H1=>∃j:Int,vs=[.int j]/\-(2 ^ 62)<=j/\j<2 ^ 62/\R (jP 0 j.toNat) H1
def DD {a:Expr}{ta:TA}{p:Pos} (hg:Gl X "range") (hm:X.mg "range" = none) (ha:PA X [a] ta) (hs:starEach [a] X.env=[(false,eval a X.env)]:=by rfl):PI X tg (.Call (.Name "range" p) [a] [] pos) (Vo ta):=by
 intro aa s σ H R I h;refine Call_ (En I hg hm boot_range (PyProof.Rows.callWith_type1 (aG (ha pos aa s σ H _ I h) λus s1 ⟨vs,H1,I1,r1,q1⟩=>?_) hs rfl));obtain⟨j,e,q1,q2,q⟩:=q1;subst e;cases r1 with
 |cons r rr =>
  cases rr;obtain⟨t,rfl⟩:=r;exact call_range_1 (QR I1 qe qe q1 q2 (by simpa using q))
def Vp (wi:TI) (g:TG) (tb:TS):TS:=λD σ H=>wi σ H λJ H1=>∃W:Nat->Nat->St->Hp->Prop,(∃m,W 0 m σ H1)/\∀i m σ H,W i m σ H ->
 (J.stop i H/\D.nx σ H)\/(J.go i H/\∃N:St->Hp->Prop,(∀aJ H',N aJ H'->∃m',m'<m/\W (i+1) m' aJ H')/\∀x H',J.g8 i H x H'->g x σ H' λcC H2=>tb { D with nx:=N,ct:=N,bk:=D.nx } cC H2)
noncomputable def Ce (fp:List Xi) (h:Heap):LO:=fp.filterMap λb=>(h.get? b).map λo=>(b,o)
def B8 {fp:List Xi}{b:Xi}{o:Obj} (hb:b∈fp) (e:h.get? b=some o):(b,o)∈Ce fp h:=List.mem_filterMap.mpr ⟨b,hb,by rw[e];rfl⟩
def GV {fp:List Xi}{p:Xi×Obj} (hp:p∈Ce fp h):p.1∈fp/\h.get? p.1=some p.2:=by
 obtain⟨b,hb,e⟩:=List.mem_filterMap.mp hp;cases q:h.get? b with
 |none=>rw[q]at e;cases e
 |some o =>
  rw[q]at e;have e':(b,o)=p:=Option.some.inj e;subst e';exact⟨hb,q⟩
def Inv.pinned {fp:List Xi} (I:Inv X aa σ H s) (hf:∀b∈fp,Eo X aa H b) (ho:∀b∈fp,∃o,s.heap.get? b=some o/\∀v,o.data≠ .cell v):Inv X (aa++Ce fp s.heap) σ H s :=
 I.cL λp hp=>(mem_append.mp hp).elim (λz=>I.pin p (ZT _ z)) λz=>by
  obtain⟨hb,e⟩:=GV z;obtain⟨f0,f1,f2,_⟩:=hf p.1 hb;obtain⟨o,e',d⟩:=ho p.1 hb;rw[e]at e';cases e';exact⟨e,f0,f1,f2,d⟩
def Inv.unpinned {pl:LO} (I:Inv X (aa++pl) σ H s):Inv X aa σ H s:=I.cL λp hp=>I.pin p (ZT _ (ZP _ hp))
def Dw {iter:Expr}{body:List Stmt}{wi:TI}{g:TG}{tb:TS} (hp:PassesOwn (model X.prog X.w) X.A X.env X.xe) (hc:X.calm=true) (hi:PI X tg iter wi) (hg:PG X tg g) (hb:eN X body tb)
  (hs:∀x,foldedSetIterable iter X.env x=pure x:=by intro _;rfl):PS X (.For tg iter body [] pos) (Vp wi g tb):=by
 intro aa s σ H D I h;refine wpAny_For (aG (hi aa s σ H _ I h) λv s1 h1=>aG h1 λitv s2 h2=>?_) hs;obtain⟨it,fp,tn,J,H2,e,I2,T,jy,f2,W,⟨m0,w0⟩,turn⟩:=h2;subst e;have f6:∀ {H':Hp},(∀b∈fp,H' b=none)->∀b∈fp,Eo X aa H' b:=λhn b hb=>⟨hn b hb,(f2 b hb).2⟩;refine codeAny_forLoop_any (λn s'=>∃i aJ H',Inv X aa aJ H' s'/\tn i s'.heap/\(∀b∈fp,H' b=none)/\W i n aJ H') ?_ m0 ⟨0,σ,H2,I2,jy,λb hb=>(f2 b hb).1,w0⟩;rintro n s3 ⟨i,i5,H3,I3,st3,fr3,w3⟩;rcases turn i n i5 H3 w3 with⟨stop,qn⟩ |⟨go,N,hN,step⟩
 ·refine wpAny_passesOwn hp (aG (T.done X Zj Zj Zj hc i aa s3 i5 H3 X.xe I3 (f6 fr3) st3 stop) λr s4 ⟨hr,I4⟩=>?_);subst hr;exact wpAny_execs_nil ⟨i5,H3,I4,qn⟩
 ·refine wpAny_passesOwn hp (aG (T.item X Zj Zj Zj hc i aa s3 i5 H3 X.xe I3 (f6 fr3) st3 go) λr s4 ⟨u,hr,h4⟩=>?_);subst hr;refine wpAny_passesOwn hp (aG h4 λ_ s5 ⟨x,H5,I5,r5,y5,st5,fr5⟩=>?_);have I5':=I5.pinned (f6 fr5) (T.obj _ _ st5);refine wpAny_passesOwn hp (aG (hg _ s5 i5 H5 x u _ I5' r5 (step x H5 y5)) λ_ s6 ⟨σ6,H6,I6,q6⟩=>?_);refine wpAny_passesOwn hp (aG (hb _ s6 σ6 H6 _ I6 q6) λf s7 q7=>?_)
  have again:∀ {fQ:St}{H7:Hp},Inv X (aa++Ce fp s5.heap) fQ H7 s7->N fQ H7->∃m,m<n/\∃i aJ H',Inv X aa aJ H' s7/\tn i s7.heap/\(∀b∈fp,H' b=none)/\W i m aJ H':=λ{fQ H7} I7 n7=>by
   obtain⟨m',hm,w7⟩:=hN fQ H7 n7;refine⟨m',hm,i+1,fQ,H7,I7.unpinned,T.keep _ _ _ st5 λb hb o e=>(I7.pin (b,o) (ZT _ (ZT _ (B8 hb e)))).1,λb hb=>?_,w7⟩;obtain⟨o,e,d⟩:=T.obj _ _ st5 b hb;exact(I7.pin (b,o) (ZT _ (ZT _ (B8 hb e)))).2.1
  cases f with
  |next=>obtain⟨fQ,H7,I7,n7⟩:=q7;exact again I7 n7
  |cont=>obtain⟨fQ,H7,I7,n7⟩:=q7;exact again I7 n7
  |brk=>obtain⟨fQ,H7,I7,q7⟩:=q7;exact⟨fQ,H7,I7.unpinned,q7⟩
  |ret v=>obtain⟨x7,fQ,H7,I7,r7,q7⟩:=q7;exact⟨x7,fQ,H7,I7.unpinned,r7,q7⟩
end
def Cf {g:TG}{tb:TS}{D:DQ} (Pv:Nat->St->Hp->Prop) (h0:Pv 0 σ H) (hl:∀i σ H,i<=xs.length->Pv i σ H->aI K H a xs)
  (hs:∀i x σ H,xs[i]?=some x->Pv i σ H->g x σ H λcC H2=>tb { D with nx:=Pv (i+1),ct:=Pv (i+1),bk:=D.nx } cC H2) (hd:∀σ H,Pv xs.length σ H->D.nx σ H) :
  ∃W:Nat->Nat->St->Hp->Prop,(∃m,W 0 m σ H)/\∀i m σ H,W i m σ H ->
   ((iY K a).stop i H/\D.nx σ H)\/((iY K a).go i H/\∃N:St->Hp->Prop,(∀aJ H',N aJ H'->∃m',m'<m/\W (i+1) m' aJ H')/\∀x H',(iY K a).g8 i H x H'->g x σ H' λcC H2=>tb { D with nx:=N,ct:=N,bk:=D.nx } cC H2):=by
 refine⟨λi m σ H=>m=xs.length - i/\i<=xs.length/\Pv i σ H,⟨xs.length,by simp,Nat.zero_le _,h0⟩,?_⟩;rintro i m σ H ⟨rfl,hi,p⟩;have q:=hl i σ H hi p;by_cases hlt:i<xs.length
 ·refine .inr ⟨⟨xs,xs[i],q,by simp[hlt]⟩,Pv (i+1),λaJ H' p'=>⟨xs.length - (i+1),qe,Zj,hlt,p'⟩,λx H' y=>?_⟩;obtain⟨e,y⟩:=y;subst e;exact hs i x σ _ (y xs q) p
 ·have e:i=xs.length:=by omega
  subst e;exact .inl ⟨⟨xs,q,Zy _⟩,hd σ H p⟩
def JN {lo:Int}{n:Nat}{g:TG}{tb:TS}{D:DQ} (Pv:Nat->St->Hp->Prop) (h0:Pv 0 σ H)
  (hs:∀i σ H,i<n->Pv i σ H->g (.int (lo+i)) σ H λcC H2=>tb { D with nx:=Pv (i+1),ct:=Pv (i+1),bk:=D.nx } cC H2) (hd:∀σ H,Pv n σ H->D.nx σ H) :
  ∃W:Nat->Nat->St->Hp->Prop,(∃m,W 0 m σ H)/\∀i m σ H,W i m σ H ->
   ((jP lo n).stop i H/\D.nx σ H)\/((jP lo n).go i H/\∃N:St->Hp->Prop,(∀aJ H',N aJ H'->∃m',m'<m/\W (i+1) m' aJ H')/\∀x H',(jP lo n).g8 i H x H'->g x σ H' λcC H2=>tb { D with nx:=N,ct:=N,bk:=D.nx } cC H2):=by
 refine⟨λi m σ H=>m=n - i/\i<=n/\Pv i σ H,⟨n,by simp,Nat.zero_le _,h0⟩,?_⟩;rintro i m σ H ⟨rfl,hi,p⟩;by_cases hlt:i<n
 ·refine .inr ⟨hlt,Pv (i+1),λaJ H' p'=>⟨n - (i+1),qe,Zj,hlt,p'⟩,λx H' y=>?_⟩;obtain⟨e,y⟩:=y;subst e y;exact hs i σ _ hlt p
 ·have e:i=n:=by omega
  subst e;exact .inl ⟨Zy _,hd σ H p⟩
def QS {c:TT}{tb:TS}{D:DQ} (Pv:St->Hp->Prop) (μ:St->Hp->Nat) (h0:Pv σ H)
  (hs:∀σ H,Pv σ H->c σ H λb H1=>if b=true then tb { D with nx:=λaJ H'=>Pv aJ H'/\μ aJ H'<μ σ H,ct:=λaJ H'=>Pv aJ H'/\μ aJ H'<μ σ H,bk:=D.nx } σ H1 else D.nx σ H1)
  (mono:∀σ H Q Q',(∀b H1,Q b H1->Q' b H1)->c σ H Q->c σ H Q'):QO c tb D σ H:=by
 refine⟨λm σ H=>m=μ σ H/\Pv σ H,⟨_,rfl,h0⟩,?_⟩;rintro m σ H ⟨rfl,p⟩;refine mono σ H _ _ (λb H1 q=>?_) (hs σ H p);cases b with
 |true=>exact⟨_,λaJ H' ⟨p',l⟩=>⟨_,l,rfl,p'⟩,q⟩
 |false=>exact q
abbrev R2:=V->V->Hp->VK->Prop
def cS (X:Cx) (f:Value->Value->Sem Value) (r:R2):Prop :=
 ∀(aa:LO) (s:Xj) (σ:St) (H:Hp) (x y:V) (v u:Value) (Q:VK),Inv X aa σ H s->RelV x v->RelV y u->r x y H Q ->
  wpAny (model X.prog X.w) X.A (f v u) (EP X aa σ Q) X.xe s
def UnR (X:Cx) (f:Value->Sem Value) (r:V->Hp->VK->Prop):Prop :=
 ∀(aa:LO) (s:Xj) (σ:St) (H:Hp) (x:V) (v:Value) (Q:VK),Inv X aa σ H s->RelV x v->r x H Q ->
  wpAny (model X.prog X.w) X.A (f v) (EP X aa σ Q) X.xe s
def aS (X:Cx) (f:Value) (r:Xh->Hp->VK->Prop):Prop :=
 ∀(aa:LO) (s:Xj) (σ:St) (H:Hp) (xs:Xh) (us:Xg) (Q:VK),Inv X aa σ H s->Vals xs us->r xs H Q ->
  wpAny (model X.prog X.w) X.A (call f us) (EP X aa σ Q) X.xe s
def iG (r:R2) (ta tb:TE):TE:=λσ H Q=>ta σ H λx H1=>tb σ H1 λy H2=>r x y H2 Q
def tUn (r:V->Hp->VK->Prop) (ta:TE):TE:=λσ H Q=>ta σ H λx H1=>r x H1 Q
def rI (C:Int->Int->Prop) (g:Int->Int->V):R2:=λx y H Q=>ExI x y λi j=>C i j/\Q (g i j) H
def ir (g:Int->Int->V):R2:=λx y H Q=>ExI x y λi j=>Q (g i j) H
def rU (g:Int->V):V->Hp->VK->Prop:=λx H Q=>∃i,x=.int i/\Q (g i) H
section
variable {a b c:Expr}{ta tb tc:TE}
def UU (ha:PE X a ta) (hb:PE X b tb) {R:V->V->Hp->Prop} (I:Inv X aa σ H s)
  (h:ta σ H λx H1=>tb σ H1 λy H2=>R x y H2) {Q:VS}{f:Value->Value->Sem Value}
  (hf:∀v u s2 x y H2,Inv X aa σ H2 s2->RelV x v->RelV y u->R x y H2->wpAny (model X.prog X.w) X.A (f v u) Q X.xe s2) :
  wpAny (model X.prog X.w) X.A (eval a X.env) (λv aF=>wpAny (model X.prog X.w) X.A (eval b X.env) (λu s₂=>wpAny (model X.prog X.w) X.A (f v u) Q X.xe s₂) X.xe aF) X.xe s:=by
 refine aG (ha aa s σ H _ I h) λv s1 ⟨x,H1,I1,r1,q1⟩=>?_;refine aG (hb aa s1 σ H1 _ I1 q1) λu s2 ⟨y,H2,I2,r2,q2⟩=>?_;exact hf v u s2 x y H2 I2 r1 r2 q2
def Ac {op:Operator}{r:R2} (ho:cS X (binaryOp op) r) (ha:PE X a ta) (hb:PE X b tb):PE X (.BinOp a op b pos) (iG r ta tb):=by
 intro aa s σ H Q I h;exact wpAny_BinOp (UU ha hb I h λv u s2 x y H2 I2 rx ry q=>ho aa s2 σ H2 x y v u Q I2 rx ry q)
def Eg {op:UnaryOp}{r:V->Hp->VK->Prop} (ho:UnR X (unaryOp op) r) (ha:PE X a ta):PE X (.UnaryOp op a pos) (tUn r ta):=by
 intro aa s σ H Q I h;exact UnaryOp_ (aG (ha aa s σ H _ I h) λv s1 ⟨x,H1,I1,r1,q1⟩=>ho aa s1 σ H1 x v Q I1 r1 q1)
def jX {f:Value->Value->Sem Value}{C:Int->Int->Prop}{g:Int->Int->Int}
  (rule:∀(i j:Int) (t u:Tok) (s:Xj) (Q:VS) (E:VS),C i j->Q (.int (g i j) s.toks) { s with toks:=s.toks+1 }->wpAny (model X.prog X.w) X.A (f (.int i t) (.int j u)) Q E s) :
  cS X f (rI C λi j=>.int (g i j)):=by
 intro aa s σ H x y v u Q I rx ry h;obtain⟨i,j,rfl,rfl,hc,q⟩:=h;obtain⟨t,rfl⟩:=rx;obtain⟨t',rfl⟩:=ry;exact rule i j t t' s _ _ hc ⟨.int (g i j),H,I.tok _,⟨_,Zj⟩,q⟩
def Ml {f:Value->Value->Sem Value}{g:Int->Int->Int}
  (rule:∀(i j:Int) (t u:Tok) (s:Xj) (Q:VS) (E:VS),Q (.int (g i j) s.toks) { s with toks:=s.toks+1 }->wpAny (model X.prog X.w) X.A (f (.int i t) (.int j u)) Q E s) :
  cS X f (ir λi j=>.int (g i j)):=by
 intro aa s σ H x y v u Q I rx ry h;obtain⟨i,j,rfl,rfl,q⟩:=h;obtain⟨t,rfl⟩:=rx;obtain⟨t',rfl⟩:=ry;exact rule i j t t' s _ _ ⟨.int (g i j),H,I.tok _,⟨_,Zj⟩,q⟩
def SS {f:Value->Value->Sem Value}{g:Int->Int->Bool}
  (rule:∀(i j:Int) (t u:Tok) (s:Xj) (Q:VS) (E:VS),Q (.bool (g i j)) s->wpAny (model X.prog X.w) X.A (f (.int i t) (.int j u)) Q E s) :
  cS X f (ir λi j=>.bl (g i j)):=by
 intro aa s σ H x y v u Q I rx ry h;obtain⟨i,j,rfl,rfl,q⟩:=h;obtain⟨t,rfl⟩:=rx;obtain⟨t',rfl⟩:=ry;exact rule i j t t' s _ _ ⟨.bl (g i j),H,I,Zj,q⟩
def Wv (i j:Int):Prop:=0<j/\j<1073741824
def SU (i j:Int):Prop:=0<=j/\j<=1000000/\i.natAbs<2 ^ 64
def CMul (i j:Int):Prop:=(-(2 ^ 64)<i/\i<2 ^ 64)\/(-(2 ^ 64)<j/\j<2 ^ 64)
def CMul.ok {i j:Int} (h:CMul i j):IntMulOk i j:=by
 rcases h with⟨h1,h2⟩ |⟨h1,h2⟩
 ·exact .of_left (intBits_le_64 h1 h2)
 ·exact .of_right (intBits_le_64 h1 h2)
def Mm (k:Nat):(0:Int)<=2 ^ k:=by
 rw[two_pow_cast];exact Z1 _
def C3:cS X (binaryOp .Add) (ir λi j=>.int (i+j)):=Ml λ_ _ _ _ _ _ _ q=>add_int q
def Cg:cS X (binaryOp .Sub) (ir λi j=>.int (i - j)):=Ml λ_ _ _ _ _ _ _ q=>sub_int q
def HZ:cS X (binaryOp .Mult) (rI CMul λi j=>.int (i*j)):=jX λ_ _ _ _ _ _ _ hc q=>mul_int q hc.ok
def N0:cS X (binaryOp .FloorDiv) (rI Wv λi j=>.int (i / j)):=jX λi j _ _ _ _ _ hc q=>by
 have h1:(0:Int)<j:=hc.1;have h2:j<1073741824:=hc.2;exact floordiv_int qe (by rw[Int.fdiv_eq_ediv_of_nonneg i qe];exact q) (.inl (PyProof.noPylong_small qe))
def Ep:cS X (binaryOp .Mod) (rI (λ_ j=>0<j) λi j=>.int (i % j)):=jX λi j _ _ _ _ _ hc q=>by
 have h1:(0:Int)<j:=hc;exact mod_int' qe (by rw[Int.fmod_eq_emod_of_nonneg i qe];exact q)
def Er:cS X (binaryOp .Pow) (rI SU λi j=>.int (i ^ j.toNat)):=jX λ_ _ _ _ _ _ _ hc q=>pow_int_small hc.1 hc.2.1 hc.2.2 q
def J8:cS X (binaryOp .LShift) (rI SU λi j=>.int (i*2 ^ j.toNat)):=jX λ_ _ _ _ _ _ _ hc q=>lshift_int_small hc.1 hc.2.1 hc.2.2 q
def UV:cS X (binaryOp .RShift) (rI (λ_ j=>0<=j) λi j=>.int (i / 2 ^ j.toNat)):=jX λi j _ _ _ _ _ hc q =>
 rshift_int hc (by rw[Int.fdiv_eq_ediv_of_nonneg i (Mm _)];exact q)
def DS:cS X (binaryOp .BitAnd) (ir λi j=>.int (Builtin.bitAnd i j)):=Ml λ_ _ _ _ _ _ _ q=>and_int q
def Kz:cS X (binaryOp .BitOr) (ir λi j=>.int (Builtin.bitOr i j)):=Ml λ_ _ _ _ _ _ _ q=>or_int q
def QT:cS X (binaryOp .BitXor) (ir λi j=>.int (Builtin.bitXor i j)):=Ml λ_ _ _ _ _ _ _ q=>xor_int q
def N1:cS X (inplaceOp .Add) (ir λi j=>.int (i+j)):=Ml λ_ _ _ _ _ _ _ q=>iadd_int q
def UW:cS X (inplaceOp .BitOr) (ir λi j=>.int (Builtin.bitOr i j)):=Ml λ_ _ _ _ _ _ _ q=>ior_int q
def unI {f:Value->Sem Value}{g:Int->Int}
  (rule:∀(i:Int) (t:Tok) (s:Xj) (Q:VS) (E:VS),Q (.int (g i) s.toks) { s with toks:=s.toks+1 }->wpAny (model X.prog X.w) X.A (f (.int i t)) Q E s) :
  UnR X f (rU λi=>.int (g i)):=by
 intro aa s σ H x v Q I rx h;obtain⟨i,rfl,q⟩:=h;obtain⟨t,rfl⟩:=rx;exact rule i t s _ _ ⟨.int (g i),H,I.tok _,⟨_,Zj⟩,q⟩
def Dx:UnR X (unaryOp .USub) (rU λi=>.int (-i)):=unI λ_ _ _ _ _ q=>neg_int q
def QU:UnR X (unaryOp .Invert) (rU λi=>.int (Builtin.bitNot i)):=unI λ_ _ _ _ _ q=>invert_int q
end
noncomputable def Vq:V->V->Bool
 | .aO,.aO=>true | .aO,.int _=>true | .int _,.aO=>true | .aO,.bl _=>true | .bl _,.aO=>true | .aO,.str _=>true | .str _,.aO=>true
 | .int _,.int _=>true | .bl _,.bl _=>true | .str _,.str _=>true | .iN _,.iN _=>true
 | .int _,.str _=>true | .str _,.int _=>true | .bl _,.str _=>true | .str _,.bl _=>true
 |_,_=>false
def rEq:R2:=λx y H Q=>Vq x y=true/\Q (.bl (decide (x=y))) H
def rNe:R2:=λx y H Q=>Vq x y=true/\Q (.bl (!decide (x=y))) H
def N2 {i j:Int}:decide (V.int i=V.int j)=(i==j):=by
 rw[Bool.eq_iff_iff];simp
def QV {i j:Bool}:decide (V.bl i=V.bl j)=(i==j):=by
 rw[Bool.eq_iff_iff];simp
def N3 {i j:Str}:decide (V.str i=V.str j)=(i==j):=by
 rw[Bool.eq_iff_iff];simp
def N4 {i j:Array UInt8}:decide (V.iN i=V.iN j)=(i.toList==j.toList):=by
 rw[Bool.eq_iff_iff];cases i;cases j;simp
section
variable {a b c:Expr}{ta tb tc:TE}
def Ao {Q:VK}{k k':Bool} (I:Inv X aa σ H s) (q:Q (.bl k) H) (e:k=k'):EP X aa σ Q (.bool k') s:=by
 subst e;exact⟨.bl k,H,I,Zj,q⟩
def Ax:cS X (compareOp .Eq) rEq:=by
 intro aa s σ H x y v u Q I rx ry h;obtain⟨hs,q⟩:=h;cases x with
 |aO =>
  cases rx;cases y with
  |aO=>cases ry;exact PySem.EqNone.eq_none_none (Ao I q (by simp))
  |bl j=>cases ry;exact PySem.EqNone.eq_none_bool (Ao I q (by simp))
  |int j=>obtain⟨t',rfl⟩:=ry;exact PySem.EqNone.eq_none_int (Ao I q (by simp))
  |str j=>obtain⟨t',rfl⟩:=ry;exact PySem.EqNone.eq_none_str (Ao I q (by simp))
  |_=>exact absurd (show false=true from hs) Bool.false_ne_true
 |bl i =>
  cases rx;cases y with
  |aO=>cases ry;exact PySem.EqNone.eq_bool_none (Ao I q (by simp))
  |bl j=>cases ry;exact eq_bool (Ao I q QV)
  |str j=>obtain⟨t',rfl⟩:=ry;exact PySem.EqMixed.eq_bool_str (Ao I q (by simp))
  |_=>exact absurd (show false=true from hs) Bool.false_ne_true
 |int i =>
  obtain⟨t,rfl⟩:=rx;cases y with
  |aO=>cases ry;exact PySem.EqNone.eq_int_none (Ao I q (by simp))
  |int j=>obtain⟨t',rfl⟩:=ry;exact eq_int (Ao I q N2)
  |str j=>obtain⟨t',rfl⟩:=ry;exact PySem.EqMixed.eq_int_str (Ao I q (by simp))
  |_=>exact absurd (show false=true from hs) Bool.false_ne_true
 |str i =>
  obtain⟨t,rfl⟩:=rx;cases y with
  |aO=>cases ry;exact PySem.EqNone.eq_str_none (Ao I q (by simp))
  |bl j=>cases ry;exact PySem.EqMixed.eq_str_bool (Ao I q (by simp))
  |int j=>obtain⟨t',rfl⟩:=ry;exact PySem.EqMixed.eq_str_int (Ao I q (by simp))
  |str j=>obtain⟨t',rfl⟩:=ry;exact eq_str (Ao I q N3)
  |_=>exact absurd (show false=true from hs) Bool.false_ne_true
 |iN i =>
  obtain⟨t,rfl⟩:=rx;cases y with
  |iN j=>obtain⟨t',rfl⟩:=ry;exact W.eq_bytes (Ao I q N4)
  |_=>exact absurd (show false=true from hs) Bool.false_ne_true
 |_=>cases y <;> exact absurd (show false=true from hs) Bool.false_ne_true
def FN:cS X (compareOp .NotEq) rNe:=by
 intro aa s σ H x y v u Q I rx ry h;obtain⟨hs,q⟩:=h;cases x with
 |aO =>
  cases rx;cases y with
  |aO=>cases ry;exact PySem.EqNone.ne_none_none (Ao I q (by simp))
  |bl j=>cases ry;exact PySem.EqNone.ne_none_bool (Ao I q (by simp))
  |int j=>obtain⟨t',rfl⟩:=ry;exact PySem.EqNone.ne_none_int (Ao I q (by simp))
  |str j=>obtain⟨t',rfl⟩:=ry;exact PySem.EqNone.ne_none_str (Ao I q (by simp))
  |_=>exact absurd (show false=true from hs) Bool.false_ne_true
 |bl i =>
  cases rx;cases y with
  |aO=>cases ry;exact PySem.EqNone.ne_bool_none (Ao I q (by simp))
  |bl j=>cases ry;exact ne_bool (Ao I q (congrArg not QV))
  |str j=>obtain⟨t',rfl⟩:=ry;exact PySem.EqMixed.ne_bool_str (Ao I q (by simp))
  |_=>exact absurd (show false=true from hs) Bool.false_ne_true
 |int i =>
  obtain⟨t,rfl⟩:=rx;cases y with
  |aO=>cases ry;exact PySem.EqNone.ne_int_none (Ao I q (by simp))
  |int j=>obtain⟨t',rfl⟩:=ry;exact ne_int (Ao I q (congrArg not N2))
  |str j=>obtain⟨t',rfl⟩:=ry;exact PySem.EqMixed.ne_int_str (Ao I q (by simp))
  |_=>exact absurd (show false=true from hs) Bool.false_ne_true
 |str i =>
  obtain⟨t,rfl⟩:=rx;cases y with
  |aO=>cases ry;exact PySem.EqNone.ne_str_none (Ao I q (by simp))
  |bl j=>cases ry;exact PySem.EqMixed.ne_str_bool (Ao I q (by simp))
  |int j=>obtain⟨t',rfl⟩:=ry;exact PySem.EqMixed.ne_str_int (Ao I q (by simp))
  |str j=>obtain⟨t',rfl⟩:=ry;exact ne_str (Ao I q (congrArg not N3))
  |_=>exact absurd (show false=true from hs) Bool.false_ne_true
 |iN i =>
  obtain⟨t,rfl⟩:=rx;cases y with
  |iN j=>obtain⟨t',rfl⟩:=ry;exact W.ne_bytes (Ao I q (congrArg not N4))
  |_=>exact absurd (show false=true from hs) Bool.false_ne_true
 |_=>cases y <;> exact absurd (show false=true from hs) Bool.false_ne_true
def Gz:cS X (compareOp .Lt) (ir λi j=>.bl (decide (i<j))):=SS λ_ _ _ _ _ _ _ q=>lt_int q
def FO:cS X (compareOp .LtE) (ir λi j=>.bl (decide (i<=j))):=SS λ_ _ _ _ _ _ _ q=>le_int q
def G3:cS X (compareOp .Gt) (ir λi j=>.bl (decide (j<i))):=SS λ_ _ _ _ _ _ _ q=>gt_int q
def K0:cS X (compareOp .GtE) (ir λi j=>.bl (decide (j<=i))):=SS λ_ _ _ _ _ _ _ q=>ge_int q
def cS.or {f:Value->Value->Sem Value}{r r':R2} (h:cS X f r) (h':cS X f r'):cS X f (λx y H Q=>r x y H Q\/r' x y H Q):=by
 intro aa s σ H x y v u Q I rx ry q;rcases q with q |q
 ·exact h aa s σ H x y v u Q I rx ry q
 ·exact h' aa s σ H x y v u Q I rx ry q
def AS (b:Expr) {op:CmpOp} (h:op≠ .In:=by decide) (h2:op≠ .NotIn:=by decide):behindInMarks op b=false:=by
 have e1:(op==CmpOp.In)=false:=by cases op <;> first |rfl |exact absurd rfl h
 have e2:(op==CmpOp.NotIn)=false:=by cases op <;> first |rfl |exact absurd rfl h2
 cases b <;> simp[behindInMarks,e1,e2]
def ES {op:CmpOp}{r:R2} (ho:cS X (compareOp op) r) (ha:PE X a ta) (hb:PE X b tb) (hm:behindInMarks op b=false):PE X (.Compare a [op] [b] pos) (iG r ta tb):=by
 intro aa s σ H Q I h;exact wpAny_Compare1 (UU ha hb I h λv u s2 x y H2 I2 rx ry q=>ho aa s2 σ H2 x y v u Q I2 rx ry q) hm
def QW (t:TE):TT:=λσ H Q=>t σ H λx H'=>ExB x λk=>Q k H'
def AL {op:CmpOp}{r:R2} (ho:cS X (compareOp op) r) (ha:PE X a ta) (hb:PE X b tb) (hm:behindInMarks op b=false):PT X (.Compare a [op] [b] pos) (QW (iG r ta tb)):=by
 intro aa s σ H Q I h
 refine wpAny_isTrue_Compare1 (aG (ha aa s σ H _ I h) λv s1 ⟨x,H1,I1,r1,q1⟩=>aG (hb aa s1 σ H1 _ I1 q1) λu s2 ⟨y,H2,I2,r2,q2⟩ =>
  aG (ho aa s2 σ H2 x y v u _ I2 r1 r2 q2) λc s3 ⟨z,H3,I3,r3,k,e,q3⟩=>?_) hm
 subst e;cases r3;exact Z0 ⟨H3,I3,q3⟩
def QX (r r':R2) (ta tb tc:TE):TE:=λσ H Q=>ta σ H λx H1=>tb σ H1 λy H2=>r x y H2 λz H3=>∃k,z=.bl k /\
 (if k=true then tc σ H3 λw' H4=>r' y w' H4 Q else Q (.bl false) H3)
def FP {op op':CmpOp}{r r':R2} (ho:cS X (compareOp op) r) (gY:cS X (compareOp op') r') (ha:PE X a ta) (hb:PE X b tb) (hc:PE X c tc)
  (hm:lastMarks [op,op'] [b,c]=false:=by with_unfolding_all rfl):PE X (.Compare a [op,op'] [b,c] pos) (QX r r' ta tb tc):=by
 intro aa s σ H Q I h
 refine Compare_chain (aG (ha aa s σ H _ I h) λv s1 ⟨x,H1,I1,r1,q1⟩=>chain_link (aG (hb aa s1 σ H1 _ I1 q1) λu s2 ⟨y,H2,I2,r2,q2⟩ =>
  aG (ho aa s2 σ H2 x y v u _ I2 r1 r2 q2) λd s3 ⟨z,H3,I3,r3,k,e,q3⟩=>?_)) hm
 subst e;cases r3;refine Z0 ?_;cases k with
 |false=>exact ite_ff ⟨.bl false,H3,I3,rfl,q3⟩
 |true=>exact ite_tt (chain_last (aG (hc aa s3 σ H3 _ I3 q3) λw' s4 ⟨z',H4,I4,r4,q4⟩=>gY aa s4 σ H4 y z' u w' Q I4 r2 r4 q4))
def FQ {op op':CmpOp}{r r':R2} (ho:cS X (compareOp op) r) (gY:cS X (compareOp op') r') (ha:PE X a ta) (hb:PE X b tb) (hc:PE X c tc)
  (hm:lastMarks [op,op'] [b,c]=false:=by with_unfolding_all rfl):PT X (.Compare a [op,op'] [b,c] pos) (QW (QX r r' ta tb tc)):=by
 intro aa s σ H Q I h
 refine isTrue_chain (aG (ha aa s σ H _ I h) λv s1 ⟨x,H1,I1,r1,q1⟩=>test_link (aG (hb aa s1 σ H1 _ I1 q1) λu s2 ⟨y,H2,I2,r2,q2⟩ =>
  aG (ho aa s2 σ H2 x y v u _ I2 r1 r2 q2) λd s3 ⟨z,H3,I3,r3,k,e,q3⟩=>?_)) hm
 subst e;cases r3;refine Z0 ?_;cases k with
 |false =>
  obtain⟨k',e',q'⟩:=q3;cases e';exact ite_ff ⟨H3,I3,q'⟩
 |true =>
  refine ite_tt (test_last (aG (hc aa s3 σ H3 _ I3 q3) λw' s4 ⟨z',H4,I4,r4,q4⟩=>aG (gY aa s4 σ H4 y z' u w' _ I4 r2 r4 q4) λd' s5 ⟨z2,H5,I5,r5,k2,e2,q5⟩=>?_));subst e2;cases r5;exact Z0 ⟨H5,I5,q5⟩
def GY:(sizeLine:Nat)<2 ^ 63:=by rw[sizeLine_eq];decide
def BN:cS X (binaryOp .Add) (λx y H Q=>∃i j,x=.str i/\y=.str j/\i.length+j.length<=sizeLine/\Q (.str (i++j)) H):=by
 intro aa s σ H x y v u Q I rx ry h;obtain⟨i,j,rfl,rfl,hz,q⟩:=h;obtain⟨t,rfl⟩:=rx;obtain⟨t',rfl⟩:=ry;exact add_str (λt' tk=>⟨.str (i++j),H,I.tok _,⟨_,Zj⟩,q⟩) hz
def Br {x:V} (r:Vals [x] us):∃u,us=[u]/\RelV x u:=by
 cases r with
 |cons r1 r2=>cases r2;exact⟨_,Zj,r1⟩
def Hf {x y:V} (r:Vals [x,y] us):∃u w',us=[u,w']/\RelV x u/\RelV y w':=by
 cases r with
 |cons r1 r2 =>
  cases r2 with
  |cons r3 r4=>cases r4;exact⟨_,_,Zj,r1,r3⟩
def O8 (hc:X.calm=true):aS X (.builtin "max") (λxs H Q=>∃i j,xs=[.int i,.int j]/\Q (.int (if j>i then j else i)) H):=by
 intro aa s σ H xs us Q I r h;obtain⟨i,j,rfl,q⟩:=h;obtain⟨u,w',rfl,⟨t,rfl⟩,⟨t',rfl⟩⟩:=Hf r;refine max_two_ints (I.ok.hd hc) λh' tk k=>⟨_,H,I.kept k,?_,q⟩;by_cases hj:j>i
 ·rw[Zp hj,Zp hj];exact⟨_,Zj⟩
 ·rw[Zq hj,Zq hj];exact⟨_,Zj⟩
def O9 (hc:X.calm=true):aS X (.builtin "min") (λxs H Q=>∃i j,xs=[.int i,.int j]/\Q (.int (if j<i then j else i)) H):=by
 intro aa s σ H xs us Q I r h;obtain⟨i,j,rfl,q⟩:=h;obtain⟨u,w',rfl,⟨t,rfl⟩,⟨t',rfl⟩⟩:=Hf r;refine min_two_ints (I.ok.hd hc) λh' tk k=>⟨_,H,I.kept k,?_,q⟩;by_cases hj:j<i
 ·rw[Zp hj,Zp hj];exact⟨_,Zj⟩
 ·rw[Zq hj,Zq hj];exact⟨_,Zj⟩
def JO:aS X (.type "int") (λxs H Q=>(∃i,xs=[.int i]/\Q (.int i) H)\/∃k,xs=[.bl k]/\Q (.int (if k then 1 else 0)) H):=by
 intro aa s σ H xs us Q I r h;rcases h with⟨i,rfl,q⟩ |⟨k,rfl,q⟩
 ·obtain⟨u,rfl,t,rfl⟩:=Br r;exact call_int_int ⟨.int i,H,I,⟨_,Zj⟩,q⟩
 ·obtain⟨u,rfl,r1⟩:=Br r;cases r1;exact call_int_bool ⟨.int (if k then 1 else 0),H,I.tok _,⟨_,Zj⟩,q⟩
def J9:aS X (.type "str") (λxs H Q=>∃i,xs=[.int i]/\i.natAbs.log2<1920/\Q (.str (toString i)) H):=by
 intro aa s σ H xs us Q I r h;obtain⟨i,rfl,hz,q⟩:=h;obtain⟨u,rfl,t,rfl⟩:=Br r;exact PySem.P.str_of_int hz ⟨.str _,H,I.tok _,⟨_,Zj⟩,q⟩
end
structure ObjM (h:Heap) (x dx C:Xi) (mA:SV):Prop where
 obj:h.get? x=some (W.instObj C dx)
 ns:h.Ns1 dx mA
 ne:dx≠x
def JP {dx:Xi}{mA:SV} (n:h.Ns1 dx mA):∃od,h.get? dx=some od/\∀name,W.lookIn name od=some (mA name):=by
 obtain⟨o,es,ep,ho,hd,hk,_,hm⟩:=n;refine⟨o,ho,λname=>?_⟩;have e:=hm name;unfold nsFind findBy at e;rw[←Array.find?_toList]at e;unfold W.lookIn;rw[hd]
 dsimp only
 split
 ·rename_i y q;rw[q]at e;exact congrArg some e
 ·rename_i q;rw[q]at e
  have a:es.toList.any (·.refKey)=false:=by
   rw[List.any_eq_false];intro y hy;obtain⟨z,t,dc⟩:=hk y (Array.mem_toList_iff.mp hy);simp[DictEntry.refKey,dc]
  have a':¬ es.toList.any (·.refKey)=true:=by rw[a];exact Bool.false_ne_true
  rw[Zq a'];exact congrArg some e
def ObjM.look {x dx:Xi}{mA:SV} (I:ObjM h x dx C mA):∃od,W.InstAt h x (W.instObj C dx) C (some od)/\∀name,W.lookIn name od=some (mA name) :=
 let ⟨od,ho,hl⟩:=JP I.ns
 ⟨od,⟨I.obj,rfl,rfl,ho⟩,hl⟩
section
variable {prog:Program}{x dx f:Xi}{mA:SV}{name:Str}{v:Value}
def SW {expr:Bool}{Q:VS} (X:K.In s.heap) (I:ObjM s.heap x dx C mA) (hg:W.plainGet K C name=true) (hh:W.hasDictIn K C=true)
  (ha:W.findIn K (.ref C) name=some none) (hv:mA name=some v) (jE:W.handedIn v=true) (h:Q v { s with toks:=s.toks+1 }) :
  wpAny (model prog w) A (getAttr (.ref x) name expr) Q E s:=by
 obtain⟨od,J,hl⟩:=I.look;exact W.get_value X J (W.plainGet_of hg).1 (W.findObj_own hh ha Zj (by rw[hl,hv])) jE h
def QY {pl:Sem Bool}{Q:Value×Xg->Xj->Prop} (X:K.In s.heap) (I:ObjM s.heap x dx C mA) (hg:W.plainGet K C name=true)
  (hf:W.findIn K (.ref C) name=some (some (.ref f))) (ht:W.isFn K (.ref f)=true) (hv:mA name=none) (h:Q (.ref f,[.ref x]) s) :
  wpAny (model prog w) A (getMethod (.ref x) name pl) Q E s:=by
 obtain⟨od,J,hl⟩:=I.look;exact W.method_fn X J (W.plainGet_of hg).1 (W.plainGet_of hg).2 hf (beq_iff_eq.mp ht) (by show(W.lookIn name od).map (·.isSome)=some false;rw[hl,hv];rfl) h
def SY {ns:Xf}{Q:Unit->Xj->Prop} (X:K.In s.heap) (I:ObjM s.heap x dx C mA)
  (hs:W.findIn K (.ref C) "__setattr__" = some (some (.builtin "object.__setattr__"))) (hp:W.plainOver K C=true) (ht:W.takerIn K C name=some none) (hh:W.hasDictIn K C=true)
  (hw:PySem.Within mA ns) (hsz:ns.length<=sizeLine)
  (h:∀h',ObjM h' x dx C (λy=>if y=name then some v else mA y)->Heap.SameBut dx s.heap h'->Q () { s with heap:=h',toks:=s.toks+2 }) :
  wpAny (model prog w) A (setAttr (.ref x) name v) Q E s:=by
 obtain⟨od,J,hl⟩:=I.look;refine W.set_plain X J hs (W.osa_open (s:={ s with toks:=s.toks+1 }) (r:=none) X J hp ht λb=>?_);obtain⟨cd,hc,hd'⟩:=W.any_some hh;have hx:s.heap.get? x=some ⟨.ref C,some dx,.plain,#[]⟩:=I.obj;refine Zx (Zw (Zx (Zx (wpAny_loadPart hx (Zx (W.Looks.here (s:={ s with toks:=s.toks+1 }) (W.looks_clsIn X hc) ?_))))));rw[hd'];refine Zw (a:=some dx) (Zx (Zw (Zx ?_)));refine wpAny_nsSet1 (s:={ s with toks:=s.toks+1 }) I.ns λh' hn2 jF=>?_;obtain⟨oD,esD,epD,hoD,hdD,jd⟩:=hn2.count (PySem.Within.cons name v hw);refine Zx (wpAny_lookBehind hoD (by rw[hdD];exact pastItsLine_dict (Nat.le_trans jd (by rw[length_cons];omega))) ?_);exact Zw (h _ ⟨(jF.2 _ (Ne.symm I.ne)).trans I.obj,hn2,I.ne⟩ jF)
def K1 {R:Result->Xj->Prop}{vs:Xg}{kw:List (Str×Value)} (X:K.In s.heap) (hm:W.makesIn K C=true)
  (hi:W.findIn K (.ref C) "__init__" = some (some (.ref f))) (hf:W.typeIn K (.ref f)=some (.type "function"))
  (h:codeAny (model prog w) (A.under (.builtin "type.__call__" ⟨.ref C::vs,kw⟩)) (.call (.ref f) ⟨.ref (s.heap.objs.size+1)::vs,kw⟩) (W.InitBack (s.heap.objs.size+1) R)
   { s with heap:=(s.heap.push W.emptyDict).push (W.instObj C s.heap.objs.size) }) :
  codeAny (model prog w) A (.call (.ref C) ⟨vs,kw⟩) R s:=by
 obtain⟨hh,g,d,t,os⟩:=s;exact W.make_core (W.makes_of X hm) (W.looks_findIn X hi) (λself=>W.bind_fn X self hf) (.inl Zj) h
end
noncomputable def BP (f:Str) (v:V):List (Str×V)->List (Str×V)
  | []=>[(f,v)]
  | (g,x)::r=>if g=f then (g,v)::r else (g,x)::BP f v r
def AW (f g:Str) (v:V):∀fs:List (Str×V),(BP f v fs).lookup g=if g=f then some v else fs.lookup g
  | []=>by
    show List.lookup g [(f,v)]=_;by_cases h:g=f
    · have hb:(g==f)=true:=beq_iff_eq.mpr h
      simp only[List.lookup,hb,Zp h]
    · have hb:(g==f)=false:=beq_eq_false_iff_ne.mpr h
      simp only[List.lookup,hb,Zq h]
  | (k,x)::r=>by
    have ih:=AW f g v r;rw[show BP f v ((k,x)::r)=(if k=f then (k,v)::r else (k,x)::BP f v r)from rfl];by_cases hk:k=f
    · rw[Zp hk]
      by_cases h:g=k
      · have hb:(g==k)=true:=beq_iff_eq.mpr h
        simp only[List.lookup,hb,Zp (h.trans hk)]
      · have hb:(g==k)=false:=beq_eq_false_iff_ne.mpr h
        simp only[List.lookup,hb,Zq (λe:g=f=>h (e.trans hk.symm))]
    · rw[Zq hk]
      by_cases h:g=k
      · have hb:(g==k)=true:=beq_iff_eq.mpr h
        simp only[List.lookup,hb,Zq (λe:g=f=>hk (h.symm.trans e))]
      · have hb:(g==k)=false:=beq_eq_false_iff_ne.mpr h
        simp only[List.lookup,hb];exact ih
def GZ (f:Str) (v:V):∀fs:List (Str×V),f∈(BP f v fs).map (·.1)/\∀g,g∈fs.map (·.1)->g∈(BP f v fs).map (·.1)
  | []=>⟨by simp[BP],λg h=>by simp at h⟩
  | (k,x)::r=>by
    obtain⟨i1,i2⟩:=GZ f v r;rw[show BP f v ((k,x)::r)=(if k=f then (k,v)::r else (k,x)::BP f v r)from rfl];by_cases hk:k=f
    · rw[Zp hk]
      subst hk;exact⟨by simp,λg h=>by simpa using h⟩
    · rw[Zq hk]
      refine⟨?_,λg h=>?_⟩
      · rw[map_cons]
        exact ZR _ i1
      · rw[map_cons]at h ⊢
        rcases mem_cons.mp h with e |e
        · exact mem_cons.mpr (.inl e)
        · exact ZR _ (i2 g e)
def A7 (f:Str) (v:V):∀fs:List (Str×V),(BP f v fs).length<=fs.length+1
  | []=>by simp[BP]
  | (k,x)::r=>by
    have ih:=A7 f v r;rw[show BP f v ((k,x)::r)=(if k=f then (k,v)::r else (k,x)::BP f v r)from rfl];by_cases hk:k=f
    · rw[Zp hk,length_cons,length_cons];omega
    · rw[Zq hk,length_cons,length_cons];omega
def eh.some_of {v:V}{o:Option Value} (r:eh (some v) o):∃u,o=some u/\RelV v u:=by
 cases o with
 |none=>exact(show False from r).elim
 |some u=>exact⟨u,rfl,r⟩
def eh.none_of {o:Option Value} (r:eh none o):o=none:=by
 cases o with
 |none=>rfl
 |some u=>exact(show False from r).elim
def JQ {v:V} (r:RelV v u):W.handedIn u=true:=by
 cases v with
 |aO=>cases (show u=Value.none from r);rfl
 |bl b=>cases (show u=Value.bool b from r);rfl
 |int i=>obtain⟨t,e⟩:=(show ∃t,u=Value.int i t from r);cases e;rfl
 |str x=>obtain⟨t,e⟩:=(show ∃t,u=Value.str x t from r);cases e;rfl
 |iN b=>obtain⟨t,e⟩:=(show ∃t,u=Value.bytes b t from r);cases e;rfl
 |jN b=>obtain⟨t,e⟩:=(show ∃t,u=Value.float b t from r);cases e;rfl
 |ref a=>cases (show u=Value.ref a from r);rfl
 |ty n=>cases (show u=Value.type n from r);rfl
section
variable {h':Heap}{dx:Xi}{fs fs':List (Str×V)}
def HI (aD:dv P w H h) (e:H a=some (.ins C dx fs)):∃mA,ObjM h a dx C mA/\(∀f,eh (fs.lookup f) (mA f))/\PySem.Within mA (fs.map (·.1))/\fs.length<=1000/\H dx=some (.own a):=by
 obtain⟨d,z,ne,ob,mA,n,r,q⟩:=(show aP P w H h a (.ins C dx fs)from aD a _ e);exact⟨mA,⟨ob,n,ne⟩,r,q,z,d⟩
end
structure iA (K:FG) (C:Xi):Prop where
 pg:W.plainGet K C Str.empty=true
 hd:W.hasDictIn K C=true
 po:W.plainOver K C=true
 sa:W.findIn K (.ref C) "__setattr__" = some (some (.builtin "object.__setattr__"))
def iA.get (c:iA K C) (f:Str):W.plainGet K C f=true:=c.pg
def cI (K:FG) (C:Xi) (f:Str):Prop:=W.findIn K (.ref C) f=some none
def cI.taker {f:Str} (n:cI K C f):W.takerIn K C f=some none:=by
 unfold W.takerIn;rw[show W.findIn K (.ref C) f=some none from n];rfl
structure QZ (K:FG) (C:Xi) (m:Str) (f:Xi):Prop where
 at_:W.findIn K (.ref C) m=some (some (.ref f))
 fn:W.isFn K (.ref f)=true
 kp:W.keepIn K (.ref f)=true
section
variable {dx:Xi}{fs:List (Str×V)}{f:Str}{v:V}
def Mn {b:Bool}{Q:VS} (I:Inv X aa σ H s) (e:H a=some (.ins C dx fs)) (c:iA X.K C) (n:cI X.K C f) (l:fs.lookup f=some v)
  (h:∀u s',Inv X aa σ H s'->RelV v u->Q u s'):wpAny (model X.prog X.w) A (getAttr (.ref a) f b) Q E s:=by
 obtain⟨mA,O,r,_,_,_⟩:=HI I.aD e;obtain⟨u,hu,ru⟩:=eh.some_of (v:=v) (o:=mA f) (by rw[←l];exact r f);exact SW I.cV O (c.get f) c.hd n hu (JQ ru) (h u _ (I.tok _) ru)
def Hh {m:Str}{g:Xi}{pl:Sem Bool}{Q:Value×Xg->Xj->Prop} (I:Inv X aa σ H s) (e:H a=some (.ins C dx fs)) (c:iA X.K C) (k:QZ X.K C m g) (l:fs.lookup m=none)
  (h:Q (.ref g,[.ref a]) s):wpAny (model X.prog X.w) A (getMethod (.ref a) m pl) Q E s:=by
 obtain⟨mA,O,r,_,_,_⟩:=HI I.aD e;have hn:mA m=none:=eh.none_of (by rw[←l];exact r m);exact QY I.cV O (c.get m) k.at_ k.fn hn h
def Mo {y:V}{Q:Unit->Xj->Prop} (I:Inv X aa σ H s) (e:H a=some (.ins C dx fs)) (c:iA X.K C) (n:cI X.K C f) (hl:fs.length<1000) (ry:RelV y u)
  (h:∀s',Inv X aa σ (upd H a (.ins C dx (BP f y fs))) s'->Q () s'):wpAny (model X.prog X.w) A (setAttr (.ref a) f u) Q E s:=by
 obtain⟨mA,O,r,wi,_,ho⟩:=HI I.aD e;have hz:(fs.map (·.1)).length<=sizeLine:=by rw[AK,sizeLine_eq];omega
 refine SY I.cV O c.sa c.po n.taker c.hd wi hz λh' O' sb=>h _ ?_;have hd:∃o,h'.get? dx=some o:=let ⟨o,_,_,e',_⟩:=O'.ns;⟨o,e'⟩
 refine I.write (x:=a) (e:=dx) (by rw[e];exact True.intro) (.inr ho) (λb q hb z=>(sb.2 b hb).trans z) hd ?_;refine⟨by rw[AF O.ne];exact ho,?_,O.ne,O'.obj,_,O'.ns,λg=>?_,λg hg=>?_⟩
 ·have:=A7 f y fs;omega
 ·show eh ((BP f y fs).lookup g) (if g=f then some u else mA g);rw[AW];by_cases q:g=f
  ·rw[Zp q,Zp q];exact ry
  ·rw[Zq q,Zq q];exact r g
 ·by_cases q:g=f
  ·rw[q];exact(GZ f y fs).1
  ·refine(GZ f y fs).2 g (wi g λz=>hg ?_);show(if g=f then some u else mA g)=none;rw[Zq q];exact z
def Inv.made (I:Inv X aa σ H s):Inv X aa σ (upd (upd H s.heap.objs.size (.own (s.heap.objs.size+1))) (s.heap.objs.size+1) (.ins C s.heap.objs.size []))
  { s with heap:=(s.heap.push W.emptyDict).push (W.instObj C s.heap.objs.size) }:=by
 have e1:(s.heap.push W.emptyDict).get? s.heap.objs.size=some W.emptyDict:=ZN s.heap rfl
 have e2:((s.heap.push W.emptyDict).push (W.instObj C s.heap.objs.size)).get? (s.heap.objs.size+1)=some (W.instObj C s.heap.objs.size):=by
  have:=ZN (s.heap.push W.emptyDict) (o:=W.instObj C s.heap.objs.size) rfl
  rwa[Heap.size_push]at this
 have e3:(s.heap.push W.emptyDict).Ns s.heap.objs.size (λ_=>none):=⟨W.emptyDict,#[],_,e1,rfl,(λe he=>absurd he (by simp)),λ_=>rfl⟩;have I1:=I.laid (a:=s.heap.objs.size) (o:=.own (s.heap.objs.size+1)) (h':=s.heap.push W.emptyDict) (t':=s.toks) (λb u q=>ZX _ q) (Zy _) ⟨_,e1⟩;refine I1.laid (a:=s.heap.objs.size+1) (o:=.ins C s.heap.objs.size []) (t':=s.toks) (λb u q=>ZX _ q) (Nat.le_of_eq (Heap.size_push _ _)) ?_;have ne:s.heap.objs.size≠s.heap.objs.size+1:=ZC (Nat.lt_succ_self _);refine⟨by rw[AF ne,AB],Nat.zero_le _,ne,e2,λ_=>none,(Heap.Ns1.of_empty e3).at λo q=>ZX _ q,λ_=>True.intro,λy hy=>absurd Zj hy⟩
def N5 {prog:Program}{env:Env}{f:Str}{Q:VS} (hb:attributeBase e f env (eval e env)=eval e env)
  (h:wpAny (model prog w) A (eval e env) (λo aF=>wpAny (model prog w) A (getAttr o f true) Q E aF) E s):wpAny (model prog w) A (eval (.Attribute e f pos) env) Q E s :=
 Attribute_any_ h (by rw[arm_eval_Attribute,hb])
end
inductive ExF (K:FG) (x:V) (H:Hp) (f:Str) (k:V->Prop):Prop where
 |mk (a C dx:Xi) (fs:List (Str×V)) (v:V) (h1:x=.ref a) (h2:H a=some (.ins C dx fs)) (h3:iA K C) (h4:cI K C f) (h5:fs.lookup f=some v) (q:k v):ExF K x H f k
def Ww (K:FG) (ta:TE) (f:Str):TE:=λσ H Q=>ta σ H λx H1=>ExF K x H1 f λv=>Q v H1
def Wx (K:FG) (ta tv:TE) (f:Str):TS:=λD σ H=>tv σ H λy H1=>ta σ H1 λx H2=>∃a C dx fs,x=.ref a/\H2 a=some (.ins C dx fs)/\iA K C/\cI K C f/\fs.length<1000 /\
 D.nx σ (upd H2 a (.ins C dx (BP f y fs)))
section
variable {o value:Expr}{f:Str}{pos' tpos:Pos}{ta tv:TE}
def BH (he:PE X e ta) (hb:attributeBase e f X.env (eval e X.env)=eval e X.env):PE X (.Attribute e f pos) (Ww X.K ta f):=by
 intro aa s σ H Q I h;refine N5 hb (aG (he aa s σ H _ I h) λu s1 ⟨x,H1,I1,rx,a,C,dx,fs,v,ex,ea,c,n,l,q⟩=>?_);subst ex;obtain rfl:u=Value.ref a:=rx;exact Mn I1 ea c n l λu' s2 I2 ru=>⟨v,H1,I2,ru,q⟩
def C4 (ha:PE X o ta) (hv:PE X value tv) (hs:swapsWith value (some (.Attribute o f pos')) pos.line X.env=pure false):PS X (.Assign [.Attribute o f pos'] value pos) (Wx X.K ta tv f):=by
 intro aa s σ H D I h;refine plainObj_wpAny_Assign_Attribute (aG (hv aa s σ H _ I h) λu s1 ⟨y,H1,I1,ry,q⟩=>aG (ha aa s1 σ H1 _ I1 q) λov s2 ⟨x,H2,I2,rx,a,C,dx,fs,ex,ea,c,n,l,q2⟩=>?_) hs;subst ex;obtain rfl:ov=Value.ref a:=rx;exact Mo I2 ea c n l ry λs3 I3=>⟨σ,_,I3,q2⟩
end
section
variable {Q:VS}{c:Value}{b:Bool}
inductive dY (K:FG) (H:Hp):V->Value->Prop where
 |aO:dY K H .aO (.type "NoneType")
 |bl (x:Bool):dY K H (.bl x) (.type "bool")
 |int (i:Int):dY K H (.int i) (.type "int")
 |str (x:Str):dY K H (.str x) (.type "str")
 |jN (x:UInt64):dY K H (.jN x) (.type "float")
 |lst {a:Xi}{xs:Xh} (e:H a=some (.lst xs)):dY K H (.ref a) (.type "list")
 |bG {a:Xi}{o:Obj}{xs:Xh} (e:H a=some (.bG o (.lst xs))):dY K H (.ref a) (.type "list")
 |tup {a:Xi}{xs:Xh} (e:H a=some (.tup xs)):dY K H (.ref a) (.type "tuple")
 |dK {a:Xi}{kvs:LK} (e:H a=some (.dK kvs)):dY K H (.ref a) (.type "dict")
 |dT {a:Xi}{kvs:List (List Key×V)} (e:H a=some (.dT kvs)):dY K H (.ref a) (.type "dict")
 |ins {a C dx:Xi}{fs:List (Str×V)} (e:H a=some (.ins C dx fs)) (cl:iA K C) (ha:W.findIn K (.ref C) "__class__" = some (some (.builtin "object.__class__")))
   (hn:W.specialIn K (.builtin "object.__class__") "__get__" = some (some (.builtin "getset_descriptor.__get__"))) (htk:W.takesIn K (.builtin "object.__class__")=some true)
   (hm:W.mroIn K C (.type "object")=some true):dY K H (.ref a) (.ref C)
def JR {x:V}{t:Value} (I:Inv X aa σ H s) (rx:RelV x u) (ty:dY X.K H x t) (e:W.kitOne X.K t c=some b) (h:∀tk,Q (.bool b) { s with toks:=tk }) :
  wpAny (model X.prog X.w) A (call (.builtin "isinstance") [u,c]) Q E s:=by
 cases ty with
 |aO=>cases (show u=Value.none from rx);exact W.kia_one W.kitx_none I.cV True.intro e (λz=>nomatch z) h
 |bl y=>cases (show u=Value.bool y from rx);exact W.kia_one W.kitx_bool I.cV True.intro e (λz=>nomatch z) h
 |int i=>obtain⟨t,q⟩:=(show ∃t,u=Value.int i t from rx);cases q;exact W.kia_one W.kitx_int I.cV True.intro e (λz=>nomatch z) h
 |str y=>obtain⟨t,q⟩:=(show ∃t,u=Value.str y t from rx);cases q;exact W.kia_one W.kitx_str I.cV True.intro e (λz=>nomatch z) h
 |jN y=>obtain⟨t,q⟩:=(show ∃t,u=Value.float y t from rx);cases q;exact W.kia_one W.kitx_float I.cV True.intro e (λz=>nomatch z) h
 | @lst a xs ea =>
  cases (show u=Value.ref a from rx);obtain⟨_,_,n,_,h1⟩:=(show aP X.prog X.w H s.heap a (.lst xs)from I.aD a _ ea);exact W.kia_one W.kitx_list I.cV ⟨_,h1,rfl⟩ e (λz=>nomatch z) h
 | @bG a ob xs ea =>
  cases (show u=Value.ref a from rx);obtain⟨_,_,_,n,_,h1⟩:=(show aP X.prog X.w H s.heap a (.bG ob (.lst xs))from I.aD a _ ea);exact W.kia_one W.kitx_list I.cV ⟨_,h1,rfl⟩ e (λz=>nomatch z) h
 | @tup a xs ea =>
  cases (show u=Value.ref a from rx);obtain⟨_,_,_,p⟩:=(show aP X.prog X.w H s.heap a (.tup xs)from I.aD a _ ea);obtain⟨o,h1,h2,_⟩:=p;exact W.kia_one W.kitx_tuple I.cV ⟨o,h1,h2⟩ e (λz=>nomatch z) h
 | @dK a kvs ea =>
  cases (show u=Value.ref a from rx);obtain⟨_,_,vs,_,p⟩:=(show aP X.prog X.w H s.heap a (.dK kvs)from I.aD a _ ea);obtain⟨o,es,ep,h1,h2,_⟩:=p;exact W.kia_one W.kitx_dict I.cV ⟨o,h1,h2.1⟩ e (λz=>nomatch z) h
 | @dT a kvs ea =>
  cases (show u=Value.ref a from rx);obtain⟨_,_,xs,_,o,es,ep,h1,h2,_⟩:=(show aP X.prog X.w H s.heap a (.dT kvs)from I.aD a _ ea);exact W.kia_one W.kitx_dict I.cV ⟨o,h1,h2.1⟩ e (λz=>nomatch z) h
 | @ins a C dx fs ea cl ha hn htk hm =>
  cases (show u=Value.ref a from rx);obtain⟨mA,O,_⟩:=HI I.aD ea;obtain⟨od,J,_⟩:=O.look;exact W.kia_one (W.kitx_own (cl.get _) cl.hd ha hn htk hm) I.cV J e (λz=>nomatch z) h
end
structure aE (k:Nat) (A:Around):Prop where
 hd:A.handled=none
 dp:A.depth+3*k+5<recursionLimit
 un:A.units+16*k+200<cLine
def aE.mono {j k:Nat} (r:aE k A) (h:j<=k):aE j A:=⟨r.hd,by have:=r.dp;omega,by have:=r.un;omega⟩
def aE.deeper {k:Nat}{A:Around} (r:aE (k+1) A) (env:Env):aE k (A.deeper env) :=
 ⟨r.hd,by have:=r.dp;show A.depth+1+3*k+5<_;omega,by have:=r.un;show A.units+3+16*k+200<_;omega⟩
def Mp {kw:List (Str×Value)}:(A.under (.builtin "type.__call__" ⟨.ref C::us,kw⟩)).depth=A.depth+1:=by
 first |rfl |simp[Around.under,Code.weight,Code.isCreation,Code.isGuard,Code.isCaller,Code.frames,Code.isFrame,guardIds]
def Mq {kw:List (Str×Value)}:(A.under (.builtin "type.__call__" ⟨.ref C::us,kw⟩)).units=A.units+1:=by
 first |rfl |simp[Around.under,Code.cUnits,Code.frames,Code.isFrame]
def aE.make {k:Nat} (r:aE (k+1) A) (C:Xi) (us:Xg) (kw:List (Str×Value)):aE k (A.under (.builtin "type.__call__" ⟨.ref C::us,kw⟩)) :=
 ⟨r.hd,by have:=r.dp;rw[Mp];omega,by have:=r.un;rw[Mq];omega⟩
def aE.depth {k:Nat}{A:Around} (r:aE k A):A.depth<recursionLimit:=by have:=r.dp;omega
def aE.units {k:Nat}{A:Around} (r:aE k A):A.units+64<cLine:=by have:=r.un;omega
def B9:TA:=λ_ H Q=>Q [] H
def Ah (ta:TE) (tr:TA):TA:=λσ H Q=>ta σ H λx H1=>tr σ H1 λxs H2=>Q (x::xs) H2
section
variable {es:List Expr}{t:TA}
def AC:PA X [] B9:=λ_ _ _ _ H Q I h=>Calls.spliced_nil ⟨[],H,I,.nil,h⟩
def AA (ha:PE X e te) (hr:PA X es t) (hs:starEach (e::es) X.env=(false,eval e X.env)::starEach es X.env:=by rfl):PA X (e::es) (Ah te t):=by
 intro pos aa s σ H Q I h;rw[hs];show wpAny _ _ (spliced ((false,eval e X.env)::backTo pos (starEach es X.env))) _ _ s;refine Calls.spliced_cons (aG (ha aa s σ H _ I h) λu s1 ⟨x,H1,I1,r1,q1⟩=>?_);exact aG (hr pos aa s1 σ H1 _ I1 q1) λus s2 ⟨xs,H2,I2,r2,q2⟩=>⟨x::xs,H2,I2,.cons r1 r2,q2⟩
def UX (t:TA):TE:=λσ H Q=>t σ H λxs H1=>xs.length<=sizeLine/\∀p,H1 p=none->Q (.ref p) (upd H1 p (.tup xs))
def Qa (t:TA):TE:=λσ H Q=>t σ H λxs H1=>xs.length<=sizeLine/\∀p,H1 p=none->Q (.ref p) (upd H1 p (.lst xs))
def A5 {x1} (h:PA X es t):PE X (.Tuple es x1 pos) (UX t):=by
 intro aa s σ H Q I hq;refine wpAny_Tuple_spliced (aG (h pos aa s σ H _ I hq) λus s1 ⟨xs,H1,I1,r,z,q⟩=>⟨by rw[←r.length];exact z,?_⟩);have hf:H1 s1.heap.objs.size=none:=I1.aD.fresh (Zy _);refine⟨.ref s1.heap.objs.size,upd H1 s1.heap.objs.size (.tup xs),I1.laid (t':=s1.toks) (λb u e=>ZX _ e) (Zy _) ?_,Zj,q _ hf⟩;exact⟨z,us,r,⟨_,ZN _ Zj,Zj,_,Zj⟩⟩
def BA (h:PA X es t):PE X (.List es pos) (Qa t):=by
 intro aa s σ H Q I hq;refine wpAny_List_spliced (aG (h pos aa s σ H _ I hq) λus s1 ⟨xs,H1,I1,r,z,q⟩=>⟨by rw[←r.length];exact z,?_⟩);have hf:H1 s1.heap.objs.size=none:=I1.aD.fresh (Zy _);refine⟨.ref s1.heap.objs.size,upd H1 s1.heap.objs.size (.lst xs),I1.laid (t':=s1.toks) (λb u e=>ZX _ e) (Zy _) ?_,Zj,q _ hf⟩;exact⟨z,us,0,r,ZN _ Zj⟩
end
abbrev Sp:=Xh->Hp->VK->XK->Prop
abbrev gN:=List Env->Hp->Xj->XK->Value->Xj->Prop
structure ff (P:Program) (w:World) (K:FG) (mg:SV) (base:Heap) (A:Around) (outer:List Env) (s:Xj) (H:Hp):Prop where
 frames:A.frames=some outer
 mod:Mod K mg base
 bs:∀b o,base.get? b=some o->s.heap.get? b=some o/\H b=none
 gT:base.objs.size<=s.heap.objs.size
 dr:s.heap.FunFrames base outer
 iz:∀b∈du outer,H b=none
 aD:dv P w H s.heap
 bare:AllBare s.gens
def CE (outer:List Env) (P:Program) (w:World) (H:Hp) (s:Xj) (Q:VK) (u:Value) (s':Xj):Prop :=
 ∃v H',s'.os=s.os/\AllBare s'.gens/\Un (du outer) [] H H' s.heap s'.heap/\dv P w H' s'.heap/\RelV v u/\Q v H'
def CR (CX:gN) (outer:List Env) (P:Program) (w:World) (H:Hp) (s:Xj) (Q:VK) (E:XK) (r:Result) (s':Xj):Prop :=
 match r with
 | .ok (.ret u)=>CE outer P w H s Q u s'
 | .ok _=>False
 | .error e=>CX outer H s E e s'
structure AZ (P:Program) (w:World) (K:FG) (mg:SV) (base:Heap) (CX:gN) (k:Nat) (f:Xi) (fd:FuncData) (ps:Xf) (sp:Sp):Prop where
 len:∀vs H Q E,sp vs H Q E->vs.length=ps.length
 run:∀(A:Around) (outer:List Env) (s:Xj) (H:Hp) (args:Args) (us:Xg) (vs:Xh) (Q:VK) (E:XK),aE k A->ff P w K mg base A outer s H->BindsTo s fd args (ps.zip us)->Vals vs us->sp vs H Q E ->
  codeAny (model P w) A (.call (.ref f) args) (CR CX outer P w H s Q E) s
def ff.make {outer:List Env} (e:ff P w K mg base A outer s H) (C:Xi) (us:Xg) (kw:List (Str×Value)) :
  ff P w K mg base (A.under (.builtin "type.__call__" ⟨.ref C::us,kw⟩)) outer s H:=⟨by first |exact e.frames | (simpa[Around.under,Code.envs,Code.isFrame,pushEnvs]using e.frames),e.mod,e.bs,e.gT,e.dr,e.iz,e.aD,e.bare⟩
section
variable {s':Xj}
def Inv.env0 (I:Inv X aa σ H s):ff X.prog X.w X.K X.mg X.base X.A X.stack s H :=
 ⟨I.ok.frames,I.ok.mod,I.bs,Nat.le_trans I.ok.gT I.sz,I.stack,I.stkFree,I.aD,I.bare⟩
def Inv.after {Q:VK} (I:Inv X aa σ H s) (h:CE X.stack X.prog X.w H s Q u s'):EP X aa σ Q u s':=by
 obtain⟨v,H',os,bare,un,aD,r,q⟩:=h;obtain⟨hh,g,d,t,os'⟩:=s';obtain rfl:os'=s.os:=os;exact⟨v,H',I.call (h':=hh) (g':=g) (d':=d) (t':=t) (ch:=[]) un aD bare (λb z=>absurd z (by simp)),r,q⟩
end
def HA (sp:Sp) (d6:Xh) (E:XK) (t:TA):TE:=λσ H Q=>t σ H λvs H1=>sp (vs++d6) H1 Q E
inductive ExM (C:Xi) (m:Str) (x:V) (H:Hp) (k:Prop):Prop where
 |mk (a dx:Xi) (fs:List (Str×V)) (h1:x=.ref a) (h2:H a=some (.ins C dx fs)) (h3:fs.lookup m=none) (q:k):ExM C m x H k
def Tu (C:Xi) (m:Str) (sp:Sp) (d6:Xh) (E:XK) (ta:TE) (t:TA):TE:=λσ H Q=>ta σ H λx H1=>ExM C m x H1 (t σ H1 λvs H2=>sp (x::(vs++d6)) H2 Q E)
def Tv (C:Xi) (sp:Sp) (d6:Xh) (E:XK) (t:TA):TE:=λσ H Q=>t σ H λvs H1=>∀x dx,H1 x=none->H1 dx=none->dx≠x ->
 sp (.ref x::(vs++d6)) (upd (upd H1 dx (.own x)) x (.ins C dx [])) (λv H2=>v=.aO/\Q (.ref x) H2) E
def Binds (K:FG) (fd:FuncData) (ps:Xf) (ds:Xg):Prop :=
 ∀(s:Xj) (us:Xg),K.In s.heap->(us++ds).length=ps.length->BindsTo s fd ⟨us,[]⟩ (ps.zip (us++ds))
def Binds.all {fd:FuncData}{ps:Xf} (h:∀us:Xg,us.length=ps.length->bindArgs fd ⟨us,[]⟩=pure (ps.zip us)):Binds K fd ps []:=λs us _ hl=>by
 rw[Zt]at hl ⊢;exact .of_eq (h us hl)
def BR (CX:gN) (X:Cx) (E:XK):Prop:=∀(aa:LO) (σ:St) (H:Hp) (s:Xj) (e:Value) (s':Xj),Inv X aa σ H s->CX X.stack H s E e s'->X.xe e s'
section
variable {CX:gN}{k:Nat}{f:Xi}{fd:FuncData}{ps:Xf}{sp:Sp}{d6:Xh}{ds:Xg}{E:XK}{m:Str}{p apos:Pos}{o:Expr}{es:List Expr}{ta:TE}{t:TA}
def KB {Q:VK}{vs:Xh} (F:AZ X.prog X.w X.K X.mg X.base CX k f fd ps sp) (hr:aE k X.A) (hb:Binds X.K fd ps ds) (hd:Vals d6 ds) (hx:BR CX X E)
  (I:Inv X aa σ H s) (r:Vals vs us) (h:sp (vs++d6) H Q E):wpAny (model X.prog X.w) X.A (call (.ref f) us) (EP X aa σ Q) X.xe s:=by
 have r2:Vals (vs++d6) (us++ds):=r.append hd;have hl:(us++ds).length=ps.length:=by rw[←r2.length];exact F.len _ _ _ _ h
 refine wpAny_call (codeAny_mono (F.run X.A X.stack s H ⟨us,[]⟩ (us++ds) (vs++d6) Q E hr I.env0 (hb s us I.cV hl) r2 h) λr s' hq=>?_);cases r with
 |error e=>exact hx aa σ H s e s' I hq
 |ok fl =>
  cases fl with
  |ret u=>exact I.after hq
  |next=>exact False.elim hq
  |brk=>exact False.elim hq
  |cont=>exact False.elim hq
def AN (F:AZ X.prog X.w X.K X.mg X.base CX k f fd ps sp) (hr:aE k X.A) (hg:Gl X x) (hm:X.mg x=some (.ref f)) (hk:W.keepIn X.K (.ref f)=true) (hb:Binds X.K fd ps ds) (hd:Vals d6 ds) (hx:BR CX X E)
  (ha:PA X (e::es) t) (eM:(x==("__debug__" : Str))=false:=by decide) (he:starEach (e::es) X.env=(false,eval e X.env)::starEach es X.env:=by rfl) (eQ:(backTo pos (starEach es X.env)).any (·.1)=false:=by rfl) :
  PE X (.Call (.Name x p) (e::es) [] pos) (HA sp d6 E t):=by
 intro aa s σ H Q I h;refine Z3 (Bu I hg hm ?_ eM);refine W.callWith_K (h₀:=X.base) I.ok.mod.kin hk (aG (ha pos aa s σ H _ I h) λus s1 ⟨vs,H1,I1,r,q⟩=>⟨I1.cV,?_⟩) he eQ;exact KB F hr hb hd hx I1 r q
def Cp {pl:Sem Bool} (he:PE X o ta) (c:iA X.K C) (hm:QZ X.K C m f) (F:AZ X.prog X.w X.K X.mg X.base CX k f fd ps sp) (hr:aE k X.A) (hb:Binds X.K fd ps ds) (hd:Vals d6 ds) (hx:BR CX X E) (ha:PA X (e::es) t)
  (hst:starEach (e::es) X.env=(false,eval e X.env)::starEach es X.env:=by rfl) (eQ:(backTo pos (starEach es X.env)).any (·.1)=false:=by rfl)
  (ht:eval (.Call (.Attribute o m apos) (e::es) [] pos) X.env=(do
   let ov ←eval o X.env
   standAt apos.atName
   let (f,first) ←holding [ov] (getMethod ov m pl)
   callWith pos f first (backTo pos (starEach (e::es) X.env)) (backToKw pos (keywordEach [] X.env))):=by rfl) :
  PE X (.Call (.Attribute o m apos) (e::es) [] pos) (Tu C m sp d6 E ta t):=by
 intro aa s σ H Q I h;refine W.methodCall_KW (pl:=pl) (aG (he aa s σ H _ I h) λu s1 ⟨x,H1,I1,rx,a,dx,fs,ex,ea,l,q⟩=>?_) ht;subst ex;obtain rfl:u=Value.ref a:=rx;refine Hh I1 ea c hm l ?_;refine W.callWith_K (first:=[.ref a]) (h₀:=X.base) I.ok.mod.kin hm.kp (aG (ha pos aa s1 σ H1 _ I1 q) λus s2 ⟨vs,H2,I2,r,q2⟩=>⟨I2.cV,?_⟩) hst eQ;exact KB (us:=.ref a::us) (vs:=.ref a::vs) F hr hb hd hx I2 (.cons Zj r) q2
def Bv {pl:Sem Bool} (he:PE X o ta) (c:iA X.K C) (hm:QZ X.K C m f) (F:AZ X.prog X.w X.K X.mg X.base CX k f fd ps sp) (hr:aE k X.A) (hb:Binds X.K fd ps ds) (hd:Vals d6 ds) (hx:BR CX X E)
  (ht:eval (.Call (.Attribute o m apos) [] [] pos) X.env=(do
   let ov ←eval o X.env
   standAt apos.atName
   let (f,first) ←holding [ov] (getMethod ov m pl)
   callWith pos f first (backTo pos (starEach [] X.env)) (backToKw pos (keywordEach [] X.env))):=by rfl) :
  PE X (.Call (.Attribute o m apos) [] [] pos) (Tu C m sp d6 E ta B9):=by
 intro aa s σ H Q I h;refine W.methodCall_KW (pl:=pl) (aG (he aa s σ H _ I h) λu s1 ⟨x,H1,I1,rx,a,dx,fs,ex,ea,l,q⟩=>?_) ht;subst ex;obtain rfl:u=Value.ref a:=rx;refine Hh I1 ea c hm l ?_;exact W.callWith_K0 (first:=[.ref a]) I1.cV hm.kp (KB (us:=[.ref a]) (vs:=[.ref a]) F hr hb hd hx I1 (.cons Zj .nil) q)
structure Mk (K:FG) (C f:Xi):Prop where
 makes:W.makesIn K C=true
 init:W.findIn K (.ref C) "__init__" = some (some (.ref f))
 fn:W.isFn K (.ref f)=true
 kp:W.keepIn K (.ref C)=true
def K2 {Q:VK}{vs:Xh} (M:Mk X.K C f) (F:AZ X.prog X.w X.K X.mg X.base CX k f fd ps sp) (hr:aE (k+1) X.A) (hb:Binds X.K fd ps ds) (hd:Vals d6 ds)
  (hx:BR CX X E) (I:Inv X aa σ H s) (r:Vals vs us)
  (h:∀x dx,H x=none->H dx=none->dx≠x->sp (.ref x::(vs++d6)) (upd (upd H dx (.own x)) x (.ins C dx [])) (λv H2=>v=.aO/\Q (.ref x) H2) E) :
  wpAny (model X.prog X.w) X.A (call (.ref C) us) (EP X aa σ Q) X.xe s:=by
 have hq:=h (s.heap.objs.size+1) s.heap.objs.size (I.aD.fresh (Nat.le_succ _)) (I.aD.fresh (Zy _)) (ZC (Nat.lt_succ_self _));have I2:=Inv.made (C:=C) I;have r2:Vals (V.ref (s.heap.objs.size+1)::(vs++d6)) (Value.ref (s.heap.objs.size+1)::(us++ds)):=.cons rfl (r.append hd)
 have hl:(Value.ref (s.heap.objs.size+1)::us++ds).length=ps.length:=by
  have e:=r2.length;rw[F.len _ _ _ _ hq]at e;exact e.symm
 refine wpAny_call (K1 (f:=f) I.cV M.makes M.init (beq_iff_eq.mp M.fn) (codeAny_mono (F.run _ X.stack _ _ ⟨Value.ref (s.heap.objs.size+1)::us,[]⟩ (Value.ref (s.heap.objs.size+1)::(us++ds)) _ _ E (hr.make C us [])
  (I2.env0.make C us []) (hb _ (Value.ref (s.heap.objs.size+1)::us) I2.cV hl) r2 hq) λr s' fv=>?_))
 cases r with
 |error e=>exact hx aa σ _ _ e s' I2 fv
 |ok fl =>
  cases fl with
  |ret u =>
   obtain⟨v,H',I3,rv,ev,q3⟩:=I2.after fv;subst ev;exact⟨rv,⟨V.ref (s.heap.objs.size+1),H',I3,Zj,q3⟩⟩
  |next=>exact False.elim fv
  |brk=>exact False.elim fv
  |cont=>exact False.elim fv
def SZ (M:Mk X.K C f) (F:AZ X.prog X.w X.K X.mg X.base CX k f fd ps sp) (hr:aE (k+1) X.A) (hg:Gl X x) (hm:X.mg x=some (.ref C)) (hb:Binds X.K fd ps ds) (hd:Vals d6 ds) (hx:BR CX X E)
  (ha:PA X (e::es) t) (eM:(x==("__debug__" : Str))=false:=by decide) (he:starEach (e::es) X.env=(false,eval e X.env)::starEach es X.env:=by rfl) (eQ:(backTo pos (starEach es X.env)).any (·.1)=false:=by rfl) :
  PE X (.Call (.Name x p) (e::es) [] pos) (Tv C sp d6 E t):=by
 intro aa s σ H Q I h;refine Z3 (Bu I hg hm ?_ eM);refine W.callWith_K (h₀:=X.base) I.ok.mod.kin M.kp (aG (ha pos aa s σ H _ I h) λus s1 ⟨vs,H1,I1,r,q⟩=>⟨I1.cV,?_⟩) he eQ;exact K2 M F hr hb hd hx I1 r q
def Qb (M:Mk X.K C f) (F:AZ X.prog X.w X.K X.mg X.base CX k f fd ps sp) (hr:aE (k+1) X.A) (hg:Gl X x) (hm:X.mg x=some (.ref C)) (hb:Binds X.K fd ps ds) (hd:Vals d6 ds) (hx:BR CX X E)
  (eM:(x==("__debug__" : Str))=false:=by decide):PE X (.Call (.Name x p) [] [] pos) (Tv C sp d6 E B9):=by
 intro aa s σ H Q I h;refine Z3 (Bu I hg hm ?_ eM);exact W.callWith_K0 I.cV M.kp (K2 (us:=[]) M F hr hb hd hx I .nil h)
end
def PK (X:Cx) (ja:List Keyword) (t:TA):Prop :=
 ∀(pos:Pos) (aa:LO) (s:Xj) (σ:St) (H:Hp) (Q:Xh->Hp->Prop),Inv X aa σ H s->t σ H Q->wpAny (model X.prog X.w) X.A (evalAll ((backToKw pos (keywordEach ja X.env)).map (·.2))) (AP X aa σ Q) X.xe s
section
variable {CX:gN}{k:Nat}{f:Xi}{fd:FuncData}{ps ks:Xf}{sp:Sp}{E:XK}{m:Str}{p apos kpos:Pos}{o:Expr}{es:List Expr}{ja:List Keyword}{ta:TE}{t tk:TA}{nm:Option Str}
def Qc:PK X [] B9:=λ_ _ _ _ H Q I h=>wpAny_evalAll_nil ⟨[],H,I,.nil,h⟩
def N6 (ha:PE X e te) (hr:PK X ja t):PK X (⟨nm,e,kpos⟩::ja) (Ah te t):=by
 intro pos aa s σ H Q I h;show wpAny _ _ (evalAll ((do let v ←eval e X.env;standAt pos;pure v)::(backToKw pos (keywordEach ja X.env)).map (·.2))) _ _ s;refine wpAny_evalAll_cons (Zx (aG (ha aa s σ H _ I h) λu s1 ⟨x,H1,I1,r1,q1⟩=>Zx (ZJ (Zw ?_))));exact aG (hr pos aa s1 σ H1 _ I1 q1) λus s2 ⟨xs,H2,I2,r2,q2⟩=>⟨x::xs,H2,I2,.cons r1 r2,q2⟩
structure Mr (K:FG) (fd:FuncData) (ps ks:Xf) (g:Xg->Xg->Xg) (gV:Xh->Xh->Xh):Prop where
 to:∀(s:Xj) (us ws:Xg),K.In s.heap->(g us ws).length=ps.length->BindsTo s fd ⟨us,ks.zip ws⟩ (ps.zip (g us ws))
 rel:∀ {vs:Xh}{us:Xg}{zs:Xh}{ws:Xg},Vals vs us->Vals zs ws->Vals (gV vs zs) (g us ws)
variable {g:Xg->Xg->Xg}{gV:Xh->Xh->Xh}
end
structure AM (N P:Xf) (sc:Scope):Prop where
 kind:sc.kind=.function
 co:sc.isCoroutine=false
 gen:sc.isGenerator=false
 nd:N.Nodup
 pre:N.take P.length=P
 par:∀x∈P,sc.names.lookup x=some .local\/sc.names.lookup x=some .cell
 nofree:∀y∈sc.names,y.2≠ .free
def cH {N P:Xf}{sc:Scope} (a:sc.kind=.function:=by exact rfl) (b:sc.isCoroutine=false:=by exact rfl) (c:sc.isGenerator=false:=by exact rfl) (d:N.Nodup:=by decide +kernel) (e:N.take P.length=P:=by exact rfl) (f:∀x∈P,sc.names.lookup x=some .local\/sc.names.lookup x=some .cell:=by decide +kernel) (g:∀y∈sc.names,y.2≠ .free:=by decide +kernel):AM N P sc:=⟨a,b,c,d,e,f,g⟩
def JS {kindOf:Str->Option NameKind}{x:Str}:∀ {binds:List (Str×Value)}{m:SV},(∀v,(x,v)∉ binds)->bindL kindOf binds m x=m x
  | [],_,_=>rfl
  | (n,v)::r,m,h=>by
    unfold bindL;rw[JS λw hw=>h w (ZR _ hw)];split
    · have:x≠n:=by rintro rfl;exact h v ZI
      simp[this]
    · rfl
def JT {kindOf:Str->Option NameKind}{x:Str}:∀ {binds:List (Str×Value)}{m:SV},(∀v,(x,v)∉ binds)->bindC kindOf binds m x=m x
  | [],_,_=>rfl
  | (n,v)::r,m,h=>by
    unfold bindC;rw[JT λw hw=>h w (ZR _ hw)];split
    · rfl
    · have:x≠n:=by rintro rfl;exact h v ZI
      simp[this]
def JU {kindOf:Str->Option NameKind}{x:Str}{v:Value}:∀ {P:Xf}{vs:Xg}{i:Nat}{m:SV},P.Nodup->P[i]?=some x->vs[i]?=some v->kindOf x=some .local ->
  bindL kindOf (P.zip vs) m x=some v
 | [],_,_,_,_,h,_,_=>by simp at h
 |_::_,[],_,_,_,_,h,_=>by simp at h
 |p::P,w::vs,0,m,nd,h1,h2,hk=>by
  simp at h1 h2;subst h1;subst h2;show bindL kindOf ((p,w)::P.zip vs) m p=_;unfold bindL;rw[JS λv hv=>(Zs.mp nd).1 (of_mem_zip hv).1,Zp hk];simp
 |p::P,w::vs,i+1,m,nd,h1,h2,hk=>by
  show bindL kindOf ((p,w)::P.zip vs) m x=_;unfold bindL;exact JU (i:=i) (Zs.mp nd).2 (by simpa using h1) (by simpa using h2) hk
def JV {kindOf:Str->Option NameKind}{x:Str}{v:Value}:∀ {P:Xf}{vs:Xg}{i:Nat}{m:SV},P.Nodup->P[i]?=some x->vs[i]?=some v->kindOf x≠some .local ->
  bindC kindOf (P.zip vs) m x=some v
 | [],_,_,_,_,h,_,_=>by simp at h
 |_::_,[],_,_,_,_,h,_=>by simp at h
 |p::P,w::vs,0,m,nd,h1,h2,hk=>by
  simp at h1 h2;subst h1;subst h2;show bindC kindOf ((p,w)::P.zip vs) m p=_;unfold bindC;rw[JT λv hv=>(Zs.mp nd).1 (of_mem_zip hv).1,Zq hk];simp
 |p::P,w::vs,i+1,m,nd,h1,h2,hk=>by
  show bindC kindOf ((p,w)::P.zip vs) m x=_;unfold bindC;exact JV (i:=i) (Zs.mp nd).2 (by simpa using h1) (by simpa using h2) hk
noncomputable def Bs (N:Xf) (vs:Xh):St:=vs.map some++List.replicate (N.length - vs.length) none
noncomputable def BB (CX:gN) (P:Program) (w:World) (K:FG) (mg:SV) (base:Heap) (N:Xf) (qual:Str) (scope:Scope) (f:Xi) (cd:Value) (A:Around) (outer:List Env) (s:Xj) (H:Hp) (E:XK):Cx where
 prog:=P
 w:=w
 K:=K
 mg:=mg
 base:=base
 A:=A.deeper (envOfC qual scope s.heap.objs.size f cd)
 N:=N
 aY:=s
 fc:=H
 env:=envOfC qual scope s.heap.objs.size f cd
 outer:=outer
 stack:=envOfC qual scope s.heap.objs.size f cd::outer
 ex:=[]
 calm:=true
 fn:=λ_=>true
 pn:=[]
 xe:=λe s'=>wpAny (model P w) (A.deeper (envOfC qual scope s.heap.objs.size f cd)) (leaving (envOfC qual scope s.heap.objs.size f cd) e) (λ_ jA=>CX outer H s E e jA) (λe' jA=>CX outer H s E e' jA) s'
def K3 {sc:Scope}{n:Nat} (h:sc.names.lookup x=some .cell):∃c,(cellsFrom n sc.names []).lookup x=some c:=by
 have q:=W.cellsFrom_some sc.names n [] (.inl h);exact Option.isSome_iff_exists.mp q
def Ga {CX:gN}{ps:Xf}{qual:Str}{scope:Scope}{f:Xi}{cd:Value}{outer:List Env}{s1:Xj}{E:XK}{vs:Xh}
  (S:AM N ps scope) (hd:A.handled=none) (e0:ff P w K mg base A outer s H) (hl:vs.length=ps.length) (r:Vals vs us)
  (x:InCallC s s.heap.objs.size (bindL (envOfC qual scope s.heap.objs.size f cd).kindOf (ps.zip us) λ_=>none) (cellsFrom (s.heap.objs.size+1) scope.names []) (bindC (envOfC qual scope s.heap.objs.size f cd).kindOf (ps.zip us) λ_=>none) s1) :
  Inv (BB CX P w K mg base N qual scope f cd A outer s H E) [] (Bs N vs) H s1:=by
 have eQ:ps.length<=N.length:=by have:=congrArg List.length S.pre;rw[ZA]at this;omega
 obtain⟨h1,tk,rfl,hk⟩:=x.done;have jD:∀b:Xi,b∉ (BB CX P w K mg base N qual scope f cd A outer s H E).ex:=λb z=>absurd (show b∈([]:List Xi)from z) (by simp)
 refine⟨⟨e0.mod,S.kind,Zj,Zj,Zy _,λy z c h1 h2=>?_,λy hy=>?_,λy c _ h=>?_,λ_=>hd,Around.frames_deeper e0.frames,.inr ⟨Zj,Zj⟩,λb z=>absurd z (jD b),e0.bs,e0.gT,λb _ _=>jD b,λb z=>absurd z (jD b),e0.dr,e0.iz⟩,
  rfl,e0.bare,Un.kept hk,⟨_,x.toInCall.ns,λi y v h1 h2 h3=>?_⟩,λy c h=>⟨_,x.cell y c h⟩,e0.aD.fresh (Zy _),λy c h=>?_,λp hp=>absurd (show p∈([]:LO)from hp) (by simp),e0.aD.kept hk,?_⟩
 ·exact name_of_addr x.apart (PySem.mem_of_lookup h1) (PySem.mem_of_lookup h2)
 ·have hy:scope.names.lookup y=some .cell\/scope.names.lookup y=some .free:=hy;rcases hy with hy |hy
  ·exact K3 hy
  ·exact absurd Zj (S.nofree _ (PySem.mem_of_lookup hy))
 ·exact Nat.le_of_lt (x.above y c (PySem.mem_of_lookup h))
 ·have hi:i<vs.length:=by
   unfold Bs at h2;by_cases hi:i<vs.length
   ·exact hi
   ·rw[getElem?_append_right (by simpa using hi)]at h2;rw[List.getElem?_replicate]at h2;split at h2 <;> cases h2
  have ha:vs[i]?=some v:=by
   unfold Bs at h2;rw[List.getElem?_append_left (by simpa using hi),ZE]at h2;cases e:vs[i]? with
   |none=>rw[e]at h2;cases h2
   |some a=>rw[e]at h2;cases h2;rfl
  obtain⟨u,hu,rv⟩:=r.get ha
  have hp:ps[i]?=some y:=by
   rw[←S.pre,List.getElem?_take_of_lt qe];exact h1
  have ndP:ps.Nodup:=by rw[←S.pre];exact S.nd.sublist (List.take_sublist _ _)
  refine⟨u,rv,?_⟩;rcases S.par y (ZQ hp)with k |k
  ·exact .inl ⟨k,JU ndP hp hu k⟩
  ·obtain⟨c,e⟩:=K3 (n:=s.heap.objs.size+1) k;refine .inr ⟨.inl k,c,e,?_⟩;have q:=x.cell y c e;rw[JV ndP hp hu (by show scope.names.lookup y≠_;rw[k];decide)]at q;exact q
 ·exact e0.aD.fresh (Nat.le_of_lt (x.above y c (PySem.mem_of_lookup h)))
 ·unfold Bs;show _=N.length;rw[ZH,AK,List.length_replicate];omega
def N7 {CX:gN}{k:Nat}{f:Xi}{name qual:Str}{params:Arguments}{body:List Stmt}{scope:Scope}{dV kV doc pm ad ct oc:Value}{an od:Option Xi}
  {gF:Array (Option Value)}{N ps:Xf}{sp:Sp} (lk:K.lookup f=some ⟨oc,od,.func (W.fnOf name qual params body scope dV kV doc pm an ad ct),gF⟩) (fm:W.codeIn K ad qual=true) (S:AM N ps scope)
  (len:∀vs H Q E,sp vs H Q E->vs.length=ps.length)
  (bh:∀(A:Around) (outer:List Env) (s:Xj) (H:Hp) (vs:Xh) (Q:VK) (E:XK),aE k (A.deeper (envOfC qual scope s.heap.objs.size f ad))->sp vs H Q E ->
   ∃t,eN (BB CX P w K mg base N qual scope f ad A outer s H E) body t/\t { nx:=λ_ H'=>Q .aO H',rt:=Q } (Bs N vs) H) :
  AZ P w K mg base CX (k+1) f (W.fnOf name qual params body scope dV kV doc pm an ad ct) ps sp:=by
 refine⟨len,λA outer s H args us vs Q E hr e0 hb r gP=>?_⟩;have hl:=len _ _ _ _ gP;have KX:K.In s.heap:=e0.mod.kin.keeps λb o e=>(e0.bs b o e).1;have lim:s.heap.NoLimit:=e0.mod.nolimit.keeps λb o e=>(e0.bs b o e).1
 have hkind:∀y∈ps.zip us,scope.names.lookup y.1=some .local\/(scope.names.lookup y.1=some .cell/\((cellsFrom (s.heap.objs.size+1) scope.names []).lookup y.1).isSome=true):=λ⟨n,v⟩ hy=>by
  rcases S.par n (of_mem_zip hy).1 with q |q
  ·exact .inl q
  ·exact .inr ⟨q,W.cellsFrom_some _ _ _ (.inl q)⟩
 refine codeAny_call_function hr.depth (KX _ _ lk) Zj S.co S.gen Zj (W.codeRec_of KX fm) (hb _ _ _ _ ?_);refine wpAny_newFunctionEnv_cells S.kind hkind λenv he s1 x=>?_;subst he;refine⟨lim.keeps x.toInCall.keep,codeAny_func ?_⟩;obtain⟨t,ht,hq⟩:=bh A outer s H vs Q E (hr.deeper _) gP;have I:Inv (BB CX P w K mg base N qual scope f ad A outer s H E) [] (Bs N vs) H s1:=Ga S hr.hd e0 hl r x;refine Zv (ht [] s1 (Bs N vs) H _ I hq) (λfl s' hs=>?_) λe s' hs=>hs
 have fin:∀ {aJ:St}{H':Hp}{v:V}{u:Value},Inv (BB CX P w K mg base N qual scope f ad A outer s H E) [] aJ H' s'->RelV v u->Q v H'->CE outer P w H s Q u s' :=
  λ{aJ H' v u} J rv q=>⟨v,H',J.os,J.bare,J.base,J.aD,rv,q⟩
 cases fl with
 |ret u =>
  obtain⟨v,aJ,H',J,rv,q⟩:=hs;exact fin J rv q
 |next =>
  obtain⟨aJ,H',J,q⟩:=hs;exact fin (v:=V.aO) (u:=Value.none) J Zj q
 |brk =>
  obtain⟨_,_,_,q⟩:=hs;exact False.elim q
 |cont =>
  obtain⟨_,_,_,q⟩:=hs;exact False.elim q
section
variable {p:Pos}{es:List Expr}{t:TA}{id T:String}{r:Xh->Hp->VK->Prop}
def tCB (r:Xh->Hp->VK->Prop) (t:TA):TE:=λσ H Q=>t σ H λvs H1=>r vs H1 Q
def AX (hc:aS X (.builtin id) r) (hg:Gl X x) (hm:X.mg x=none) (hv:bootBuiltins x=some (.builtin id)) (ha:PA X (e::es) t) (hn:x≠ "__name__" := by decide) (eM:(x==("__debug__" : Str))=false:=by decide)
  (he:starEach (e::es) X.env=(false,eval e X.env)::starEach es X.env:=by rfl) (eQ:(backTo pos (starEach es X.env)).any (·.1)=false:=by rfl):PE X (.Call (.Name x p) (e::es) [] pos) (tCB r t):=by
 intro aa s σ H Q I h;refine Z3 (En I hg hm hv ?_ hn eM);exact PyProof.Rows.callWith_builtin1 (aG (ha pos aa s σ H _ I h) λus s1 ⟨vs,H1,I1,r1,q1⟩=>hc aa s1 σ H1 vs us Q I1 r1 q1) he eQ
def Ba (hc:aS X (.type T) r) (hg:Gl X x) (hm:X.mg x=none) (hv:bootBuiltins x=some (.type T)) (ha:PA X (e::es) t) (hn:x≠ "__name__" := by decide) (eM:(x==("__debug__" : Str))=false:=by decide)
  (he:starEach (e::es) X.env=(false,eval e X.env)::starEach es X.env:=by rfl) (eQ:(backTo pos (starEach es X.env)).any (·.1)=false:=by rfl):PE X (.Call (.Name x p) (e::es) [] pos) (tCB r t):=by
 intro aa s σ H Q I h;refine Z3 (En I hg hm hv ?_ hn eM);exact PyProof.Rows.callWith_type1 (aG (ha pos aa s σ H _ I h) λus s1 ⟨vs,H1,I1,r1,q1⟩=>hc aa s1 σ H1 vs us Q I1 r1 q1) he eQ
end
end L2
namespace HT
open PySem PyProof.Rows
section
variable {prog:Program}
def cat_tup {t b:Xi}{vs ws:Xg}{Q:VS} (ht:IsTup s.heap t vs.toArray) (hb:IsTup s.heap b ws.toArray) (hv:vs≠ [])
  (h1:ws=[]->Q (.ref t) s) (h2:ws≠ []->Q (.ref s.heap.objs.size) { s with heap:=s.heap.push { cls:=.type "tuple", data:=.seq (vs++ws).toArray } })
  (hsz:vs.length+ws.length<=sizeLine):wpAny (model prog w) A (binaryOp .Add (.ref t) (.ref b)) Q E s:=by
 obtain⟨⟨cls,dd,data,sl⟩,ho,hc,n,hd⟩:=id ht;obtain⟨⟨cls2,dd2,data2,eV⟩,ho2,iy,n2,hd2⟩:=id hb;simp only at hc hd iy hd2;subst hc hd iy hd2;have e:vs.toArray++ws.toArray=(vs++ws).toArray:=by simp
 by_cases hw:ws=[]
 ·exact concat_meets ⟨_,ho,Zj⟩ ⟨_,ho2,Zj⟩ noFill_tuple_add seq_tuple_add PySem.F.slot_tuple_add PySem.F.entry_tuple_add (PySem.F.args_tuple_add_2 _ _)
   (tuple_addW1 t b vs.toArray ws.toArray n n2 dd dd2 sl eV (by simpa using hv) (by simp[hw])) ⟨ho,ho2,h1 hw⟩
 ·refine concat_meets ⟨_,ho,Zj⟩ ⟨_,ho2,Zj⟩ noFill_tuple_add seq_tuple_add PySem.F.slot_tuple_add PySem.F.entry_tuple_add (PySem.F.args_tuple_add_2 _ _)
   (tuple_addW2 t b vs.toArray ws.toArray n n2 dd dd2 sl eV (by simpa using hv) (by simpa using hw) (by rw[size_toArray,size_toArray];exact hsz)) ⟨ho,ho2,?_⟩
  rw[e];exact h2 hw
end
end HT
namespace L2
open PySem PySem.Spec PyProof.Rows
abbrev TO:=St->Hp->(Option Int->Hp->Prop)->Prop
def PO (X:Cx) (e:Option Expr) (t:TO):Prop :=
 ∀(aa:LO) (s:Xj) (σ:St) (H:Hp) (Q:Option Int->Hp->Prop),Inv X aa σ H s->t σ H Q ->
  wpAny (model X.prog X.w) X.A (evalPart e X.env) (λu s'=>∃o H',Inv X aa σ H' s'/\IsPart u o/\Q o H') X.xe s
def Vr (t:TE):TO:=λσ H Q=>t σ H λx H1=>∃i,x=.int i/\Q (some i) H1
def DU {ns:List Int}:∀ {us:Xg},Vals (ns.map V.int) us->IntsAre us ns:=by
 induction ns with
 |nil=>intro us r;rw[map_nil]at r;cases r;exact .nil
 |cons n ns ih =>
  intro us r;rw[map_cons]at r;cases r with
  |cons r1 r2 =>
   obtain⟨t,e⟩:=r1;subst e;exact .cons n t (ih r2)
section
variable {lo hi:Option Expr}{tl th:TO}{p2:Pos}
def HJ (h:PE X e te):PO X (some e) (Vr te):=by
 intro aa s σ H Q I hw;rw[evalPart_some];refine aG (h aa s σ H _ I hw) λu s1 ⟨x,H1,I1,r1,q1⟩=>?_;obtain⟨i,rfl,q⟩:=q1;obtain⟨t,rfl⟩:=r1;exact⟨some i,H1,I1,.int i t,q⟩
def SlR (X:Cx) (r:V->Option Int->Option Int->Hp->VK->Prop):Prop :=
 ∀(aa:LO) (s:Xj) (σ:St) (H:Hp) (x:V) (v vl vu:Value) (lo hi:Option Int) (sl:Xi) (Q:VK),Inv X aa σ H s->RelV x v->s.heap.IsSliceOf sl vl vu .none->IsPart vl lo->IsPart vu hi->r x lo hi H Q ->
  ∃T id,typeLookup (.type T) "__getitem__" = pure (some (.builtin id))/\s.TypeIs v T/\wpAny (model X.prog X.w) X.A (getItem v (.ref sl)) (EP X aa σ Q) X.xe s
def tSl (r:V->Option Int->Option Int->Hp->VK->Prop) (te:TE) (tl th:TO):TE:=λσ H Q=>te σ H λx H1=>tl σ H1 λl H2=>th σ H2 λu H3=>r x l u H3 Q
def K4 {r:V->Option Int->Option Int->Hp->VK->Prop} (hr:SlR X r) (he:PE X e te) (hl:PO X lo tl) (hu:PO X hi th):PE X (.Subscript e (.Slice lo hi none p2) pos) (tSl r te tl th):=by
 intro aa s σ H Q I h;refine Subscript_ (aG (he aa s σ H _ I h) λv s1 ⟨x,H1,I1,r1,q1⟩=>?_);refine wpAny_Slice (aG (hl aa s1 σ H1 _ I1 q1) λvl s2 ⟨l,H2,I2,pl,q2⟩=>aG (hu aa s2 σ H2 _ I2 q2) λvu s3 ⟨u,H3,I3,pu,q3⟩=>?_);rw[evalPart_none];refine Zw ?_;have I4:Inv X aa σ H3 { s3 with heap:=s3.heap.push { cls:=.type "slice", data:=.fields #[vl,vu,.none] } }:=I3.kept (t':=s3.toks) λb ob q=>ZX _ q;obtain⟨T,id,hT,ht,hg⟩:=hr aa { s3 with heap:=s3.heap.push { cls:=.type "slice", data:=.fields #[vl,vu,.none] } } σ H3 x v vl vu l u s3.heap.objs.size Q I4 r1 (Heap.IsSliceOf.new ..) pl pu q3;show wpAny (model X.prog X.w) X.A (subscriptTail e (.Slice lo hi none p2) v (.ref s3.heap.objs.size)) (EP X aa σ Q) X.xe { s3 with heap:=s3.heap.push { cls:=.type "slice", data:=.fields #[vl,vu,.none] } };exact tail_any (ops:=[.ref s3.heap.objs.size,v]) ht hT hg (by with_unfolding_all rfl)
def N8 (K:FG):R2:=λx y H Q=>∃a b xs ys,x=.ref a/\y=.ref b/\aX K H a xs/\aX K H b ys/\xs≠ []/\xs.length+ys.length<=sizeLine /\
 (ys=[]->Q (.ref a) H)/\(ys≠ []->∀p,H p=none->Q (.ref p) (upd H p (.tup (xs++ys))))
def Vals.nil_iff (r:Vals xs us):us=[] ↔ xs=[]:=by
 cases r with
 |nil=>simp
 |cons _ _=>simp
def Sa:cS X (binaryOp .Add) (N8 X.K):=by
 intro aa s σ H x y v u Q I rx ry h;obtain⟨a,b,xs,ys,rfl,rfl,ha,hb,hx,hz,q1,q2⟩:=h;cases rx;cases ry;obtain⟨its,r1,p1,_⟩:=I.tuple ha;obtain⟨its2,r2,p2,_⟩:=I.tuple hb;refine HT.cat_tup p1 p2 (λz=>hx (r1.nil_iff.mp z)) (λz=>⟨.ref a,H,I,Zj,q1 (r2.nil_iff.mp z)⟩) (λz=>?_) (by rw[←r1.length,←r2.length];exact hz);refine⟨.ref s.heap.objs.size,_,I.laid (t':=s.toks) (o:=.tup (xs++ys)) (λb ob q=>ZX _ q) (Zy _) ?_,Zj,q2 (λw=>z (r2.nil_iff.mpr w)) _ (I.aD.fresh (Zy _))⟩;exact⟨by rw[ZH];exact hz,_,r1.append r2,IsTup.new _ _⟩
end
noncomputable def g9 (n:Nat) (i:Int):Option Nat:=if 0<=i then (if i<n then some i.toNat else none)else if -(n:Int)<=i then some (i+n).toNat else none
noncomputable def gU {α:Type} (xs:List α) (i:Int):Option α:=(g9 xs.length i).bind λj=>xs[j]?
def N9 {n:Nat}{i:Int}{j:Nat} (h:g9 n i=some j):seqIndex? i n=some j/\j<n/\-(n:Int)<=i/\i<n:=by
 unfold g9 at h;by_cases h0:0<=i
 ·rw[Zp h0]at h;by_cases h1:i<n
  ·rw[Zp h1]at h;have e:i.toNat=j:=Option.some.inj h;exact⟨by rw[seqIndex_of h0 h1,e],qe,qe,h1⟩
  ·rw[Zq h1]at h;cases h
 ·rw[Zq h0]at h;by_cases h1:-(n:Int)<=i
  ·rw[Zp h1]at h;have e:(i+n).toNat=j:=Option.some.inj h;exact⟨by rw[seqIndex_neg qe h1,e],qe,h1,qe⟩
  ·rw[Zq h1]at h;cases h
def KC {α:Type}{xs:List α}{i:Int}{v:α} (h:gU xs i=some v):∃j,seqIndex? i xs.length=some j/\xs[j]?=some v/\j<xs.length/\-(xs.length:Int)<=i/\i<xs.length:=by
 unfold gU at h;cases e:g9 xs.length i with
 |none=>rw[e]at h;cases h
 |some j =>
  rw[e]at h;obtain⟨h1,h2,h3,h4⟩:=N9 e;exact⟨j,h1,h,h2,h3,h4⟩
def BS {α:Type}{xs:List α}{j:Nat}{v:α} (h:xs[j]?=some v):gU xs (j:Int)=some v:=by
 have hj:j<xs.length:=(Z8.mp h).1
 have e:g9 xs.length (j:Int)=some j:=by
  unfold g9;rw[Zp qe,Zp qe];simp
 unfold gU;rw[e];exact h
def OA (b:Expr):Prop:=∀o i,subscripted b false o i=operate [o,i] (getItem o i)
def IxR (X:Cx) (r:R2):Prop :=
 ∀(value slice:Expr) (aa:LO) (s:Xj) (σ:St) (H:Hp) (x y:V) (v u:Value) (Q:VK),Inv X aa σ H s->RelV x v->RelV y u->r x y H Q ->
  subscripted slice false v u=operate [v,u] (getItem v u)->wpAny (model X.prog X.w) X.A (subscriptTail value slice v u) (EP X aa σ Q) X.xe s
def MtR (X:Cx) (id:String) (r:V->Xh->Hp->VK->Prop):Prop :=
 ∀(aa:LO) (s:Xj) (σ:St) (H:Hp) (x:V) (xs:Xh) (v:Value) (us:Xg) (Q:VK),Inv X aa σ H s->RelV x v->Vals xs us->r x xs H Q ->
  wpAny (model X.prog X.w) X.A (call (.builtin id) (v::us)) (EP X aa σ Q) X.xe s
section
variable {a b:Expr}{ta tb:TE}
def BI {r:R2} (hr:IxR X r) (ha:PE X a ta) (hb:PE X b tb) (hs:OA b):PE X (.Subscript a b pos) (iG r ta tb):=by
 intro aa s σ H Q I h;exact Subscript_ (UU ha hb I h λv u s2 x y H2 I2 rx ry q=>hr a b aa s2 σ H2 x y v u Q I2 rx ry q (hs _ _))
inductive ExrIxL (K:FG) (x y:V) (H:Hp) (k:V->Prop):Prop where
 |mk (p:Xi) (xs:Xh) (i:Int) (v:V) (h1:x=.ref p) (h2:y=.int i) (h3:aI K H p xs) (h4:gU xs i=some v) (q:k v):ExrIxL K x y H k
def Vs (K:FG):R2:=λx y H Q=>ExrIxL K x y H λv=>Q v H
inductive ExrIxT (K:FG) (x y:V) (H:Hp) (k:V->Prop):Prop where
 |mk (p:Xi) (xs:Xh) (i:Int) (v:V) (h1:x=.ref p) (h2:y=.int i) (h3:aX K H p xs) (h4:gU xs i=some v) (q:k v):ExrIxT K x y H k
def UY (K:FG):R2:=λx y H Q=>ExrIxT K x y H λv=>Q v H
def Wy:R2:=λx y H Q=>∃z i c,x=.str z/\y=.int i/\z.length<=sizeLine/\gU z.cps.toList i=some c/\Q (.str ⟨#[c]⟩) H
def Sb:IxR X (Vs X.K):=by
 intro value slice aa s σ H x y v u Q I rx ry h hs;obtain⟨p,xs,i,z,rfl,rfl,hq,he,q⟩:=h;cases rx;obtain⟨t,rfl⟩:=ry;obtain⟨its,r,pl,hz⟩:=I.list hq;obtain⟨j,h1,h2,h3,h4,h5⟩:=KC he;obtain⟨w,ew,iq⟩:=r.get h2;have hl:=r.length;have hn:=GY;have fin:EP X aa σ Q w s:=⟨z,H,I,iq,q⟩;by_cases h0:0<=i
 ·have hj:i.toNat=j:=by
   rw[seqIndex_of h0 h5]at h1;exact Option.some.inj h1
  exact item_listR pl.isList h0 qe (by rw[hj];simpa using ew) fin hs
 ·have hj:(i+(its.toArray.size:Int)).toNat=j:=by
   rw[seqIndex_neg qe h4]at h1;rw[size_toArray,←hl];exact Option.some.inj h1
  exact subscriptTail_builtinR (x:=w) pl.isList.typeIs slot_list_getitem.lookup
   (wpAny_getItem_list_neg (Q:=λr s'=>r=w/\EP X aa σ Q r s') pl.isList qe (by rw[size_toArray] <;> omega) qe (by rw[hj];simpa using ew) ⟨rfl,fin⟩) hs
def UZ:IxR X (UY X.K):=by
 intro value slice aa s σ H x y v u Q I rx ry h hs;obtain⟨p,xs,i,z,rfl,rfl,hq,he,q⟩:=h;cases rx;obtain⟨t,rfl⟩:=ry;obtain⟨its,r,pl,hz⟩:=I.tuple hq;obtain⟨j,h1,h2,h3,h4,h5⟩:=KC he;obtain⟨w,ew,iq⟩:=r.get h2;have hl:=r.length;have hn:=GY;have fin:EP X aa σ Q w s:=⟨z,H,I,iq,q⟩
 exact subscriptTail_builtinR (x:=w) pl.typeIs slot_tuple_getitem.lookup
  (getItem_tuple (j:=j) (Q:=λr s'=>r=w/\EP X aa σ Q r s') pl qe qe (by rw[size_toArray,←hl];exact h1) (by simpa using ew) ⟨rfl,fin⟩) hs
def Hi:IxR X Wy:=by
 intro value slice aa s σ H x y v u Q I rx ry h hs;obtain⟨z,i,c,rfl,rfl,hz,he,q⟩:=h;obtain⟨t,rfl⟩:=rx;obtain⟨t',rfl⟩:=ry;obtain⟨j,h1,h2,h3,h4,h5⟩:=KC he;have hl:z.cps.toList.length=z.length:=by simp[Str.length]
 rw[hl]at h1 h4 h5;have hn:=GY
 exact tail_any (typeIs_str s z t) slot_str_getitem.lookup (getItem_str (c:=c) (by
  have e1:decide (i < -(2 ^ 63:Int))=false:=ZO qe;have e2:decide (i ≥ 2 ^ 63)=false:=ZO qe
  rw[e1,e2,Bool.or_false]) (by rw[h1];simpa using h2) ⟨.str ⟨#[c]⟩,H,I.tok _,⟨_,rfl⟩,q⟩) hs
def Ms (its:Xg) (n j:Nat) (u:Value):Obj.mapSeq (·.setIfInBounds j u) { cls:=.type "list", data:=.seq its.toArray n }={ cls:=.type "list", data:=.seq (its.set j u).toArray n }:=by
 simp[Obj.mapSeq]
def Inv.lst {aa:LO}{σ:St}{H:Hp}{s:Xj}{p:Xi}{xs:Xh} (I:Inv X aa σ H s) (h:H p=some (.lst xs)) :
  ∃(its:Xg) (n:Nat),Vals xs its/\s.heap.get? p=some { cls:=.type "list", data:=.seq its.toArray n }/\xs.length<=sizeLine:=by
 obtain⟨z,its,n,r,e⟩:=I.aD p _ h;exact⟨its,n,r,e,z⟩
def Inv.lstUpd {p:Xi}{ys:Xh}{its its':Xg}{n n':Nat}{f:Obj->Obj} (I:Inv X aa σ H s) (h:H p=some (.lst xs))
  (ho:s.heap.get? p=some { cls:=.type "list", data:=.seq its.toArray n }) (hf:f { cls:=.type "list", data:=.seq its.toArray n }={ cls:=.type "list", data:=.seq its'.toArray n' }) (r:Vals ys its') (hz:ys.length<=sizeLine) (t:Nat) :
  Inv X aa σ (upd H p (.lst ys)) { s with heap:=s.heap.update p f,toks:=t }:=by
 have e:(s.heap.update p f).get? p=some { cls:=.type "list", data:=.seq its'.toArray n' }:=by
  rw[ZU f ho (by rw[hf] <;> rfl),hf]
 refine I.write (x:=p) (e:=p) (by rw[h];trivial) (.inl Zj) (λb u hb q=>(ZW _ _ (Ne.symm hb)).trans q) ⟨_,e⟩ ?_;exact⟨hz,its',n',r,e⟩
def Vt:V->V->V->Hp->(Hp->Prop)->Prop:=λo i v H Q=>∃p xs k j,o=.ref p/\i=.int k/\H p=some (.lst xs)/\g9 xs.length k=some j/\Q (upd H p (.lst (xs.set j v)))
def FR:Vn X Vt:=by
 intro aa s σ H o i v ov iv u Q I ro ri rv h;obtain⟨p,xs,k,j,rfl,rfl,hp,hj,q⟩:=h;cases ro;obtain⟨t,rfl⟩:=ri;obtain⟨its,n,r,ho,hz⟩:=I.lst hp;obtain⟨h1,h2,h3,h4⟩:=N9 hj;have hl:=r.length;have hn:=GY
 have I':Inv X aa σ (upd H p (.lst (xs.set j v))) { s with heap:=s.heap.update p (Obj.mapSeq (·.setIfInBounds j u)) } :=
  I.lstUpd hp ho (Ms its n j u) (r.set rv j) (by rw[List.length_set];exact hz) s.toks
 by_cases h0:0<=k
 ·have hk:k.toNat=j:=by
   rw[seqIndex_of h0 h4]at h1;exact Option.some.inj h1
  exact W.ki_setAt ho h0 qe (by rw[size_toArray,←hl];exact h4) (by rw[hk];exact⟨_,I',q⟩)
 ·have hk:(k+(its.toArray.size:Int)).toNat=j:=by
   rw[seqIndex_neg qe h3]at h1;rw[size_toArray,←hl];exact Option.some.inj h1
  exact W.ki_setBack ho qe (by rw[size_toArray,←hl];exact h3) qe (by rw[hk];exact⟨_,I',q⟩)
noncomputable def FS:V->Bool
 | .aO=>true
 | .bl _=>true
 | .int _=>true
 | .str _=>true
 |_=>false
noncomputable def jq:V->V->Bool
 | .aO,.aO=>true
 | .bl a,.bl b=>a==b
 | .bl a,.int b=>(if a then 1 else 0)==b
 | .int a,.bl b=>a==(if b then 1 else 0)
 | .int a,.int b=>a==b
 | .str a,.str b=>a==b
 |_,_=>false
def Ua {y x:V}{v:Value} (ry:RelV y u) (rx:RelV x v) (fy:FS y=true) (fx:FS x=true):SeqAt.EqAt A s u v (jq y x):=by
 cases y with
 |aO =>
  cases ry;cases x with
  |aO=>cases rx;exact SeqAt.EqAt.same _
  |bl b=>cases rx;exact SeqAt.EqAt.none_bool b
  |int b=>obtain⟨t,rfl⟩:=rx;exact SeqAt.EqAt.none_int b t
  |str b=>obtain⟨t,rfl⟩:=rx;exact SeqAt.EqAt.none_str b t
  |_=>exact absurd (show false=true from fx) Bool.false_ne_true
 |bl a =>
  cases ry;cases x with
  |aO=>cases rx;exact SeqAt.EqAt.bool_none a
  |bl b=>cases rx;exact SeqAt.EqAt.bool_bool a b
  |int b=>obtain⟨t,rfl⟩:=rx;exact SeqAt.EqAt.bool_int a b t
  |str b=>obtain⟨t,rfl⟩:=rx;exact SeqAt.EqAt.bool_str a b t
  |_=>exact absurd (show false=true from fx) Bool.false_ne_true
 |int a =>
  obtain⟨t',rfl⟩:=ry;cases x with
  |aO=>cases rx;exact SeqAt.EqAt.int_none a t'
  |bl b=>cases rx;exact SeqAt.EqAt.int_bool a t' b
  |int b=>obtain⟨t,rfl⟩:=rx;exact SeqAt.EqAt.int_int a t' b t
  |str b=>obtain⟨t,rfl⟩:=rx;exact SeqAt.EqAt.int_str a t' b t
  |_=>exact absurd (show false=true from fx) Bool.false_ne_true
 |str a =>
  obtain⟨t',rfl⟩:=ry;cases x with
  |aO=>cases rx;exact SeqAt.EqAt.str_none a t'
  |bl b=>cases rx;exact SeqAt.EqAt.str_bool a t' b
  |int b=>obtain⟨t,rfl⟩:=rx;exact SeqAt.EqAt.str_int a t' b t
  |str b=>obtain⟨t,rfl⟩:=rx;exact SeqAt.EqAt.str_str a t' b t
  |_=>exact absurd (show false=true from fx) Bool.false_ne_true
 |_=>exact absurd (show false=true from fy) Bool.false_ne_true
noncomputable def ij (x:V) (u:Value):Bool:=match u with
 | .none=>jq .aO x
 | .bool b=>jq (.bl b) x
 | .int i _=>jq (.int i) x
 | .str z _=>jq (.str z) x
 |_=>false
def Qd {x y:V} (r:RelV y u) (f:FS y=true):ij x u=jq y x:=by
 cases y with
 |aO=>cases r;rfl
 |bl b=>cases r;rfl
 |int i=>obtain⟨t,rfl⟩:=r;rfl
 |str z=>obtain⟨t,rfl⟩:=r;rfl
 |_=>exact absurd (show false=true from f) Bool.false_ne_true
def FU {x:V}:∀ {xs:Xh}{us:Xg},Vals xs us->xs.all FS=true->us.any (ij x)=xs.any λy=>jq y x
 |_,_,.nil,_=>rfl
 |y::xs,u::us,.cons r t,f=>by
  rw[List.all_cons,Bool.and_eq_true]at f;rw[any_cons,any_cons,Qd r f.1,FU t f.2]
def Dy {A:Around}{s:Xj}{x:V}{v:Value} (rx:RelV x v) (fx:FS x=true):∀ {xs:Xh}{us:Xg},Vals xs us->xs.all FS=true->∀u∈us,SeqAt.EqAt A s u v (ij x u)
 |_,_,.nil,_=>λu hu=>by cases hu
 |y::xs,u::us,.cons r t,f=>λu' hu=>by
  rw[List.all_cons,Bool.and_eq_true]at f;rcases mem_cons.mp hu with rfl |hu
  ·rw[Qd r f.1];exact Ua r rx f.1 fx
  ·exact Dy rx fx t f.2 u' hu
noncomputable def eK (x:V) (xs:Xh):Bool:=xs.any λy=>jq y x
def rIn (K:FG) (neg:Bool):R2:=λx y H Q=>∃p xs,y=.ref p/\(aI K H p xs\/aX K H p xs)/\FS x=true/\xs.all FS=true/\Q (.bl (if neg then !eK x xs else eK x xs)) H
def EU:cS X (compareOp .In) (rIn X.K false):=by
 intro aa s σ H x y v u Q I rx ry h;obtain⟨p,xs,rfl,hq,fx,fs,q⟩:=h;cases ry;rcases hq with hq |hq
 ·obtain⟨its,r,pl,hz⟩:=I.list hq;refine SeqAt.in_listAt (ij x) pl.isList (λw hw=>Dy rx fx r fs w (by simpa using hw)) ⟨.bl _,H,I,Zj,?_⟩;rw[show its.toArray.any (ij x)=its.any (ij x) by simp,FU r fs];exact q
 ·obtain⟨its,r,pl,hz⟩:=I.tuple hq;refine SeqAt.in_tupleAt (ij x) pl (λw hw=>Dy rx fx r fs w (by simpa using hw)) ⟨.bl _,H,I,Zj,?_⟩;rw[show its.toArray.any (ij x)=its.any (ij x) by simp,FU r fs];exact q
def KD:cS X (compareOp .NotIn) (rIn X.K true):=by
 intro aa s σ H x y v u Q I rx ry h;obtain⟨p,xs,rfl,hq,fx,fs,q⟩:=h;cases ry;rcases hq with hq |hq
 ·obtain⟨its,r,pl,hz⟩:=I.list hq;refine SeqAt.notIn_listAt (ij x) pl.isList (λw hw=>Dy rx fx r fs w (by simpa using hw)) ⟨.bl _,H,I,Zj,?_⟩;rw[show its.toArray.any (ij x)=its.any (ij x) by simp,FU r fs];exact q
 ·obtain⟨its,r,pl,hz⟩:=I.tuple hq;refine SeqAt.notIn_tupleAt (ij x) pl (λw hw=>Dy rx fx r fs w (by simpa using hw)) ⟨.bl _,H,I,Zj,?_⟩;rw[show its.toArray.any (ij x)=its.any (ij x) by simp,FU r fs];exact q
def FV:aS X (.builtin "len") (λxs H Q=>∃p ys,xs=[.ref p]/\(aI X.K H p ys\/aX X.K H p ys)/\Q (.int ys.length) H):=by
 intro aa s σ H xs us Q I r h;obtain⟨p,ys,rfl,hq,q⟩:=h;obtain⟨u,rfl,rx⟩:=Br r;cases rx;have hn:=GY;rcases hq with hq |hq
 ·obtain⟨its,r',pl,hz⟩:=I.list hq;have be:=r'.length;exact Calls.call_len_list pl.isList (by simp only[size_toArray] <;> omega) ⟨.int ys.length,H,I.tok _,⟨s.toks+1,by rw[size_toArray,be]⟩,q⟩
 ·obtain⟨its,r',pl,hz⟩:=I.tuple hq;have be:=r'.length;exact len_tuple pl (by simp only[size_toArray] <;> omega) ⟨.int ys.length,H,I.tok _,⟨s.toks+1,by rw[size_toArray,be]⟩,q⟩
def BE:aS X (.builtin "len") (λxs H Q=>∃z,xs=[.str z]/\z.length<=sizeLine/\Q (.int z.length) H):=by
 intro aa s σ H xs us Q I r h;obtain⟨z,rfl,hz,q⟩:=h;obtain⟨u,rfl,t,rfl⟩:=Br r;have hn:=GY;exact len_str qe ⟨.int z.length,H,I.tok _,⟨_,Zj⟩,q⟩
def aS.or {f:Value}{r r':Xh->Hp->VK->Prop} (h:aS X f r) (h':aS X f r'):aS X f (λxs H Q=>r xs H Q\/r' xs H Q):=by
 intro aa s σ H xs us Q I rs q;rcases q with q |q
 ·exact h aa s σ H xs us Q I rs q
 ·exact h' aa s σ H xs us Q I rs q
def JB:aS X (.type "tuple") (λxs H Q=>∃p ys,xs=[.ref p]/\((aI X.K H p ys/\∀l,H l=none->Q (.ref l) (upd H l (.tup ys)))\/(aX X.K H p ys/\Q (.ref p) H))):=by
 intro aa s σ H xs us Q I r h;obtain⟨p,ys,rfl,h⟩:=h;obtain⟨u,rfl,rx⟩:=Br r;cases rx;rcases h with⟨hq,q⟩ |⟨hq,q⟩
 ·obtain⟨its,r',pl,hz⟩:=I.list hq;have be:=r'.length;refine call_tuple_list pl.isList (λh' kp=>?_) (by simp only[size_toArray] <;> omega);have I1:Inv X aa σ H { s with heap:=h' }:=I.kept (t':=s.toks) kp
  have I2:Inv X aa σ (upd H h'.objs.size (.tup ys)) { s with heap:=h'.push { cls:=.type "tuple", data:=.seq its.toArray } } :=
   I1.laid (t':=s.toks) (λb o e=>ZX _ e) (Zy _) (show aP X.prog X.w _ _ _ (.tup ys)from⟨hz,its,r',IsTup.new _ _⟩)
  exact⟨.ref h'.objs.size,_,I2,Zj,q _ (I1.aD.fresh (Zy _))⟩
 ·obtain⟨its,r',pl,hz⟩:=I.tuple hq;exact call_tuple_same pl ⟨.ref p,H,I,Zj,q⟩
def tyV (K:FG) (T:String) (x:V) (H:Hp):Prop:=match x with
 | .str _=>T = "str"
 | .int _=>T = "int"
 | .ref p=>(T = "list" /\ ∃xs,aI K H p xs)\/(T = "tuple" /\ ∃o,K.lookup p=some o/\o.cls=.type "tuple" /\ o.dict=none) \/
   (T = "dict" /\ ((∃kvs,H p=some (.dK kvs))\/∃kvs,H p=some (.dT kvs)))\/(T = "set" /\ ∃S n,H p=some (.set S n))
 |_=>False
def Qe {T:String}{x:V}{v:Value} (I:Inv X aa σ H s) (r:RelV x v) (ty:tyV X.K T x H) :
  s.TypeIs v T/\∀a,v=.ref a->∃ob,s.heap.get? a=some ob/\ob.dict=none:=by
 cases x with
 |str z =>
  obtain⟨t,rfl⟩:=r;cases (show T = "str" from ty);exact⟨typeIs_str s z t,λ_ e=>nomatch e⟩
 |int i =>
  obtain⟨t,rfl⟩:=r;cases (show T = "int" from ty);exact⟨typeIs_int s i t,λ_ e=>nomatch e⟩
 |ref p =>
  cases r;rcases ty with⟨rfl,xs,hq⟩ |⟨rfl,o,hk,hc,hd⟩ |⟨rfl,hk⟩ |⟨rfl,S,n,hk⟩
  ·obtain⟨its,_,pl,_⟩:=I.list hq;refine⟨pl.isList.typeIs,λa e=>?_⟩;cases e;obtain⟨o,n,e,c,hd,_⟩:=pl;exact⟨o,e,hd⟩
  ·refine⟨⟨o,I.cV p o hk,hc⟩,λa e=>?_⟩;cases e;exact⟨o,I.cV _ o hk,hd⟩
  ·have z:∃o,s.heap.get? p=some o/\o.ExactDict:=by
    rcases hk with⟨kvs,hk⟩ |⟨kvs,hk⟩
    ·obtain⟨_,_,_,_,o,_,_,e,ex,_⟩:=I.aD p _ hk;exact⟨o,e,ex⟩
    ·obtain⟨_,_,_,_,o,_,_,e,ex,_⟩:=I.aD p _ hk;exact⟨o,e,ex⟩
   obtain⟨o,e,ex⟩:=z;refine⟨⟨o,e,ex.1⟩,λa e2=>?_⟩;cases e2;exact⟨o,e,ex.2.1⟩
  ·obtain⟨o,_,_,_,e,ex,_⟩:=I.aD p _ hk;refine⟨⟨o,e,ex.1⟩,λa e2=>?_⟩;cases e2;exact⟨o,e,ex.2.1⟩
 |_=>exact False.elim ty
def Wz (K:FG) (T:String) (r:V->Xh->Hp->VK->Prop) (to:TE):TE:=λσ H Q=>to σ H λx H1=>tyV K T x H1/\r x [] H1 Q
def tBM (K:FG) (T:String) (r:V->Xh->Hp->VK->Prop) (to:TE) (t:TA):TE:=λσ H Q=>to σ H λx H1=>tyV K T x H1/\t σ H1 λxs H2=>r x xs H2 Q
variable {o:Expr}{es:List Expr}{to:TE}{t:TA}{name:Str}{apos d7:Pos}{T id:String}{r:V->Xh->Hp->VK->Prop}
def Hj (pa:PlainAttrs T) (slot:Slot T name id) (hty:typeOf (.builtin id)=pure (.type "method_descriptor")) (hm:MtR X id r) (ho:PE X o to)
  (bw:attributeBase o name X.env (eval o X.env)=eval o X.env:=by rfl) (b9:(apos.endLine==d7.line)=true:=by rfl):PE X (.Call (.Attribute o name apos) [] [] d7) (Wz X.K T r to):=by
 intro aa s σ H Q I h;refine wpAny_Call_method0_late bw b9 (aG (ho aa s σ H _ I h) λv s1 ⟨x,H1,I1,r1,ty,q1⟩=>?_);obtain⟨h1,h2⟩:=Qe I1 r1 ty;exact⟨T,id,pa,slot,hty,h1,h2,Calls.callWith_builtin Zj (PySem.evalArgs_none (hm aa s1 σ H1 x [] v [] Q I1 r1 .nil q1))⟩
def Eh (pa:PlainAttrs T) (slot:Slot T name id) (hty:typeOf (.builtin id)=pure (.type "method_descriptor")) (hm:MtR X id r) (ho:PE X o to) (ha:PA X (e::es) t)
  (bw:attributeBase o name X.env (eval o X.env)=eval o X.env:=by rfl)
  (hfew:((backTo d7 (starEach (e::es) X.env)).all (λx=>!x.1)&&(backToKw d7 (keywordEach [] X.env)).all (λx=>x.1.isSome)
   && decide ((e::es).length+([]:List Keyword).length+(if ([]:List Keyword).isEmpty then 0 else 1)<30))=true:=by rfl)
  (b9:(apos.endLine==d7.line)=true:=by rfl) (hs:starEach (e::es) X.env=(false,eval e X.env)::starEach es X.env:=by rfl) (hplain:(backTo d7 (starEach es X.env)).any (·.1)=false:=by rfl) :
  PE X (.Call (.Attribute o name apos) (e::es) [] d7) (tBM X.K T r to t):=by
 intro aa s σ H Q I h;refine wpAny_Call_method_late bw hfew b9 Zj (aG (ho aa s σ H _ I h) λv s1 ⟨x,H1,I1,r1,ty,q1⟩=>?_);obtain⟨h1,h2⟩:=Qe I1 r1 ty;refine⟨T,id,pa,slot,hty,h1,h2,?_⟩;have hA:=ha d7 aa s1 σ H1 _ I1 q1;rw[hs]at hA ⊢;refine Calls.callWith_builtin (by show(false||(backTo d7 (starEach es X.env)).any (·.1))=false;rw[hplain] <;> rfl) (Calls.evalArgs_plain ?_);exact aG hA λus s2 ⟨vs,H2,I2,r2,q2⟩=>hm aa s2 σ H2 x vs v us Q I2 r1 r2 q2
end
def MtM (X:Cx) (id:String) (r:V->Xh->Hp->VK->Prop):Prop :=
 ∀(aa:LO) (s:Xj) (σ:St) (H:Hp) (x:V) (xs:Xh) (v:Value) (us:Xg) (Q:VK),Inv X aa σ H s->RelV x v->Vals xs us->r x xs H Q ->
  wpAny (model X.prog X.w) X.A (call (.builtin id) (v::us)) (EP X aa σ Q) X.xe s
def Vals.one:∀ {x:V}{us:Xg},Vals [x] us->∃u,us=[u]/\RelV x u
 |_,_,.cons r .nil=>⟨_,rfl,r⟩
def Vals.zero:∀ {us:Xg},Vals [] us->us=[]
 |_,.nil=>rfl
def Vals.dropLast {xs:Xh}{us:Xg} (h:Vals xs us):Vals xs.dropLast us.dropLast:=by
 induction h with
 |nil=>exact .nil
 |cons r t ih =>
  cases t with
  |nil=>exact .nil
  |cons q t'=>exact .cons r ih
def Mu {α:Type} (l:List α):l.eraseIdx (l.length - 1)=l.dropLast:=by
 induction l with
 |nil=>rfl
 |cons a r ih =>
  cases r with
  |nil=>rfl
  |cons b r =>
   have e:(a::b::r).length - 1=((b::r).length - 1)+1:=by
    have h1:(a::b::r).length=r.length+2:=rfl;have h2:(b::r).length=r.length+1:=rfl;omega
   rw[e,List.eraseIdx_cons_succ,ih]
   all_goals rfl
section
variable {l b:Xi}{ys zs:Xh}
def Inv.lset {its its':Xg}{n:Nat}{f:Array Value->Array Value}{t':Nat} (I:Inv X aa σ H s) (hH:H l=some (.lst xs))
  (e:s.heap.get? l=some { cls:=.type "list", data:=.seq its.toArray n }) (hf:f its.toArray=its'.toArray) (hv:Vals ys its') (hz:ys.length<=sizeLine) :
  Inv X aa σ (upd H l (.lst ys)) { s with heap:=s.heap.update l (Obj.mapSeq f),toks:=t' }:=by
 have q:=PySem.IsL.update e f;rw[hf]at q;refine I.write (x:=l) (e:=l) (by rw[hH];exact trivial) (.inl Zj) (λb' u hb hu=>(ZW s.heap (Obj.mapSeq f) (Ne.symm hb)).trans hu) ⟨_,q⟩ ?_;exact⟨hz,its',_,hv,q⟩
def Inv.lnew {its:Xg}{t':Nat} (I:Inv X aa σ H s) (hv:Vals ys its) (hz:ys.length<=sizeLine) :
  Inv X aa σ (upd H s.heap.objs.size (.lst ys)) { s with heap:=s.heap.push { cls:=.type "list", data:=.seq its.toArray },toks:=t' } :=
 I.laid (λ_ _ q=>ZX _ q) (Zy _) ⟨hz,its,0,hv,ZN _ rfl⟩
def Inv.fresh (I:Inv X aa σ H s):H s.heap.objs.size=none:=I.aD.fresh (Zy _)
def Inv.lstM (I:Inv X aa σ H s) (hH:H l=some (.lst xs)):xs.length<=sizeLine/\∃(its:Xg) (n:Nat),Vals xs its/\xs.length=its.length/\s.heap.get? l=some { cls:=.type "list", data:=.seq its.toArray n }:=by
 obtain⟨z,its,n,r,e⟩:=I.aD l _ hH;exact⟨z,its,n,r,r.length,e⟩
end
section
def Sc:V->Xh->Hp->VK->Prop:=λx vs H Q=>∃l xs y,x=.ref l/\vs=[y]/\H l=some (.lst xs)/\xs.length<sizeLine/\Q .aO (upd H l (.lst (xs++[y])))
def CA:MtM X "list.append" Sc:=by
 intro aa s σ H x vs v us Q I rx rv h;obtain⟨l,xs,y,rfl,rfl,hH,hz,q⟩:=h;cases rx;obtain⟨u,rfl,ru⟩:=rv.one;obtain⟨z,its,n,r,hl,e⟩:=I.lstM hH;refine call_meets F.slot_list_append ⟨_,e,Zj⟩ F.entry_list_append (F.args_list_append_2 _ _) (PySem.list_append l its.toArray n u (by rw[size_toArray];omega)) ⟨e,?_⟩;refine⟨.aO,_,I.lset (its':=its++[u]) hH e (by simp) (r.append (.cons ru .nil)) ?_,Zj,q⟩;rw[ZH,length_singleton];omega
def W3:V->Xh->Hp->VK->Prop:=λx vs H Q=>∃l xs y,x=.ref l/\vs=[]/\H l=some (.lst xs)/\xs[xs.length - 1]?=some y/\Q y (upd H l (.lst xs.dropLast))
def KF:MtM X "list.pop" W3:=by
 intro aa s σ H x vs v us Q I rx rv h;obtain⟨l,xs,y,rfl,rfl,hH,hy,q⟩:=h;cases rx;have hus:=rv.zero;subst hus;obtain⟨z,its,n,r,hl,e⟩:=I.lstM hH;obtain⟨u,hu,ru⟩:=r.get hy
 have hy':its.toArray[its.toArray.size - 1]?=some u:=by
  show its.toArray[its.length - 1]?=some u;rw[←Array.getElem?_toList,←hl];exact hu
 refine call_meets F.slot_list_pop ⟨_,e,Zj⟩ F.entry_list_pop (F.args_list_pop_1 _) (MeetsSeq.list_pop_last l its.toArray n u hy' (by rw[size_toArray];omega)) ⟨e,?_⟩;refine⟨y,_,I.lset (its':=its.dropLast) hH e ?_ r.dropLast ?_,ru,q⟩
 ·show its.toArray.eraseIdxIfInBounds (its.toArray.size - 1)=its.dropLast.toArray;rw[size_toArray,List.eraseIdxIfInBounds_toArray,Mu]
 ·rw[List.length_dropLast];omega
def W5:R2:=λx y H Q=>∃l b xs zs,x=.ref l/\y=.ref b/\H l=some (.lst xs)/\H b=some (.lst zs)/\xs.length+zs.length<=sizeLine/\∀p,H p=none->Q (.ref p) (upd H p (.lst (xs++zs)))
def Gb:cS X (binaryOp .Add) W5:=by
 intro aa s σ H x y v u Q I rx ry h;obtain⟨l,b,xs,zs,rfl,rfl,hH,hB,hz,q⟩:=h;cases rx;cases ry;obtain⟨z,its,n,r,hl,e⟩:=I.lstM hH;obtain⟨z2,its2,n2,r2,ia,e2⟩:=I.lstM hB;refine PySem.P.add_list e e2 ?_ (by rw[size_toArray,size_toArray];omega);have ea:its.toArray++its2.toArray=(its++its2).toArray:=by simp
 rw[ea];exact⟨.ref _,_,I.lnew (t':=s.toks) (r.append r2) (by rw[ZH];omega),Zj,q _ I.fresh⟩
end
section
variable {κ:Type} [DecidableEq κ]
noncomputable def As (kvs:List (κ×V)) (k:κ):Option V:=(kvs.find? λkv=>decide (kv.1=k)).map (·.2)
noncomputable def Cl (kvs:List (κ×V)) (k:κ) (v:V):List (κ×V) :=
 if (kvs.any λkv=>decide (kv.1=k))=true then kvs.map (λkv=>if kv.1=k then (kv.1,v)else kv)else kvs++[(k,v)]
noncomputable def FW (kvs:List (κ×V)) (k:κ):List (κ×V):=kvs.filter λkv=>decide (kv.1≠k)
def Dz {p:κ×V}{r:List (κ×V)}{k:κ} (e:p.1=k):As (p::r) k=some p.2:=by simp[As,find?_cons,e]
def D0 {p:κ×V}{r:List (κ×V)}{k:κ} (e:¬ p.1=k):As (p::r) k=As r k:=by simp[As,find?_cons,e]
def Hk (k:κ):∀kvs:List (κ×V),(kvs.any λkv=>decide (kv.1=k))=(As kvs k).isSome
 | []=>rfl
 |p::r=>by
  rw[any_cons];by_cases e:p.1=k
  ·simp only[Dz e,ZL e,Bool.true_or,Option.isSome_some]
  ·rw[D0 e,ZO e,Bool.false_or];exact Hk k r
def Cq (kvs:List (κ×V)) (k:κ) (v:V):(Cl kvs k v).length<=kvs.length+1:=by
 unfold Cl;split
 ·rw[AK];omega
 ·rw[ZH,length_cons,length_nil];omega
def K5 {kvs:List (κ×V)}{k:κ} (v:V) (h:As kvs k=none):Cl kvs k v=kvs++[(k,v)]:=by
 unfold Cl;rw[Hk,h];exact Zq qc
def eh.isSome_eq {o:Option V}{u:Option Value} (r:eh o u):o.isSome=u.isSome:=by
 cases o with
 |none=>cases u with
  |none=>rfl
  |some _=>exact(show False from r).elim
 |some _=>cases u with
  |none=>exact(show False from r).elim
  |some _=>rfl
def KV.val {kvs:List (κ×V)}{vs:List (κ×Value)} (r:KV kvs vs) (k:κ):eh (As kvs k) (valueAt vs k):=by
 unfold KV at r;induction r with
 |nil=>exact True.intro
 | @cons p q ps qs h t ih =>
  obtain⟨h1,h2⟩:=h;by_cases e:p.1=k
  ·have e':q.1=k:=h1.symm.trans e;have b:valueAt (q::qs) k=some q.2:=by simp[valueAt,find?_cons,e']
   rw[Dz e,b];exact h2
  ·have e':¬ q.1=k:=λz=>e (h1.trans z);have b:valueAt (q::qs) k=valueAt qs k:=by simp[valueAt,find?_cons,e']
   rw[D0 e,b];exact ih
def KV.any {kvs:List (κ×V)}{vs:List (κ×Value)} (r:KV kvs vs) (k:κ):(kvs.any λkv=>decide (kv.1=k))=vs.any λkv=>decide (kv.1=k):=by
 unfold KV at r;induction r with
 |nil=>rfl
 |cons h t ih=>rw[any_cons,any_cons,ih,h.1]
def KV.repl {kvs:List (κ×V)}{vs:List (κ×Value)} (r:KV kvs vs) (k:κ) {y:V} (ry:RelV y u) :
  KV (kvs.map λkv=>if kv.1=k then (kv.1,y)else kv) (vs.map λkv=>if kv.1=k then (kv.1,u)else kv):=by
 unfold KV at r ⊢;induction r with
 |nil=>exact .nil
 | @cons p q ps qs h t ih =>
  rw[map_cons,map_cons];refine .cons ?_ ih;obtain⟨h1,h2⟩:=h;by_cases e:p.1=k
  ·rw[Zp e,Zp (h1.symm.trans e)];exact⟨h1,ry⟩
  ·rw[Zq e,Zq (λz=>e (h1.trans z))];exact⟨h1,h2⟩
def KV.put {kvs:List (κ×V)}{vs:List (κ×Value)} (r:KV kvs vs) (k:κ) {y:V} (ry:RelV y u):KV (Cl kvs k y) (stored vs k u):=by
 unfold Cl stored;rw[r.any k];by_cases e:(vs.any λkv=>decide (kv.1=k))=true
 ·rw[Zp e,Zp e];exact r.repl k ry
 ·rw[Zq e,Zq e];exact Paired.snoc r ⟨Zj,ry⟩
def KV.drop {kvs:List (κ×V)}{vs:List (κ×Value)} (r:KV kvs vs) (k:κ):KV (FW kvs k) (without vs k):=by
 unfold KV at r ⊢;unfold FW without;induction r with
 |nil=>exact .nil
 | @cons p q ps qs h t ih =>
  obtain⟨h1,h2⟩:=h;rw[filter_cons,filter_cons];by_cases e:p.1=k
  ·have a:¬ decide (p.1≠k)=true:=by simp[e]
   have b:¬ decide (q.1≠k)=true:=by simp[h1.symm.trans e]
   rw[Zq a,Zq b];exact ih
  ·have e':¬ q.1=k:=λz=>e (h1.trans z);have a:decide (p.1≠k)=true:=by simp[e]
   have b:decide (q.1≠k)=true:=by simp[e']
   rw[Zp a,Zp b];exact .cons ⟨h1,h2⟩ ih
def KV.length {kvs:List (κ×V)}{vs:List (κ×Value)} (r:KV kvs vs):kvs.length=vs.length:=Paired.length r
end
def FX {k:Key} (r:RelV (kV k) u):(AY P w).is k u=true:=by
 cases k with
 |inl i=>obtain⟨t,e⟩:=(show ∃t,u=Value.int i t from r);subst e;exact Kw P w i t
 |inr x=>obtain⟨t,e⟩:=(show ∃t,u=Value.str x t from r);subst e;exact Du P w x t
def JW {P:Program}{w:World}:∀ {ks:List Key}{us:Xg},Vals (ks.map kV) us->ItemsAre (AY P w) ks us
 | [],_,r=>by rw[map_nil]at r;cases r;exact .nil
 |k::ks,_,r=>by
  rw[map_cons]at r;cases r with
  |cons h t=>exact .cons (FX h) (JW t)
abbrev KT (H:Hp):List (List Key×V)->List (List Key×Xi×Value)->Prop:=Paired λp q=>p.1=q.1/\H q.2.1=some (.tup (p.1.map kV))/\RelV p.2 q.2.2
def KT.val {kvs:List (List Key×V)}{xs:List (List Key×Xi×Value)} (r:KT H kvs xs) (k:List Key):eh (As kvs k) ((atKey xs k).map (·.2)):=by
 induction r with
 |nil=>exact True.intro
 | @cons p q ps qs h t ih =>
  obtain⟨h1,_,h2⟩:=h;by_cases e:p.1=k
  ·have e':q.1=k:=h1.symm.trans e;have b:atKey (q::qs) k=some q.2:=by simp[atKey,find?_cons,e']
   rw[Dz e,b];exact h2
  ·have e':¬ q.1=k:=λz=>e (h1.trans z);have b:atKey (q::qs) k=atKey qs k:=by simp[atKey,find?_cons,e']
   rw[D0 e,b];exact ih
def KT.repl {kvs:List (List Key×V)}{xs:List (List Key×Xi×Value)} (r:KT H kvs xs) (k:List Key) {y:V} (ry:RelV y u) :
  KT H (kvs.map λkv=>if kv.1=k then (kv.1,y)else kv) (xs.map (putAt k u)):=by
 induction r with
 |nil=>exact .nil
 | @cons p q ps qs h t ih =>
  rw[map_cons,map_cons];refine .cons ?_ ih;obtain⟨h1,h2,h3⟩:=h;unfold putAt;by_cases e:p.1=k
  ·rw[Zp e,Zp (h1.symm.trans e)];exact⟨h1,h2,ry⟩
  ·rw[Zq e,Zq (λz=>e (h1.trans z))];exact⟨h1,h2,h3⟩
def KT.put {kvs:List (List Key×V)}{xs:List (List Key×Xi×Value)} (r:KT H kvs xs) (k:List Key) {b:Xi}{y:V} (hb:H b=some (.tup (k.map kV))) (ry:RelV y u) :
  KT H (Cl kvs k y) (storedH xs k b u):=by
 have e:(kvs.any λkv=>decide (kv.1=k))=(atKey xs k).isSome:=by
  rw[Hk,(r.val k).isSome_eq,Option.isSome_map]
 unfold Cl storedH;rw[e];by_cases q:(atKey xs k).isSome=true
 ·rw[Zp q,Zp q];exact r.repl k ry
 ·rw[Zq q,Zq q];exact Paired.snoc r ⟨Zj,hb,ry⟩
def KT.keeps {kvs:List (List Key×V)}{xs:List (List Key×Xi×Value)} (r:KT H kvs xs) (ht:∀b ys,H b=some (.tup ys)->H' b=some (.tup ys)):KT H' kvs xs :=
 Paired.mapP r λ_ _ z=>⟨z.1,ht _ _ z.2.1,z.2.2⟩
section
def Tw {u:HO} (ok:dv P w H h) (e:Rd H a u):aP P w H h a u:=e.ok ok
def Dl {kvs:LK} (ok:dv P w H h) (e:Rd H a (.dK kvs)):kvs.length<=sizeLine/\(a==sysModules)=false/\∃vs,KV kvs vs/\h.DictOf (AY P w) a vs :=
 show aP P w H h a (.dK kvs)from Tw ok e
def OB {kvs:LK} (ok:dv P w H h) (e:H a=some (.dK kvs)):kvs.length<=sizeLine/\(a==sysModules)=false/\∃vs,KV kvs vs/\h.DictOf (AY P w) a vs:=Dl ok (.inl e)
def Hl {ks:List Key} (ok:dv P w H h) (e:H a=some (.tup (ks.map kV))):(tupleKind (AY P w)).is h ks a:=by
 obtain⟨_,its,r,o,h1,h2,n,h3⟩:=(show aP P w H h a (.tup (ks.map kV))from ok a _ e);exact⟨o,its.toArray,n,h1,h2,h3,by simpa using JW r⟩
def JX {kvs:List (List Key×V)} (ok:dv P w H h) (e:Rd H a (.dT kvs)):kvs.length<=sizeLine/\(a==sysModules)=false /\
  ∃xs,KT H kvs xs/\h.DictOfH (tupleKind (AY P w)) a xs:=by
 obtain⟨z,y,xs,r,o,es,ep,h1,h2,h3,h4,h5⟩:=(show aP P w H h a (.dT kvs)from Tw ok e);refine⟨z,y,xs,r,o,es,ep,h1,h2,h3,h4,λx hx=>?_,h5⟩
 have all:∀ {l:List (List Key×V)}{m:List (List Key×Xi×Value)},KT H l m->∀x∈m,(tupleKind (AY P w)).is h x.1 x.2.1:=by
  intro l m q;induction q with
  |nil=>intro x hx;exact nomatch hx
  | @cons p q ps qs hq t ih =>
   intro x hx;rcases mem_cons.mp hx with e |hx
   ·subst e;exact Hl ok (by rw[←hq.1];exact hq.2.1)
   ·exact ih x hx
 exact all r x hx
def Vu {kvs:List (List Key×V)} (ok:dv P w H h) (e:H a=some (.dT kvs)):kvs.length<=sizeLine/\(a==sysModules)=false /\
  ∃xs,KT H kvs xs/\h.DictOfH (tupleKind (AY P w)) a xs:=JX ok (.inl e)
end
def Mv (H:Hp) (a:Xi) (y:V) (r:Option V):Prop :=
 (∃kvs k,Rd H a (.dK kvs)/\y=kV k/\r=As kvs k)\/∃kvs k b,Rd H a (.dT kvs)/\y=.ref b/\H b=some (.tup (k.map kV))/\r=As kvs k
def DPut (H:Hp) (a:Xi) (y v:V) (H':Hp):Prop :=
 (∃kvs k,H a=some (.dK kvs)/\y=kV k/\kvs.length<sizeLine/\H'=upd H a (.dK (Cl kvs k v))) \/
 ∃kvs k b,H a=some (.dT kvs)/\y=.ref b/\H b=some (.tup (k.map kV))/\kvs.length<sizeLine/\H'=upd H a (.dT (Cl kvs k v))
def DPut.k {H:Hp}{a:Xi}{kvs:LK}{k:Key}{v:V} (e:H a=some (.dK kvs)) (hl:kvs.length<sizeLine):DPut H a (kV k) v (upd H a (.dK (Cl kvs k v))):=.inl ⟨kvs,k,e,rfl,hl,rfl⟩
section
variable {y v:V}{r:Value}{o:Option V}
def Inv.big (I:Inv X aa σ H s):sysModules<s.heap.objs.size:=by
 have h:mainGlobals<s.heap.objs.size:=(I.mod.glob.keeps I.bk).lt;exact Nat.lt_trans qc h
def PB {Q:VS} (hu:A.units+1<cLine) (I:Inv X aa σ H s) (g:Mv H a y (some v)) (ry:RelV y u) (h:∀w' s',Inv X aa σ H s'->RelV v w'->Q w' s') :
  wpAny (model X.prog X.w) A (getItem (.ref a) u) Q E s:=by
 rcases g with⟨kvs,k,e,ey,l⟩ |⟨kvs,k,b,e,ey,eb,l⟩
 ·subst ey;obtain⟨z,hd,vs,rel,dd⟩:=Dl I.aD e;obtain⟨w',hw,iq⟩:=eh.some_of (v:=v) (o:=valueAt vs k) (by rw[l];exact rel.val k);exact wpAny_getItem_of (FX ry) dd.mapOf hw (h w' _ (I.tok _) iq)
 ·subst ey;cases (show u=Value.ref b from ry);obtain⟨z,hd,xs,rel,dd⟩:=JX I.aD e;obtain⟨w',hw,iq⟩:=eh.some_of (v:=v) (o:=(atKey xs k).map (·.2)) (by rw[l];exact rel.val k);obtain⟨p,hp,am⟩:=Z6.mp hw;refine wpAny_getItem_heap (tupleKind_room_in1 hu) (Hl I.aD eb) dd hp ?_;rw[am];exact h w' _ (I.tok _) iq
def W7 {Q:VS} (hu:A.units+1<cLine) (I:Inv X aa σ H s) (g:Mv H a y o) (ry:RelV y u) (h:∀s',Inv X aa σ H s'->Q (.bool o.isSome) s') :
  wpAny (model X.prog X.w) A (compareOp .In u (.ref a)) Q E s:=by
 rcases g with⟨kvs,k,e,ey,l⟩ |⟨kvs,k,b,e,ey,eb,l⟩
 ·subst ey;obtain⟨z,hd,vs,rel,dd⟩:=Dl I.aD e;refine wpAny_in_of (FX ry) hd dd.mapOf ?_;rw[←(rel.val k).isSome_eq,←l];exact h _ (I.tok _)
 ·subst ey;cases (show u=Value.ref b from ry);obtain⟨z,hd,xs,rel,dd⟩:=JX I.aD e;refine wpAny_in_heap (tupleKind_room_in1 hu) (Hl I.aD eb) hd dd ?_;have q:=(rel.val k).isSome_eq;rw[Option.isSome_map]at q;rw[←q,←l];exact h _ (I.tok _)
def Sd {Q:VS} (hu:A.units+1<cLine) (I:Inv X aa σ H s) (g:Mv H a y o) (ry:RelV y u) (h:∀s',Inv X aa σ H s'->Q (.bool (!o.isSome)) s') :
  wpAny (model X.prog X.w) A (compareOp .NotIn u (.ref a)) Q E s:=by
 rcases g with⟨kvs,k,e,ey,l⟩ |⟨kvs,k,b,e,ey,eb,l⟩
 ·subst ey;obtain⟨z,hd,vs,rel,dd⟩:=Dl I.aD e;refine wpAny_notIn_of (FX ry) hd dd.mapOf ?_;rw[←(rel.val k).isSome_eq,←l];exact h _ (I.tok _)
 ·subst ey;cases (show u=Value.ref b from ry);obtain⟨z,hd,xs,rel,dd⟩:=JX I.aD e;refine wpAny_notIn_heap (tupleKind_room_in1 hu) (Hl I.aD eb) hd dd ?_;have q:=(rel.val k).isSome_eq;rw[Option.isSome_map]at q;rw[←q,←l];exact h _ (I.tok _)
def FY {h':Heap}{t':Nat}{ob:HO} (I:Inv X aa σ H s) (mu:Mut (H a)) (hs:Heap.SameBut a s.heap h') (he:∃q,h'.get? a=some q) (new:aP X.prog X.w (upd H a ob) h' a ob) :
  Inv X aa σ (upd H a ob) { s with heap:=h',toks:=t' } :=
 I.write (x:=a) (e:=a) mu (.inl rfl) (λb q hb z=>(hs.2 b hb).trans z) he new
def Hm {h':Heap}{kvs:LK}{vs:List (Key×Value)} (z:kvs.length<=sizeLine) (hd:(a==sysModules)=false) (rel:KV kvs vs) (dd:h'.DictOf (AY P w) a vs) :
  aP P w H' h' a (.dK kvs):=⟨z,hd,vs,rel,dd⟩
def PD {Q:Unit->Xj->Prop} (hu:A.units+1<cLine) (I:Inv X aa σ H s) (g:DPut H a y v H') (ry:RelV y u) (rv:RelV v r) (h:∀s',Inv X aa σ H' s'->Q () s') :
  wpAny (model X.prog X.w) A (setItem (.ref a) u r) Q E s:=by
 rcases g with⟨kvs,k,e,ey,l,eH⟩ |⟨kvs,k,b,e,ey,eb,l,eH⟩
 ·subst ey eH;obtain⟨z,hd,vs,rel,dd⟩:=OB I.aD e;have hz:vs.length<=sizeLine:=by rw[←rel.length];exact z
  have hl:(Cl kvs k v).length<=sizeLine:=by have:=Cq kvs k v;omega
  refine wpAny_setItem_pairs (hsz:=hz) (FX ry) dd λh' gz hs=>h _ ?_;have he:∃q,h'.get? a=some q:=let ⟨q,_,_,hq,_⟩:=gz;⟨q,hq⟩
  exact FY I (by rw[e];exact True.intro) hs he (Hm hl hd (rel.put k rv) gz)
 ·subst ey eH;cases (show u=Value.ref b from ry);obtain⟨z,hd,xs,rel,dd⟩:=Vu I.aD e;have hz:xs.length<=sizeLine:=by rw[←Paired.length rel];exact z
  have hl:(Cl kvs k v).length<=sizeLine:=by have:=Cq kvs k v;omega
  refine wpAny_setItem_heap (hsz:=hz) (tupleKind_room_in1 hu) (Hl I.aD eb) dd λh' gz hs=>h _ ?_;obtain⟨q,es,ep,hq,h2,h3,h4,_,h5⟩:=gz;refine FY I (by rw[e];exact True.intro) hs ⟨q,hq⟩ ⟨hl,hd,_,(rel.put k eb rv).keeps λc ys ec=>?_,q,es,ep,hq,h2,h3,h4,h5⟩;rw[AF (FL ec e (λz=>nomatch z))];exact ec
end
def Vv (i:Expr):Prop:=∀ov iv,subscripted i false ov iv=operate [ov,iv] (getItem ov iv)
def Se {prog:Program}{env:Env}{value slice:Expr}{T id:String}{Q:VS}
  (hl:typeLookup (.type T) "__getitem__" = pure (some (.builtin id))) (hs:Vv slice)
  (h:wpAny (model prog w) A (eval value env) (λo aF=>wpAny (model prog w) A (eval slice env) (λi s₂=>s₂.TypeIs o T/\wpAny (model prog w) A (getItem o i) Q E s₂) E aF) E s) :
  wpAny (model prog w) A (eval (.Subscript value slice pos) env) Q E s:=by
 refine Subscript_ (Zv h (λo aF eO=>Zv eO (λi s₂ h₂=>?_) λ_ _ x=>x) λ_ _ x=>x);obtain⟨hT,h₂⟩:=h₂;unfold subscriptTail;refine Zx ?_;rw[getitemInPython_of_ne hT.not_modules];refine Zx (wpAny_specialOf hT hl ?_)
 have fin:wpAny (model prog w) A (subscripted slice false o i) (λr s₃=>wpAny (model prog w) A (letTemporaryGo value o r >>= λ_=>pure r) Q E s₃) E s₂:=by
  rw[hs o i];exact wpAny_operating (Zv h₂ (λr s₃ h₃=>Zx (wpAny_letTemporaryGo (Zw h₃))) λ_ _ x=>x)
 first
  |exact Zw (Zx fin)
  |exact Zx (Zw (Zx fin))
  |exact Zx fin
def K6 {y:V}{o:Option V} (I:Inv X aa σ H s) (g:Mv H a y o):s.TypeIs (.ref a) "dict" := by
 rcases g with⟨kvs,k,e,_,_⟩ |⟨kvs,k,b,e,_,_,_⟩
 ·obtain⟨_,_,vs,_,dd⟩:=Dl I.aD e;exact dd.typeIs
 ·obtain⟨_,_,xs,_,dd⟩:=JX I.aD e;exact dd.typeIs
inductive ExD (x:V) (H:Hp) (y:V) (k:V->Prop):Prop where
 |mk (a:Xi) (v:V) (h1:x=.ref a) (h2:Mv H a y (some v)) (q:k v):ExD x H y k
def Vw (td ty:TE):TE:=λσ H Q=>td σ H λx H1=>ty σ H1 λy H2=>ExD x H2 y λv=>Q v H2
def XA (ty td:TE):TE:=λσ H Q=>ty σ H λy H1=>td σ H1 λx H2=>∃a o,x=.ref a/\Mv H2 a y o/\Q (.bl o.isSome) H2
def Sf (ty td:TE):TE:=λσ H Q=>ty σ H λy H1=>td σ H1 λx H2=>∃a o,x=.ref a/\Mv H2 a y o/\Q (.bl (!o.isSome)) H2
def Vx (td ty tv:TE):TS:=λD σ H=>tv σ H λv H1=>td σ H1 λx H2=>ty σ H2 λy H3=>∃a H4,x=.ref a/\DPut H3 a y v H4/\D.nx σ H4
section
variable {o i value:Expr}{pos' tpos:Pos}{td ty tv:TE}
def BU (hu:X.A.units+1<cLine) (ho:PE X o td) (hi:PE X i ty) (hs:Vv i):PE X (.Subscript o i pos) (Vw td ty):=by
 intro aa s σ H Q I h;refine Se PySem.F.slot_dict_getitem.lookup hs (aG (ho aa s σ H _ I h) λu s1 ⟨x,H1,I1,rx,q1⟩=>aG (hi aa s1 σ H1 _ I1 q1) λiv s2 ⟨y,H2,I2,ry,a,v,ex,g,q2⟩=>?_);subst ex;obtain rfl:u=Value.ref a:=rx;exact⟨K6 I2 g,PB hu I2 g ry λw' s3 I3 iq=>⟨v,H2,I3,iq,q2⟩⟩
def Mw (hu:X.A.units+1<cLine) (hi:PE X i ty) (ho:PE X o td):PC X .In i o (XA ty td):=by
 intro aa s σ H Q I h;refine aG (hi aa s σ H _ I h) λiv s1 ⟨y,H1,I1,ry,q1⟩=>aG (ho aa s1 σ H1 _ I1 q1) λu s2 ⟨x,H2,I2,rx,a,ov,ex,g,q2⟩=>?_;subst ex;obtain rfl:u=Value.ref a:=rx;exact W7 hu I2 g ry λs3 I3=>⟨.bl ov.isSome,H2,I3,Zj,q2⟩
def JY (hu:X.A.units+1<cLine) (hi:PE X i ty) (ho:PE X o td):PC X .NotIn i o (Sf ty td):=by
 intro aa s σ H Q I h;refine aG (hi aa s σ H _ I h) λiv s1 ⟨y,H1,I1,ry,q1⟩=>aG (ho aa s1 σ H1 _ I1 q1) λu s2 ⟨x,H2,I2,rx,a,ov,ex,g,q2⟩=>?_;subst ex;obtain rfl:u=Value.ref a:=rx;exact Sd hu I2 g ry λs3 I3=>⟨.bl (!ov.isSome),H2,I3,Zj,q2⟩
def HK (hu:X.A.units+1<cLine) (ho:PE X o td) (hi:PE X i ty) (hv:PE X value tv) (hs:swapsWith value (some (.Subscript o i pos')) pos.line X.env=pure false) :
  PS X (.Assign [.Subscript o i pos'] value pos) (Vx td ty tv):=by
 intro aa s σ H D I h;refine wpAny_Assign_Subscript (aG (hv aa s σ H _ I h) λr s1 ⟨v,H1,I1,rv,q1⟩=>aG (ho aa s1 σ H1 _ I1 q1) λu s2 ⟨x,H2,I2,rx,q2⟩=>aG (hi aa s2 σ H2 _ I2 q2) λiv s3 ⟨y,H3,I3,ry,a,H4,ex,g,q3⟩=>?_) hs;subst ex;obtain rfl:u=Value.ref a:=rx;exact PD hu I3 g ry rv λs4 I4=>⟨σ,H4,I4,q3⟩
end
def K7 (h:Heap) (hb:sysModules<h.objs.size):aP P w H (h.push { cls:=.type "dict", data:=.dict #[] }) h.objs.size (.dK []) :=
 ⟨Nat.zero_le _,beq_eq_false_iff_ne.mpr (Ne.symm (ZC hb)),[],.nil,Heap.DictOf.new h⟩
def Ub:TE:=λ_ H Q=>∀p,H p=none->Q (.ref p) (upd H p (.dK []))
section
def FZ:PE X (.Dict [] [] pos) Ub:=λaa s σ H Q I h =>
 wpAny_Dict_empty ⟨.ref s.heap.objs.size,_,I.laid (a:=s.heap.objs.size) (o:=.dK []) (t':=s.toks) (λ_ _ q=>ZX _ q) (Zy _) (K7 s.heap I.big),rfl,h _ (I.aD.fresh (Zy _))⟩
end
def Mx:List (TE×TE)->St->Hp->(List (V×V)->Hp->Prop)->Prop
  | [],_,H,Q=>Q [] H
  | (tk,tv)::r,σ,H,Q=>tk σ H λx H1=>tv σ H1 λy H2=>Mx r σ H2 λps H3=>Q ((x,y)::ps) H3
abbrev VV:List (V×V)->List (Value×Value)->Prop:=Paired λp q=>RelV p.1 q.1/\RelV p.2 q.2
def PPs (X:Cx) (pos:Pos) (keys:List (Option Expr)) (values:List Expr) (jx:List (TE×TE)):Prop :=
 ∀(aa:LO) (s:Xj) (σ:St) (H:Hp) (Q:List (V×V)->Hp->Prop),Inv X aa σ H s->Mx jx σ H Q ->
  wpAny (model X.prog X.w) X.A (evalPairs (pairTrees keys values X.env pos)) (λvs s'=>∃ps H',Inv X aa σ H' s'/\VV ps vs/\Q ps H') X.xe s
def HL:PPs X pos [] [] []:=λaa s σ H Q I h=>pairTrees_nil_walk ⟨[],H,I,.nil,h⟩
def BX {k v:Expr}{ks:List (Option Expr)}{vs:List Expr}{tk tv:TE}{jx:List (TE×TE)} (hk:PE X k tk) (hv:PE X v tv) (hr:PPs X pos ks vs jx) :
  PPs X pos (some k::ks) (v::vs) ((tk,tv)::jx):=λaa s σ H Q I h =>
 pairTrees_cons_walk (aG (hk aa s σ H _ I h) λu s1 ⟨x,H1,I1,rx,q1⟩=>aG (hv aa s1 σ H1 _ I1 q1) λw2 s2 ⟨y,H2,I2,ry,q2⟩ =>
  aG (hr aa s2 σ H2 _ I2 q2) λws s3 ⟨ps,H3,I3,rel,q3⟩=>⟨(x,y)::ps,H3,I3,.cons ⟨rx,ry⟩ rel,q3⟩)
noncomputable def Bo (kvs more:LK):LK:=more.foldl (λacc kv=>Cl acc kv.1 kv.2) kvs
def KV.merge:∀ {more:LK}{rs:List (Key×Value)}{kvs:LK}{vs:List (Key×Value)},KV more rs->KV kvs vs->KV (Bo kvs more) (merged vs rs):=by
 intro more rs kvs vs r;unfold KV at r;induction r generalizing kvs vs with
 |nil=>intro q;exact q
 | @cons p q ps qs h t ih =>
  intro r0
  have e:KV (Cl kvs p.1 p.2) (stored vs q.1 q.2):=by
   have:=r0.put p.1 h.2;rw[←h.1];exact this
  exact ih e
def Ei:∀(more kvs:LK),(Bo kvs more).length<=kvs.length+more.length
 | [],kvs=>by show kvs.length<=kvs.length+0;omega
 |p::r,kvs=>by
  have h1:=Ei r (Cl kvs p.1 p.2);have h2:=Cq kvs p.1 p.2;show(Bo (Cl kvs p.1 p.2) r).length<=_;rw[length_cons];omega
def Hn {P:Program}{w:World}:∀ {kvs:LK}{ws:List (Value×Value)},VV (kvs.map λkv=>(kV kv.1,kv.2)) ws->∃rs,Carries (AY P w) ws rs/\KV kvs rs
 | [],_,r=>by rw[map_nil]at r;cases r;exact⟨[],True.intro,.nil⟩
 |p::kvs,_,r=>by
  rw[map_cons]at r;cases r with
  | @cons a b as bs h t =>
   obtain⟨rs,c,q⟩:=Hn (P:=P) (w:=w) t;obtain⟨b1,b2⟩:=b;exact⟨(p.1,b2)::rs,⟨FX h.1,Zj,c⟩,.cons ⟨Zj,h.2⟩ q⟩
def LA (jx:List (TE×TE)):TE:=λσ H Q=>∀p,H p=none->Mx jx σ (upd H p (.dK [])) λps H2=>H2 p=some (.dK [])/\∃kvs:LK,ps=kvs.map (λkv=>(kV kv.1,kv.2))/\kvs.length<=15/\Q (.ref p) (upd H2 p (.dK (Bo [] kvs)))
def HM {keys:List (Option Expr)}{values:List Expr}{jx:List (TE×TE)} (h:PPs X pos keys values jx) (bi:keys.all (·.isSome)=true) (hl:keys.length=values.length) (h0:keys≠ [])
  (h15:keys.length<=15):PE X (.Dict keys values pos) (LA jx):=by
 intro aa s σ H Q I q;have hn:=I.aD.fresh (Zy s.heap.objs.size);have I1:=I.laid (a:=s.heap.objs.size) (o:=.dK []) (h':=s.heap.push { cls:=.type "dict", data:=.dict #[] }) (t':=s.toks) (λ_ _ q=>ZX _ q) (Zy _) (K7 s.heap I.big);refine wpAny_Dict_walk (knd:=AY X.prog X.w) bi hl h0 h15 (aG (h aa _ σ _ _ I1 (q _ hn)) λws s2 ⟨ps,H2,I2,rel,e,kvs,ep,lk,q2⟩=>?_);subst ep;obtain⟨rs,c,rk⟩:=Hn (P:=X.prog) (w:=X.w) rel;obtain⟨z,hd,vs0,r0,dd⟩:=OB I2.aD e;cases r0;refine⟨rs,c,dd,λh' gz hs=>⟨.ref s.heap.objs.size,_,?_,Zj,q2⟩⟩
 have hz:(Bo [] kvs).length<=sizeLine:=by
  have h1:=Ei kvs [];rw[length_nil]at h1;rw[sizeLine_eq];omega
 have he:∃q,h'.get? s.heap.objs.size=some q:=let ⟨q,_,_,hq,_⟩:=gz;⟨q,hq⟩
 exact FY I2 (by rw[e];exact True.intro) hs he (Hm hz hd (rk.merge .nil) gz)
def IsD (H:Hp) (a:Xi):Prop:=(∃kvs,Rd H a (.dK kvs))\/∃kvs,Rd H a (.dT kvs)
def Qf (I:Inv X aa σ H s) (d:IsD H a) :
  s.TypeIs (.ref a) "dict" /\ (∀b,Value.ref a=.ref b->∃ob,s.heap.get? b=some ob/\ob.dict=none)/\(a==sysModules)=false:=by
 rcases d with⟨kvs,e⟩ |⟨kvs,e⟩
 ·obtain⟨_,hd,vs,_,dd⟩:=Dl I.aD e;refine⟨dd.typeIs,λb q=>?_,hd⟩;cases q;obtain⟨ob,_,_,h1,h2,_⟩:=dd;exact⟨ob,h1,h2.2.1⟩
 ·obtain⟨_,hd,xs,_,dd⟩:=JX I.aD e;refine⟨dd.typeIs,λb q=>?_,hd⟩;cases q;obtain⟨ob,_,_,h1,h2,_⟩:=dd;exact⟨ob,h1,h2.2.1⟩
end L2
namespace Att
open PySem PySem.W PySem.Calls PyProof.Rows
def HF {P:Params}:∀(ns:List Int) (vs:Xg),WellAll P h vs (ns.map WData.int)->IntsAre vs ns:=by
 intro ns;induction ns with
 |nil =>
  intro vs w;rw[map_nil]at w;cases w;exact .nil
 |cons n ns ih =>
  intro vs w;rw[map_cons]at w;cases w with
  |cons a b =>
   cases a;exact .cons _ _ (ih _ b)
def PF {l:OpenLaw}{n:Nat} (hn:l.most=some n) {P:Params}{args:List WData}{vals:Xg}
    (cw:l.row.toRowW.claim.pre args=true) (hwl:WellAll P h vals args) :
    ∃a vs ns,vals=[Value.ref a]/\args=[WData.list (ns.map WData.int)]/\h.get? a=some { cls:=.type "list", data:=.seq vs.toArray }/\IntsAre vs ns/\ns.length<=n:=by
  have ai:WShape.hasAll [] args [.list .int]=true:=(pre_splitW cw).1;have hc:l.pre.holds [] { args:=args }=true:=(pre_splitW cw).2;obtain⟨d,r,rfl,h1,h2⟩:=hasAllW_cons ai;obtain rfl:=hasAllW_nil h2;obtain⟨xs,rfl,h3⟩:=hasW_list h1;obtain⟨ns,rfl⟩:=items_int h3
  have be:ns.length<=n:=by
    unfold OpenLaw.pre at hc
    have h4:(WTm.not (.lt (.lit (.int (n:Int))) (.len (.arg 0)))).holds [] { args:=[.list (ns.map .int)] }=true:=by
      have h4:=(holds_andW hc).1;rw[hn]at h4;exact h4
    have h5:=condW_of h4 (w_not (w_lt w_lit (w_len_list (w_arg rfl))));rw[AK]at h5;refine Nat.le_of_not_lt λq=>?_;have q':(n:Int)<((ns.length:Nat):Int):=by omega
    first
      | (rw[ZL q']at h5;exact absurd h5 qc)
      | (simp at h5;omega)
  cases hwl with
  |cons w1 w2 =>
    cases w2;cases w1 with
    |list ho bi=>exact⟨_,_,ns,rfl,rfl,ho,HF ns _ bi,be⟩
def PJ (l:OpenLaw) (args:List WData):l.row.toRowW.claim.post args (.bool true) args=true :=
 postW_of (r:=l.row.toRowW) (X:=(true==true))
  (show WShape.has [] (.bool true) .bool=true by first |rfl |decide |simp[WShape.has,WShape.arms,WShape.armsAll])
  (show(WTm.eq .res (.lit (.bool true))).value [] { args:=args,res:=some (.bool true),after:=args }=some (.bool (true==true))from w_eq_bool (w_res rfl) w_lit) rfl
def attach_call {l:OpenLaw}{n:Nat}{q:Program}{loose:Xf}{XP:(Str->Option Value)->Heap->Prop}{YP:World->Heap->Prop}{d:DefRec}
  (hn:l.most=some n) (hdf:d.params.defaults=[])
  (call:∀(w:World) (aY aF:Xj) (mg mb:SV) (fa:Xi) (o:Obj) (pm cd doc:Value) (a:Xi) (vs:Xg) (ns:List Int),
   Ground q loose [] XP w aY mg mb aF.heap->YP w aF.heap ->
   aF.heap.get? fa=some o->o.data=.func (docDef d.name d.params d.body d.scope pm cd doc)->aF.heap.CodeRec cd d.name->mg d.name=some (.ref fa) ->
   aF.heap.get? a=some { cls:=.type "list", data:=.seq vs.toArray }->IntsAre vs ns->ns.length<=n->aF.gens=#[] ->
   codeAny (model l.prog w) callerA (.call (.ref fa) ⟨[.ref a],[]⟩) (λr s'=>r=.ok (.ret (.bool true))/\OldK aF.heap s'.heap/\s'.os=aF.os/\AllBare s'.gens) aF) :
  WalkO q loose XP YP l.row.toRowW d [] (λf vs=>PySem.call f vs):=by
 intro w aY aF mg mb G Y fa o pm cd doc dV kV ho hd fm hD hmg hg args vals as cw hlay hrd hwl hlo;obtain rfl:dV=.none:=Dflts.none hD hdf;obtain rfl:kV=.none:=Dflts.noKw hD;obtain⟨a,vs,ns,rfl,rfl,de,bz,be⟩:=PF hn cw hwl;refine enter_call (codeAny_mono (call w aY aF mg mb fa o pm cd doc a vs ns G Y ho (fd_plain hd) fm hmg de bz be hg) λr s' hq=>?_);obtain⟨rfl,h2,h3,h4⟩:=hq;exact⟨.inl ⟨.bool true,.bool true,[],rfl,λ_=>rfl,.bool true,PJ l _,λ_=>⟨List.Pairwise.nil,λ_ hm=>(nomatch hm)⟩⟩,h2,h3,h4⟩
end Att
namespace L2
open PySem PySem.Spec PyProof.Rows
def EW:∀ {vs:Xg}{ns:List Int},IntsAre vs ns->Vals (ns.map V.int) vs
 |_,_,.nil=>.nil
 |_,_,.cons n t h=>.cons ⟨t,rfl⟩ (EW h)
noncomputable def inClass (s:Stmt) (j:Nat):Stmt:=match s with
 | .ClassDef _ _ _ body _ _ _ _ _ _ _=>body.getD j (.Pass ⟨0,0,0,0⟩)
 |_=>.Pass ⟨0,0,0,0⟩
noncomputable def defArgs (s:Stmt):Arguments:=match s with
 | .FunctionDef _ a _ _ _ _ _ _ _ _=>a
 |_=>{ posonlyargs:=[],args:=[],vararg:=none,kwonlyargs:=[],kw_defaults:=[],kwarg:=none,defaults:=[] }
noncomputable def defBody (s:Stmt):List Stmt:=match s with
 | .FunctionDef _ _ b _ _ _ _ _ _ _=>b
 |_=>[]
noncomputable def defScope (s:Stmt):Scope:=match s with
 | .FunctionDef _ _ _ _ _ _ sc _ _ _=>sc
 |_=>{ kind:=.function,names:=[],isGenerator:=false,isCoroutine:=false }
abbrev aL:gN:=λ_ _ _ _ _ _=>False
abbrev E0:XK:=λ_ _ _=>False
def AR:BR aL X E0:=λ_ _ _ _ _ _ _ h=>h.elim
structure aV (K:FG) (x qual:Str) (st:Stmt) (f:Xi) (fd:FuncData):Prop where
 ex:∃(oc:Value) (od:Option Xi) (kV doc pm:Value) (an:Option Xi) (ad ct:Value) (gF:Array (Option Value)),
  fd=W.fnOf x qual (defArgs st) (defBody st) (defScope st) .none kV doc pm an ad ct/\K.lookup f=some ⟨oc,od,.func fd,gF⟩/\W.codeIn K ad qual=true
 kp:W.keepIn K (.ref f)=true
section
def aV.ok {qual:Str}{st:Stmt}{f:Xi}{fd:FuncData}{ps:Xf}{k:Nat}{sp:Sp} (F:aV K x qual st f fd) (S:AM N ps (defScope st)) (len:∀vs H Q E,sp vs H Q E->vs.length=ps.length)
  (bh:∀(ad:Value) (A:Around) (outer:List Env) (s:Xj) (H:Hp) (vs:Xh) (Q:VK) (E:XK),aE k (A.deeper (envOfC qual (defScope st) s.heap.objs.size f ad))->sp vs H Q E ->
   ∃t,eN (BB aL P w K mg base N qual (defScope st) f ad A outer s H E).gi (defBody st) t/\t { nx:=λ_ H'=>Q .aO H',rt:=Q } (Bs N vs) H):AZ P w K mg base aL (k+1) f fd ps sp:=by
 obtain⟨oc,od,kV,doc,pm,an,ad,ct,gF,rfl,lk,fm⟩:=F.ex;refine N7 lk fm S len λA outer s H vs Q E hr gP=>?_;obtain⟨t,h,q⟩:=bh ad A outer s H vs Q E hr gP;exact⟨t,h.gi,q⟩
structure BdC (P:Program) (w:World) (K:FG) (mg:SV) (base:Heap) (f:Xi) (qual:Str) (st:Stmt) (N ps:Xf) (k:Nat) (vs:Xh) (H:Hp) (Q:VK) (E:XK):Prop where
 len:vs.length=ps.length
 ok:∀(ad:Value) (A:Around) (outer:List Env) (s:Xj),aE k (A.deeper (envOfC qual (defScope st) s.heap.objs.size f ad)) ->
  ∃t,eN (BB aL P w K mg base N qual (defScope st) f ad A outer s H E |>.gi) (defBody st) t/\t { nx:=λ_ H'=>Q .aO H',rt:=Q } (Bs N vs) H
def aV.m {qual:Str}{st:Stmt}{f:Xi}{fd:FuncData}{ps:Xf}{k:Nat}{sp:Sp} (F:aV K x qual st f fd) (S:AM N ps (defScope st)) (h:∀vs H Q E,sp vs H Q E->BdC P w K mg base f qual st N ps k vs H Q E) :
  AZ P w K mg base aL (k+1) f fd ps sp:=F.ok S (λvs H Q E q=>(h vs H Q E q).len) λc A o s H vs Q E r q=>(h vs H Q E q).ok c A o s r
def aV.binds {qual:Str}{st:Stmt}{f:Xi}{fd:FuncData}{ps:Xf} (F:aV K x qual st f fd)
  (h:∀(kV doc pm:Value) (an:Option Xi) (ad ct:Value) (us:Xg),us.length=ps.length->bindArgs (W.fnOf x qual (defArgs st) (defBody st) (defScope st) .none kV doc pm an ad ct) ⟨us,[]⟩=pure (ps.zip us)):Binds K fd ps []:=by
 obtain⟨oc,od,kV,doc,pm,an,ad,ct,gF,rfl,lk,fm⟩:=F.ex;exact .all (h kV doc pm an ad ct)
def fun_mk {qual:Str}{st:Stmt}{f:Xi}{oc:Value}{od an:Option Xi}{gF:Array (Option Value)}{kV doc pm ad ct:Value} (l:K.lookup f=some ⟨oc,od,.func (W.fnOf x qual (defArgs st) (defBody st) (defScope st) .none kV doc pm an ad ct),gF⟩)
  (c:W.codeIn K ad qual=true) (k:W.keepIn K (.ref f)=true):aV K x qual st f (W.fnOf x qual (defArgs st) (defBody st) (defScope st) .none kV doc pm an ad ct):=⟨⟨oc,od,kV,doc,pm,an,ad,ct,gF,rfl,l,c⟩,k⟩
end
def Ch {k:Nat} (hr:aE k A):A.units+1<cLine:=Nat.lt_of_le_of_lt (Nat.add_le_add_left (by decide:1<=64) _) hr.units
def AO {n:Nat} (h:n<=1000):n<sizeLine:=Nat.lt_of_le_of_lt h qc
section
def pv (i:Nat) (hN:X.N[i]?=some x:=by rfl) (hv:Vis X.env.scope x:=by first |exact Or.inl rfl |exact Or.inr (Or.inl rfl) |exact Or.inr (Or.inr rfl)) (hd:(x==("__debug__" : Str))=false:=by decide)
  (fm:(x==("__classdict__" : Str))=false:=by decide):PE X (.Name x pos) (DR i):=QK hN hv hd fm
end
def AV {A B:Prop} (h:B):if false=true then A else B:=by
 rw[Zq Bool.false_ne_true];exact h
def Ag {A B:Prop} (h:A):if true=true then A else B:=by
 rw[Zp rfl];exact h
def B6 {c A B:Prop} [Decidable c] (h1:c->A) (h2:¬ c->B):if c then A else B:=by
 by_cases h:c
 ·rw[Zp h];exact h1 h
 ·rw[Zq h];exact h2 h
def Qg {c A B:Prop} [Decidable c] (hc:c) (h:B):if (!decide c)=true then A else B:=by
 rw[ZL hc];exact AV h
def U (H H':Hp):Prop:=∀b o,H b=some o->H' b=some o
def U.refl (H:Hp):U H H:=λ_ _ h=>h
def U.trans {H1 H2:Hp} (a:U H H1) (b:U H1 H2):U H H2:=λc o h=>b c o (a c o h)
def U.seq (e:U H H') (h:aI K H a xs):aI K H' a xs:=by
 rcases h with (h |⟨o,h⟩) |h
 ·exact .inl (.inl (e _ _ h))
 ·exact .inl (.inr ⟨o,e _ _ h⟩)
 ·exact .inr h
section
variable {κ:Type} [DecidableEq κ]
def OC:∀ {l:List κ}{k:κ},l.Nodup->¬ k∈l->(l++[k]).Nodup
 | [],k,_,_=>by simp
 |a::r,k,h,hk=>by
  obtain⟨h1,h2⟩:=Zs.mp h;show(a::(r++[k])).Nodup;refine Zs.mpr ⟨λm=>?_,OC h2 λm=>hk (mem_cons.mpr (Or.inr m))⟩;rcases mem_append.mp m with q |q
  ·exact h1 q
  ·exact hk (mem_cons.mpr (Or.inl (ZG.mp q).symm))
end
end L2
end
section
variable {X:L2.Cx}{H:L2.Hp}{H':L2.Hp}{s:PySem.Shared}{pos:PySem.Pos}{σ:L2.St}{P:PySem.Program}{w:PySem.World}{A:PySem.Around}{aa:LO}{x:PySem.Str}{a:PySem.Addr}{K:FG}{C:PySem.Addr}{E:VS}{h:PySem.Heap}{us:List PySem.Value}{u:PySem.Value}{xs:List L2.V}{e:PySem.Expr}{te:L2.TE}{base:PySem.Heap}{N:List PySem.Str}{mg:SV}
section
namespace L2
open PySem PySem.Spec PyProof.Rows
def Inv.track {o:HO} (I:Inv X aa σ H s) (hn:H a=none) (hL:a≠X.env.locals) (h1:a∈X.ex\/X.aY.heap.objs.size<=a)
  (h2:∀x c,X.env.cells.lookup x=some c->c≠a) (h3:∀p∈X.pn++aa,p.1≠a) (new:aP X.prog X.w (upd H a o) s.heap a o):Inv X aa σ (upd H a o) s:=by
 have a0:∀b u,H b=some u->b≠a:=λb u e=>AI e hn
 refine I.step (h':=s.heap) (H':=upd H a o) (g':=s.gens) (t':=s.toks) (d':=s.drawn) (ch:=[a])
  (λb hb=>by have e:b=a:=by simpa using hb
             subst e;exact⟨h1,hL,h2,h3⟩)
  (λb o _ _ _ e _=>e) (λb o _ _ _ e _=>⟨o.slots,e⟩) (λb o hc e n=>by rw[AF (by simpa using hc)];exact n)
  (λb o _ e=>⟨o,e⟩) (λb xs e=>by rw[AF (a0 b _ e)];exact e) (λb o u e=>by rw[AF (a0 b _ e)];exact e)
  (λb ps e=>⟨#[],by rw[AF (a0 b _ e),e];simp⟩) (λm h=>h) (λb u e=>?_) I.bare
 by_cases hb:b=a
 ·subst hb;rw[AB]at e;cases e;exact new
 ·rw[AF hb]at e;exact(I.aD b u e).eB (λc v _ q=>q) (λc q=>by rw[AF (a0 c _ q)];exact q) λc xs q=>by rw[AF (a0 c _ q)];exact q
structure aQ (jW sc:Scope) (N N':Xf) (ix:List (Option Nat)):Prop where
 kind:sc.kind=.function
 nocell:∀y∈sc.names,y.2≠ .cell
 free:∀y∈sc.names,y.2=.free->jW.names.lookup y.1=some .cell\/jW.names.lookup y.1=some .free
 loc:∀y∈sc.names,y.2=.local->sc.names.lookup y.1=some .local
 len:ix.length=N'.length
 slot:∀(j:Nat) (x:Str) (i:Nat),N'[j]?=some x->ix[j]?=some (some i)->N[i]?=some x/\sc.names.lookup x=some .free
noncomputable def Tx (sc:Scope) (N:Xf) (x:Str):Option Nat->Bool
 |none=>true
 |some i=>decide (N[i]?=some x)&&decide (sc.names.lookup x=some .free)
noncomputable def DV (sc:Scope) (N:Xf):Xf->List (Option Nat)->Bool
 | [],[]=>true
 |x::r,o::os=>Tx sc N x o&&DV sc N r os
 |_,_=>false
noncomputable def Ho (jW sc:Scope) (N N':Xf) (ix:List (Option Nat)):Bool :=
 decide (sc.kind=.function)&&(sc.names.all λy=>decide (y.2≠ .cell)&&(decide (y.2≠ .free) ||decide (jW.names.lookup y.1=some .cell) ||decide (jW.names.lookup y.1=some .free)) &&
  (decide (y.2≠ .local) ||decide (sc.names.lookup y.1=some .local)))&&DV sc N N' ix
def Hr {sc:Scope}{N:Xf}:∀ {N':Xf}{ix:List (Option Nat)},DV sc N N' ix=true->ix.length=N'.length
 | [],[],_=>rfl
 | [],_::_,h=>by simp[DV]at h
 |_::_,[],h=>by simp[DV]at h
 |x::r,o::os,h=>by
  simp only[DV,Bool.and_eq_true]at h;simp only[length_cons,Hr h.2]
def JZ {sc:Scope}{N:Xf}:∀ {N':Xf}{ix:List (Option Nat)},DV sc N N' ix=true->∀(j:Nat) (x:Str) (i:Nat),N'[j]?=some x->ix[j]?=some (some i)->N[i]?=some x/\sc.names.lookup x=some .free
 | [],_,_,_,_,_,e,_=>by simp at e
 |_::_,[],h,_,_,_,_,_=>by simp[DV]at h
 |y::r,o::os,h,j,x,i,e1,e2=>by
  simp only[DV,Bool.and_eq_true]at h;cases j with
  |zero =>
   simp only[List.getElem?_cons_zero,Option.some.injEq]at e1 e2;subst e1 e2;have h1:=h.1;simp only[Tx,Bool.and_eq_true,decide_eq_true_eq]at h1;exact h1
  |succ j =>
   simp only[List.getElem?_cons_succ]at e1 e2;exact JZ h.2 j x i e1 e2
def aQ.of {jW sc:Scope}{N':Xf}{ix:List (Option Nat)} (h:Ho jW sc N N' ix=true):aQ jW sc N N' ix:=by
 simp only[Ho,Bool.and_eq_true,decide_eq_true_eq,List.all_eq_true,Bool.or_eq_true]at h;obtain⟨⟨h1,h2⟩,h3⟩:=h;refine⟨h1,λy hy=>(h2 y hy).1.1,λy hy e=>?_,λy hy e=>?_,Hr h3,JZ h3⟩
 ·rcases (h2 y hy).1.2 with (z |z) |z
  ·exact absurd e z
  ·exact .inl z
  ·exact .inr z
 ·rcases (h2 y hy).2 with z |z
  ·exact absurd e z
  ·exact z
noncomputable abbrev Es (env:Env):Str×NameKind->Str×NameKind:=λ(n,k)=>if (k==NameKind.free&&env.scope.kind == .function&&env.kindOf n==some .cell)then (n,NameKind.cell)else (n,k)
def LB (env:Env) (y:Str×NameKind):(Es env y).1=y.1:=by
 obtain⟨n,k⟩:=y;simp only[Es];split <;> rfl
def PL (env:Env) (n:Str):(Es env (n,.free)).2=.cell\/(Es env (n,.free)).2=.free:=by
 simp only[Es];split
 ·exact .inl rfl
 ·exact .inr rfl
def Sh (env:Env) (y:Str×NameKind) (h:y.2≠ .free):Es env y=y:=by
 obtain⟨n,k⟩:=y;have e:(k==NameKind.free)=false:=by simpa using h
 simp only[Es,e,Bool.false_and,Bool.false_eq_true,if_false]
def Ej {env:Env}:∀ {names:List (Str×NameKind)}{x:Str},names.lookup x=some .free->(names.map (Es env)).lookup x=some .cell\/(names.map (Es env)).lookup x=some .free
  | [],_,h=>by simp at h
  | (n,k)::r,x,h=>by
    rw[map_cons]
    have e:Es env (n,k)=(n,(Es env (n,k)).2):=by
      have:=LB env (n,k);exact Prod.ext this rfl
    rw[e];cases hx:x==n with
    |true =>
      simp only[Zz,hx]at h ⊢;cases h;rcases PL env n with z |z
      · rw[z];exact .inl rfl
      · rw[z];exact .inr rfl
    |false =>
      simp only[Zz,hx]at h ⊢;exact Ej h
def HB {env:Env}:∀ {names:List (Str×NameKind)}{x:Str},(∀y∈names,y.2≠ .cell)->((names.map (Es env)).lookup x=some .cell\/(names.map (Es env)).lookup x=some .free)->(x,NameKind.free)∈names
  | [],_,_,h=>by simp at h
  | (n,k)::r,x,hc,h=>by
    rw[map_cons]at h;have e:Es env (n,k)=(n,(Es env (n,k)).2):=Prod.ext (LB env (n,k)) rfl;rw[e]at h;cases hx:x==n with
    |true =>
      simp only[Zz,hx]at h;have exn:x=n:=by simpa using hx
      subst exn;by_cases hk:k=.free
      · subst hk;exact ZI
      · rw[Sh env (x,k) hk]at h
        rcases h with z |z
        · have:k=.cell:=by simpa using z
          exact absurd this (hc (x,k) ZI)
        · have:k=.free:=by simpa using z
          exact absurd this hk
    |false =>
      simp only[Zz,hx]at h;exact ZR _ (HB (λy hy=>hc y (ZR _ hy)) h)
def KG {env:Env}{f:Str×NameKind->List (Str×Xi)->Sem (ForInStep (List (Str×Xi)))}
  (h1:∀y acc,y.2≠ .free->f y acc=pure (.yield acc)) (h2:∀y acc c,y.2=.free->env.cells.lookup y.1=some c->f y acc=pure (.yield ((y.1,c)::acc))) :
  ∀(names:List (Str×NameKind)) (acc:List (Str×Xi)),(∀y∈names,y.2=.free->∃c,env.cells.lookup y.1=some c)->(∀x c,acc.lookup x=some c->env.cells.lookup x=some c) ->
   ∃cl,forIn names acc f=(pure cl:Sem _)/\(∀x c,cl.lookup x=some c->env.cells.lookup x=some c)/\(∀y∈names,y.2=.free->∃c,cl.lookup y.1=some c)/\∀x c,acc.lookup x=some c->∃c',cl.lookup x=some c'
 | [],acc,_,ha=>⟨acc,rfl,ha,λ_ hy=>(nomatch hy),λx c e=>⟨c,e⟩⟩
 |y::r,acc,hn,ha=>by
  have hr:∀z∈r,z.2=.free->∃c,env.cells.lookup z.1=some c:=λz hz=>hn z (ZR _ hz);by_cases hy:y.2=.free
  ·obtain⟨c,hc⟩:=hn y ZI hy
   obtain⟨cl,e,p1,p2,p3⟩:=KG h1 h2 r ((y.1,c)::acc) hr λx d e=>by
    cases hx:x==y.1 with
    |true =>
     simp only[Zz,hx,Option.some.injEq]at e;have:x=y.1:=by simpa using hx
     rw[this,←e];exact hc
    |false =>
     simp only[Zz,hx]at e;exact ha x d e
   refine⟨cl,by rw[List.forIn_cons,h2 y acc c hy hc,pure_bind];exact e,p1,λz hz hf=>?_,λx d e=>?_⟩
   ·rcases mem_cons.mp hz with rfl |hz
    ·exact p3 z.1 c (by simp[Zz])
    ·exact p2 z hz hf
   ·cases hx:x==y.1 with
    |true=>exact p3 x c (by simp[Zz,hx])
    |false=>exact p3 x d (by simp only[Zz,hx];exact e)
  ·obtain⟨cl,e,p1,p2,p3⟩:=KG h1 h2 r acc hr ha;refine⟨cl,by rw[List.forIn_cons,h1 y acc hy,pure_bind];exact e,p1,λz hz hf=>?_,p3⟩;rcases mem_cons.mp hz with rfl |hz
   ·exact absurd hf hy
   ·exact p2 z hz hf
def OD {env:Env}{scope:Scope} (hn:∀y∈scope.names,y.2=.free->∃c,env.cells.lookup y.1=some c) :
  ∃cl,closureFor scope env=pure cl/\(∀x c,cl.lookup x=some c->env.cells.lookup x=some c)/\∀y∈scope.names,y.2=.free->∃c,cl.lookup y.1=some c:=by
 obtain⟨cl,e,p1,p2,_⟩:=KG (env:=env) (f:=λ(x:Str×NameKind) (r:List (Str×Xi))=>if (x.2==NameKind.free)=true then (cellOf env x.1 >>= λa=>pure (ForInStep.yield ((x.1,a)::r)))else pure (ForInStep.yield r)) (λy acc hy=>by
  have:(y.2==NameKind.free)=false:=by simpa using hy
  rw[this,Zq Bool.false_ne_true]) (λy acc c hy hc=>by
  have h0:(y.2==NameKind.free)=true:=by rw[hy];rfl
  rw[Zp h0];simp only[cellOf,hc]
  rfl) scope.names [] hn λx c e=>by simp at e
 refine⟨cl,?_,p1,p2⟩;have e0:closureFor scope env=(forIn scope.names [] (λ(x:Str×NameKind) (r:List (Str×Xi))=>if (x.2==NameKind.free)=true then (cellOf env x.1 >>= λa=>pure (ForInStep.yield ((x.1,a)::r)))else pure (ForInStep.yield r)) >>= λcs=>pure cs):=rfl;rw[e0,e];rfl
noncomputable def Al (X:Cx) (N':Xf) (scope:Scope) (cl:List (Str×Xi)) (s:Xj) (H:Hp) (C:Xi) (fp:List Xi) (pn:LO):Cx where
 prog:=X.prog
 w:=X.w
 K:=X.K
 mg:=X.mg
 base:=X.base
 A:=X.A
 N:=N'
 aY:=s
 fc:=H
 env:=compEnvC scope cl C X.env
 outer:=X.stack
 stack:=X.stack
 ex:=fp
 fn:=λ_=>false
 calm:=X.calm
 pn:=pn
 xe:=λ_ _=>False
noncomputable def B7 (ix:List (Option Nat)) (σ:St):St:=ix.map λo=>o.bind λi=>(σ[i]?).join
def Si {ix:List (Option Nat)}{j:Nat}{v:V} (h:(B7 ix σ)[j]?=some (some v)):∃i,ix[j]?=some (some i)/\σ[i]?=some (some v):=by
 unfold B7 at h;rw[ZE]at h;cases e:ix[j]? with
 |none=>rw[e]at h;cases h
 |some o =>
  rw[e]at h;simp only[Option.map_some,Option.some.injEq]at h;cases o with
  |none=>cases h
  |some i =>
   refine⟨i,rfl,?_⟩;simp only[Option.bind_some]at h;cases q:σ[i]? with
   |none=>rw[q]at h;cases h
   |some u=>rw[q]at h;simp only[Option.join_some]at h;rw[h]
section
variable {N':Xf}{ix:List (Option Nat)}{scope:Scope}{cl:List (Str×Xi)}{fp:List Xi}
def Sj (I:Inv X aa σ H s) (hf:aQ X.env.scope scope X.N N' ix) (c1:∀x c,cl.lookup x=some c->X.env.cells.lookup x=some c) (c2:∀y∈scope.names,y.2=.free->∃c,cl.lookup y.1=some c)
  (hC:s.heap.objs.size<=C) (ib:∀b∈fp,Eo X aa H b) (hlt:∀b∈fp,b<s.heap.objs.size):(Al X N' scope cl s H C fp (X.pn++aa)).Ok where
 mod:=I.mod
 kind:=hf.kind
 glob:=I.ok.glob
 blt:=I.ok.blt
 above:=hC
 inj:=λx y c e1 e2=>I.ok.inj x y c (c1 x c e1) (c1 y c e2)
 has:=λx h=>by
  have hm:(x,NameKind.free)∈scope.names:=HB (env:=X.env) hf.nocell h;exact c2 (x,.free) hm rfl
 ji:=λx c h=>by cases h
 hd:=I.ok.hd
 frames:=I.ok.frames
 gD:=.inl rfl
 exf:=λb hb=>⟨ZC (Z2 (hlt b hb) hC),λx c e=>(ib b hb).2.2.2.2.1 x c (c1 x c e)⟩
 bs:=I.bs
 gT:=Nat.le_trans I.ok.gT I.sz
 gu:=λb o e hb=>by
  rcases (ib b hb).2.2.2.1 with z |z
  ·exact I.ok.gu b o e z
  ·exact absurd (Z2 (Z2 (lt_size e) I.ok.gT) z) (ZF _)
 gc:=λb hb z=>by
  rcases mem_cons.mp (I.d9 b z)with e |e
  ·exact(ib b hb).2.1 e
  ·exact(ib b hb).2.2.1 e
 dr:=I.stack
 iz:=I.stkFree
def Hs (I:Inv X aa σ H s) (hf:aQ X.env.scope scope X.N N' ix) (c1:∀x c,cl.lookup x=some c->X.env.cells.lookup x=some c) (c2:∀y∈scope.names,y.2=.free->∃c,cl.lookup y.1=some c)
  (hC:s.heap.objs.size<=C) (ib:∀b∈fp,Eo X aa H b) (hlt:∀b∈fp,b<s.heap.objs.size) {eO:Heap}{tk:Nat}{m:SV} (old:∀b o,s.heap.get? b=some o->eO.get? b=some o) (kb:eO.Ns C m) :
  Inv (Al X N' scope cl s H C fp (X.pn++aa)) [] (B7 ix σ) H { s with heap:=eO,toks:=tk } where
 ok:=Sj I hf c1 c2 hC ib hlt
 os:=rfl
 bare:=I.bare
 base:=Un.kept old
 loc:=⟨m,kb,λj x v e1 e2 e3=>by
  obtain⟨i,ei,ev⟩:=Si e2;obtain⟨hN,cf⟩:=hf.slot j x i e1 ei;obtain⟨mX,_,hl⟩:=I.loc
  have hm:(x,NameKind.free)∈scope.names:=by
   have:∀ {l:List (Str×NameKind)}{k:NameKind},l.lookup x=some k->(x,k)∈l:=λ{l k}=>by
    induction l with
    |nil=>intro e;simp at e
    |cons y r ih =>
     intro e;obtain⟨n,kk⟩:=y;cases hx:x==n with
     |true =>
      simp only[Zz,hx,Option.some.injEq]at e;have:x=n:=by simpa using hx
      subst this e;exact ZI
     |false =>
      simp only[Zz,hx]at e;exact ZR _ (ih e)
   exact this cf
  have hk:=hf.free _ hm rfl;obtain⟨u,r,q⟩:=hl i x v hN ev (.inr hk);refine⟨u,r,.inr ⟨Ej (env:=X.env) cf,?_⟩⟩;obtain⟨c,hc⟩:=c2 _ hm rfl;refine⟨c,hc,?_⟩;rcases q with⟨k,_⟩ |⟨_,c',iM,z⟩
  ·have k':X.env.scope.names.lookup x=some .local:=k;rcases hk with a |a <;> (rw[k']at a;cases a)
  ·rw[c1 x c hc]at iM;cases iM
   exact z.keeps old⟩
 cell:=λx c e=>by
  obtain⟨v,z⟩:=I.cell x c (c1 x c e);exact⟨v,z.keeps old⟩
 free:=I.aD.fresh hC
 cG:=λx c e=>I.cG x c (c1 x c e)
 pin:=λp hp=>by
  have hp':p∈X.pn++aa:=by
   have z:=hp;rw[Zt]at z;exact z
  obtain⟨e,n,ne,nf,d⟩:=I.pin p hp';refine⟨old _ _ e,n,ZC (Z2 (lt_size e) hC),λz=>?_,d⟩;rcases mem_cons.mp (I.d9 p.1 z)with q |q
  ·exact ne q
  ·exact nf q
 aD:=I.aD.kept old
 len:=by
  show(B7 ix σ).length=N'.length;unfold B7;rw[AK];exact hf.len
def Ja {pins':LO}{aJ:St}{s':Xj} (I:Inv X aa σ H s) (ib:∀b∈fp,Eo X aa H b) (J:Inv (Al X N' scope cl s H C fp (X.pn++aa)) pins' aJ H' s'):Inv X aa σ H' s' :=
 I.call' (ch:=fp) J.os J.base J.aD J.bare λb hb=>⟨(ib b hb).2.2.2.1,(ib b hb).2.1,(ib b hb).2.2.2.2.1,(ib b hb).2.2.2.2.2⟩
end
def iO (X:Cx) (ifs:List Expr) (t:TT):Prop :=
 ∀(aa:LO) (s:Xj) (σ:St) (H:Hp) (Q:Bool->Hp->Prop),Inv X aa σ H s->t σ H Q ->
  wpAny (model X.prog X.w) X.A (forIn ifs true λc r=>if r=true then do let ok ←isTrue c X.env (eval c X.env);pure (ForInStep.yield ok)else pure (ForInStep.yield r)) (TP X aa σ Q) X.xe s
def XB:TT:=λ_ H Q=>Q true H
def Bm:iO X [] XB:=λaa s σ H Q I h=>wpAny_tests_nil ⟨H,I,h⟩
def Fa {c:Expr}{t:TT} (h:PT X c t):iO X [c] t:=λaa s σ H Q I q=>wpAny_tests_one (h aa s σ H Q I q)
def D1 (wi:TI) (g:TG) (tt:TT) (te:TE) (ix:List (Option Nat)) (R:Xh->Hp->Prop):St->Hp->Prop:=λσ H=>wi σ H λJ H1=>∃W:Nat->Nat->Xh->Hp->Prop,(∃m,W 0 m [] H1)/\∀i m ys H,W i m ys H ->
 (J.stop i H/\ys.length<=sizeLine/\R ys H) \/
 (J.go i H/\∃N:Xh->Hp->Prop,(∀cP H',N cP H'->cP.length<=sizeLine/\∃m',m'<m/\W (i+1) m' cP H') /\
  ∀x H',J.g8 i H x H'->g x (B7 ix σ) H' λcC H2=>tt cC H2 λb H3=>if b=true then te cC H3 λy H4=>N (ys++[y]) H4 else N ys H3)
def kA (X:Cx) (tg:Expr) (ix:List (Option Nat)) (g:TG):Prop :=
 ∀(aa:LO) (s:Xj) (σ:St) (H:Hp) (v:V) (u:Value) (Q:St->Hp->Prop),Inv X aa (B7 ix σ) H s->RelV v u->g v (B7 ix σ) H Q ->
  wpAny (model X.prog X.w) X.A (assign tg X.env u) (λ_ s'=>∃aJ H',Inv X aa aJ H' s'/\(∀(j:Nat) (v:V),(B7 ix σ)[j]?=some (some v)->aJ[j]?=some (some v))/\Q aJ H') X.xe s
def Fb {gB:List (Option Nat)} (h:PG X (.Name x pos) (Cd 0)):kA X (.Name x pos) (none::gB) (Cd 0):=by
 intro aa s σ H v u Q I r q;refine aG (h aa s _ H v u (λaJ H'=>(∀(j:Nat) (v:V),(B7 (none::gB) σ)[j]?=some (some v)->aJ[j]?=some (some v))/\Q aJ H') I r ⟨λj w e=>?_,q⟩) λ_ s' ⟨aJ,H',I',k,q⟩=>⟨aJ,H',I',k,q⟩;cases j with
 |zero=>cases e
 |succ j=>exact e
def Qh {tg:Expr}{gB:List (Option Nat)} (h:PG X tg (SR K 2 (HY (Cd 0) (HY (Cd 1) SQ)))):kA X tg (none::none::gB) (SR K 2 (HY (Cd 0) (HY (Cd 1) SQ))):=by
 intro aa s σ H v u Q I r q;obtain⟨a,xs,e1,e2,e3,v1,r1,e4,v2,r2,e5,e6,q⟩:=q;refine aG (h aa s _ H v u (λaJ H'=>(∀(j:Nat) (v:V),(B7 (none::none::gB) σ)[j]?=some (some v)->aJ[j]?=some (some v))/\Q aJ H') I r ⟨a,xs,e1,e2,e3,v1,r1,e4,v2,r2,e5,e6,λj w e=>?_,q⟩) λ_ s' ⟨aJ,H',I',k,q⟩=>⟨aJ,H',I',k,q⟩
 match j with
 |0=>cases e
 |1=>cases e
 |j+2=>exact e
structure Ty (RD:Cx->Prop) (P:Program) (w:World) (K:FG) (tg:Expr) (J:It) (fp:List Xi) (it:Xi) (tn:Nat->Heap->Prop):Prop where
 obj:∀i h,tn i h->∀b∈fp,∃o,h.get? b=some o/\∀v,o.data≠ .cell v
 keep:∀i h h',tn i h->(∀b∈fp,∀o,h.get? b=some o->h'.get? b=some o)->tn i h'
 item:∀(X:Cx),X.prog=P->X.w=w->X.K=K->RD X->∀(i:Nat) (aa:LO) (s:Xj) (σ:St) (H:Hp) (E:VS),Inv X aa σ H s->(∀b∈fp,Eo X aa H b)->tn i s.heap->J.go i H ->
  wpAny (model P w) X.A (pyNext (.ref it)) (λr s1=>∃u,r=some u/\wpAny (model P w) X.A (letOwnedTupleGo tg (.ref it) u) (λ_ s2=>∃x H',Inv X aa σ H' s2/\RelV x u/\J.g8 i H x H'/\tn (i+1) s2.heap/\∀b∈fp,H' b=none) E s1) E s
 done:∀(X:Cx),X.prog=P->X.w=w->X.K=K->RD X->∀(i:Nat) (aa:LO) (s:Xj) (σ:St) (H:Hp) (E:VS),Inv X aa σ H s->(∀b∈fp,Eo X aa H b)->tn i s.heap->J.stop i H ->
  wpAny (model P w) X.A (pyNext (.ref it)) (λr s1=>r=none/\Inv X aa σ H s1) E s
 self:∀(A:Around) (i:Nat) (s:Xj) (Q:VS) (E:VS),tn i s.heap->Q (.ref it) s->wpAny (model P w) A (pyIter (.ref it)) Q E s
def PIg (RD:Cx->Prop) (X:Cx) (tg iter:Expr) (wi:TI):Prop:=∀(aa:LO) (s:Xj) (σ:St) (H:Hp) (R:It->Hp->Prop),Inv X aa σ H s->wi σ H R ->
 wpAny (model X.prog X.w) X.A (eval iter X.env) (λv s1=>wpAny (model X.prog X.w) X.A (pyIter v) (λitv s2=>∃(it:Xi) (fp:List Xi) (tn:Nat->Heap->Prop) (J:It) (H':Hp),itv=.ref it/\Inv X aa σ H' s2/\Ty RD X.prog X.w X.K tg J fp it tn/\tn 0 s2.heap/\(∀b∈fp,Eo X aa H' b)/\R J H') X.xe s1) X.xe s
def PI.g {tg iter:Expr}{wi:TI} (h:PI X tg iter wi):PIg (λX=>X.calm=true) X tg iter wi:=λaa s σ H R I q =>
 aG (h aa s σ H R I q) λv s1 z=>aG z λitv s2 ⟨it,fp,tn,J,H',e,I',T,r⟩=>⟨it,fp,tn,J,H',e,I',⟨T.obj,T.keep,T.item,T.done,T.self⟩,r⟩
section
variable {tg iter elt:Expr}{ifs:List Expr}{scope:Scope}{pos':Pos}{N':Xf}{ix:List (Option Nat)}{wi:TI}{g:TG}{tt:TT}
def DE {α:Type}{M:Model}{t:Sem α}{Q:α->Xj->Prop} (h:wpAny M A t Q (λ_ _=>False) s):wpAny M A t Q E s :=
 Zv h (λ_ _ q=>q) λ_ _ z=>z.elim
def Jb {RD:Cx->Prop}{use:Option (Value->Sem Unit)}{Qv:VS} (hf:aQ X.env.scope scope X.N N' ix) (hc:∀cl s H C fp aa,RD (Al X N' scope cl s H C fp (X.pn++aa))) (hi:PIg RD X tg iter wi)
  (hg:∀cl s H C fp pn,kA (Al X N' scope cl s H C fp pn) tg ix g) (ht:∀cl s H C fp pn,iO (Al X N' scope cl s H C fp pn) ifs tt) (he:∀cl s H C fp pn,PE (Al X N' scope cl s H C fp pn) elt te)
  (hs:∀x,foldedSetIterable iter X.env x=pure x) {aa:LO}{s:Xj}{σ:St}{H:Hp}{R:Xh->Hp->Prop} (I:Inv X aa σ H s) (h:D1 wi g tt te ix R σ H)
  (df:∀s' ys H' D C m,Inv X aa σ (upd H' D (.lst ys)) s'->R ys H'->H' D=none->s'.heap.Ns C m->X.aY.heap.objs.size<=C->C≠X.env.locals->(∀x c,X.env.cells.lookup x=some c->c≠C)->(∀p∈X.pn++aa,p.1≠C) ->
   upd H' D (.lst ys) C=none->compPost (model X.prog X.w) X.A X.xe use Qv (.ref D) C (.ok .next) s') :
  wpAny (model X.prog X.w) X.A (comprehension (.ListComp elt [⟨tg,iter,ifs,0⟩] scope pos) scope X.env pos' (newList []) false (eval iter X.env) use) Qv X.xe s:=by
 obtain⟨cl,dh,c1,c2⟩:=OD (env:=X.env) (scope:=scope) λy hy hyf=>by
  have:=hf.free y hy hyf;exact I.ok.has y.1 this
 refine wpAny_comprehension_free (use:=use) Zj hs dh hf.kind hf.loc (aG (hi aa s σ H _ I h) λv s1 h1=>aG h1 λitv s2 h2=>?_);obtain⟨it,fp,tn,J,H2,e,I2,T,jy,f2,W,⟨m0,w0⟩,turn⟩:=h2;subst e
 have hlt:∀b∈fp,b<s2.heap.objs.size:=λb hb=>by
  obtain⟨o,e,_⟩:=T.obj _ _ jy b hb;exact lt_size e
 refine wpAny_newObj_type (wpAny_newFunctionEnv hf.nocell (by intro y hy;simp at hy) (λeO hns₁ dQ=>?_) hf.kind)
 dsimp only at hns₁ dQ ⊢
 generalize hH2:s2.heap.push { cls:=.type "list", dict:=none,data:=.seq ([]:Xg).toArray }=HP at hns₁ dQ ⊢;have hC:HP.objs.size=s2.heap.objs.size+1:=by rw[←hH2,Heap.size_push]
 have jf:s2.heap.objs.size≠HP.objs.size:=by rw[hC];exact ZC (Nat.lt_succ_self _)
 have eZ:s2.heap.objs.size<=HP.objs.size:=by rw[hC];exact Nat.le_succ _
 have hCne:∀b,b<s2.heap.objs.size->b≠HP.objs.size:=λb hb=>by rw[hC];exact ZC (Nat.lt_succ_of_lt hb)
 have old:∀b o,s2.heap.get? b=some o->eO.get? b=some o:=λb o e=>dQ.extBut b o (hCne b (lt_size e)) (ZX _ (hH2 ▸ ZX _ e));have cb:eO.get? s2.heap.objs.size=some { cls:=.type "list", dict:=none,data:=.seq ([]:Xg).toArray }:=dQ.extBut _ _ jf (ZX _ (hH2 ▸ ZN _ rfl));generalize hCC:HP.objs.size=C at *;generalize gy:s2.heap.objs.size=D at *;have IX:=Hs (N':=N') (fp:=fp) I2 hf c1 c2 (by rw[gy];exact eZ) f2 (by rw[gy];exact hlt) (tk:=s2.toks+([]:List (Str×Value)).length) old hns₁;have hDn:H2 D=none:=I2.aD.fresh (by rw[gy];exact Zy _)
 have hDfs:D∉ du X.stack:=λz=>by
  rcases mem_cons.mp (I2.d9 D z)with q |q
  ·have:=I2.lt;rw[←q,gy]at this;exact ZF _ this
  ·exact I2.nofs (by rw[gy];exact Zy _) q
 have cellLt:∀x c,X.env.cells.lookup x=some c->c<D:=λx c e=>by
  obtain⟨v,z⟩:=I2.cell x c e;rw[←gy];exact z.lt
 have pinLt:∀p∈X.pn++aa,p.1<D:=λp hp=>by rw[←gy];exact lt_size (I2.pin p hp).1
 have s0D:X.aY.heap.objs.size<=D:=by rw[←gy];exact I2.sz
 have locLt:X.env.locals<D:=by rw[←gy];exact I2.lt
 let X':Cx:=Al X N' scope cl s2 H2 C fp (X.pn++aa)
 have f6:∀ {H':Hp}{ob:Obj},(∀b∈fp,H' b=none)->∀b∈fp,Eo X' [(D,ob)] H' b:=λ{H' ob} hn b hb=>by
  refine⟨hn b hb,ZC (Z2 (hlt b hb) eZ),λz=>?_,.inl hb,λx c e=>(f2 b hb).2.2.2.2.1 x c (c1 x c e),λp hp=>?_⟩
  ·exact IX.ok.gc b hb z
  ·rcases mem_append.mp hp with z |z
   ·exact(f2 b hb).2.2.2.2.2 p z
   ·have e:p=(D,ob):=by simpa using z
    subst e;exact Nat.ne_of_gt (hlt b hb)
 have pinD:∀ {aJ:St}{H':Hp}{s':Xj}{ob:Obj},Inv X' [] aJ H' s'->s'.heap.get? D=some ob->H' D=none->(∀v,ob.data≠ .cell v)->Inv X' [(D,ob)] aJ H' s':=λ{aJ H' s' ob} Ia e n d =>
  Ia.cL λp hp=>by
   have q:p=(D,ob):=by simpa using hp
   subst q;exact⟨e,n,jf,hDfs,d⟩
 have loop:∀s3:Xj,s3={ s2 with heap:=eO,toks:=s2.toks+([]:List (Str×Value)).length } ->
   codeAny (model X.prog X.w) X.A (.compLoop (.ListComp elt [⟨tg,iter,ifs,0⟩] scope pos) 0 (.ref it) (.ref D) (compEnvC scope cl C X.env)) (compPost (model X.prog X.w) X.A X.xe use Qv (.ref D) C) s3:=by
  rintro s3 rfl
  refine codeAny_loop Zj (λn s'=>∃i ys its k H',Inv X' [(D,({ cls:=.type "list", data:=.seq (List.toArray its) k }:Obj))] (B7 ix σ) H' s'/\tn i s'.heap/\(∀b∈fp,H' b=none)/\W i n ys H'/\Vals ys its)
   (λn s4 hI=>?_) m0 ⟨0,[],[],_,H2,pinD IX cb hDn (λv z=>by cases z),T.keep _ _ _ jy (λb _ o e=>old b o e),λb hb=>(f2 b hb).1,w0,.nil⟩
  obtain⟨i,ys,its,k,H4,I4,st4,fr4,w4,rv⟩:=hI;show wpAny _ X.A ((compTurn (.ListComp elt [⟨tg,iter,ifs,0⟩] scope pos) 0 (.ref it) (.ref D) (compEnvC scope cl C X.env)).onRaise (λx=>do noteFrame x (compEnvC scope cl C X.env);theTreesLotGoes x)) _ _ s4;refine wpAny_noted ?_;rw[compTurn_list];refine DE ?_;rcases turn i n ys H4 w4 with⟨stop,hz,r⟩ |⟨go,N,hN,step⟩
  ·refine Zx (ZJ (Zx (aG (T.done X' Zj Zj Zj (hc _ _ _ _ _ _) i _ s4 _ H4 _ I4 (f6 fr4) st4 stop) λr' s5 ⟨hr,I5⟩=>?_)));subst hr;have pD:=I5.pin (D,_) (ZT _ ZI);have Ib:Inv X aa σ H4 s5:=Ja I2 f2 I5;have Ic:Inv X aa σ (upd H4 D (.lst ys)) s5:=Ib.track pD.2.1 (Nat.ne_of_gt locLt) (.inr s0D) (λx c e=>ZC (cellLt x c e)) (λp hp=>ZC (pinLt p hp)) ⟨hz,its,k,rv,pD.1⟩;obtain⟨m5,n5,_⟩:=I5.loc
   refine Zw (df s5 ys H4 D C m5 Ic r pD.2.1 n5 (Nat.le_trans s0D eZ) (Nat.ne_of_gt (Z2 locLt eZ)) (λx c e=>ZC (Z2 (cellLt x c e) eZ))
    (λp hp=>ZC (Z2 (pinLt p hp) eZ)) ?_)
   rw[AF (Ne.symm jf)];exact I5.free
  ·refine Zx (ZJ (Zx (aG (T.item X' Zj Zj Zj (hc _ _ _ _ _ _) i _ s4 _ H4 _ I4 (f6 fr4) st4 go) λr' s5 ⟨u,hr,h5⟩=>?_)));subst hr;refine Zx (aG h5 λ_ s6 ⟨x,H6,I6,r6,y6,st6,fr6⟩=>?_);have I6':=I6.pinned (f6 fr6) (T.obj _ _ st6);refine Zx (aG (hg _ _ _ _ _ _ _ s6 _ H6 x u _ I6' r6 (step x H6 y6)) λ_ s7 ⟨fQ,H7,I7,k7,q7⟩=>?_);refine Zx (aG (ht _ _ _ _ _ _ _ s7 fQ H7 _ I7 q7) λb s8 ⟨H8,I8,q8⟩=>?_)
   have again:∀ {H9:Hp}{s9:Xj}{cP:Xh}{its':Xg}{k':Nat},Inv X' ([(D,({ cls:=.type "list", data:=.seq (List.toArray its') k' }:Obj))]++Ce fp s6.heap) fQ H9 s9->Vals cP its' ->
     (∃m',m'<n/\W (i+1) m' cP H9)->∃m,m<n/\∃i ys its k H',Inv X' [(D,({ cls:=.type "list", data:=.seq (List.toArray its) k }:Obj))] (B7 ix σ) H' s9/\tn i s9.heap/\(∀b∈fp,H' b=none)/\W i m ys H'/\Vals ys its:=by
    intro H9 s9 cP its' k' I9 rv' ⟨m',hm,w9⟩;refine⟨m',hm,i+1,cP,its',k',H9,I9.unpinned.weak (I4.len.trans I9.len.symm) k7,T.keep _ _ _ st6 λb hb o e=>(I9.pin (b,o) (ZT _ (ZT _ (B8 hb e)))).1,λb hb=>?_,w9,rv'⟩;obtain⟨o,e,d⟩:=T.obj _ _ st6 b hb;exact(I9.pin (b,o) (ZT _ (ZT _ (B8 hb e)))).2.1
   cases b with
   |false =>
    rw[Zq Bool.false_ne_true]at q8;exact Zw ⟨Zj,again I8 rv (hN _ _ q8).2⟩
   |true =>
    rw[Zp rfl]at q8;refine Zx (Zx (aG (he _ _ _ _ _ _ _ s8 fQ H8 _ I8 q8) λy s9 ⟨z,H9,I9,r9,q9⟩=>?_))
    have hz:ys.length<sizeLine:=by
     have:=(hN _ _ q9).1;rw[ZH,length_singleton]at this;omega
    have pD:=I9.pin (D,_) (ZT _ (ZP _ ZI));have be:=rv.length;refine Zx (call_meets F.slot_list_append ⟨_,pD.1,Zj⟩ F.entry_list_append (F.args_list_append_2 _ _) (PySem.list_append D its.toArray k y (by rw[size_toArray];omega)) ⟨pD.1,Zw (Zw ⟨Zj,?_⟩)⟩);have eq':its.toArray.push y=(its++[y]).toArray:=by simp
    obtain⟨k',q⟩:∃k',(s9.heap.update D (Obj.mapSeq (·.push y))).get? D=some { cls:=.type "list", data:=.seq (its++[y]).toArray k' }:=⟨_,by rw[←eq'];exact PySem.IsL.update pD.1 (·.push y)⟩;have Iw:Inv X' (Ce fp s6.heap) fQ H9 s9:=I9.cL λp hp=>I9.pin p (ZT _ (ZT _ hp))
    have It:Inv X' (Ce fp s6.heap) fQ H9 { s9 with heap:=s9.heap.update D (Obj.mapSeq (·.push y)),toks:=s9.toks }:=Iw.turned (it:=D) (λb o hb e=>(ZW s9.heap (Obj.mapSeq (·.push y)) (Ne.symm hb)).trans e) pD.2.1 jf
     (.inr (by show s2.heap.objs.size<=D;rw[gy];exact Zy _)) (λx c e=>ZC (cellLt x c (c1 x c e))) (λp hp=>by
      rcases mem_append.mp hp with z' |z'
      ·exact ZC (pinLt p z')
      ·exact ZC (hlt p.1 (GV z').1))
    refine again (its':=its++[y]) (k':=k') (It.cL λp hp=>?_) (rv.append (.cons r9 .nil)) (hN _ _ q9).2;rcases mem_append.mp hp with z' |z'
    ·have e:p=(D,({ cls:=.type "list", data:=.seq (its++[y]).toArray k' }:Obj)):=by simpa using z'
     subst e;exact⟨q,pD.2.1,jf,hDfs,λv z=>by cases z⟩
    ·exact It.pin p (ZT _ z')
 exact codeAny_compStart_list (loop _ Zj) (T.self _ 0 _ _ _ (T.keep _ _ _ jy λb _ o e=>old b o e) (loop _ Zj))
def Jc {RD:Cx->Prop} (hf:aQ X.env.scope scope X.N N' ix) (hc:∀cl s H C fp aa,RD (Al X N' scope cl s H C fp (X.pn++aa))) (hi:PIg RD X tg iter wi)
  (hg:∀cl s H C fp pn,kA (Al X N' scope cl s H C fp pn) tg ix g) (ht:∀cl s H C fp pn,iO (Al X N' scope cl s H C fp pn) ifs tt) (he:∀cl s H C fp pn,PE (Al X N' scope cl s H C fp pn) elt te)
  (hs:∀x,foldedSetIterable iter X.env x=pure x:=by intro _;rfl) :
  PE X (.ListComp elt [⟨tg,iter,ifs,0⟩] scope pos) (λσ H Q=>D1 wi g tt te ix (λys H'=>∀p,H' p=none->Q (.ref p) (upd H' p (.lst ys))) σ H):=by
 intro aa s σ H Q I h;rw[eval_ListComp];refine Jb (use:=none) hf hc hi hg ht he hs I h λs' ys H' D C m I' r hD hn h1 h2 h3 h4 h5=>?_;refine⟨m,hn,λh'' hs''=>⟨.ref D,_,I'.turned (it:=C) (t':=s'.toks) (λb o hb e=>(hs''.2 b hb).trans e) h5 h2 (.inr h1) h3 h4,Zj,r D hD⟩⟩
def LD (hf:aQ X.env.scope scope X.N N' ix) (hc:X.calm=true) (hi:PI X tg iter wi)
  (hg:∀cl s H C fp pn,kA (Al X N' scope cl s H C fp pn) tg ix g) (ht:∀cl s H C fp pn,iO (Al X N' scope cl s H C fp pn) ifs tt) (he:∀cl s H C fp pn,PE (Al X N' scope cl s H C fp pn) elt te)
  (hs:∀x,foldedSetIterable iter X.env x=pure x:=by intro _;rfl) :
  PE X (.ListComp elt [⟨tg,iter,ifs,0⟩] scope pos) (λσ H Q=>D1 wi g tt te ix (λys H'=>∀p,H' p=none->Q (.ref p) (upd H' p (.lst ys))) σ H):=Jc hf (λ_ _ _ _ _ _=>hc) hi.g hg ht he hs
def Qi {i:Nat}{py spos:Pos} (hN:X.N.Nodup) (jl:X.N[i]?=some x) (hx:X.env.scope.names.lookup x=some .local) (hsw:swapsWith (.ListComp elt [⟨tg,iter,ifs,0⟩] scope pos) (some (.Name x py)) spos.line X.env=pure true)
  (hf:aQ X.env.scope scope X.N N' ix) (hc:X.calm=true) (hi:PI X tg iter wi)
  (hg:∀cl s H C fp pn,kA (Al X N' scope cl s H C fp pn) tg ix g) (ht:∀cl s H C fp pn,iO (Al X N' scope cl s H C fp pn) ifs tt) (he:∀cl s H C fp pn,PE (Al X N' scope cl s H C fp pn) elt te)
  (hs:∀x,foldedSetIterable iter X.env x=pure x:=by intro _;rfl) :
  PS X (.Assign [.Name x py] (.ListComp elt [⟨tg,iter,ifs,0⟩] scope pos) spos) (λD σ H=>D1 wi g tt te ix (λys H'=>∀p,H' p=none->D.nx (σ.set i (some (.ref p))) (upd H' p (.lst ys))) σ H):=by
 intro aa s σ H D I h;rw[exec_Assign_Name_used _ _ _ _ hsw];refine Zx (ZJ (Zx ?_));show wpAny _ X.A (do let _ ←comprehension (.ListComp elt [⟨tg,iter,ifs,0⟩] scope pos) scope X.env _ (newList []) false (eval iter X.env) (some (assign (.Name x py) X.env))) _ _ s;refine Zx (aG (Jb (use:=some (assign (.Name x py) X.env)) (Qv:=λ_ s'=>SP X aa D .next s') hf (λ_ _ _ _ _ _=>hc) hi.g hg ht he hs I h λs' ys H' Da C m I' r hD hn h1 h2 h3 h4 h5=>?_) λ_ s' hq=>Zw (Zw hq));show wpAny _ X.A (assign (.Name x py) X.env (.ref Da)) _ _ _;refine wpAny_assign_Name (JL (v:=.ref Da) I' hN jl (.inl hx) Zj (λjA I'' ⟨a,hsb,ha⟩=>?_) (.inr hx))
 have hCa:C≠a:=by
  rcases ha with z |z
  ·rw[z];exact h2
  ·exact(h3 x a z).symm
 refine⟨m,hn.sameBut hsb hCa,λh'' hs''=>?_⟩;exact⟨_,_,I''.turned (it:=C) (t':=jA.toks) (λb o hb e=>(hs''.2 b hb).trans e) h5 h2 (.inr h1) h3 h4,r Da hD⟩
end
abbrev g2 (K:FG):TG:=SR K 2 (HY (Cd 0) (HY (Cd 1) SQ))
section
variable {iter elt:Expr}{ifs:List Expr}{scope:Scope}{px py pt:Pos}{wi:TI}{tt:TT}{y:Str}{kt:Nat}
def Bw (Nc:Xf) (gB:List (Option Nat)) (hf:Ho X.env.scope scope X.N (x::Nc) (none::gB)=true) (iS:(x::Nc).Nodup) (hx:scope.names.lookup x=some .local) (hc:X.calm=true) (hi:PI X (.Name x px) iter wi)
  (ht:∀cl s H C fp pn,iO (Al X (x::Nc) scope cl s H C fp pn) ifs tt) (he:∀cl s H C fp pn,PE (Al X (x::Nc) scope cl s H C fp pn) elt te) (hs:∀x,foldedSetIterable iter X.env x=pure x:=by intro _;rfl) :
  PE X (.ListComp elt [⟨.Name x px,iter,ifs,0⟩] scope pos) (λσ H Q=>D1 wi (Cd 0) tt te (none::gB) (λys H'=>∀p,H' p=none->Q (.ref p) (upd H' p (.lst ys))) σ H) :=
 LD (aQ.of hf) hc hi (λcl s H C fp pn=>Fb (Af (i:=0) iS rfl (.inl (Z5 hx)) (.inr (Z5 hx)))) ht he hs
def Fc (Nc:Xf) (gB:List (Option Nat)) (hf:Ho X.env.scope scope X.N (x::y::Nc) (none::none::gB)=true) (iS:(x::y::Nc).Nodup) (hx:scope.names.lookup x=some .local) (hy:scope.names.lookup y=some .local) (hc:X.calm=true)
  (hi:PI X (.Tuple [.Name x px,.Name y py] kt pt) iter wi)
  (ht:∀cl s H C fp pn,iO (Al X (x::y::Nc) scope cl s H C fp pn) ifs tt) (he:∀cl s H C fp pn,PE (Al X (x::y::Nc) scope cl s H C fp pn) elt te) (hs:∀x,foldedSetIterable iter X.env x=pure x:=by intro _;rfl) :
  PE X (.ListComp elt [⟨.Tuple [.Name x px,.Name y py] kt pt,iter,ifs,0⟩] scope pos) (λσ H Q=>D1 wi (g2 X.K) tt te (none::none::gB) (λys H'=>∀p,H' p=none->Q (.ref p) (upd H' p (.lst ys))) σ H) :=
 LD (aQ.of hf) hc hi (λcl s H C fp pn=>Qh (CQ (X:=Al X (x::y::Nc) scope cl s H C fp pn) hc (Ak (Af (i:=0) iS rfl (.inl (Z5 hx)) (.inr (Z5 hx)))
  (Ak (Af (i:=1) iS rfl (.inl (Z5 hy)) (.inr (Z5 hy))) Bi)))) ht he hs
def LF {i:Nat}{z:Str}{pz spos:Pos} (hN:X.N.Nodup) (jl:X.N[i]?=some z) (hz:X.env.scope.names.lookup z=some .local) (Nc:Xf) (gB:List (Option Nat)) (hf:Ho X.env.scope scope X.N (x::Nc) (none::gB)=true) (iS:(x::Nc).Nodup)
  (hx:scope.names.lookup x=some .local) (hc:X.calm=true) (hi:PI X (.Name x px) iter wi)
  (ht:∀cl s H C fp pn,iO (Al X (x::Nc) scope cl s H C fp pn) ifs tt) (he:∀cl s H C fp pn,PE (Al X (x::Nc) scope cl s H C fp pn) elt te)
  (hsw:swapsWith (.ListComp elt [⟨.Name x px,iter,ifs,0⟩] scope pos) (some (.Name z pz)) spos.line X.env=pure true:=by rfl) (hs:∀x,foldedSetIterable iter X.env x=pure x:=by intro _;rfl) :
  PS X (.Assign [.Name z pz] (.ListComp elt [⟨.Name x px,iter,ifs,0⟩] scope pos) spos) (λD σ H=>D1 wi (Cd 0) tt te (none::gB) (λys H'=>∀p,H' p=none->D.nx (σ.set i (some (.ref p))) (upd H' p (.lst ys))) σ H) :=
 Qi hN jl hz hsw (aQ.of hf) hc hi (λcl s H C fp pn=>Fb (Af (i:=0) iS rfl (.inl (Z5 hx)) (.inr (Z5 hx)))) ht he hs
end
def CB {g:TG}{tt:TT}{ix:List (Option Nat)}{R:Xh->Hp->Prop}{H1:Hp} (Pv:Nat->Xh->Hp->Prop) (h0:Pv 0 [] H1) (hl:∀i ys H,i<=xs.length->Pv i ys H->aI K H a xs) (hz:∀i ys H,Pv i ys H->ys.length<=1000)
  (hs:∀i x ys H,xs[i]?=some x->Pv i ys H->g x (B7 ix σ) H λcC H2=>tt cC H2 λb H3=>if b=true then te cC H3 λy H4=>Pv (i+1) (ys++[y]) H4 else Pv (i+1) ys H3) (hd:∀ys H,Pv xs.length ys H->R ys H) :
  ∃W:Nat->Nat->Xh->Hp->Prop,(∃m,W 0 m [] H1)/\∀i m ys H,W i m ys H ->
   ((iY K a).stop i H/\ys.length<=sizeLine/\R ys H) \/
   ((iY K a).go i H/\∃N:Xh->Hp->Prop,(∀cP H',N cP H'->cP.length<=sizeLine/\∃m',m'<m/\W (i+1) m' cP H') /\
    ∀x H',(iY K a).g8 i H x H'->g x (B7 ix σ) H' λcC H2=>tt cC H2 λb H3=>if b=true then te cC H3 λy H4=>N (ys++[y]) H4 else N ys H3):=by
 refine⟨λi m ys H=>m=xs.length - i/\i<=xs.length/\Pv i ys H,⟨_,Zj,Nat.zero_le _,h0⟩,?_⟩;rintro i m ys H ⟨rfl,hi,hp⟩;by_cases hlt:i<xs.length
 ·have hx:xs[i]?=some xs[i]:=Z7 hlt;refine .inr ⟨⟨xs,xs[i],hl i ys H hi hp,hx⟩,Pv (i+1),λcP H' q=>⟨Nat.le_of_lt (AO (hz _ cP H' q)),xs.length - (i+1),qe,Zj,hlt,q⟩,?_⟩;rintro x H' ⟨rfl,hy⟩
  have ex:x=xs[i]:=by
   have:=hy xs (hl i ys H' hi hp);rw[hx]at this;exact(Option.some.inj this).symm
  subst ex;exact hs i xs[i] ys H' hx hp
 ·have e:i=xs.length:=by omega
  subst e;exact .inl ⟨⟨xs,hl _ ys H hi hp,Zy _⟩,Nat.le_of_lt (AO (hz _ ys H hp)),hd ys H hp⟩
def LG {g:TG}{tt:TT}{ix:List (Option Nat)}{R:Xh->Hp->Prop}{H1:Hp} (Pv:Nat->Xh->Hp->Prop) (h0:Pv 0 [] H1) (hl:∀i ys H,i<=xs.length->Pv i ys H->aX K H a xs) (hz:∀i ys H,Pv i ys H->ys.length<=1000)
  (hs:∀i x ys H,xs[i]?=some x->Pv i ys H->g x (B7 ix σ) H λcC H2=>tt cC H2 λb H3=>if b=true then te cC H3 λy H4=>Pv (i+1) (ys++[y]) H4 else Pv (i+1) ys H3) (hd:∀ys H,Pv xs.length ys H->R ys H) :
  ∃W:Nat->Nat->Xh->Hp->Prop,(∃m,W 0 m [] H1)/\∀i m ys H,W i m ys H ->
   ((Itt K a).stop i H/\ys.length<=sizeLine/\R ys H) \/
   ((Itt K a).go i H/\∃N:Xh->Hp->Prop,(∀cP H',N cP H'->cP.length<=sizeLine/\∃m',m'<m/\W (i+1) m' cP H') /\
    ∀x H',(Itt K a).g8 i H x H'->g x (B7 ix σ) H' λcC H2=>tt cC H2 λb H3=>if b=true then te cC H3 λy H4=>N (ys++[y]) H4 else N ys H3):=by
 refine⟨λi m ys H=>m=xs.length - i/\i<=xs.length/\Pv i ys H,⟨_,Zj,Nat.zero_le _,h0⟩,?_⟩;rintro i m ys H ⟨rfl,hi,hp⟩;by_cases hlt:i<xs.length
 ·have hx:xs[i]?=some xs[i]:=Z7 hlt;refine .inr ⟨⟨xs,xs[i],hl i ys H hi hp,hx⟩,Pv (i+1),λcP H' q=>⟨Nat.le_of_lt (AO (hz _ cP H' q)),xs.length - (i+1),qe,Zj,hlt,q⟩,?_⟩;rintro x H' ⟨rfl,hy⟩
  have ex:x=xs[i]:=by
   have:=hy xs (hl i ys H' hi hp);rw[hx]at this;exact(Option.some.inj this).symm
  subst ex;exact hs i xs[i] ys H' hx hp
 ·have e:i=xs.length:=by omega
  subst e;exact .inl ⟨⟨xs,hl _ ys H hi hp,Zy _⟩,Nat.le_of_lt (AO (hz _ ys H hp)),hd ys H hp⟩
def Et {lo:Int}{n:Nat}{g:TG}{tt:TT}{ix:List (Option Nat)}{R:Xh->Hp->Prop}{H1:Hp} (Pv:Nat->Xh->Hp->Prop) (h0:Pv 0 [] H1) (hz:∀i ys H,Pv i ys H->ys.length<=1000)
  (hs:∀(i:Nat) ys H,i<n->Pv i ys H->g (.int (lo+i)) (B7 ix σ) H λcC H2=>tt cC H2 λb H3=>if b=true then te cC H3 λy H4=>Pv (i+1) (ys++[y]) H4 else Pv (i+1) ys H3) (hd:∀ys H,Pv n ys H->R ys H) :
  ∃W:Nat->Nat->Xh->Hp->Prop,(∃m,W 0 m [] H1)/\∀i m ys H,W i m ys H ->
   ((jP lo n).stop i H/\ys.length<=sizeLine/\R ys H) \/
   ((jP lo n).go i H/\∃N:Xh->Hp->Prop,(∀cP H',N cP H'->cP.length<=sizeLine/\∃m',m'<m/\W (i+1) m' cP H') /\
    ∀x H',(jP lo n).g8 i H x H'->g x (B7 ix σ) H' λcC H2=>tt cC H2 λb H3=>if b=true then te cC H3 λy H4=>N (ys++[y]) H4 else N ys H3):=by
 refine⟨λi m ys H=>m=n - i/\i<=n/\Pv i ys H,⟨_,Zj,Nat.zero_le _,h0⟩,?_⟩;rintro i m ys H ⟨rfl,hi,hp⟩;by_cases hlt:i<n
 ·refine .inr ⟨hlt,Pv (i+1),λcP H' q=>⟨Nat.le_of_lt (AO (hz _ cP H' q)),n - (i+1),qe,Zj,hlt,q⟩,?_⟩;rintro x H' ⟨rfl,rfl⟩;exact hs i ys H' hlt hp
 ·have e:i=n:=by omega
  subst e;exact .inl ⟨Zy _,Nat.le_of_lt (AO (hz _ ys H hp)),hd ys H hp⟩
section
variable {o:Obj}{kvs:LK}
def Inv.newOk (I:Inv X aa σ H s) {p:Xi} (hp:s.heap.objs.size<=p):H p=none/\p≠X.env.locals/\X.aY.heap.objs.size<=p/\(∀x c,X.env.cells.lookup x=some c->c≠p)/\∀q∈X.pn++aa,q.1≠p :=
 ⟨I.aD.fresh hp,Nat.ne_of_gt (Z2 I.lt hp),Nat.le_trans I.sz hp,λx c e=>by
  obtain⟨v,z⟩:=I.cell x c e
  exact ZC (Z2 z.lt hp),λq hq=>ZC (Z2 (lt_size (I.pin q hq).1) hp)⟩
def Inv.freeze (I:Inv X aa σ H s) (h:H a=some (.dK kvs)):∃o,Inv X aa σ (upd H a (.bG o (.dK kvs))) s:=by
 obtain⟨z,y,vs,r,ob,es,ep,e,rest⟩:=I.aD a _ h;refine⟨ob,?_⟩;exact I.write (x:=a) (e:=a) (o:=.bG ob (.dK kvs)) (h':=s.heap) (t':=s.toks) (by rw[h];exact trivial) (.inl Zj) (λb u _ q=>q) ⟨ob,e⟩ ⟨e,z,y,vs,r,ob,es,ep,e,rest⟩
def Eu {i7:List Stmt}{t:TS} (h:eN X i7 t):eN X i7 (λD σ H=>∃a kvs,H a=some (.dK kvs)/\∀o,t D σ (upd H a (.bG o (.dK kvs)))):=by
 intro aa s σ H D I ⟨a,kvs,e,k⟩;obtain⟨o,I'⟩:=I.freeze e;exact h aa s σ _ D I' (k o)
noncomputable def Qj (o:Obj):Nat:=match o.data with
 | .dict _ ep=>ep
 |_=>0
def Ht (I:Inv X aa σ H s) (h:H a=some (.bG o (.dK kvs))):kvs.length<=sizeLine/\(a==sysModules)=false/\∃vs,KV kvs vs/\s.heap.DictAt (AY X.prog X.w) a vs (Qj o):=by
 obtain⟨e,z,y,vs,r,ob,es,ep,e2,ex,d,rest⟩:=I.aD a _ h;rw[e]at e2;cases e2;refine⟨z,y,vs,r,o,es,e,ex,?_,rest⟩;show o.data=.dict es (Qj o);unfold Qj;rw[d]
end
def KV.get {κ:Type}:∀ {kvs:List (κ×V)}{vs:List (κ×Value)}{i:Nat}{kv:κ×V},KV kvs vs->kvs[i]?=some kv->∃v,vs[i]?=some (kv.1,v)/\RelV kv.2 v
 |_,_,_,_,.nil,e=>by simp at e
 |_,_,0,_,.cons r _,e=>by
  simp only[List.getElem?_cons_zero,Option.some.injEq]at e;subst e;rename_i q _ _ _;exact⟨q.2,by rw[r.1];rfl,r.2⟩
 |_,_,i+1,kv,.cons _ t,e=>by
  obtain⟨u,h1,h2⟩:=KV.get (i:=i) (kv:=kv) (show KV _ _ from t) (by simpa using e);exact⟨u,by simpa using h1,h2⟩
def HN {k:Key} (h:(AY P w).is k u=true):RelV (kV k) u:=by
 rcases A6 (show HW k u=true from h)with⟨i,t,rfl,rfl⟩ |⟨x,t,rfl,rfl⟩
 ·exact⟨t,Zj⟩
 ·exact⟨t,Zj⟩
noncomputable def kG (a:Xi) (o:Obj) (kvs:LK):It:=⟨λi H=>H a=some (.bG o (.dK kvs))/\i<kvs.length,λi H x H'=>∃p kv,H p=none/\x=.ref p/\kvs[i]?=some kv/\H'=upd H p (.tup [kV kv.1,kv.2]),
 λi H=>H a=some (.bG o (.dK kvs))/\kvs.length<=i⟩
def My {elts:List Expr}{k0:Nat} (a it:Xi) (o:Obj) (kvs:LK) :
  Mh P w K (.Tuple elts k0 pos) (kG a o kvs) [it] it (λi h=>∃ok ov,IsItemIter h it a i kvs.length (Qj o) ok ov) where
 mem:=by simp
 obj:=λi h st b hb=>by
  have e:b=it:=by simpa using hb
  subst e;obtain⟨ok,ov,e⟩:=st;exact⟨_,e,λv z=>by cases z⟩
 keep:=λi h h' st k=>by
  obtain⟨ok,ov,e⟩:=st;exact⟨ok,ov,k it (by simp) _ e⟩
 item:=by
  intro X hP hw hK hc i aa s σ H E I hf st hg;subst hP hw hK;obtain⟨kf,hi⟩:=hg;obtain⟨z,y,vs,rel,dd⟩:=Ht I kf;obtain⟨ok,ov,st⟩:=st;have be:=rel.length;obtain⟨kv,gj⟩:∃kv,kvs[i]?=some kv:=⟨_,Z7 hi⟩;obtain⟨v,hv,rv⟩:=KV.get rel gj;obtain⟨f0,f1,f2,f3,f4,f5⟩:=hf it (by simp);rw[be]at st;have hlt:it<s.heap.objs.size:=lt_size st;refine wpAny_pyNext_items_item st dd hv λkey h' dc gq hp hsz keep=>?_;have I1:Inv X aa σ H { s with heap:=h' }:=I.turned (t':=s.toks) keep f0 f1 f3 f4 f5;obtain⟨n1,n2,n3,n4,n5⟩:=I.newOk (Zy s.heap.objs.size);have I2:Inv X aa σ (upd H s.heap.objs.size (.tup [kV kv.1,kv.2])) { s with heap:=h' }:=I1.track n1 n2 (.inr n3) n4 n5 ⟨by show 2<=sizeLine;decide,[key,v],.cons (HN dc) (.cons rv .nil),_,hp,rfl,_,rfl⟩;have fi:(upd H s.heap.objs.size (.tup [kV kv.1,kv.2])) it=none:=by rw[AF (ZC hlt)];exact f0
  refine⟨.ref s.heap.objs.size,Zj,wpAny_letOwnedTupleGo_items gq λh'' st'' sb=>?_⟩;refine⟨.ref s.heap.objs.size,_,I2.turned (it:=it) (t':=s.toks) (λb o hb e=>(sb.2 b hb).trans e) fi f1 f3 f4 f5,Zj,⟨_,kv,n1,Zj,gj,Zj⟩,⟨key,v,by rw[be];exact st''⟩,λb hb=>?_⟩;have e:b=it:=by simpa using hb
  rw[e];exact fi
 done:=by
  intro X hP hw hK hc i aa s σ H E I hf st hg;subst hP hw hK;obtain⟨kf,hi⟩:=hg;obtain⟨z,y,vs,rel,dd⟩:=Ht I kf;obtain⟨ok,ov,st⟩:=st;have be:=rel.length;rw[be]at st;obtain⟨f0,f1,f2,f3,f4,f5⟩:=hf it (by simp);exact wpAny_pyNext_items_end (I.ok.hd hc) st dd (List.getElem?_eq_none_iff.mpr qe) λh' eb=>⟨Zj,I.turned (t':=s.toks) (λb o hb e=>eb b o hb e) f0 f1 f3 f4 f5⟩
 self:=λ_ _ _ _ _ st h=>by
  obtain⟨ok,ov,e⟩:=st;exact W.kcp_self e h
def Uc (to:TE):TI:=λσ H R=>to σ H λx H1=>∃a o kvs,x=.ref a/\H1 a=some (.bG o (.dK kvs))/\R (kG a o kvs) H1
def LH {elts:List Expr}{k0:Nat}{o:Expr}{to:TE}{apos d7:Pos} (ho:PE X o to) (bw:attributeBase o "items" X.env (eval o X.env)=eval o X.env:=by rfl) (b9:(apos.endLine==d7.line)=true:=by rfl) :
  PI X (.Tuple elts k0 pos) (.Call (.Attribute o "items" apos) [] [] d7) (Uc to):=by
 intro aa s σ H R I h;refine wpAny_Call_method0_late bw b9 (aG (ho aa s σ H _ I h) λv s1 ⟨x,H1,I1,r1,a,ob,kvs,ex,kf,q⟩=>?_);subst ex;cases r1;obtain⟨t1,t2,_⟩:=Qf I1 (.inl ⟨kvs,.inr ⟨ob,kf⟩⟩);obtain⟨z,y,vs,rel,dd⟩:=Ht I1 kf;refine⟨"dict", "dict.items", PySem.F.plainAttrs_dict,PySem.F.slot_dict_items,PySem.F.type_dict_items,t1,t2,Calls.callWith_builtin rfl (PySem.evalArgs_none (call_meetsIn PySem.F.slot_dict_items t1 PySem.F.entry_dict_items (PySem.F.args_dict_items_1 _) (meets_dict_items (AY X.prog X.w) a y) ⟨⟨vs,dd.dictOf⟩,?_⟩))⟩;have I2:Inv X aa σ H1 { s1 with heap:=s1.heap.push { cls:=.type "dict_items", data:=.fields #[.ref a] } }:=I1.kept (t':=s1.toks) λb o e=>ZX _ e;refine wpAny_pyIter_items (knd:=AY X.prog X.w) (d:=a) (kvs:=vs) (ep:=Qj ob) ⟨_,ZN _ rfl,rfl,rfl⟩ (dd.push _) ?_;refine⟨_,[_],_,_,H1,rfl,I2.kept (t':=s1.toks) λb o e=>ZX _ e,My a _ ob kvs,⟨.none,.none,by rw[rel.length];exact ZN _ rfl⟩,λb hb=>?_,q⟩;have e:b=(s1.heap.push { cls:=.type "dict_items", data:=.fields #[.ref a] }).objs.size:=by simpa using hb
 subst e;exact I2.gR (Zy _) (I2.aD.fresh (Zy _))
noncomputable def Ite (K:FG) (a:Xi):It:=⟨λi H=>∃xs x,aI K H a xs/\xs[i]?=some x,λi H x H'=>∃p y,H p=none/\x=.ref p/\(∀xs,aI K H a xs->xs[i]?=some y)/\H'=upd H p (.tup [.int i,y]),λi H=>∃xs,aI K H a xs/\xs.length<=i⟩
def PM {elts:List Expr}{k0:Nat} (a e it:Xi) (a0:e≠it) :
  Mh P w K (.Tuple elts k0 pos) (Ite K a) [e,it] e (λi h=>∃old,IsEnum h e it i old/\h.IsListIter it a i) where
 mem:=by simp
 obj:=λi h st b hb=>by
  obtain⟨old,e1,o,e2,c,d⟩:=st;have je:b=e\/b=it:=by simpa using hb
  rcases je with rfl |rfl
  ·exact⟨_,e1,λv z=>by cases z⟩
  ·exact⟨o,e2,λv z=>by rw[d]at z;cases z⟩
 keep:=λi h h' st k=>by
  obtain⟨old,e1,e2⟩:=st;exact⟨old,k e (by simp) _ e1,e2.at λo q=>k it (by simp) o q⟩
 item:=by
  intro X hP hw hK hc i aa s σ H E I hf st hg;subst hP hw hK;obtain⟨xs,x,hq,hx⟩:=hg;obtain⟨its,rv,p,hz⟩:=I.list hq;obtain⟨u,hu,ru⟩:=rv.get hx;obtain⟨old,s1,s2⟩:=st;obtain⟨f0,f1,f2,f3,f4,f5⟩:=hf e (by simp);obtain⟨g0,g1,g2,g3,g4,g5⟩:=hf it (by simp);have hlt:e<s.heap.objs.size:=lt_size s1;have hlt2:it<s.heap.objs.size:=by obtain⟨o,q,_⟩:=id s2;exact lt_size q
  refine wpAny_pyNext_enum_item s1 s2 p.isList (x:=u) (by simpa using hu) a0 λh' gq st2' hp hsz keep=>?_
  have I1:Inv X aa σ H { s with heap:=h',toks:=s.toks+1 }:=by
   refine I.step (H':=H) (g':=s.gens) (d':=s.drawn) (ch:=[e,it]) (λb hb=>?_) (λb o _ _ hb q _=>keep b o (by simp at hb;exact hb.1) (by simp at hb;exact hb.2) q) (λb o _ _ hb q _=>⟨o.slots,keep b o (by simp at hb;exact hb.1) (by simp at hb;exact hb.2) q⟩)
    (λ_ _ _ _ n=>n) (λb o hb q=>⟨o,keep b o (by simp at hb;exact hb.1) (by simp at hb;exact hb.2) q⟩) (λ_ _ q=>q) (λ_ _ _ q=>q) (λb ps q=>⟨#[],by rw[q];simp⟩) (λm hm=>?_) (λb u q=>?_) I.bare
   ·have je:b=e\/b=it:=by simpa using hb
    rcases je with rfl |rfl
    ·exact⟨f3,f1,f4,f5⟩
    ·exact⟨g3,g1,g4,g5⟩
   ·obtain⟨oL,es,ep,iR,r⟩:=hm;exact⟨oL,es,ep,keep _ oL (Ne.symm f1) (Ne.symm g1) iR,r⟩
   ·have ne1:∀c v,H c=some v->c≠e/\c≠it:=λc v q=>⟨AI q f0,AI q g0⟩;refine(I.aD b u q).eB (λc v hc q'=>keep c v ?_ ?_ q') (λ_ q=>q) λ_ _ q=>q
    ·rcases hc with z |z
     ·rw[z];exact(ne1 b u q).1
     ·exact(ne1 c _ z).1
    ·rcases hc with z |z
     ·rw[z];exact(ne1 b u q).2
     ·exact(ne1 c _ z).2
  obtain⟨n1,n2,n3,n4,n5⟩:=I.newOk (Zy s.heap.objs.size);have I2:Inv X aa σ (upd H s.heap.objs.size (.tup [.int i,x])) { s with heap:=h',toks:=s.toks+1 }:=I1.track n1 n2 (.inr n3) n4 n5 ⟨by show 2<=sizeLine;decide,[.int i s.toks,u],.cons ⟨_,rfl⟩ (.cons ru .nil),_,hp,rfl,_,rfl⟩;have fe:(upd H s.heap.objs.size (.tup [.int i,x])) e=none:=by rw[AF (ZC hlt)];exact f0
  have fi:(upd H s.heap.objs.size (.tup [.int i,x])) it=none:=by rw[AF (ZC hlt2)];exact g0
  refine⟨.ref s.heap.objs.size,Zj,wpAny_letOwnedTupleGo_enum gq λh'' st'' sb=>?_⟩;refine⟨.ref s.heap.objs.size,_,I2.turned (it:=e) (t':=s.toks+1) (λb o hb q=>(sb.2 b hb).trans q) fe f1 f3 f4 f5,Zj,⟨_,x,n1,Zj,λys hy=>by rw[I.list_inj hy hq];exact hx,Zj⟩,⟨_,by exact_mod_cast st'',st2'.extBut sb.extBut (Ne.symm a0)⟩,λb hb=>?_⟩;have je:b=e\/b=it:=by simpa using hb
  rcases je with rfl |rfl
  ·exact fe
  ·exact fi
 done:=by
  intro X hP hw hK hc i aa s σ H E I hf st hg;subst hP hw hK;obtain⟨xs,hq,hx⟩:=hg;obtain⟨its,rv,p,hz⟩:=I.list hq;obtain⟨old,s1,s2⟩:=st;obtain⟨g0,g1,g2,g3,g4,g5⟩:=hf it (by simp);have hl:=rv.length;exact wpAny_pyNext_enum_end (I.ok.hd hc) s1 s2 p.isList (by simp;omega) λh' eb=>⟨Zj,I.turned (t':=s.toks) (λb o hb e=>eb b o hb e) g0 g1 g3 g4 g5⟩
 self:=λ_ _ _ _ _ st h=>by
  obtain⟨old,e1,_⟩:=st;exact wpAny_pyIter_enum e1 h
def Vy (K:FG) (tl:TA):TI:=λσ H R=>tl σ H λvs H1=>∃a,vs=[.ref a]/\(∃xs,aI K H1 a xs)/\R (Ite K a) H1
def Sk {elts:List Expr}{k0:Nat}{p d7:Pos}{l:Expr}{tl:TA} (hg:Gl X "enumerate") (hm:X.mg "enumerate" = none) (hl:PA X [l] tl) (hs:starEach [l] X.env=[(false,eval l X.env)]:=by rfl) :
  PI X (.Tuple elts k0 pos) (.Call (.Name "enumerate" p) [l] [] d7) (Vy X.K tl):=by
 intro aa s σ H R I h;refine Z3 (En (u:=.type "enumerate") I hg hm qb ?_);refine PyProof.Rows.callWith_type1 (aG (hl d7 aa s σ H _ I h) λus s1 ⟨vs,H1,I1,r1,a,ev,⟨xs,hq⟩,q⟩=>?_) hs rfl;subst ev;obtain⟨u,rfl,ru⟩:=Br r1;cases ru;obtain⟨its,rv,pl,hz⟩:=I1.list hq;refine call_enumerate_list pl.isList λh' he hi hsz keep=>?_;refine wpAny_pyIter_enum he ?_;have I2:Inv X aa σ H1 { s1 with heap:=h' }:=I1.kept (t':=s1.toks) keep;refine⟨_,[s1.heap.objs.size+1,s1.heap.objs.size],_,_,H1,rfl,I2,PM a _ _ (Nat.succ_ne_self _),⟨_,he,hi⟩,λb hb=>?_,q⟩;have je:b=s1.heap.objs.size+1\/b=s1.heap.objs.size:=by simpa using hb
 rcases je with rfl |rfl
 ·exact I1.gR (Nat.le_succ _) (I1.aD.fresh (Nat.le_succ _))
 ·exact I1.gR (Zy _) (I1.aD.fresh (Zy _))
noncomputable def Its (x:Str):It:=⟨λi _=>i<x.cps.size,λi H v H'=>H'=H/\∃c,x.cps[i]?=some c/\v=.str ⟨#[c]⟩,λi _=>x.cps.size<=i⟩
def Qk {n:Str} (it:Xi) (x:Str) (t:Tok) :
  Mh P w K (.Name n pos) (Its x) [it] it (λi h=>h.IsStrIter it "str_ascii_iterator" x t i) where
 mem:=by simp
 obj:=λi h st b hb=>by
  have e:b=it:=by simpa using hb
  subst e;obtain⟨o,e,c,d⟩:=st;exact⟨o,e,λv z=>by rw[d]at z;cases z⟩
 keep:=λi h h' st k=>by
  obtain⟨o,e,r⟩:=st;exact⟨o,k it (by simp) o e,r⟩
 item:=by
  intro X hP hw hK hc i aa s σ H E I hf st hg;subst hP hw hK;have hi:i<x.cps.size:=hg;obtain⟨f0,f1,f2,f3,f4,f5⟩:=hf it (by simp);refine wpAny_pyNext_ascii_item st (Array.getElem?_eq_getElem hi) λh' gq sb=>?_;refine⟨_,Zj,Zw ⟨.str ⟨#[x.cps[i]]⟩,H,I.turned (t':=s.toks+1) (λb o hb e=>(sb.2 b hb).trans e) f0 f1 f3 f4 f5,⟨_,Zj⟩,⟨Zj,_,Array.getElem?_eq_getElem hi,Zj⟩,gq,λb hb=>(hf b hb).1⟩⟩
 done:=by
  intro X hP hw hK hc i aa s σ H E I hf st hg;subst hP hw hK;have hi:x.cps.size<=i:=hg;obtain⟨f0,f1,f2,f3,f4,f5⟩:=hf it (by simp);exact wpAny_pyNext_ascii_end (I.ok.hd hc) st (Array.getElem?_eq_none hi) λh' eb=>⟨Zj,I.turned (t':=s.toks) (λb o hb e=>eb b o hb e) f0 f1 f3 f4 f5⟩
 self:=λ_ _ _ _ _ st h=>wpAny_pyIter_striter_ascii st h
def XC (ts:TE):TI:=λσ H R=>ts σ H λv H1=>∃x,v=.str x/\x.cps.all (· < 128)=true/\R (Its x) H1
def Mz {n:Str}{ts:TE} (he:PE X e ts):PI X (.Name n pos) e (XC ts):=by
 intro aa s σ H R I h;refine aG (he aa s σ H _ I h) λv s1 ⟨z,H1,I1,r1,x,ez,ha,q⟩=>?_;subst ez;obtain⟨t,rfl⟩:=r1;refine wpAny_pyIter_ascii ha ?_;refine⟨s1.heap.objs.size,[s1.heap.objs.size],_,_,H1,Zj,I1.kept (t':=s1.toks) λb o e=>ZX _ e,Qk _ x t,⟨_,ZN _ Zj,Zj,Zj⟩,λb hb=>?_,q⟩;have e:b=s1.heap.objs.size:=by simpa using hb
 subst e;exact I1.gR (Zy _) (I1.aD.fresh (Zy _))
def JC:entryFor table "proto.unchain" = some Builtin.«proto.unchain»:=entryFor_of_tree qd
section
variable {prog:Program}
def Sl {α:Type}{c e:Xi}{oc oe:Obj}{vc ve:Array Value}{Q:α->Xj->Prop} (hh:A.handled=some (.ref c)) (hce:c≠e) (hc:s.heap.get? c=some oc) (kh:oc.data=.fields vc) (h2:vc[2]?=some .none)
  (he:s.heap.get? e=some oe) (kg:oe.data=.fields ve) (hz:2<ve.size) (h:E (.ref e) { s with heap:=s.heap.update e (Obj.mapFields (·.setIfInBounds 2 (.ref c))) }):wpAny (model prog w) A (raiseNew (.ref e):Sem α) Q E s:=by
 unfold raiseNew;refine Zx (wpAny_handled ?_);rw[hh]
 dsimp only
 rw[Zp (show(Value.ref c != Value.ref e)=true by simp[hce])];refine Zx (ZK (wpAny_runValue (codeAny_builtin JC ?_)));unfold Builtin.«proto.unchain»
 dsimp only
 refine Zx (wpAny_field hc kh h2 ?_);rw[Zp qc];refine Zw ?_;show wpAny _ _ _ _ _ _;have up:=wpAny_setField (M:=model prog w) (A:=A) (E:=E) (x:=Value.ref c) (Q:=λ_ s'=>E (.ref e) s') he kg hz h;unfold setField at up;exact Zx (Zv up (λ_ s' z=>wpAny_throw z) λ_ _ z=>z)
def Dm {it l c:Xi}{i:Nat}{xs:Array Value}{oc:Obj}{vc:Array Value}{Q:Option Value->Xj->Prop} (hh:A.handled=some (.ref c)) (hc:s.heap.get? c=some oc) (kh:oc.data=.fields vc) (h2:vc[2]?=some .none) (hci:c≠it)
  (hI:s.heap.IsListIter it l i) (hL:s.heap.IsList l xs) (hx:xs[i]?=none) (fin:∀h',Heap.ExtBut it s.heap h'->Q none { s with heap:=h' }):wpAny (model prog w) A (pyNext (.ref it)) Q E s:=by
 obtain⟨o,ho,oc1,hd⟩:=id hI;obtain⟨ol,hol,_,nl,hdl⟩:=hL;unfold pyNext;refine Zx (wpAny_attempt (wpAny_callSpecial?_slot (name:=Str.ofString "__next__") hI.typeIs slot_listiter_next (wpAny_call_entry slot_listiter_next hI.typeIs entry_listiter_next ?_ (args_listiter_next _))));show wpAny _ _ (field (.ref it) 0 >>= _) _ _ s;refine Zx (wpAny_field (x:=.ref l) ho hd Zj ?_);show wpAny _ _ (if (Value.ref l==Value.none)=true then _ else _) _ _ s;rw[Zq (by simp:¬ (Value.ref l==Value.none)=true)];show wpAny _ _ (field (.ref it) 1 >>= _) _ _ s;refine Zx (wpAny_field (x:=.int i 0) ho hd Zj ?_);show wpAny _ _ (seqItems? (.ref l) >>= _) _ _ s;refine Zx (wpAny_seqItems hol hdl ?_);simp only[Int.toNat_natCast,hx];refine Zx (wpAny_rule (Zx (wpAny_setField ho hd (by simp) ?_)));show wpAny _ _ (newExc (.type "StopIteration") [] >>= raiseNew) _ _ _;refine Zx ?_;simp only[newExc,newTuple];refine Zx (wpAny_newObj_type ?_ (by size_fits));refine Zx (m:=firstArgMember _ _) (wpAny_of_eq (a:=Value.none) (by first |rfl | (simp only[firstArgMember];rfl)) (wpAny_newObj_type ?_ (by size_fits)));have k1:=(ZW s.heap (Obj.mapFields (·.setIfInBounds 0 Value.none)) (Ne.symm hci)).trans hc;refine Sl (c:=c) (show A.in1.handled=_ from hh) (λz=>?_) (ZX _ (ZX _ k1)) kh h2 (ZN _ Zj) Zj (by simp;omega) ?_
 ·have:=lt_size (ZX { cls:=.type "tuple", data:=.seq #[] } k1);rw[z]at this;exact absurd this (ZF _)
 ·refine Zx (wpAny_isInstance (T := "StopIteration") (b:=true) ⟨_,ZU _ (ZN _ Zj) Zj,Zj⟩ isSubtype_stop ?_);refine Zw (fin _ λb u hb z=>?_);have z1:=(ZW s.heap (Obj.mapFields (·.setIfInBounds 0 Value.none)) (Ne.symm hb)).trans z;have z2:=ZX { cls:=.type "tuple", data:=.seq #[] } z1;rw[ZW _ _ (Nat.ne_of_gt (lt_size z2))];exact ZX _ z2
end
def Sft (X:Cx):Prop:=∃e oe vs,X.A.handled=some (.ref e)/\(e,oe)∈X.pn/\oe.data=.fields vs/\vs[2]?=some .none
def iX (X:Cx):Prop:=X.calm=true\/Sft X
def iX.comp {N':Xf}{scope:Scope}{cl:List (Str×Xi)}{fp:List Xi} (h:iX X):iX (Al X N' scope cl s H C fp (X.pn++aa)):=by
 rcases h with h |⟨e,oe,vs,a,b,c,d⟩
 ·exact .inl h
 ·exact .inr ⟨e,oe,vs,a,ZP _ b,c,d⟩
section
def Ql {it l:Xi}{i:Nat}{xs:Array Value}{Q:Option Value->Xj->Prop} (hc:iX X) (I:Inv X aa σ H s) (hf:Eo X aa H it) (hI:s.heap.IsListIter it l i) (hL:s.heap.IsList l xs) (hx:xs[i]?=none)
  (fin:∀h',Heap.ExtBut it s.heap h'->Q none { s with heap:=h' }):wpAny (model X.prog X.w) X.A (pyNext (.ref it)) Q E s:=by
 rcases hc with hc |⟨e,oe,vs,a,b,c,d⟩
 ·exact wpAny_pyNext_list_end (I.ok.hd hc) hI hL hx fin
 ·exact Dm a (I.pin (e,oe) (ZP _ b)).1 c d (hf.2.2.2.2.2 (e,oe) (ZP _ b)) hI hL hx fin
end
def M0 {tg:Expr} (a it:Xi):Ty iX P w K tg (iY K a) [it] it (λi h=>h.IsListIter it a i):=by
 have T:=JM (P:=P) (w:=w) (K:=K) (tg:=tg) a it;refine⟨T.obj,T.keep,?_,?_,T.self⟩
 ·intro X hP hw hK hc i aa s σ H E I hf st hg;subst hP hw hK;obtain⟨xs,x,hq,hx⟩:=hg;obtain⟨its,rv,p,hz⟩:=I.list hq;obtain⟨u,hu,ru⟩:=rv.get hx;obtain⟨f0,f1,f2,f3,f4,f5⟩:=hf it (by simp);refine wpAny_pyNext_list_item st p.isList (x:=u) (by simpa using hu) λh' gq sb=>?_;obtain⟨o,e,c,d⟩:=id gq;exact⟨u,Zj,Nz (s:={ s with heap:=h' }) e c d qc ⟨x,H,I.turned (t':=s.toks) (λb o hb e=>(sb.2 b hb).trans e) f0 f1 f3 f4 f5,ru,⟨Zj,λys hy=>by rw[I.list_inj hy hq];exact hx⟩,gq,λb hb=>(hf b hb).1⟩⟩
 ·intro X hP hw hK hc i aa s σ H E I hf st hg;subst hP hw hK;obtain⟨xs,hq,hx⟩:=hg;obtain⟨its,rv,p,hz⟩:=I.list hq;have f:=hf it (by simp);have hl:=rv.length;exact Ql hc I f st p.isList (by simp;omega) λh' eb=>⟨Zj,I.turned (t':=s.toks) (λb o hb e=>eb b o hb e) f.1 f.2.1 f.2.2.2.1 f.2.2.2.2.1 f.2.2.2.2.2⟩
section
variable {iter elt:Expr}{ifs:List Expr}{scope:Scope}{px:Pos}{wi:TI}{tt:TT}
def Qm {tg l:Expr}{tl:TE} (hl:PE X l tl):PIg iX X tg l (QP X.K tl):=by
 intro aa s σ H R I h;refine aG (hl aa s σ H _ I h) λv s1 ⟨x,H1,I1,r1,a,e,⟨xs,hq⟩,q⟩=>?_;subst e;cases r1;obtain⟨its,rv,p,hz⟩:=I1.list hq;refine wpAny_pyIter_list p.isList ⟨s1.heap.objs.size,[s1.heap.objs.size],_,_,H1,Zj,I1.kept (t':=s1.toks) λb o e=>ZX _ e,M0 a _,⟨_,ZN _ Zj,Zj,Zj⟩,λb hb=>?_,q⟩;obtain rfl:b=s1.heap.objs.size:=by simpa using hb
 exact I1.gR (Zy _) (I1.aD.fresh (Zy _))
def PN (Nc:Xf) (gB:List (Option Nat)) (hf:Ho X.env.scope scope X.N (x::Nc) (none::gB)=true) (iS:(x::Nc).Nodup) (hx:scope.names.lookup x=some .local) (hc:iX X) (hi:PIg iX X (.Name x px) iter wi)
  (ht:∀cl s H C fp pn,iO (Al X (x::Nc) scope cl s H C fp pn) ifs tt) (he:∀cl s H C fp pn,PE (Al X (x::Nc) scope cl s H C fp pn) elt te) (hs:∀x,foldedSetIterable iter X.env x=pure x:=by intro _;rfl) :
  PE X (.ListComp elt [⟨.Name x px,iter,ifs,0⟩] scope pos) (λσ H Q=>D1 wi (Cd 0) tt te (none::gB) (λys H'=>∀p,H' p=none->Q (.ref p) (upd H' p (.lst ys))) σ H) :=
 Jc (aQ.of hf) (λ_ _ _ _ _ _=>hc.comp) hi (λcl s H C fp pn=>Fb (Af (i:=0) iS rfl (.inl (Z5 hx)) (.inr (Z5 hx)))) ht he hs
end
def M6 {p:Xi}{its:Xg} (hc:iX X) (I:Inv X aa σ H s) (pl:s.heap.IsList p its.toArray):∃fp St,Walks X.prog X.w X.A.in1 s.heap.objs.size fp [s.heap.objs.size] its.toArray.size (λi v=>its.toArray[i]?=some v) St /\
  St 0 (s.heap.push { cls:=.type "list_iterator", data:=.fields #[.ref p,.int 0 0] })/\∀b∈fp,b<s.heap.objs.size+1:=by
 have hp:p<s.heap.objs.size:=by obtain⟨o,e,_⟩:=id pl;exact lt_size e
 have jU:(s.heap.push { cls:=.type "list_iterator", data:=.fields #[.ref p,.int 0 0] }).IsListIter s.heap.objs.size p 0/\(s.heap.push { cls:=.type "list_iterator", data:=.fields #[.ref p,.int 0 0] }).IsList p its.toArray :=
  ⟨⟨_,ZN _ rfl,rfl,rfl⟩,pl.at λo e=>ZX _ e⟩
 rcases hc with hc |⟨e,oe,vs,a,b,c,d⟩
 ·refine⟨_,_,Walks.list (A:=X.A.in1) (show X.A.in1.handled=none from I.ok.hd hc) _ p (ZC hp) its.toArray,jU,λb hb=>?_⟩;have z:b=s.heap.objs.size\/b=p:=by simpa using hb
  rcases z with rfl |rfl
  ·exact Nat.lt_succ_self _
  ·exact Nat.lt_succ_of_lt hp
 ·have he:=(I.pin (e,oe) (ZP _ b)).1;have hlt:=lt_size he;refine⟨[s.heap.objs.size,p,e],λi h=>(h.IsListIter s.heap.objs.size p i/\h.IsList p its.toArray)/\h.get? e=some oe,⟨λb hb=>by simp at hb;simp[hb],λi h h' st k=>⟨⟨st.1.1.at λo z=>k _ (by simp) o z,st.1.2.at λo z=>k _ (by simp) o z⟩,k e (by simp) oe st.2⟩,?_,?_,λ_ _ _ _ st hQ=>wpAny_pyIter_listiter st.1.1 hQ⟩,⟨jU,ZX _ he⟩,λb hb=>?_⟩
  ·intro i s1 Q E hi st hQ;refine wpAny_pyNext_list_item st.1.1 st.1.2 (x:=its.toArray[i]) (by simp[hi]) λh' t1 t2=>?_;exact hQ _ h' s1.toks (by simp[hi]) ⟨⟨t1,st.1.2.extBut t2.extBut (ZC hp)⟩,t2.extBut e oe (ZC hlt) st.2⟩ λb o hb z=>t2.extBut b o (λy=>hb (by simp[y])) z
  ·intro s1 Q E st hQ;exact Dm (show X.A.in1.handled=_ from a) st.2 c d (ZC hlt) st.1.1 st.1.2 (by simp) λh' z=>hQ h' s1.toks λb o hb y=>z b o (λy'=>hb (by simp[y'])) y
  ·have z:b=s.heap.objs.size\/b=p\/b=e:=by simpa using hb
   rcases z with rfl |rfl |rfl
   ·exact Nat.lt_succ_self _
   ·exact Nat.lt_succ_of_lt hp
   ·exact Nat.lt_succ_of_lt hlt
noncomputable def Qn (a p:Xi):HO:=.ext λh=>h.IsValuesView p a
section
variable {o:Expr}{to:TE}{name:Str}{apos d7:Pos}{id:String}{r:V->Xh->Hp->VK->Prop}
def Ud (slot:Slot "dict" name id) (hty:typeOf (.builtin id)=pure (.type "method_descriptor")) (hm:MtR X id r) (ho:PE X o to)
  (bw:attributeBase o name X.env (eval o X.env)=eval o X.env:=by rfl) (b9:(apos.endLine==d7.line)=true:=by rfl) :
  PE X (.Call (.Attribute o name apos) [] [] d7) (λσ H Q=>to σ H λx H1=>∃a,x=.ref a/\IsD H1 a/\r x [] H1 Q):=by
 intro aa s σ H Q I h;refine wpAny_Call_method0_late bw b9 (aG (ho aa s σ H _ I h) λv s1 ⟨x,H1,I1,r1,a,ex,d,q1⟩=>?_);subst ex;cases r1;obtain⟨t1,t2,_⟩:=Qf I1 d;exact⟨"dict", id,PySem.F.plainAttrs_dict,slot,hty,t1,t2,Calls.callWith_builtin Zj (PySem.evalArgs_none (hm aa s1 σ H1 (.ref a) [] (.ref a) [] Q I1 Zj .nil q1))⟩
def PP:MtR X "dict.values" (λx xs H Q=>∃a kvs,x=.ref a/\xs=[]/\Rd H a (.dK kvs)/\∀p,H p=none->Q (.ref p) (upd H p (Qn a p))):=by
 intro aa s σ H x xs v us Q I rx rs h;obtain⟨a,kvs,rfl,rfl,hd,q⟩:=h;cases rx;cases rs;obtain⟨z,y,vs,rel,dd⟩:=Dl I.aD hd;refine call_meetsIn PySem.F.slot_dict_values dd.typeIs PySem.F.entry_dict_values (PySem.F.args_dict_values_1 _) (meets_dict_values (AY X.prog X.w) a y) ⟨⟨vs,dd⟩,?_⟩;refine⟨.ref s.heap.objs.size,_,I.laid (t':=s.toks) (o:=Qn a s.heap.objs.size) (λb o e=>ZX _ e) (Zy _) ⟨⟨_,ZN _ Zj,Zj,Zj⟩,⟨_,ZN _ Zj⟩,λh1 h2 z k=>?_⟩,Zj,q _ (I.aD.fresh (Zy _))⟩;obtain⟨ob,e,r⟩:=z;exact⟨ob,k ob e,r⟩
def EY {α β:Type}{F:α->β->Prop}:∀ {xs:List α}{ys:List β},xs.length=ys.length->(∀(j:Nat) x y,xs[j]?=some x->ys[j]?=some y->F x y)->Paired F xs ys
 | [],[],_,_=>.nil
 | [],_::_,h,_=>by simp at h
 |_::_,[],h,_=>by simp at h
 |x::xs,y::ys,h,k=>.cons (k 0 x y rfl rfl) (EY (by simpa using h) λj a b ea eb=>k (j+1) a b (by simpa using ea) (by simpa using eb))
def M7 (hc:X.calm=true):aS X (.type "list") (λxs H Q=>∃a kvs,xs=[.ref a]/\Rd H a (.dK kvs)/\∀l,H l=none->Q (.ref l) (upd H l (.lst (kvs.map λkv=>kV kv.1)))):=by
 intro aa s σ H xs us Q I r h;obtain⟨a,kvs,rfl,hd,q⟩:=h;obtain⟨u,rfl,ru⟩:=Br r;cases ru;obtain⟨z,y,vs,rel,dd⟩:=Dl I.aD hd;obtain⟨ep,da⟩:=dd.dictAt;have hl:=rel.length;refine W.kdl_call (W.kdl_dict (knd:=AY X.prog X.w) (kvs:=vs) (ep:=ep) y) (I.ok.hd hc) da (by rw[←hl];exact z) λh' tk acc c' keep e hit=>?_;refine⟨.ref s.heap.objs.size,_,I.laid (t':=tk) keep (Zy _) (show aP X.prog X.w _ h' _ (.lst (kvs.map λkv=>kV kv.1))from⟨by rw[AK];exact z,acc.toList,c',?_,by rw[Array.toArray_toList];exact e⟩),Zj,q _ (I.aD.fresh (Zy _))⟩
 refine EY (by have e0:acc.toList.length=acc.size:=by simp
               rw[AK,e0,hit.1,hl]) λj v w' ev ew=>?_
 rw[Array.getElem?_toList]at ew;obtain⟨k,x,ex,hk⟩:=hit.2 j w' ew;rw[ZE]at ev;cases e2:kvs[j]? with
 |none=>rw[e2]at ev;cases ev
 |some kv =>
  rw[e2]at ev;simp only[Option.map_some,Option.some.injEq]at ev;obtain⟨v2,eE,_⟩:=KV.get rel e2;rw[ex]at eE;simp only[Option.some.injEq,Prod.mk.injEq]at eE;rw[←ev,←eE.1];exact HN hk
def M8 (hc:X.calm=true):aS X (.type "list") (λxs H Q=>∃p a kvs,xs=[.ref p]/\H p=some (Qn a p)/\Rd H a (.dK kvs)/\∀l,H l=none->Q (.ref l) (upd H l (.lst (kvs.map (·.2))))):=by
 intro aa s σ H xs us Q I r h;obtain⟨p,a,kvs,rfl,hp,hd,q⟩:=h;obtain⟨u,rfl,ru⟩:=Br r;cases ru;obtain⟨z,y,vs,rel,dd⟩:=Dl I.aD hd;obtain⟨ep,da⟩:=dd.dictAt;obtain⟨hv,_⟩:=I.aD p _ hp;have hl:=rel.length;refine W.kdl_call (W.kdl_values (knd:=AY X.prog X.w) (d:=a) (kvs:=vs) (ep:=ep)) (I.ok.hd hc) ⟨hv,da⟩ (by rw[←hl];exact z) λh' tk acc c' keep e hit=>?_;refine⟨.ref s.heap.objs.size,_,I.laid (t':=tk) keep (Zy _) (show aP X.prog X.w _ h' _ (.lst (kvs.map (·.2)))from⟨by rw[AK];exact z,acc.toList,c',?_,by rw[Array.toArray_toList];exact e⟩),Zj,q _ (I.aD.fresh (Zy _))⟩
 refine EY (by have e0:acc.toList.length=acc.size:=by simp
               rw[AK,e0,hit.1,hl]) λj v w' ev ew=>?_
 rw[Array.getElem?_toList]at ew;obtain⟨k,ex⟩:=hit.2 j w' ew;rw[ZE]at ev;cases e2:kvs[j]? with
 |none=>rw[e2]at ev;cases ev
 |some kv =>
  rw[e2]at ev;simp only[Option.map_some,Option.some.injEq]at ev;obtain⟨v2,eE,rv2⟩:=KV.get rel e2;rw[ex]at eE;simp only[Option.some.injEq,Prod.mk.injEq]at eE;rw[←ev,eE.2];exact rv2
def KH (hc:X.calm=true):aS X (.builtin "sorted") (λxs H Q=>∃a kvs,xs=[.ref a]/\Rd H a (.dK kvs)/\kvs.length<64/\(∀kv∈kvs,∃i,kv.1=Sum.inl i) /\
  ∀(l:Xi) (ns:List Int),H l=none->ns.Perm (kvs.map λkv=>match kv.1 with |Sum.inl i=>i |Sum.inr _=>0)->ns.Pairwise (· <= ·)->Q (.ref l) (upd H l (.lst (ns.map V.int)))):=by
 intro aa s σ H xs us Q I r h;obtain⟨a,kvs,rfl,hd,h64,hk,q⟩:=h;obtain⟨u,rfl,ru⟩:=Br r;cases ru;obtain⟨z,y,vs,rel,dd⟩:=Dl I.aD hd;obtain⟨ep,da⟩:=dd.dictAt;have hl:=rel.length;refine Calls.call_function_entry kind_sorted plain_sorted entry_sorted (args_sorted1 _) ?_;unfold Builtin.«sorted»;refine Zx (m:=checkCount "sorted" 1 1 _) (Zw ?_);refine Zx (W.kdu_collect (A:=X.A.in1) (W.kdl_dict (knd:=AY X.prog X.w) (kvs:=vs) (ep:=ep) y) (I.ok.hd hc) da (by rw[←hl];exact z) λh' tk acc keep hit=>?_)
 have aw:acc.toList.length=kvs.length:=by
  have e0:acc.toList.length=acc.size:=by simp
  rw[e0,hit.1,hl]
 refine Zx (wpAny_newList ?_ (by rw[aw];exact z))
 have bz:IntsAre acc.toList (kvs.map λkv=>match kv.1 with |Sum.inl i=>i |Sum.inr _=>0):=by
  refine DU (EY (by rw[AK,AK,aw]) λj v w' ev ew=>?_);rw[Array.getElem?_toList]at ew;obtain⟨k,x,ex,hkk⟩:=hit.2 j w' ew;rw[ZE,ZE]at ev;cases e2:kvs[j]? with
  |none=>rw[e2]at ev;cases ev
  |some kv =>
   rw[e2]at ev;simp only[Option.map_some,Option.some.injEq]at ev;obtain⟨v2,eE,_⟩:=KV.get rel e2;rw[ex]at eE;simp only[Option.some.injEq,Prod.mk.injEq]at eE;obtain⟨i,hi⟩:=hk kv (ZQ e2);rw[eE.1,hi]at hkk;rw[←ev,hi];exact HN hkk
 have I1:Inv X aa σ H { s with heap:=h',toks:=tk }:=I.kept keep;have iR:(h'.push { cls:=.type "list", data:=.seq acc.toList.toArray }).get? h'.objs.size=some (seqObj "list" acc.toList.toArray 0):=ZN _ rfl;refine Zx (ZK (wpAny_call_entry slot_list_sort ⟨_,iR,Zj⟩ entry_list_sort (list_sort_tree iR bz (by rw[aw];exact h64) λout ns' a1 a2 a3=>⟨_,Zj,?_⟩) (args_list_sort _)));refine Zw ⟨_,Zj,?_⟩;have hn:H h'.objs.size=none:=I1.aD.fresh (Zy _);have be:ns'.length=kvs.length:=by rw[a2.length_eq,AK]
 refine⟨.ref h'.objs.size,_,I1.laid (t':=tk) (o:=.lst (ns'.map V.int)) (h':=sortedHeap (h'.push { cls:=.type "list", data:=.seq acc.toList.toArray }) h'.objs.size acc.toList out) (λb o e=>?_) (Zy _) ⟨by rw[AK,be];exact z,out.toList,?_⟩,Zj,q _ ns' hn a2 a3⟩
 ·rw[sortedHeap_old (ZC (lt_size e)) (lt_size (ZX _ e))];exact ZX _ e
 ·obtain⟨c,hcx⟩:=sortedHeap_at (out:=out) iR;exact⟨c,EW a1,by rw[Array.toArray_toList];exact hcx⟩
end
section
def D3 (hc:X.calm=true):aS X (.builtin "all") (λxs H Q=>∃(p:Xi) (bs:List Bool),xs=[.ref p]/\aI X.K H p (bs.map V.bl)/\Q (.bl (bs.all id)) H):=by
 intro aa s σ H xs us Q I r h;obtain⟨p,bs,rfl,hq,q⟩:=h;obtain⟨u,rfl,ru⟩:=Br r;cases ru;obtain⟨its,rv,pl,hz⟩:=I.list hq;have hp:p<s.heap.objs.size:=by obtain⟨o,n,e,_⟩:=id pl;exact lt_size e
 have be:bs.length=its.length:=by have:=rv.length;rw[AK]at this;exact this
 refine call_all_walk (wpAny_pyIter_list pl.isList ?_);refine⟨_,_,_,_,_,_,λi=>bs.getD i false,Zj,Walks.list (A:=X.A.in1) (show X.A.in1.handled=none from I.ok.hd hc) _ p (ZC hp) its.toArray,⟨⟨_,ZN _ Zj,Zj,Zj⟩,pl.isList.at λo e=>ZX _ e⟩,λi v s' Q' E' hP hQ=>?_,λh' tk keep=>?_⟩
 ·have hv:its[i]?=some v:=by simpa using hP
  have hi:i<its.length:=(Z8.mp hv).1;have hb:bs[i]?=some (bs[i]'qe):=Z7 qe;obtain⟨u',hu',ru'⟩:=rv.get (i:=i) (x:=V.bl (bs[i]'qe)) (by rw[ZE,hb];rfl);rw[hv]at hu';cases hu';cases (show v=Value.bool _ from ru');refine Z0 ?_;have hQ':Q' (bs.getD i false) s':=hQ;rw[getD_eq_getElem?_getD,hb]at hQ';exact hQ'
 ·have I1:Inv X aa σ H { s with heap:=h',toks:=tk }:=I.kept λb o e=>keep b o (by simp;exact ZC (lt_size e)) (ZX _ e);refine⟨.bl _,H,I1,Zj,?_⟩
  have e:(List.range its.toArray.size).all (λi=>bs.getD i false)=bs.all id:=by
   rw[size_toArray,←be,Bool.eq_iff_iff,List.all_eq_true,List.all_eq_true];constructor
   ·intro h b hb;obtain⟨i,hi,rfl⟩:=List.mem_iff_getElem.mp hb;have:=h i (mem_range.mpr hi);rw[getD_eq_getElem?_getD,Z7 hi]at this;exact this
   ·intro h i hi;have jl:=mem_range.mp hi;rw[getD_eq_getElem?_getD,Z7 jl];exact h _ (getElem_mem jl)
  rw[e];exact q
def D4 (ns:List Int):∀k,k<=ns.length->preSum (λi=>ns.getD i 0) k=(ns.take k).sum
 |0,_=>by simp[preSum]
 |k+1,h=>by
  have ih:=D4 ns k qe;have hk:k<ns.length:=by omega
  simp only[preSum,ih];rw[ZD,Z7 hk,sum_append];simp[getD_eq_getElem?_getD,Z7 hk]
def Jd (hc:iX X):aS X (.builtin "sum") (λxs H Q=>∃(p:Xi) (ns:List Int),xs=[.ref p]/\aI X.K H p (ns.map V.int)/\(∀n∈ns,0<=n)/\ns.sum<2 ^ 62/\Q (.int ns.sum) H):=by
 intro aa s σ H xs us Q I r h;obtain⟨p,ns,rfl,hq,jG,hsum,q⟩:=h;obtain⟨u,rfl,ru⟩:=Br r;cases ru;obtain⟨its,rv,pl,hz⟩:=I.list hq;have hp:p<s.heap.objs.size:=by obtain⟨o,n,e,_⟩:=id pl;exact lt_size e
 have be:ns.length=its.length:=by have:=rv.length;rw[AK]at this;exact this
 have tk0:∀k,0<=(ns.take k).sum:=λk=>by
  have:∀l:List Int,(∀n∈l,0<=n)->0<=l.sum:=λl=>by
   induction l with
   |nil=>intro _;simp
   |cons a r ih=>intro h;rw[sum_cons];have:=h a ZI;have:=ih λn hn=>h n (ZR _ hn);omega
  exact this _ λn hn=>jG n (mem_of_mem_take hn)
 have tkle:∀k,(ns.take k).sum<=ns.sum:=λk=>by
  have e:ns.sum=(ns.take k).sum+(ns.drop k).sum:=by rw[←sum_append,List.take_append_drop]
  have:∀l:List Int,(∀n∈l,0<=n)->0<=l.sum:=λl=>by
   induction l with
   |nil=>intro _;simp
   |cons a r ih=>intro h;rw[sum_cons];have:=h a ZI;have:=ih λn hn=>h n (ZR _ hn);omega
  have:=this _ λn hn=>jG n (List.mem_of_mem_drop (i:=k) hn);omega
 refine call_sum_walk (wpAny_pyIter_list pl.isList ?_);obtain⟨fp,St,W,jU,ib⟩:=M6 hc I pl.isList;refine⟨_,_,_,_,_,_,λi=>ns.getD i 0,Zj,W,jU,λb hb=>?_,λi v hP=>?_,λj hj=>?_,λh' tk t' keep=>?_⟩
 ·have hs:(s.heap.push { cls:=.type "list_iterator", data:=.fields #[.ref p,.int 0 0] }).objs.size=s.heap.objs.size+1:=Heap.size_push ..;show b<(s.heap.push { cls:=.type "list_iterator", data:=.fields #[.ref p,.int 0 0] }).objs.size;rw[hs];exact ib b hb
 ·have hv:its[i]?=some v:=by simpa using hP
  have hi:i<its.length:=(Z8.mp hv).1;have hb:ns[i]?=some (ns[i]'qe):=Z7 qe;obtain⟨u',hu',t,ru'⟩:=rv.get (i:=i) (x:=V.int (ns[i]'qe)) (by rw[ZE,hb];rfl);rw[hv]at hu';cases hu';refine⟨t,?_⟩;show v=Value.int (ns.getD i 0) t;rw[ru',getD_eq_getElem?_getD,hb];rfl
 ·have hj':j<ns.length:=by rw[size_toArray]at hj;omega
  rw[D4 ns (j+1) qe];have h1:=tk0 (j+1);have h2:=tkle (j+1);have h3:ns.getD j 0=ns[j]:=by rw[getD_eq_getElem?_getD,Z7 hj'];rfl
  have h4:=jG _ (getElem_mem hj');have h5:(ns.take (j+1)).sum=(ns.take j).sum+ns[j]:=by rw[ZD,Z7 hj',sum_append];simp
  have h6:=tk0 j;show InLong (ns.getD j 0)/\InLong _;unfold InLong;rw[h3];omega
 ·have I1:Inv X aa σ H { s with heap:=h',toks:=tk }:=I.kept λb o e=>keep b o (by simp;exact ZC (lt_size e)) (ZX _ e);refine⟨.int ns.sum,H,I1,⟨t',?_⟩,q⟩;rw[size_toArray,←be,D4 ns ns.length (Zy _),ZB]
def Qo (hc:X.calm=true):aS X (.builtin "sum") (λxs H Q=>∃(p:Xi) (ns:List Int),xs=[.ref p]/\aI X.K H p (ns.map V.int)/\(∀n∈ns,0<=n)/\ns.sum<2 ^ 62/\Q (.int ns.sum) H):=Jd (.inl hc)
def KJ:MtR X "int.bit_length" (λx xs H Q=>∃i,x=.int i/\xs=[]/\Q (.int (Builtin.Int.intBits i)) H):=by
 intro aa s σ H x xs v us Q I rx rs h;obtain⟨i,rfl,rfl,q⟩:=h;obtain⟨t,rfl⟩:=rx;cases rs;exact call_int_bit_length ⟨.int _,H,I.tok _,⟨_,Zj⟩,q⟩
def CY:cS X (compareOp .LtE) (λx y H Q=>∃i j,x=.str i/\y=.str j/\Q (.bl (!decide (j.cps.toList<i.cps.toList))) H):=by
 intro aa s σ H x y v u Q I rx ry h;obtain⟨i,j,rfl,rfl,q⟩:=h;obtain⟨t,rfl⟩:=rx;obtain⟨t',rfl⟩:=ry;exact PySem.P.le_str (Ao I q Zj)
def JD:MtR X "dict.setdefault" (λx xs H Q=>∃a kvs k v,x=.ref a/\xs=[kV k,v]/\H a=some (.dK kvs)/\kvs.length<sizeLine /\
  (∀w,As kvs k=some w->Q w H)/\(As kvs k=none->Q v (upd H a (.dK (Cl kvs k v))))):=by
 intro aa s σ H x xs u us Q I rx rs h;obtain⟨a,kvs,k,v,rfl,rfl,hd,hl,q1,q2⟩:=h;cases rx;obtain⟨uk,uv,rfl,rk,rv⟩:=Hf rs;obtain⟨z,y,vs,rel,dd⟩:=OB I.aD hd;refine call_meetsIn PySem.F.slot_dict_setdefault dd.typeIs PySem.F.entry_dict_setdefault (PySem.F.args_dict_setdefault_3 _ _ _) (PySem.kt_meets_setdefault (AY X.prog X.w) a (FX rk) y uv) ⟨vs,dd,by rw[←rel.length];exact z,λw' hw=>?_,λhn h' gz hs=>?_⟩
 ·have rr:=rel.val k;rw[hw]at rr;cases e:As kvs k with
  |none=>rw[e]at rr;exact False.elim rr
  |some w=>rw[e]at rr;exact⟨w,H,I.tok _,rr,q1 w e⟩
 ·have rr:=rel.val k;rw[hn]at rr
  have e:As kvs k=none:=by
   cases e:As kvs k with
   |none=>rfl
   |some w=>rw[e]at rr;exact False.elim rr
  have he:∃q,h'.get? a=some q:=let ⟨q,_,_,hq,_⟩:=gz;⟨q,hq⟩
  have jH:(Cl kvs k v).length<=sizeLine:=by have:=Cq kvs k v;omega
  exact⟨v,_,FY I (by rw[hd];exact True.intro) hs he (Hm jH y (rel.put k rv) gz),rv,q2 e⟩
def LI:aS X (.builtin "isinstance") (λxs H Q=>∃v T t b,xs=[v,.ty T]/\dY X.K H v t/\W.kitOne X.K t (.type T)=some b/\Q (.bl b) H):=by
 intro aa s σ H xs us Q I r h;obtain⟨v,T,t,b,rfl,ty,hk,q⟩:=h;obtain⟨u,uT,rfl,ru,jV⟩:=Hf r;cases (show uT=Value.type T from jV);exact JR I ru ty hk λtk=>⟨.bl b,H,I.tok tk,Zj,q⟩
end
noncomputable def LJ (d:Int):List Int->Int
 | []=>d
 |n::r=>r.foldl max n
def Je (d:Int) (ns:List Int) (n:Int) (h:ns≠ []):LJ d (ns++[n])=max (LJ d ns) n:=by
 cases ns with
 |nil=>exact absurd rfl h
 |cons a r=>show(r++[n]).foldl max a=_;rw[foldl_append];rfl
def PQ (a v:Value):argsOk "max" ⟨[a],[(Str.ofString "default", v)]⟩:=by unfold argsOk;kernel_rfl
section
variable {prog:Program}{R:Result->Xj->Prop}{p I S:Xi}{its:Xg}{ns:List Int}{d:Value}
noncomputable def Qp:Option (Int×Tok)->Array Value
 |none=>#[]
 |some (m,t)=>#[.int m t,.int m t]
def PR (hh:A.handled=none) (bz:IntsAre its ns) (hpI:p≠I) (hSI:S≠I) (hpS:p≠S)
  (hR:∀h' tk v,(∀b o,b≠I->b≠S->s.heap.get? b=some o->h'.get? b=some o)->(ns=[]->v=d)->(ns≠ []->∃t,v=.int (LJ 0 ns) t)->R (.ok (.ret v)) { s with heap:=h',toks:=tk }) :
  ∀(k i:Nat) (h:Heap) (tk c:Nat) (b:Option (Int×Tok)),its.length - i=k->i<=its.length->h.IsListIter I p i->h.IsList p its.toArray->h.get? S=some { cls:=.type "list", data:=.seq (Qp b) c } ->
   (b=none->i=0)->(∀m t,b=some (m,t)->0<i/\m=LJ 0 (ns.take i))->(∀b' o,b'≠I->b'≠S->s.heap.get? b'=some o->h.get? b'=some o) ->
   codeAny (model prog w) A (.builtin "max.loop" ⟨[.ref I,.none,.ref S],[(Str.ofString "default", d)]⟩) R { s with heap:=h,toks:=tk }:=by
 have cm:(toString "max" ++ toString ".loop" : String) = "max.loop" := by decide
 have be:=bz.length;intro k;induction k with
 |zero =>
  intro i h tk c b hk hi hit hl hS hb0 hb1 keep;have e:i=its.length:=by omega
  refine codeAny_builtin PySem.F.entry_max_loop ?_;rw[Around.under_plainId PySem.F.plain_max_loop _];show wpAny _ A.in1 (seqItems? (.ref S) >>= _) _ _ _;refine Zx (wpAny_seqItems hS rfl ?_);show wpAny _ A.in1 (tryCatch (pyNext (.ref I)) _ >>= _) _ _ _;refine Zx (wpAny_tryCatch (wpAny_pyNext_list_end (show A.in1.handled=none from hh) hit hl (by simp;omega) λh' eb=>?_));cases b with
  |none =>
   have hn:ns=[]:=by
    have:=hb0 rfl;exact List.eq_nil_of_length_eq_zero qe
   exact Zx (wpAny_rule (Zw (hR h' tk d (λb o h1 h2 q=>eb b o h1 (keep b o h1 h2 q)) (λ_=>rfl) λz=>absurd hn z)))
  |some mt =>
   obtain⟨m,t⟩:=mt;obtain⟨hpos,hm⟩:=hb1 m t rfl
   have a0:ns≠ []:=λz=>by
    have:its.length=0:=by rw[be,z];rfl
    omega
   show wpAny _ A.in1 (updateSeq S (λ_=>#[]) >>= _) _ _ _;refine Zx (wpAny_updateSeq (eb S _ hSI hS) Zj (Zx (wpAny_letGo (Zw ?_))) eV);refine hR _ tk _ (λb o h1 h2 q=>(ZW _ _ (Ne.symm h2)).trans (eb b o h1 (keep b o h1 h2 q))) (λz=>absurd z a0) λ_=>⟨t,?_⟩;rw[hm,e,be,ZB]
 |succ k ih =>
  intro i h tk c b hk hi hit hl hS hb0 hb1 keep;have hlt:i<its.length:=by omega
  have hv:its[i]?=some its[i]:=Z7 hlt
  obtain⟨n,t,hn,hvt⟩:∃n t,ns[i]?=some n/\its[i]=.int n t:=by
   have iT:i<ns.length:=by omega
   obtain⟨u,hu,t,ru⟩:=(EW bz).get (i:=i) (x:=V.int ns[i]) (by rw[ZE,Z7 iT];rfl);rw[hv]at hu;exact⟨ns[i],t,Z7 iT,(Option.some.inj hu).trans ru⟩
  refine codeAny_builtin PySem.F.entry_max_loop ?_;rw[Around.under_plainId PySem.F.plain_max_loop _];show wpAny _ A.in1 (seqItems? (.ref S) >>= _) _ _ _;refine Zx (wpAny_seqItems hS Zj ?_);show wpAny _ A.in1 (tryCatch (pyNext (.ref I)) _ >>= _) _ _ _;refine Zx (wpAny_tryCatch (wpAny_pyNext_list_item hit hl (x:=.int n t) (by simpa[hvt]using hv) λh' gx sb=>?_));have hS':h'.get? S=some { cls:=.type "list", data:=.seq (Qp b) c }:=(sb.2 S hSI).trans hS;have jH:h'.IsList p its.toArray:=hl.at λo q=>(sb.2 p hpI).trans q;have keep':∀b' o,b'≠I->b'≠S->s.heap.get? b'=some o->h'.get? b'=some o:=λb' o h1 h2 q=>(sb.2 b' h1).trans (keep b' o h1 h2 q);have etk:ns.take (i+1)=ns.take i++[n]:=by rw[ZD,hn];rfl
  have store:∀c0,(∀v,v=Value.int n t->(h'.update S (Obj.mapSeq λ_=>#[v,v])).get? S=some { cls:=.type "list", data:=.seq (Qp (some (n,t))) c0 })->n=LJ 0 (ns.take (i+1)) ->
    codeAny (model prog w) A (.builtin "max.loop" ⟨[.ref I,.none,.ref S],[(Str.ofString "default", d)]⟩) R { s with heap:=h'.update S (Obj.mapSeq λ_=>#[.int n t,.int n t]),toks:=tk }:=λc0 e0 em =>
   ih (i+1) _ tk c0 (some (n,t)) qe hlt (gx.at λo q=>(ZW _ _ hSI).trans q) (jH.at λo q=>(ZW _ _ (Ne.symm hpS)).trans q) (e0 _ rfl) (λz=>by cases z)
    (λm t' z=>by cases z;exact⟨Nat.succ_pos _,em⟩) λb' o h1 h2 q=>(ZW _ _ (Ne.symm h2)).trans (keep' b' o h1 h2 q)
  cases b with
  |none =>
   have hi0:=hb0 rfl;show wpAny _ A.in1 (updateSeq S (λ_=>#[Value.int n t,Value.int n t]) >>= _) _ _ _;refine Zx (wpAny_updateSeq hS' Zj ?_);rw[cm];refine Zw ⟨plainId_quiet PySem.F.plain_max_loop _,store _ (λv e=>by subst e;exact get?_update_seq hS' λ_=>#[_,_]) ?_⟩;rw[etk,hi0];rfl
  |some mt =>
   obtain⟨m,t0⟩:=mt;obtain⟨hpos,hm⟩:=hb1 m t0 rfl
   have a0:ns.take i≠ []:=λz=>by
    have:=congrArg List.length z;rw[ZA,length_nil]at this;omega
   show wpAny _ A.in1 (tryCatch (holding [Value.int n t,Value.int n t] (richCompare .Gt (.int n t) (.int m t0) >>= _)) _ >>= _) _ _ _
   refine Zx (wpAny_tryCatch (ZK (Zx (CmpOf.ints_gt (P:=λi v=>(i=0/\v=.int n t)\/(i=1/\v=.int m t0)) (λi=>if i=0 then n else m) (λi v h=>by
    rcases h with⟨rfl,rfl⟩ |⟨rfl,rfl⟩
    ·exact⟨t,Zj⟩
    ·exact⟨t0,Zj⟩) 0 1 _ _ _ _ _ (.inl ⟨Zj,Zj⟩) (.inr ⟨Zj,Zj⟩) ?_))))
   refine Zx (ZK (Z0 ?_));refine Zx (wpAny_letGo (Zw ?_));by_cases hgt:n>m
   ·have e1:(λ(i j:Nat)=>decide ((if i=0 then n else m)>if j=0 then n else m)) 0 1=true:=ZL hgt;rw[e1];simp only[if_true];refine Zx (wpAny_updateSeq hS' Zj (Zx (wpAny_letGo ?_)) eV);rw[cm];refine Zw ⟨plainId_quiet PySem.F.plain_max_loop _,store _ (λv e=>by subst e;exact get?_update_seq hS' λ_=>#[_,_]) ?_⟩;rw[etk,Je 0 _ n a0,←hm];omega
   ·have e1:(λ(i j:Nat)=>decide ((if i=0 then n else m)>if j=0 then n else m)) 0 1=false:=ZO hgt;rw[e1];simp only[Bool.false_eq_true,if_false];refine Zx (wpAny_letGo ?_);rw[cm]
    refine Zw ⟨plainId_quiet PySem.F.plain_max_loop _,ih (i+1) _ tk c (some (m,t0)) qe hlt gx jH hS' (λz=>by cases z) (λm' t' z=>by
     cases z;refine⟨Nat.succ_pos _,?_⟩;rw[etk,Je 0 _ n a0,←hm]
     omega) keep'⟩
end
section
variable {c:Expr}{tc:TE}{p kp:Pos}
def OE (hc:X.calm=true) (hg:Gl X "max") (hm:X.mg "max" = none) (he:PE X e te) (hcc:PE X c tc) (hs:starEach [e] X.env=(false,eval e X.env)::starEach [] X.env:=by rfl)
  (jF:backTo pos (starEach [e] X.env)=(false,eval e X.env)::backTo pos (starEach [] X.env):=by rfl) :
  PE X (.Call (.Name "max" p) [e] [⟨some "default", c,kp⟩] pos) (λσ H Q=>te σ H λx H1=>tc σ H1 λy H2=>∃(a:Xi) (ns:List Int) (d:Int),x=.ref a/\y=.int d/\aI X.K H2 a (ns.map V.int)/\(ns=[]->Q (.int d) H2)/\(ns≠ []->Q (.int (LJ 0 ns)) H2)):=by
 intro aa s σ H Q I h;refine Z3 (En (u:=.builtin "max") I hg hm boot_max ?_)
 let R3:V->V->Hp->Prop:=λx y H2=>∃(a:Xi) (ns:List Int) (d:Int),x=.ref a/\y=.int d/\aI X.K H2 a (ns.map V.int)/\(ns=[]->Q (.int d) H2)/\(ns≠ []->Q (.int (LJ 0 ns)) H2)
 refine callWith_kw (aG ((AA he AC hs:PA X [e] (Ah te B9)) pos aa s σ H (λvs H1=>match vs with | [x]=>tc σ H1 (λy H2=>R3 x y H2) |_=>False) I h) λus s1 ⟨vs,H1,I1,r1,q1⟩=>?_) jF (by rw[jF];rfl)
 match vs,r1,q1 with
 | [x],r1,q1 =>
  refine aG ((N6 (nm:=some "default") (kpos:=kp) hcc Qc:PK X [⟨some "default", c,kp⟩] (Ah tc B9)) pos aa s1 σ H1 (λvs H2=>match vs with | [y]=>R3 x y H2 |_=>False) I1 q1) λus2 s2 ⟨vs2,H2,I2,r2,q2⟩=>?_
  match vs2,r2,q2 with
  | [y],r2,q2 =>
   obtain⟨a,ns,d,rfl,rfl,hq,k1,k2⟩:=q2;obtain⟨u,rfl,ru⟩:=Br r1;cases ru;obtain⟨ud,rfl,td,rud⟩:=Br r2;subst rud;obtain⟨its,rv,pl,hz⟩:=I2.list hq;have hp:a<s2.heap.objs.size:=by obtain⟨o,n,e,_⟩:=id pl;exact lt_size e
   show wpAny _ _ (call (.builtin "max") [.ref a] [(Str.ofString "default", .int d td)]) _ _ _;refine PyProof.Rows.kmk_tree PySem.F.kind_max PySem.F.plain_max PySem.F.entry_max (PQ _ _) ?_;show wpAny _ X.A.in1 (Builtin.Builtins.bindParams "max" ["key", "default"] 0 ⟨[],[(Str.ofString "default", .int d td)]⟩ >>= _) _ _ _;refine Zx (wpAny_of_eq (show Builtin.Builtins.bindParams "max" ["key", "default"] 0 ⟨[],[(Str.ofString "default", Value.int d td)]⟩=pure [none,some (.int d td)]from Zj) ?_);refine Zx (Zw ?_);refine Zx (wpAny_pyIter_list pl.isList ?_);refine Zx (wpAny_newList ?_ (Nat.zero_le _));have cm:(toString "max" ++ toString ".loop" : String) = "max.loop" := by decide
   rw[cm];have hS:(s2.heap.push { cls:=.type "list_iterator", data:=.fields #[.ref a,.int 0 0] }).objs.size=s2.heap.objs.size+1:=Heap.size_push ..
   refine Zw ⟨plainId_quiet PySem.F.plain_max_loop _,PR (its:=its) (ns:=ns) (s:=s2) (I.ok.hd hc) (DU rv) (ZC hp) (by rw[hS];exact Nat.succ_ne_self _) (by rw[hS];exact ZC (Nat.lt_succ_of_lt hp))
    (λh' tk v keep e1 e2=>?_) _ 0 _ _ 0 none rfl (Nat.zero_le _) ⟨_,ZX _ (ZN _ rfl),rfl,rfl⟩ (pl.isList.at λo q=>ZX _ (ZX _ q)) (ZN _ rfl) (λ_=>rfl) (λm t z=>by cases z) λb o h1 h2 q=>ZX _ (ZX _ q)⟩
   have I3:Inv X aa σ H2 { s2 with heap:=h',toks:=tk }:=I2.kept λb o q=>keep b o (ZC (lt_size q)) (by rw[hS];exact ZC (Nat.lt_succ_of_lt (lt_size q))) q;by_cases hn:ns=[]
   ·rw[e1 hn];exact⟨.int d,H2,I3,⟨td,Zj⟩,k1 hn⟩
   ·obtain⟨t,ev⟩:=e2 hn;rw[ev];exact⟨.int _,H2,I3,⟨t,Zj⟩,k2 hn⟩
end
def aB (H:Hp):List Xi->List (V×V)->Prop:=Paired λb p=>H b=some (.tup [p.1,p.2])
def aB.same {as:List Xi}{ps:List (V×V)} (s:∀b o,H b=some o->H' b=some o) (h:aB H as ps):aB H' as ps:=Paired.mapP h λ_ _ e=>s _ _ e
mutual
def CD (K:FG) (H:Hp):PyData->V->Prop
 | .none,v=>v=.aO
 | .bool b,v=>v=.bl b
 | .int i,v=>v=.int i
 | .str x,v=>v=.str x
 | .list ds,v=>∃a xs,v=.ref a/\aI K H a xs/\BF K H ds xs
 | .tuple ds,v=>∃a xs,v=.ref a/\aX K H a xs/\BF K H ds xs
 | .dict _,_=>False
def BF (K:FG) (H:Hp):List PyData->Xh->Prop
 | [],xs=>xs=[]
 |d::ds,xs=>∃x r,xs=x::r/\CD K H d x/\BF K H ds r
end
section
mutual
def Inv.reads (I:Inv X aa σ H s):∀(d:PyData) (v:V) (u:Value),RelV v u->CD X.K H d v->∃as,Reads s.heap u d as
 | .none,v,u,r,h=>by
  have e:v=.aO:=by simpa[CD]using h
  subst e;cases r;exact⟨_,.none⟩
 | .bool b,v,u,r,h=>by
  have e:v=.bl b:=by simpa[CD]using h
  subst e;cases r;exact⟨_,.bool b⟩
 | .int i,v,u,r,h=>by
  have e:v=.int i:=by simpa[CD]using h
  subst e;obtain⟨t,rfl⟩:=r;exact⟨_,.int i t⟩
 | .str x,v,u,r,h=>by
  have e:v=.str x:=by simpa[CD]using h
  subst e;obtain⟨t,rfl⟩:=r;exact⟨_,.str x t⟩
 | .list ds,v,u,r,h=>by
  rw[CD]at h;obtain⟨a,xs,rfl,hq,hd⟩:=h;cases r;obtain⟨its,rv,⟨o,n,e,c,_,dd⟩,_⟩:=I.list hq;obtain⟨as,hr⟩:=I.readsAll ds xs its rv hd;exact⟨_,.list e c dd (by simpa using hr)⟩
 | .tuple ds,v,u,r,h=>by
  rw[CD]at h;obtain⟨a,xs,rfl,hq,hd⟩:=h;cases r;obtain⟨its,rv,⟨o,e,c,n,dd⟩,_⟩:=I.tuple hq;obtain⟨as,hr⟩:=I.readsAll ds xs its rv hd;exact⟨_,.tuple e c dd (by simpa using hr)⟩
 | .dict kvs,v,u,r,h=>by
  rw[CD]at h;exact h.elim
def Inv.readsAll (I:Inv X aa σ H s):∀(ds:List PyData) (xs:Xh) (us:Xg),Vals xs us->BF X.K H ds xs->∃as,ReadsAll s.heap us ds as
 | [],xs,us,r,h=>by
  have e:xs=[]:=by simpa[BF]using h
  subst e;cases r;exact⟨_,.nil⟩
 |d::ds,xs,us,r,h=>by
  rw[BF]at h;obtain⟨x,xr,rfl,h1,h2⟩:=h;cases r with
  |cons p q =>
   obtain⟨as,h3⟩:=I.reads d x _ p h1;obtain⟨bs,h4⟩:=I.readsAll ds xr _ q h2;exact⟨_,.cons h3 h4⟩
end
end
section
def D5 (K:FG) (hK:X.K=K) (hu:X.A.units+64<cLine):cS X (compareOp .NotEq) (λx y H Q=>∃dx dy,CD K H dx x/\CD K H dy y/\SeqAt.shaped dx=true/\SeqAt.shaped dy=true/\Q (.bl (!PyData.eqv dx dy)) H):=by
 subst hK;intro aa s σ H x y v u Q I rx ry h;obtain⟨dx,dy,h1,h2,s1,s2,q⟩:=h;obtain⟨as,r1⟩:=I.reads dx x v rx h1;obtain⟨bs,r2⟩:=I.reads dy y u ry h2;exact ne_dataH r1 r2 s1 s2 hu ⟨.bl _,H,I,Zj,q⟩
def Ue (K:FG) (hK:X.K=K) (hu:X.A.units+64<cLine):cS X (compareOp .Eq) (λx y H Q=>∃(a b:Xi) (ns ms:List Int),x=.ref a/\y=.ref b/\aI K H a (ns.map V.int)/\aI K H b (ms.map V.int)/\Q (.bl (decide (ns=ms))) H):=by
 subst hK;intro aa s σ H x y v u Q I rx ry h;obtain⟨a,b,ns,ms,rfl,rfl,h1,h2,q⟩:=h;cases rx;cases ry;obtain⟨is1,r1,p1,_⟩:=I.list h1;obtain⟨is2,r2,p2,_⟩:=I.list h2;exact W.ke_eq_ints p1.isList p2.isList (DU r1) (DU r2) hu ⟨.bl _,H,I,Zj,q⟩
def Uf (C:Xi) (sp:Sp) (gV:Xh->Xh->Xh) (E:XK) (t tk:TA):TE:=λσ H Q=>t σ H λvs H1=>tk σ H1 λzs H2=>∀x dx,H2 x=none->H2 dx=none->dx≠x ->
 sp (gV (.ref x::vs) zs) (upd (upd H2 dx (.own x)) x (.ins C dx [])) (λv H3=>v=.aO/\Q (.ref x) H3) E
variable {k:Nat}{f:Xi}{fd:FuncData}{ps ks:Xf}{sp:Sp}{p:Pos}{es:List Expr}{ja:List Keyword}{t tk:TA}{g:Xg->Xg->Xg}{gV:Xh->Xh->Xh}
def Qq (M:Mk X.K C f) (F:AZ X.prog X.w X.K X.mg X.base aL k f fd ps sp) (hr:aE (k+1) X.A) (hg:Gl X x) (hm:X.mg x=some (.ref C)) (hb:Mr X.K fd ps ks g gV)
  (ha:PA X (e::es) t) (hkw:PK X ja tk) (bi:(backToKw pos (keywordEach ja X.env)).all (·.1.isSome)=true:=by rfl) (hks:(backToKw pos (keywordEach ja X.env)).filterMap (·.1)=ks:=by rfl)
  (eM:(x==("__debug__" : Str))=false:=by decide) (he:starEach (e::es) X.env=(false,eval e X.env)::starEach es X.env:=by rfl)
  (eQ:((backTo pos (starEach (e::es) X.env)).any (·.1)||(backToKw pos (keywordEach ja X.env)).any (·.1.isNone))=false:=by rfl) :
  PE X (.Call (.Name x p) (e::es) ja pos) (Uf C sp gV E0 t tk):=by
 intro aa s σ H Q I h;refine Z3 (Bu I hg hm ?_ eM);refine W.callWith_KW (h₀:=X.base) I.ok.mod.kin M.kp bi (aG (ha pos aa s σ H _ I h) λus s1 ⟨vs,H1,I1,r,q⟩=>?_) eQ he;refine aG (hkw pos aa s1 σ H1 _ I1 q) λws s2 ⟨zs,H2,I2,rz,q2⟩=>⟨I2.cV,?_⟩;rw[hks];have hq:=q2 (s2.heap.objs.size+1) s2.heap.objs.size (I2.aD.fresh (Nat.le_succ _)) (I2.aD.fresh (Zy _)) (ZC (Nat.lt_succ_self _));have I3:=Inv.made (C:=C) I2;have r2:Vals (gV (V.ref (s2.heap.objs.size+1)::vs) zs) (g (Value.ref (s2.heap.objs.size+1)::us) ws):=hb.rel (.cons rfl r) rz;have hl:(g (Value.ref (s2.heap.objs.size+1)::us) ws).length=ps.length:=by rw[←r2.length];exact F.len _ _ _ _ hq
 refine wpAny_call (K1 (f:=f) I2.cV M.makes M.init (beq_iff_eq.mp M.fn) (codeAny_mono (F.run _ X.stack _ _ ⟨Value.ref (s2.heap.objs.size+1)::us,ks.zip ws⟩ _ _ _ E0 (hr.make C us (ks.zip ws)) (I3.env0.make C us (ks.zip ws)) (hb.to _ _ _ I3.cV hl) r2 hq) λr' s' fv=>?_));cases r' with
 |error e=>exact fv.elim
 |ok fl =>
  cases fl with
  |ret u =>
   obtain⟨v,H',I4,rv,ev,q3⟩:=I3.after fv;subst ev;exact⟨rv,⟨V.ref (s2.heap.objs.size+1),H',I4,Zj,q3⟩⟩
  |next=>exact False.elim fv
  |brk=>exact False.elim fv
  |cont=>exact False.elim fv
def XD (i j:Int):Prop:=Builtin.Int.intBits i<=2 ^ 20/\Builtin.Int.intBits j<=2 ^ 20
def KK:cS X (binaryOp .Mult) (rI XD λi j=>.int (i*j)):=jX λ_ _ _ _ _ _ _ hc q=>mul_int q (IntMulOk.of_bits hc.1 hc.2)
def Vz (i j:Int):Prop:=0<j/\Builtin.divisionGoesByPylong i j=false
def LL:cS X (binaryOp .FloorDiv) (rI Vz λi j=>.int (i / j)):=jX λi j _ _ _ _ _ hc q=>by
 have h1:(0:Int)<j:=hc.1;exact floordiv_int qe (by rw[Int.fdiv_eq_ediv_of_nonneg i qe];exact q) (.inl hc.2)
end
structure Hu (fs:List Xi) (e:Xi) (oe:Obj) (vs:Array Value) (old:Xi->Prop) (h h':Heap):Prop where
 tb:∃T oT ts,h.objs.size<=T/\h'.get? T=some oT/\oT.data=.fields ts/\ts[3]?=some .none/\h'.get? e=some { oe with data:=.fields (vs.setIfInBounds 1 (.ref T)) }
 keep:∀b o,h.get? b=some o->b≠e->¬ old b->b∉ fs->h'.get? b=some o
 slot:∀b o,h.get? b=some o->b≠e->¬ old b->b∈fs->∃sl,h'.get? b=some { o with slots:=sl }
 there:∀b o,h.get? b=some o->∃o',h'.get? b=some o'
section
variable {M:Model}
def Ew {o:Obj}{vs:Array Value} (hd:o.data=.fields vs) (f:Array Value->Array Value):Obj.mapFields f o={ o with data:=.fields (f vs) }:=by
 obtain⟨c,d,dt,sl⟩:=o;cases hd;rfl
def PU {b:Xi}{f:Obj->Obj} (hf:∀o,h.get? a=some o->(f o).isFreed=false):∀o,h.get? b=some o->∃o',(h.update a f).get? b=some o':=λo ho=>by
 by_cases q:b=a
 ·subst q;exact⟨_,ZU f ho (hf o ho)⟩
 ·exact⟨o,(ZW _ _ (Ne.symm q)).trans ho⟩
def OF {env:Env}{outer:List Env}{L e:Xi}{oe:Obj}{vs:Array Value}{head:Value}{hadNext:Bool}{Q:Unit->Xj->Prop}
  (hfr:A.frames=some (env::outer)) (hl:s.heap.FunFrames base (env::outer)) (hf:env.frame=some L) (he:s.heap.get? e=some oe) (hd:oe.data=.fields vs) (hsz:1<vs.size)
  (h:∀h',Hu (du (env::outer)) e oe vs (λ_=>False) s.heap h'->Q () { s with heap:=h' }) :
  wpAny M A (do let a ←frameOf env;let pl ←entryPlaceOf L hadNext;let b ←EntryCells.newEntry head a .none (rawInt L) .none pl;setField (.ref e) 1 b) (λ_ s'=>wpAny M A (setFlight (.ref e) none) Q E s') E s:=by
 have hene:e∉ du (env::outer):=λhm=>by
  obtain⟨_,o,ho,hnf⟩:=hl.mem hm;rw[he]at ho;cases ho;exact hnf vs hd
 refine Zx (wpAny_frameOf_fun hfr hl hf λh1 x1=>Zx (wpAny_entryPlaceOf λpl eQ=>?_));unfold EntryCells.newEntry newFields;refine Zx (wpAny_newObj_type ?_ (eQ.sizeOk5 _ _ _ _ _));generalize hpg:([head,Value.ref L,.none,rawInt L,.none]++(if pl.isEmpty then List.replicate 6 Value.none else pl)).toArray=pg;have iL:3<pg.size:=by rw[←hpg];simp only[size_toArray,ZH,length_cons,length_nil];omega
 have e1:h1.get? e=some oe:=(x1.2.1 e hene).trans he;have e2:=ZX (h:=h1) ⟨.type "traceback", none,.fields pg,#[]⟩ e1;refine wpAny_setField e2 hd hsz ?_;have ne:h1.objs.size≠e:=Nat.ne_of_gt (lt_size e1);have d3:=Obj.data_mapFields hd (·.setIfInBounds 1 (Value.ref h1.objs.size));have e3:=ZU (Obj.mapFields (·.setIfInBounds 1 (Value.ref h1.objs.size))) e2 (Obj.isFreed_of_fields d3);have t3:=(ZW (h1.push ⟨.type "traceback", none,.fields pg,#[]⟩) (Obj.mapFields (·.setIfInBounds 1 (Value.ref h1.objs.size))) (Ne.symm ne)).trans (ZN h1 rfl);unfold setFlight;refine Zx (wpAny_field e3 d3 (x:=.ref h1.objs.size) (by simp[hsz]) ?_);rw[Zp (show(Value.ref h1.objs.size != Value.none)=true from by simp)];refine wpAny_setField t3 Zj iL (h _ ?_)
 have other:∀b o,b≠e->h1.get? b=some o->∀(g:Obj->Obj),(((h1.push ⟨.type "traceback", none,.fields pg,#[]⟩).update e (Obj.mapFields (·.setIfInBounds 1 (Value.ref h1.objs.size)))).update h1.objs.size g).get? b=some o:=λb o hb hlt g=>by
  rw[ZW _ _ (Nat.ne_of_gt (lt_size hlt)),ZW _ _ (Ne.symm hb)];exact ZX _ hlt
 refine⟨⟨h1.objs.size,_,_,Nat.le_of_eq x1.1.symm,ZU _ t3 (Obj.isFreed_of_fields (Obj.data_mapFields Zj _)),Obj.data_mapFields Zj _,by simp[iL],?_⟩,λb o hb n1 _ n3=>?_,λb o hb n1 _ n3=>?_,λb o hb=>?_⟩
 ·rw[ZW _ _ ne,e3,Ew hd]
 ·have hb1:h1.get? b=some o:=(x1.2.1 b n3).trans hb;exact other b o n1 hb1 _
 ·obtain⟨sl,hs⟩:=x1.2.2 b o hb;exact⟨sl,other b _ n1 hs _⟩
 ·obtain⟨sl,hs⟩:=x1.2.2 b o hb;by_cases q:b=e
  ·subst q;exact⟨_,(ZW _ _ ne).trans e3⟩
  ·exact⟨_,other b _ q hs _⟩
def LM {env:Env}{outer:List Env}{L e:Xi}{oe:Obj}{vs:Array Value}{Q:Unit->Xj->Prop}
  (hfr:A.frames=some (env::outer)) (hl:s.heap.FunFrames base (env::outer)) (hf:env.frame=some L) (he:s.heap.get? e=some oe) (hd:oe.data=.fields vs) (h1:vs[1]?=some .none)
  (h:∀h',Hu (du (env::outer)) e oe vs (λ_=>False) s.heap h'->Q () { s with heap:=h' }):wpAny M A (leaving env (.ref e)) Q E s:=by
 unfold leaving noteFrame;simp only[hf];refine Zx (Zx (wpAny_field he hd h1 ?_));rw[Zq qc];exact OF hfr hl hf he hd (Z9.mp h1).1 h
def Jf {env:Env}{outer:List Env}{L e T:Xi}{oe oT:Obj}{vs ts:Array Value}{Q:Unit->Xj->Prop}
  (hfr:A.frames=some (env::outer)) (hl:s.heap.FunFrames base (env::outer)) (hf:env.frame=some L) (he:s.heap.get? e=some oe) (hd:oe.data=.fields vs) (h1:vs[1]?=some (.ref T)) (hTe:T≠e)
  (hT:s.heap.get? T=some oT) (jc:oT.data=.fields ts) (h3:ts[3]?=some .none)
  (h:∀h',Hu (du (env::outer)) e oe vs (·=T) s.heap h'->Q () { s with heap:=h' }):wpAny M A (noteFrame (.ref e) env) (λ_ s2=>wpAny M A (setFlight (.ref e) none) Q E s2) E s:=by
 unfold noteFrame;simp only[hf];refine Zx (wpAny_field he hd h1 ?_);rw[Zp (show(Value.ref T != Value.none)=true from by simp)];refine Zx (wpAny_field hT jc h3 ?_);rw[Zq (show ¬ ((Value.none==rawInt L)=true)from by simp[rawInt])];refine Zx (wpAny_setField hT jc (Z9.mp h3).1 ?_);have far:∀b,b≠T->(s.heap.update T (Obj.mapFields (·.setIfInBounds 3 Value.none))).get? b=s.heap.get? b:=λb hb=>ZW _ _ (Ne.symm hb)
 have nr:∀b o,s.heap.get? b=some o->(∀vs,o.data≠ .fields vs)->b≠T:=λb o hb hn q=>by
  subst q;rw[hT]at hb;cases hb;exact hn ts jc
 refine OF (hfr:=hfr) (hl.of_keeps λb o hb hn=>⟨o,(far b (nr b o hb hn)).trans hb,Zj⟩) hf ((far e (Ne.symm hTe)).trans he) hd (Z9.mp h1).1 λh' x=>h h' ?_
 have fr:∀o,s.heap.get? T=some o->(Obj.mapFields (·.setIfInBounds 3 Value.none) o).isFreed=false:=λo ho=>by
  rw[hT]at ho;cases ho;exact Obj.isFreed_of_fields (Obj.data_mapFields jc _)
 obtain⟨T',oT',ts',a1,a2⟩:=x.tb;refine⟨⟨T',oT',ts',by rw[Heap.size_update]at a1;exact a1,a2⟩,λb o hb n1 n2 n3=>x.keep b o ((far b n2).trans hb) n1 (λz=>z) n3,λb o hb n1 n2 n3=>x.slot b o ((far b n2).trans hb) n1 (λz=>z) n3,λb o hb=>?_⟩;obtain⟨o',gY⟩:=PU fr o hb;exact x.there b o' gY
def M9 {env:Env}{outer:List Env}{L e T:Xi}{oe oT:Obj}{vs ts:Array Value}{Q:Unit->Xj->Prop}
  (hfr:A.frames=some (env::outer)) (hl:s.heap.FunFrames base (env::outer)) (hf:env.frame=some L) (he:s.heap.get? e=some oe) (hd:oe.data=.fields vs) (h1:vs[1]?=some (.ref T)) (hTe:T≠e)
  (hT:s.heap.get? T=some oT) (jc:oT.data=.fields ts) (h3:ts[3]?=some .none)
  (h:∀h',Hu (du (env::outer)) e oe vs (·=T) s.heap h'->Q () { s with heap:=h' }):wpAny M A (leaving env (.ref e)) Q E s:=by
 unfold leaving;exact Zx (Jf hfr hl hf he hd h1 hTe hT jc h3 h)
end
noncomputable def Fe (e C:Xi) (dx:Option Xi):HO:=.ext λh=>∃oe vs,h.get? e=some oe/\oe.cls=.ref C/\oe.dict=dx/\oe.data=.fields vs/\5<vs.size/\vs[2]?=some .none
structure Qr (P:Program) (w:World) (l:List Env) (H:Hp) (s:Xj) (e C:Xi) (dx:Option Xi) (H':Hp) (s':Xj):Prop where
 os:s'.os=s.os
 bare:AllBare s'.gens
 un:Un (du l) [] H H' s.heap s'.heap
 aD:dv P w H' s'.heap
 at_:H' e=some (Fe e C dx)
def Tb0 (e:Xi) (s':Xj):Prop:=∃oe vs,s'.heap.get? e=some oe/\oe.data=.fields vs/\vs[1]?=some .none
def Tb1 (e:Xi) (H':Hp) (s s':Xj) (fl:Value):Prop:=∃oe vs T oT ts,s'.heap.get? e=some oe/\oe.data=.fields vs/\vs[1]?=some (.ref T)/\T≠e/\s'.heap.get? T=some oT/\oT.data=.fields ts/\ts[3]?=some fl/\H' T=none/\s.heap.get? T=none
def Fly (P:Program) (w:World) (l:List Env) (H:Hp) (s:Xj) (e C:Xi) (dx:Option Xi) (H':Hp) (s':Xj):Prop:=Qr P w l H s e C dx H' s'/\Tb1 e H' s s' .none
def eX (P:Program) (w:World):gN:=λouter H s E e s'=>∃ea C dx H',e=.ref ea/\Fly P w outer H s ea C dx H' s'/\E (.ref C) dx H'
def OG {base h h':Heap}{fs:List Xi}{H H':Hp} (u:Un fs [] H H' h h'):∀ {l:List Env},(∀b∈du l,b∈fs)->(∀b∈du l,H b=none)->h.FunFrames base l->h'.FunFrames base l
 | [],_,_,_=>trivial
 |env::r,hs,hn,⟨hk,⟨L,o,hf,hb,ho,hd⟩,hr⟩=>by
  have hL:L∈du (env::r):=by unfold du;rw[ZM,hf];exact ZI
  have sub:∀b∈du r,b∈du (env::r):=λb z=>by unfold du;rw[ZM,hf];exact ZR _ z
  obtain⟨sl,e⟩:=u.slot L o ho (hn L hL) (hs L hL) (by simp);exact⟨hk,⟨L,_,hf,hb,e,hd⟩,OG u (λb z=>hs b (sub b z)) (λb z=>hn b (sub b z)) hr⟩
section
variable {H1 H2:Hp}{s1 s2:Xj}{e:Xi}{dx:Option Xi}
structure NA (X:Cx):Prop where
 gD:X.stack=X.env::X.outer
 fr:X.env.frame=some X.env.locals
 ex:X.ex=[]
def LP {fs:List Xi}{oe:Obj}{vs:Array Value}{old:Xi->Prop}{h':Heap} (ok:dv P w H2 h) (L:Hu fs e oe vs old h h') (hf:∀b∈fs,H2 b=none) (ho:∀b,old b->H2 b=none)
  (he:h.get? e=some oe) (hd:oe.data=.fields vs) (at_:H2 e=some (Fe e C dx)):dv P w H2 h':=λb u q=>by
 have kp:∀c v,c≠e->(∃z,H2 c=some z)->h.get? c=some v->h'.get? c=some v:=λc v n ⟨z,hz⟩ hv=>L.keep c v hv n (λy=>by rw[ho c y]at hz;cases hz) λy=>by rw[hf c y]at hz;cases hz
 by_cases hb:b=e
 ·subst hb;rw[at_]at q;cases q;obtain⟨⟨oe',vs',a1,a2,a3,a4,a5,a6⟩,_,st⟩:=ok _ _ at_;rw[he]at a1;cases a1;rw[hd]at a4;cases a4;obtain⟨T,oT,ts,b1,b2,b3,b4,b5⟩:=L.tb;exact⟨⟨_,_,b5,a2,a3,Zj,by rw[Array.size_setIfInBounds];exact a5,by rw[Array.getElem?_setIfInBounds_ne qc];exact a6⟩,⟨_,b5⟩,st⟩
 ·refine(ok b u q).eB (λc v hc r=>?_) (λ_ z=>z) λ_ _ z=>z;rcases hc with rfl |hc
  ·exact kp c v hb ⟨u,q⟩ r
  ·refine kp c v (λz=>?_) ⟨_,hc⟩ r;subst z;rw[at_]at hc;cases hc
def LQ {oe:Obj}{vs:Array Value}{old:Xi->Prop}{h':Heap} (O:NA X) (I:Inv X aa σ H1 s1) (F:Qr X.prog X.w X.stack H1 s1 e C dx H2 s2) (he:s2.heap.get? e=some oe) (hd:oe.data=.fields vs) (h1:1<vs.size)
  (hold:∀b,old b->H2 b=none/\s1.heap.get? b=none) (L:Hu (du X.stack) e oe vs old s2.heap h'):Fly X.prog X.w X.outer X.fc X.aY e C dx H2 { s2 with heap:=h' }:=by
 have b0:Un (du X.outer) [] X.fc H1 X.aY.heap s1.heap:=by have:=I.base;rw[O.ex]at this;exact this
 have free2:∀b∈du X.stack,H2 b=none:=λb hb=>by
  obtain⟨_,o,ho,_⟩:=I.stack.mem hb;exact F.un.free b o ho (I.stkFree b hb) (by simp)
 have ne:∀b,H2 b=none->b≠e:=λb n z=>by subst z;rw[F.at_]at n;cases n
 have out:∀b o,X.aY.heap.get? b=some o->b∉ du X.outer->b∉ du X.stack:=λb o hb hn z=>by
  rw[O.gD]at z;unfold du at z;rw[ZM,O.fr]at z;rcases mem_cons.mp z with z |z
  ·exact absurd (Z2 (lt_size hb) I.ok.above) (by rw[z];exact ZF _)
  ·exact hn z
 have up:∀b,b∈du X.outer->b∈du X.stack:=λb hb=>by
  rw[O.gD];unfold du;rw[ZM,O.fr];exact ZR _ hb
 have nold:∀b o,X.aY.heap.get? b=some o->¬ old b:=λb o hb z=>by
  obtain⟨o',gY⟩:=b0.there b o hb (by simp);rw[(hold b z).2]at gY;cases gY
 have und:Un (du X.outer) [] X.fc H2 X.aY.heap h':=by
  refine⟨λb o q n hb _=>?_,λb o q n hb _=>?_,λb o q n _=>?_,λb o q _=>?_,λb xs q=>F.un.fh b xs (b0.fh b xs q),λb o xs q=>F.un.fb b o xs (b0.fb b o xs q),λb ps q=>?_⟩
  ·have q1:=b0.keep b o q n hb (by simp);have n1:=b0.free b o q n (by simp);have q2:=F.un.keep b o q1 n1 (out b o q hb) (by simp);exact L.keep b o q2 (ne b (F.un.free b o q1 n1 (by simp))) (nold b o q) (out b o q hb)
  ·obtain⟨sl,q1⟩:=b0.slot b o q n hb (by simp);have n1:=b0.free b o q n (by simp);obtain⟨eV,q2⟩:=F.un.slot b _ q1 n1 (up b hb) (by simp);obtain⟨gO,q3⟩:=L.slot b _ q2 (ne b (F.un.free b _ q1 n1 (by simp))) (nold b o q) (up b hb);exact⟨gO,q3⟩
  ·obtain⟨o1,q1⟩:=b0.there b o q (by simp);exact F.un.free b o1 q1 (b0.free b o q n (by simp)) (by simp)
  ·obtain⟨o1,q1⟩:=b0.there b o q (by simp);obtain⟨o2,q2⟩:=F.un.there b o1 q1 (by simp);exact L.there b o2 q2
  ·obtain⟨m1,e1⟩:=b0.eY b ps q;obtain⟨m2,e2⟩:=F.un.eY b _ e1;exact⟨m1++m2,by rw[e2,Array.append_assoc]⟩
 refine⟨⟨F.os.trans I.os,F.bare,und,LP F.aD L free2 (λb z=>(hold b z).1) he hd F.at_,F.at_⟩,?_⟩;obtain⟨T,oT,ts,b1,b2,b3,b4,b5⟩:=L.tb;have hT:s2.heap.get? T=none:=Heap.get?_none_of_le b1;refine⟨_,_,T,oT,ts,b5,Zj,by simp[h1],λz=>?_,b2,b3,b4,F.aD.fresh b1,?_⟩
 ·subst z;rw[he]at hT;cases hT
 ·cases q:X.aY.heap.get? T with
  |none=>rfl
  |some o =>
   obtain⟨o1,q1⟩:=b0.there T o q (by simp);obtain⟨o2,q2⟩:=F.un.there T o1 q1 (by simp);rw[hT]at q2;cases q2
def Ex (I:Inv X aa σ H1 s1) (F:Qr X.prog X.w X.stack H1 s1 e C dx H2 s2):s2.heap.FunFrames X.base X.stack:=OG F.un (λ_ z=>z) I.stkFree I.stack
def Hv {E':VS} (O:NA X) (I:Inv X aa σ H1 s1) (F:Fly X.prog X.w X.stack H1 s1 e C dx H2 s2) :
  wpAny (model X.prog X.w) X.A (leaving X.env (.ref e)) (λ_ s3=>Fly X.prog X.w X.outer X.fc X.aY e C dx H2 s3) E' s2:=by
 obtain⟨B,oe,vs,T,oT,ts,a1,a2,a3,a4,a5,a6,a7,a8,a9⟩:=F;have fr:=Ex I B;have hA:=I.ok.frames;rw[O.gD]at fr hA;refine M9 hA fr O.fr a1 a2 a3 a4 a5 a6 a7 λh' L=>?_;rw[←O.gD]at L;exact LQ O I B a1 a2 (Z9.mp a3).1 (λb z=>by subst z;exact⟨a8,a9⟩) L
def NB {E':VS} (O:NA X) (I:Inv X aa σ H1 s1) (B:Qr X.prog X.w X.stack H1 s1 e C dx H2 s2) (T:Tb0 e s2) :
  wpAny (model X.prog X.w) X.A (leaving X.env (.ref e)) (λ_ s3=>Fly X.prog X.w X.outer X.fc X.aY e C dx H2 s3) E' s2:=by
 obtain⟨oe,vs,a1,a2,a3⟩:=T;have fr:=Ex I B;have hA:=I.ok.frames;rw[O.gD]at fr hA;refine LM hA fr O.fr a1 a2 a3 λh' L=>?_;rw[←O.gD]at L;exact LQ O I B a1 a2 (Z9.mp a3).1 (λb z=>z.elim) L
end
def Ug {CX:gN}{qual:Str}{scope:Scope}{f:Xi}{cd:Value}{outer:List Env}{E:XK} :
  NA (BB CX P w K mg base N qual scope f cd A outer s H E):=⟨rfl,rfl,rfl⟩
def OH {qual:Str}{scope:Scope}{f:Xi}{cd:Value}{outer:List Env}{E:XK} :
  BR (eX P w) (BB (eX P w) P w K mg base N qual scope f cd A outer s H E) E:=by
 rintro aa σ H1 s1 e s2 I ⟨ea,C,dx,H2,rfl,F,q⟩;exact Zv (Hv (X:=BB (eX P w) P w K mg base N qual scope f cd A outer s H E) Ug I F) (λ_ s3 G=>⟨ea,C,dx,H2,Zj,G,q⟩) λ_ _ z=>z
def Qs (X:Cx) (E:XK):Prop:=∀(aa:LO) (σ:St) (H:Hp) (s:Xj) (e C:Xi) (dx:Option Xi) (H':Hp) (s':Xj),Inv X aa σ H s->Qr X.prog X.w X.stack H s e C dx H' s'->Tb0 e s'->E (.ref C) dx H'->X.xe (.ref e) s'
def HQ {qual:Str}{scope:Scope}{f:Xi}{cd:Value}{outer:List Env}{E:XK} :
  Qs (BB (eX P w) P w K mg base N qual scope f cd A outer s H E) E:=by
 intro aa σ H1 s1 ea C dx H2 s2 I F T q;exact Zv (NB (X:=BB (eX P w) P w K mg base N qual scope f cd A outer s H E) Ug I F T) (λ_ s3 G=>⟨ea,C,dx,H2,Zj,G,q⟩) λ_ _ z=>z
structure LR (B:String) (bm:Xg):Prop where
 b:bm.contains (.type B)=true
 base:bm.contains (.type "BaseException")=true
 na:bm.contains (.type "AttributeError")=false
 nn:bm.contains (.type "NameError")=false
section
variable {M:Model}{g:Array GenState}{d:Drawn}{t:Nat}{os:OsState}
variable {nm qn:Str}{N:Xi}{bs bm ku:Xg}{bf:Bool}{sn:Xf}{sub:Xg}{ab:Bool}{col:Option Bool}{dd:Option Xi}{k0 k1 k2 k3 k5:Option Value}{B newId cZ:String}
def NC (F:ExcBaseFacts B newId cZ ku) (T:LR B bm) {rest:Xg}{Q:Unit->Xj->Prop} (oC:h.get? C=some (excClassObj nm qn C N bs bm bf sn sub ab col dd k0 k1 k2 k3 k5 newId))
  (fin:Q () ⟨h,g,d,t,os⟩):wpAny M A (checkBuiltinCall newId ⟨.ref C::rest,[]⟩) Q E ⟨h,g,d,t,os⟩:=by
 have c1:(Value.ref C::bm).contains (.type B)=true:=by rw[contains_cons,T.b];simp
 have st:=F.noStar;simp only[checkBuiltinCall,F.newKind,F.newSplit,F.newRow]
 repeat (first |refine ZY oC ?_ | (refine Z4 oC ?_;rw[c1]) |refine wpAny_staticBase_exc oC ?_ |refine wpAny_madeBy_exc oC ?_ |simp only[bne_self_eq_false,Bool.false_eq_true,if_false] |wp_step)
 exact fin
end
section
variable {prog:Program}{R:Result->Xj->Prop}{g:Array GenState}{d:Drawn}{t:Nat}{os:OsState}
variable {nm qn:Str}{N:Xi}{bs bm ku:Xg}{bf:Bool}{sn:Xf}{sub:Xg}{ab:Bool}{col:Option Bool}{dd:Option Xi}{k0 k1 k2 k3 k5:Option Value}{B newId cZ:String}
noncomputable abbrev ND (C:Xi) (h:Heap):Obj:={ cls:=.ref C,data:=.fields #[.ref h.objs.size,.none,.none,.none,.bool false,.none] }
noncomputable abbrev D6 (C:Xi) (rest:Xg) (h:Heap):Heap:=(h.push { cls:=.type "tuple", data:=.seq rest.toArray }).push (ND C h)
def Qt (F:ExcBaseFacts B newId cZ ku) (T:LR B bm) {rest:Xg} (oC:h.get? C=some (excClassObj nm qn C N bs bm bf sn sub ab col dd k0 k1 k2 k3 k5 newId))
  (fin:R (.ok (.ret (.ref (h.objs.size+1)))) ⟨D6 C rest h,g,d,t,os⟩) (hz:rest.length<=sizeLine):codeAny (model prog w) A (.builtin newId ⟨.ref C::rest,[]⟩) R ⟨h,g,d,t,os⟩:=by
 have e1:=F.ends;have c1:(Value.ref C::bm).contains (.type B)=true:=by rw[contains_cons,T.b];simp
 have c2:(Value.ref C::bm).contains (.type "AttributeError")=false:=by rw[contains_cons,T.na];rfl
 have c3:(Value.ref C::bm).contains (.type "NameError")=false:=by rw[contains_cons,T.nn];rfl
 refine codeAny_builtinAt F.entry ?_;unfold Builtin.«BaseException.__new__»;refine PySem.wpAt_bind ?_;show PySem.wpAt _ _ _ (stack >>= _) _ _ _;refine PySem.wpAt_bind (PySem.wpAt_stack λp below=>PySem.wpAt_of_wpAny ?_)
 wp_walk
 refine PySem.wpAt_of_wpAny ?_;rw[F.owner]
 repeat (first |with_reducible refine wpAny_madeHere_exc F.canon oC ?_ |with_reducible refine ZY oC ?_ | (with_reducible refine Z4 oC ?_;first |rw[c1] |rw[c2] |rw[c3]) |wp_step)
 show R _ _;rw[Heap.size_push];exact fin
def NE (F:ExcBaseFacts B newId cZ ku) (T:LR B bm) {rest:Xg}{fI:Xi}{oI:Obj}{Q:Fin->Xj->Prop}
  (oC:h.get? C=some (excClassObj nm qn C N bs bm bf sn sub ab col dd k0 k1 k2 k3 k5 newId)) (li:W.Looks (model prog w) h (typeLookup (.ref C) "__init__") (some (.ref fI))) (oF:h.get? fI=some oI) (cF:oI.cls=.type "function") (hz:rest.length<=sizeLine)
  (fin:wpAny (model prog w) A (call (.ref fI) (.ref (h.objs.size+1)::rest)) (λr s'=>r=.none/\Q (.done (.ret (.ref (h.objs.size+1)))) s') E ⟨D6 C rest h,g,d,t,os⟩) :
  wpAny (model prog w) A (Builtin.«type.__call__» ⟨.ref C::rest,[]⟩) Q E ⟨h,g,d,t,os⟩:=by
 repeat (first |with_reducible refine ZY oC ?_ |with_reducible refine wpAny_madeBy_exc oC ?_ |wp_step)
 refine codeAny_call_builtin_code (Code.quiet_builtin _ F.quiet) (NC F T oC (Qt F T oC ?_ hz));show wpAny _ _ _ _ _ _;have kp:∀b o,h.get? b=some o->(D6 C rest h).get? b=some o:=λb o z=>ZX _ (ZX _ z);have oC1:=kp _ _ oC;have ge:(D6 C rest h).get? (h.objs.size+1)=some (ND C h):=by unfold D6;heap_get
 have c1:(Value.ref C::bm).contains (.ref C)=true:=by simp
 unfold isInstance
 repeat (first |with_reducible refine ZY ge ?_ | (with_reducible refine Z4 oC1 ?_;rw[c1]) |wp_step)
 refine li A _ E ⟨D6 C rest h,g,d,t,os⟩ kp ?_;refine ZK (Zx ?_);unfold bindSpecial;refine Zx (wpAny_typeOf (T := "function") ⟨_,kp _ _ oF,cF⟩ ?_);rw[Zp qc];refine Zw (Zx (Zv fin (λr s' z=>?_) λ_ _ x=>x));obtain⟨rfl,hQ⟩:=z
 wp_walk
 exact hQ
def PV (F:ExcBaseFacts B newId cZ ku) (T:LR B bm) {rest:Xg}{fI:Xi}{oI:Obj}{Q:VS}
  (oC:h.get? C=some (excClassObj nm qn C N bs bm bf sn sub ab col dd k0 k1 k2 k3 k5 newId)) (li:W.Looks (model prog w) h (typeLookup (.ref C) "__init__") (some (.ref fI))) (oF:h.get? fI=some oI) (cF:oI.cls=.type "function") (hz:rest.length<=sizeLine)
  (fin:wpAny (model prog w) (A.under (.builtin "type.__call__" ⟨.ref C::rest,[]⟩)) (call (.ref fI) (.ref (h.objs.size+1)::rest)) (λr s'=>r=.none/\Q (.ref (h.objs.size+1)) s') E ⟨D6 C rest h,g,d,t,os⟩) :
  wpAny (model prog w) A (call (.ref C) rest) Q E ⟨h,g,d,t,os⟩:=by
 have f1:=tc_lookup;have f2:=tc_bind (.ref C);have hT:(⟨h,g,d,t,os⟩:Xj).TypeIs (.ref C) "type" := ⟨_,oC,rfl⟩;refine wpAny_call (codeAny_of_tree ?_);show wpAny _ _ (callAny (.ref C) _) _ _ _
 repeat (any_goals (first |assumption |with_reducible refine ZY oC ?_ |wp_step))
 refine⟨Zj,?_⟩;exact codeAny_call_builtin_at (Code.quiet_builtin _ qb) entry_typeCall (wpAny_check_type_call_sub oC (NE F T oC li oF cF hz fin))
end
noncomputable def Ef (e C:Xi) (dx:Option Xi):HO:=.ext λh=>∃oe vs,h.get? e=some oe/\oe.cls=.ref C/\oe.dict=dx/\oe.data=.fields vs/\vs.size=6/\vs[1]?=some .none/\vs[2]?=some .none
noncomputable def A4 (K:FG) (C:Xi):Bool:=match K.lookup C with
 |some ⟨.type "type", _,.cls cd,sl⟩=>(match cd.mro,sl.toList with
  | .ref C'::bm,[_,_,_,_,some (.builtin n),_]=>C'==C && !cd.hasDel&&n == "ValueError.__new__" && bm.contains (.type "BaseException")&&bm.contains (.type "ValueError") && !bm.contains (.type "AttributeError") && !bm.contains (.type "NameError")
  |_,_=>false)
 |_=>false
def HR (X:K.In h) (q:A4 K C=true):∃nm qn N bs bm bf sn sub ab col dd k0 k1 k2 k3 k5,h.get? C=some (excClassObj nm qn C N bs bm bf sn sub ab col dd k0 k1 k2 k3 k5 "ValueError.__new__")/\LR "ValueError" bm:=by
 unfold A4 at q;split at q
 ·rename_i dd cd sl ho;split at q
  ·rename_i C' bm k0 k1 k2 k3 n k5 hm hs;simp only[Bool.and_eq_true,beq_iff_eq,Bool.not_eq_true']at q;obtain⟨⟨⟨⟨⟨⟨rfl,hdel⟩,rfl⟩,hb⟩,ht⟩,ha⟩,hn⟩:=q;obtain⟨nm,bs,mro,ns,qn,hd,sn,sub,ab,col,del⟩:=cd
   dsimp only at hm hdel
   subst hm hdel;obtain⟨l⟩:=sl;simp only at hs;subst hs;exact⟨nm,qn,ns,bs,bm,hd,sn,sub,ab,col,dd,k0,k1,k2,k3,k5,X _ _ ho,⟨ht,hb,ha,hn⟩⟩
  ·cases q
 ·cases q
structure MkX (K:FG) (C f:Xi):Prop where
 cls:A4 K C=true
 init:W.findIn K (.ref C) "__init__" = some (some (.ref f))
 fn:W.isFn K (.ref f)=true
 fo:∃o,K.lookup f=some o/\o.cls=.type "function"
 kp:W.keepIn K (.ref C)=true
section
variable {CX:gN}{k:Nat}{f:Xi}{fd:FuncData}{ps:Xf}{sp:Sp}{d6:Xh}{ds:Xg}{E:XK}{m:Str}{p apos:Pos}{o:Expr}{es:List Expr}{t:TA}
def PX (C:Xi) (rest:Xg) (h:Heap):(D6 C rest h).get? (h.objs.size+1)=some (ND C h):=by unfold D6;heap_get
def Inv.madeX (I:Inv X aa σ H s) (rest:Xg):Inv X aa σ (upd H (s.heap.objs.size+1) (Ef (s.heap.objs.size+1) C none)) { s with heap:=D6 C rest s.heap }:=by
 have kp:∀b o,s.heap.get? b=some o->(D6 C rest s.heap).get? b=some o:=λb o z=>ZX _ (ZX _ z);refine I.laid (t':=s.toks) kp (Nat.le_succ _) ?_;have ge:=PX C rest s.heap;exact⟨⟨_,_,ge,Zj,Zj,Zj,Zj,Zj,Zj⟩,⟨_,ge⟩,λh1 h2 ⟨oe,vs,a,r⟩ k=>⟨oe,vs,k _ a,r⟩⟩
def PY {Q:VK}{vs:Xh} (M:MkX X.K C f) (F:AZ X.prog X.w X.K X.mg X.base CX k f fd ps sp) (hr:aE (k+1) X.A) (hb:Binds X.K fd ps ds) (hd:Vals d6 ds) (hx:BR CX X E) (I:Inv X aa σ H s) (r:Vals vs us) (hz:vs.length<=1000)
  (h:∀x,H x=none->sp (.ref x::(vs++d6)) (upd H x (Ef x C none)) (λv H2=>v=.aO/\Q (.ref x) H2) E):wpAny (model X.prog X.w) X.A (call (.ref C) us) (EP X aa σ Q) X.xe s:=by
 have hq:=h (s.heap.objs.size+1) (I.aD.fresh (Nat.le_succ _));have I2:=Inv.madeX (C:=C) I us;have r2:Vals (V.ref (s.heap.objs.size+1)::(vs++d6)) (Value.ref (s.heap.objs.size+1)::(us++ds)):=.cons rfl (r.append hd)
 have hl:(Value.ref (s.heap.objs.size+1)::us++ds).length=ps.length:=by
  have e:=r2.length;rw[F.len _ _ _ _ hq]at e;exact e.symm
 obtain⟨nm,qn,N,bs,bm,bf,sn,sub,ab,col,dd,k0,k1,k2,k3,k5,oC,T⟩:=HR I.cV M.cls;obtain⟨oF,lF,cF⟩:=M.fo;obtain⟨hh,g,d,tk,os⟩:=s;refine PV PySem.F.excBase_ValueError T oC (W.looks_findIn I.cV M.init) (I.cV _ _ lF) cF (by rw[←r.length];exact Nat.le_of_lt (AO hz)) ?_;refine wpAny_call (codeAny_mono (F.run _ X.stack _ _ ⟨_,[]⟩ (Value.ref (hh.objs.size+1)::(us++ds)) _ _ E (hr.make C us []) (I2.env0.make C us []) (hb _ (Value.ref (hh.objs.size+1)::us) I2.cV hl) r2 hq) λr s' fv=>?_);cases r with
 |error e=>exact hx aa σ _ _ e s' I2 fv
 |ok fl =>
  cases fl with
  |ret u =>
   obtain⟨v,H',I3,rv,ev,q3⟩:=I2.after fv;subst ev;exact⟨rv,⟨V.ref (hh.objs.size+1),H',I3,Zj,q3⟩⟩
  |next=>exact False.elim fv
  |brk=>exact False.elim fv
  |cont=>exact False.elim fv
def KL (C:Xi) (sp:Sp) (d6:Xh) (E:XK) (t:TA):TE:=λσ H Q=>t σ H λvs H1=>vs.length<=1000/\∀x,H1 x=none->sp (.ref x::(vs++d6)) (upd H1 x (Ef x C none)) (λv H2=>v=.aO/\Q (.ref x) H2) E
def D7 (M:MkX X.K C f) (F:AZ X.prog X.w X.K X.mg X.base CX k f fd ps sp) (hr:aE (k+1) X.A) (hg:Gl X x) (hm:X.mg x=some (.ref C)) (hb:Binds X.K fd ps ds) (hd:Vals d6 ds) (hx:BR CX X E)
  (ha:PA X (e::es) t) (eM:(x==("__debug__" : Str))=false:=by decide) (he:starEach (e::es) X.env=(false,eval e X.env)::starEach es X.env:=by rfl) (eQ:(backTo pos (starEach es X.env)).any (·.1)=false:=by rfl) :
  PE X (.Call (.Name x p) (e::es) [] pos) (KL C sp d6 E t):=by
 intro aa s σ H Q I h;refine Z3 (Bu I hg hm ?_ eM);refine W.callWith_K (h₀:=X.base) I.ok.mod.kin M.kp (aG (ha pos aa s σ H _ I h) λus s1 ⟨vs,H1,I1,r,q⟩=>⟨I1.cV,?_⟩) he eQ;exact PY M F hr hb hd hx I1 r q.1 q.2
def KM (C:Xi) (te:TE) (E:XK):TS:=λ_ σ H=>te σ H λv H1=>∃e dx,v=.ref e/\H1 e=some (Ef e C dx)/\E (.ref C) dx (upd H1 e (Fe e C dx))
def PZ {H1:Hp}{e:Xi}{dx:Option Xi} (ok:dv P w H1 h) (at_:H1 e=some (Ef e C dx)):dv P w (upd H1 e (Fe e C dx)) h:=by
 obtain⟨⟨oe,vs,a1,a2,a3,a4,a5,a6,a7⟩,_,_⟩:=ok _ _ at_;refine ok.write (x:=e) (e:=e) (by rw[at_];exact True.intro) (.inl Zj) (λb u _ q=>q) ⟨_,a1⟩ ⟨⟨oe,vs,a1,a2,a3,a4,qe,a7⟩,⟨_,a1⟩,λh1 h2 ⟨oe,vs,a,r⟩ k=>⟨oe,vs,k _ a,r⟩⟩
end
section
variable {M:Model}{env:Env}
def LU {x:Sem Value}{Q:Flow->Xj->Prop} (hh:A.handled=none)
  (h:wpAny M A x (λv s1=>∃e oe vs,v=.ref e/\s1.heap.get? e=some oe/\oe.cls=.ref C/\oe.data=.fields vs/\vs[1]?=some .none /\
   (∃nm qn N bs bm bf sn sub ab col dd k0 k1 k2 k3 k5 nid,s1.heap.get? C=some (excClassObj nm qn C N bs bm bf sn sub ab col dd k0 k1 k2 k3 k5 nid)/\bm.contains (.type "BaseException")=true)/\E (.ref e) s1) E s) :
  wpAny M A (raiseStmt env (some x) none) Q E s:=by
 unfold raiseStmt;refine Zx (Zv h (λv s1 z=>?_) λ_ _ y=>y);obtain⟨e,oe,vs,rfl,he,bp,hd,h1,⟨nm,qn,N,bs,bm,bf,sn,sub,ab,col,dd,k0,k1,k2,k3,k5,nid,oC,hb⟩,hE⟩:=z;have c1:(Value.ref C::bm).contains (.type "BaseException")=true:=by rw[contains_cons,hb,Bool.or_true]
 obtain⟨hp,g,d,tk,os⟩:=s1
 repeat (first | (with_reducible refine ZY he ?_;rw[bp]) |with_reducible refine ZY oC ?_ | (with_reducible refine Z4 oC ?_;rw[c1]) |wp_step)
 rw[hd];refine Zw ?_;rw[h1];refine Zw ?_;rw[Zq qc];exact Zw (wpAny_raiseNew_none hh hE)
end
section
variable {E:XK}{o:Expr}
def D8 (hR:Qs X E) (hc:X.calm=true) (hC:A4 X.K C=true) (he:PE X o te):PS X (.Raise (some o) none pos) (KM C te E):=by
 intro aa s σ H D I h;rw[arm_exec_Raise];refine Zx (ZJ (LU (C:=C) (I.ok.hd hc) (Zx (Zv (he aa s σ H _ I h) (λv s1 z=>Zx (ZJ (Zw ?_))) λ_ _ y=>y))));obtain⟨u,H1,I1,ru,e,dx,rfl,at_,q⟩:=z;obtain rfl:v=.ref e:=ru;obtain⟨⟨oe,vs,a1,a2,a3,a4,a5,a6,a7⟩,_,_⟩:=I1.aD _ _ at_;obtain⟨nm,qn,N,bs,bm,bf,sn,sub,ab,col,dd,k0,k1,k2,k3,k5,oC,T⟩:=HR I1.cV hC;refine⟨e,oe,vs,Zj,a1,a2,a4,a6,⟨nm,qn,N,bs,bm,bf,sn,sub,ab,col,dd,k0,k1,k2,k3,k5,_,oC,T.base⟩,?_⟩;refine hR aa σ H1 s1 e C dx _ s1 I1 ⟨Zj,I1.bare,Un.write (x:=e) (e:=e) (by rw[at_];exact True.intro) (.inl Zj) (λb u _ r=>r) ⟨_,a1⟩,PZ I1.aD at_,AB⟩ ⟨oe,vs,a1,a4,a6⟩ q
end
section
variable {prog:Program}{g:Array GenState}{d:Drawn}{t:Nat}{os:OsState}
variable {nm qn:Str}{N:Xi}{bs bm ku:Xg}{bf:Bool}{sn:Xf}{sub:Xg}{ab:Bool}{col:Option Bool}{dd:Option Xi}{k0 k1 k2 k3 k5:Option Value}{B newId cZ:String}
def LV (F:ExcBaseFacts B newId cZ ku) (T:LR B bm) {M:Model}{e:Xi}{oe:Obj}{rest:Xg}{Q:Unit->Xj->Prop}
  (oC:h.get? C=some (excClassObj nm qn C N bs bm bf sn sub ab col dd k0 k1 k2 k3 k5 newId)) (he:h.get? e=some oe) (bp:oe.cls=.ref C) (fin:Q () ⟨h,g,d,t,os⟩) :
  wpAny M A (checkBuiltinCall cZ ⟨.ref e::rest,[]⟩) Q E ⟨h,g,d,t,os⟩:=by
 have c1:(Value.ref C::bm).contains (.type B)=true:=by rw[contains_cons,T.b];simp
 have st:=F.noStar;simp only[checkBuiltinCall,F.initKind,F.initSplit,F.initRow]
 repeat (first | (with_reducible refine ZY he ?_;rw[bp]) |with_reducible refine ZY oC ?_ | (with_reducible refine Z4 oC ?_;rw[c1]) |wp_step)
 refine wpAny_onRaise ?_;rw[show ∀(a b:String) (n:Nat),Bind.check ⟨.positional, "*", B,.self,[⟨"args", .varPos,false⟩]⟩ a b n (List.map (λx=>x.fst) ({ pos:=Value.ref e::rest }:Args).kw)=pure ()from λa b n=>check_star_args _ _ _ _ _ _];exact Zw fin
def NF (F:ExcBaseFacts B newId cZ ku) (T:LR B bm) {e:Xi}{oe:Obj}{vs:Array Value}{v0:Value}{rest:Xg}{Q:VS}
  (oC:h.get? C=some (excClassObj nm qn C N bs bm bf sn sub ab col dd k0 k1 k2 k3 k5 newId)) (he:h.get? e=some oe) (bp:oe.cls=.ref C) (hd:oe.data=.fields vs) (h0:vs[0]?=some v0) (hz:rest.length<=sizeLine)
  (fin:Q .none ⟨(h.push { cls:=.type "tuple", data:=.seq rest.toArray }).update e (Obj.mapFields (·.setIfInBounds 0 (.ref h.objs.size))),g,d,t,os⟩) :
  wpAny (model prog w) A (call (.builtin cZ) (.ref e::rest)) Q E ⟨h,g,d,t,os⟩:=by
 refine wpAny_call (codeAny_call_builtin F.init.plain F.initEntry (LV F T oC he bp ?_));have e1:=ZX { cls:=.type "tuple", data:=.seq rest.toArray } he;unfold Builtin.«BaseException.__init__»
 wp_walk
 rw[hd];refine Zw ?_;rw[h0];refine Zw (Zx (wpAny_setField e1 hd (Z9.mp h0).1 ?_))
 have done:∀ {E':VS},wpAny (model prog w) A.in1 (match v0 with |Value.ref _=>letGo [v0] |_=>pure ()) (λ_ s'=>Q .none s') E' ⟨(h.push { cls:=.type "tuple", data:=.seq rest.toArray }).update e (Obj.mapFields (·.setIfInBounds 0 (.ref h.objs.size))),g,d,t,os⟩:=λ{E'}=>by
  cases v0 <;> first |exact Zw fin | (wp_walk;exact fin)
 exact Zv done (λ_ s' q=>Zw q) λ_ _ z=>z
end
def Qu {o:HO} (h:H a=some o):upd H a o=H:=by
 funext b;unfold upd;split
 ·rename_i e;rw[e,h]
 ·rfl
def Pa {x:V}:∀ {us:Xg},Vals (x::xs) us->∃u ls,us=u::ls/\RelV x u/\Vals xs ls
 |_::_,.cons a b=>⟨_,_,rfl,a,b⟩
section
variable {es:List Expr}{t:TA}{np apos:Pos}
def Uh (K:FG) (t:TA):TE:=λσ H Q=>t σ H λvs H1=>∃a C dx rest,vs=.ref a::rest/\rest.length<=1000/\A4 K C=true/\H1 a=some (Ef a C dx)/\Q .aO H1
def Sm:typeOf (.type "ValueError")=pure (.type "type"):=by kernel_rfl
def Sn:Manifest.isStub "ValueError" = false:=by decide +kernel
def So (K:FG):W.findCls K (.type "ValueError") (.type "type") "__init__" = some (.val (.builtin "ValueError.__init__")):=by kernel_rfl
def Sq:W.handedIn (.builtin "ValueError.__init__")=true:=by decide +kernel
def OI:bootBuiltins "ValueError" = some (.type "ValueError"):=by decide +kernel
def Qw {pl:Sem Bool} (hg:Gl X "ValueError") (hm:X.mg "ValueError" = none) (ha:PA X (e::es) t) (he:starEach (e::es) X.env=(false,eval e X.env)::starEach es X.env:=by rfl) (eQ:(backTo pos (starEach es X.env)).any (·.1)=false:=by rfl)
  (ht:eval (.Call (.Attribute (.Name "ValueError" np) "__init__" apos) (e::es) [] pos) X.env=(do
   let ov ←eval (.Name "ValueError" np) X.env
   standAt apos.atName
   let (f,first) ←holding [ov] (getMethod ov "__init__" pl)
   callWith pos f first (backTo pos (starEach (e::es) X.env)) (backToKw pos (keywordEach [] X.env))):=by rfl) :
  PE X (.Call (.Attribute (.Name "ValueError" np) "__init__" apos) (e::es) [] pos) (Uh X.K t):=by
 intro aa s σ H Q I h;refine W.methodCall_KW (pl:=pl) ?_ ht;refine En (u:=.type "ValueError") I hg hm OI ?_;obtain⟨m,Fm⟩:=I.fr;have L1:=λ(Q':Value×Xg->Xj->Prop) hq=>W.method_type (prog:=X.prog) (w:=X.w) (A:=X.A) (E:=X.xe) (K:=X.K) (T := "ValueError") (name := "__init__") (pl:=pl) (v:=.builtin "ValueError.__init__") (Q:=Q') Fm I.ok.mod.kin Sm Sn (So X.K) Sq hq;refine L1 _ ?_;refine PyProof.Rows.callWith_builtin1 (aG (ha pos aa _ σ H _ (I.tok _) h) λus s1 ⟨vs,H1,I1,r1,a,C,dx,rest,ev,hz,hC,at_,q⟩=>?_) he eQ;subst ev;obtain⟨nm,qn,N,bs,bm,bf,sn,sub,ab,col,dd,k0,k1,k2,k3,k5,oC,T⟩:=HR I1.cV hC;obtain⟨⟨oe,ws,a1,a2,a3,a4,a5,a6,a7⟩,_,st⟩:=I1.aD _ _ at_;obtain⟨u0,ls,eu,ra,rr⟩:=Pa r1;subst eu
 ·obtain rfl:=ra;obtain⟨hp,g,d,tk,os⟩:=s1;refine NF PySem.F.excBase_ValueError T oC a1 a2 a4 (v0:=ws[0]'qe) (by rw[Array.getElem?_eq_getElem]) (by rw[←rr.length];exact Nat.le_of_lt (AO hz)) ?_;have J:=I1.kept (h':=hp.push { cls:=.type "tuple", data:=.seq ls.toArray }) (t':=tk) λb u z=>ZX _ z;have e1:=ZX { cls:=.type "tuple", data:=.seq ls.toArray } a1;have e2:=ZU (Obj.mapFields (·.setIfInBounds 0 (.ref hp.objs.size))) e1 (Obj.isFreed_of_fields (Obj.data_mapFields a4 _));rw[Ew a4]at e2
  have J2:=J.write (x:=a) (e:=a) (o:=Ef a C dx) (t':=tk) (by rw[at_];exact True.intro) (.inl rfl) (λb u n z=>(ZW _ _ (Ne.symm n)).trans z) ⟨_,e2⟩
   ⟨⟨_,_,e2,a2,a3,rfl,by rw[Array.size_setIfInBounds];exact a5,by rw[Array.getElem?_setIfInBounds_ne qc];exact a6,by rw[Array.getElem?_setIfInBounds_ne qc];exact a7⟩,⟨_,e2⟩,st⟩
  rw[Qu at_]at J2;exact⟨.aO,H1,J2,Zj,q⟩
end
noncomputable def Hw (P:Program) (w:World) (K:FG) (mg:SV) (base:Heap) (N:Xf) (qual:Str) (scope:Scope) (f:Xi) (cd:Value) (A:Around) (outer:List Env) (s:Xj) (H:Hp) (e:Xi) (oe:Obj):Cx :=
 { BB aL P w K mg base N qual scope f cd A outer s H (λ_ _ _=>False)with calm:=false,pn:=[(e,oe)],xe:=λ_ _=>False }
structure RoomS (k:Nat) (A:Around):Prop where
 dp:A.depth+3*k+5<recursionLimit
 un:A.units+16*k+200<cLine
def RoomS.deeper {k:Nat}{A:Around} (r:RoomS (k+1) A) (env:Env):RoomS k (A.deeper env):=⟨by have:=r.dp;show A.depth+1+3*k+5<_;omega,by have:=r.un;show A.units+3+16*k+200<_;omega⟩
def NG {ps:Xf}{qual:Str}{scope:Scope}{f:Xi}{cd:Value}{outer:List Env}{s1:Xj}{vs:Xh}{e:Xi}{oe:Obj}
  (S:AM N ps scope) (e0:ff P w K mg base A outer s H) (hl:vs.length=ps.length) (r:Vals vs us) (he:s.heap.get? e=some oe) (hn:H e=none) (ho:e∉ du outer) (hd:∀v,oe.data≠ .cell v)
  (x:InCallC s s.heap.objs.size (bindL (envOfC qual scope s.heap.objs.size f cd).kindOf (ps.zip us) λ_=>none) (cellsFrom (s.heap.objs.size+1) scope.names []) (bindC (envOfC qual scope s.heap.objs.size f cd).kindOf (ps.zip us) λ_=>none) s1) :
  Inv (Hw P w K mg base N qual scope f cd A outer s H e oe) [] (Bs N vs) H s1:=by
 have A0:∃A0:Around,A0.handled=none/\A0.frames=A.frames:=⟨{ A with handled:=none },rfl,rfl⟩;obtain⟨A0,h1,h2⟩:=A0;have I:=Ga (CX:=aL) (E:=λ_ _ _=>False) (A:=A0) S h1 ⟨h2.trans e0.frames,e0.mod,e0.bs,e0.gT,e0.dr,e0.iz,e0.aD,e0.bare⟩ hl r x;obtain⟨hh,tk,rfl,hk⟩:=x.done;have ok:=I.ok;refine⟨⟨ok.mod,ok.kind,ok.glob,ok.blt,ok.above,ok.inj,ok.has,ok.ji,(λz=>by cases (show false=true from z)),Around.frames_deeper e0.frames,ok.gD,ok.exf,ok.bs,ok.gT,ok.gu,ok.gc,ok.dr,ok.iz⟩,I.os,I.bare,I.base,I.loc,I.cell,I.free,I.cG,λp hp=>?_,I.aD,I.len⟩;have q:p=(e,oe):=by simpa[Hw]using hp
 subst q;exact⟨hk _ _ he,hn,ZC (lt_size he),ho,hd⟩
abbrev SpS:=Xi->Obj->Xh->Hp->VK->Prop
structure OJ (P:Program) (w:World) (K:FG) (mg:SV) (base:Heap) (k:Nat) (f:Xi) (fd:FuncData) (ps:Xf) (sp:SpS):Prop where
 len:∀e oe vs H Q,sp e oe vs H Q->vs.length=ps.length
 run:∀(A:Around) (outer:List Env) (s:Xj) (H:Hp) (args:Args) (us:Xg) (vs:Xh) (Q:VK) (e:Xi) (oe:Obj),RoomS k A->ff P w K mg base A outer s H->A.handled=some (.ref e)->s.heap.get? e=some oe->H e=none->e∉ du outer->(∀v,oe.data≠ .cell v) ->
  BindsTo s fd args (ps.zip us)->Vals vs us->sp e oe vs H Q->codeAny (model P w) A (.call (.ref f) args) (CR aL outer P w H s Q λ_ _ _=>False) s
section
def aV.okS {qual:Str}{st:Stmt}{f:Xi}{fd:FuncData}{ps:Xf}{k:Nat}{sp:SpS} (F:aV K x qual st f fd) (S:AM N ps (defScope st)) (len:∀e oe vs H Q,sp e oe vs H Q->vs.length=ps.length)
  (bh:∀(ad:Value) (A:Around) (outer:List Env) (s:Xj) (H:Hp) (vs:Xh) (Q:VK) (e:Xi) (oe:Obj),A.handled=some (.ref e)->RoomS k (A.deeper (envOfC qual (defScope st) s.heap.objs.size f ad))->sp e oe vs H Q ->
   ∃t,eN (Hw P w K mg base N qual (defScope st) f ad A outer s H e oe) (defBody st) t/\t { nx:=λ_ H'=>Q .aO H',rt:=Q } (Bs N vs) H):OJ P w K mg base (k+1) f fd ps sp:=by
 obtain⟨oc,od,kV,doc,pm,an,ad,ct,gF,rfl,lk,fm⟩:=F.ex;refine⟨len,λA outer s H args us vs Q e oe hr e0 hh he hn ho hd hb r gP=>?_⟩;have hl:=len _ _ _ _ _ gP;have KX:K.In s.heap:=e0.mod.kin.keeps λb o z=>(e0.bs b o z).1;have lim:s.heap.NoLimit:=e0.mod.nolimit.keeps λb o z=>(e0.bs b o z).1
 have hk:∀y∈ps.zip us,(defScope st).names.lookup y.1=some .local\/((defScope st).names.lookup y.1=some .cell/\((cellsFrom (s.heap.objs.size+1) (defScope st).names []).lookup y.1).isSome=true):=λ⟨n,v⟩ hy=>by
  rcases S.par n (of_mem_zip hy).1 with q |q
  ·exact .inl q
  ·exact .inr ⟨q,W.cellsFrom_some _ _ _ (.inl q)⟩
 refine codeAny_call_function (by have:=hr.dp;omega) (KX _ _ lk) rfl S.co S.gen rfl (W.codeRec_of KX fm) (hb _ _ _ _ (wpAny_newFunctionEnv_cells S.kind hk λenv ee s1 x=>?_));subst ee;refine⟨lim.keeps x.toInCall.keep,codeAny_func ?_⟩;obtain⟨t,ht,hq⟩:=bh ad A outer s H vs Q e oe hh (hr.deeper _) gP;have I:Inv (Hw P w K mg base N qual (defScope st) f ad A outer s H e oe) [] (Bs N vs) H s1:=NG S e0 hl r he hn ho hd x;refine Zv (ht [] s1 (Bs N vs) H _ I hq) (λfl s' z=>?_) λ_ _ z=>z.elim;cases fl with
 |ret u =>
  obtain⟨v,aJ,H',J,rv,q⟩:=z;exact⟨v,H',J.os,J.bare,J.base,J.aD,rv,q⟩
 |next =>
  obtain⟨aJ,H',J,q⟩:=z;exact⟨.aO,H',J.os,J.bare,J.base,J.aD,Zj,q⟩
 |brk =>
  obtain⟨_,_,_,q⟩:=z;exact q.elim
 |cont =>
  obtain⟨_,_,_,q⟩:=z;exact q.elim
def Sr {qual:Str}{scope:Scope}{f:Xi}{cd:Value}{outer:List Env}{e:Xi}{oe:Obj}{vs:Array Value} (hh:A.handled=some (.ref e)) (hd:oe.data=.fields vs) (h2:vs[2]?=some .none) :
  iX (Hw P w K mg base N qual scope f cd A outer s H e oe):=.inr ⟨e,oe,vs,hh,ZI,hd,h2⟩
end
noncomputable def del (H:Hp) (a:Xi):Hp:=λb=>if b=a then none else H b
def LX:del H a a=none:=Zp rfl
def D9 {b:Xi} (h:b≠a):del H a b=H b:=Zq h
section
variable {H1 H2:Hp}{s1 s2:Xj}{e:Xi}{dx:Option Xi}
def Qx {fs:List Xi}{oe:Obj}{vs:Array Value}{old:Xi->Prop}{h2 h':Heap} (u:Un fs [] H1 H2 h h2) (L:Hu fs e oe vs old h2 h') (at_:H2 e=some (Fe e C dx)) (hold:∀b,old b->H2 b=none/\h.get? b=none):Un fs [] H1 (del H2 e) h h':=by
 have ne:∀b,H2 b=none->b≠e:=λb n z=>by subst z;rw[at_]at n;cases n
 have nold:∀b o,h.get? b=some o->¬ old b:=λb o hb z=>by rw[(hold b z).2]at hb;cases hb
 have ne2:∀b v,H2 b=some v->(∀φ,v≠ .ext φ)->b≠e:=λb v hv hn z=>by subst z;rw[at_]at hv;cases hv;exact hn _ rfl
 refine⟨λb o q n hb _=>?_,λb o q n hb _=>?_,λb o q n _=>?_,λb o q _=>?_,λb xs q=>?_,λb o xs q=>?_,λb ps q=>?_⟩
 ·exact L.keep b o (u.keep b o q n hb (by simp)) (ne b (u.free b o q n (by simp))) (nold b o q) hb
 ·obtain⟨sl,q1⟩:=u.slot b o q n hb (by simp);obtain⟨eV,q2⟩:=L.slot b _ q1 (ne b (u.free b o q n (by simp))) (nold b o q) hb;exact⟨eV,q2⟩
 ·have z:=u.free b o q n (by simp);rw[D9 (ne b z)];exact z
 ·obtain⟨o1,q1⟩:=u.there b o q (by simp);exact L.there b o1 q1
 ·have z:=u.fh b xs q;rw[D9 (ne2 b _ z λ_ y=>nomatch y)];exact z
 ·have z:=u.fb b o xs q;rw[D9 (ne2 b _ z λ_ y=>nomatch y)];exact z
 ·obtain⟨m,z⟩:=u.eY b ps q;exact⟨m,by rw[D9 (ne2 b _ z λ_ y=>nomatch y)];exact z⟩
def Ss (ok:dv P w H2 h) (at_:H2 e=some (Fe e C dx)):dv P w (del H2 e) h:=λb u q=>by
 have hb:b≠e:=λz=>by subst z;rw[LX]at q;cases q
 rw[D9 hb]at q;have ne2:∀c v,H2 c=some v->(∀φ,v≠ .ext φ)->c≠e:=λc v hv hn z=>by subst z;rw[at_]at hv;cases hv;exact hn _ rfl
 exact(ok b u q).eB (λ_ _ _ z=>z) (λc z=>by rw[D9 (ne2 c _ z λ_ y=>nomatch y)];exact z) λc xs z=>by rw[D9 (ne2 c _ z λ_ y=>nomatch y)];exact z
structure Cgt (C:Xi) (dx:Option Xi) (e:Xi) (oe:Obj) (T:Xi) (oT:Obj):Prop where
 cls:oe.cls=.ref C
 dict:oe.dict=dx
 fld:∃vs,oe.data=.fields vs/\vs[1]?=some (.ref T)/\vs[2]?=some .none
 tb:∃ts,oT.data=.fields ts/\ts[3]?=some .none
def Ui {E':VS}{Q:Unit->Xj->Prop} (O:NA X) (I:Inv X aa σ H1 s1) (F:Fly X.prog X.w X.stack H1 s1 e C dx H2 s2)
  (h:∀s3 oe T oT,Cgt C dx e oe T oT->Inv X ((e,oe)::(T,oT)::aa) σ (del H2 e) s3->Q () s3) :
  wpAny (model X.prog X.w) X.A (noteFrame (.ref e) X.env) (λ_ s3=>wpAny (model X.prog X.w) X.A (setFlight (.ref e) none) Q E' s3) E' s2:=by
 obtain⟨B,oe,vs,T,oT,ts,a1,a2,a3,a4,a5,a6,a7,a8,a9⟩:=F;have fr:=Ex I B;have hA:=I.ok.frames;rw[O.gD]at fr hA;refine Jf hA fr O.fr a1 a2 a3 a4 a5 a6 a7 λh' L=>?_;rw[←O.gD]at L;have hold:∀b,b=T->H2 b=none/\s1.heap.get? b=none:=λb z=>by subst z;exact⟨a8,a9⟩
 have free2:∀b∈du X.stack,H2 b=none:=λb hb=>by
  obtain⟨_,o,ho,_⟩:=I.stack.mem hb;exact B.un.free b o ho (I.stkFree b hb) (by simp)
 have ok3:=LP B.aD L free2 (λb z=>(hold b z).1) a1 a2 B.at_;obtain⟨T',oT',ts',b1,b2,b3,b4,b5⟩:=L.tb;obtain⟨⟨oe',vs',c1,c2,c3,c4,c5,c6⟩,_,_⟩:=B.aD _ _ B.at_;rw[a1]at c1;cases c1;rw[a2]at c4;cases c4;have I3:Inv X aa σ (del H2 e) { s2 with heap:=h' }:=I.call' (ch:=[]) B.os (Qx B.un L B.at_ hold) (Ss ok3 B.at_) B.bare λb z=>nomatch z;have hT0:s2.heap.get? T'=none:=Heap.get?_none_of_le b1;have hTH:H2 T'=none:=B.aD.fresh b1;have hTe:T'≠e:=λz=>by subst z;rw[a1]at hT0;cases hT0
 have locs:∃o,s2.heap.get? X.env.locals=some o:=by
  obtain⟨m,⟨o,_,_,ho,_⟩,_⟩:=id I.loc;exact B.un.there _ o ho (by simp)
 have fsIn:∀b∈X.fs,∃o,s2.heap.get? b=some o:=λb hb=>by
  obtain⟨_,o,ho,_⟩:=I.dr.mem hb;exact B.un.there b o ho (by simp)
 have upfs:∀b∈X.fs,b∈du X.stack:=λb hb=>by
  rw[O.gD];unfold du;rw[ZM,O.fr];exact ZR _ hb
 refine h _ { oe with data:=.fields (vs.setIfInBounds 1 (.ref T')) } T' oT' ⟨c2,c3,⟨vs.setIfInBounds 1 (.ref T'),rfl,by simp[(Z9.mp a3).1],by rw[Array.getElem?_setIfInBounds_ne qc];exact c6⟩,⟨ts',b3,b4⟩⟩ (I3.cL λp hp=>?_);rcases mem_cons.mp hp with z |z
 ·subst z;refine⟨b5,LX,λz=>?_,λz=>?_,λv z=>by cases z⟩
  ·obtain⟨m,⟨o,_,_,ho,_⟩,_⟩:=id I.loc;have n1:=B.un.free _ _ ho I.free (by simp);rw[←z,B.at_]at n1;cases n1
  ·have n1:=free2 e (upfs e z);rw[B.at_]at n1;cases n1
 rcases mem_cons.mp z with z |z
 ·subst z;refine⟨b2,by rw[D9 hTe];exact hTH,λz=>?_,λz=>?_,λv z=>by rw[b3]at z;cases z⟩
  ·obtain⟨o,ho⟩:=locs;rw[←z,hT0]at ho;cases ho
  ·obtain⟨o,ho⟩:=fsIn _ z;rw[hT0]at ho;cases ho
 ·exact I3.pin p (ZT _ z)
end
noncomputable def Ds (K:FG) (C:Xi):Xg:=match K.lookup C with
 |some ⟨_,_,.cls cd,_⟩=>cd.mro
 |_=>[]
def LY (X:K.In h) (q:A4 K C=true):∃nm qn N bs bm bf sn sub ab col dd k0 k1 k2 k3 k5,h.get? C=some (excClassObj nm qn C N bs bm bf sn sub ab col dd k0 k1 k2 k3 k5 "ValueError.__new__")/\LR "ValueError" bm/\Ds K C=.ref C::bm:=by
 obtain⟨nm,qn,N,bs,bm,bf,sn,sub,ab,col,dd,k0,k1,k2,k3,k5,oC,T⟩:=HR X q;refine⟨nm,qn,N,bs,bm,bf,sn,sub,ab,col,dd,k0,k1,k2,k3,k5,oC,T,?_⟩;unfold A4 at q;unfold Ds;split at q
 ·rename_i gz cd sl ho;rw[ho];have e:=X _ _ ho;rw[oC]at e;have e1:=Option.some.inj e;have e3:=congrArg Obj.data e1;injection e3 with e2
  rw[←e2]
 ·cases q
section
variable {M:Model}{g:Array GenState}{d:Drawn}{t:Nat}{os:OsState}
variable {nm qn nm' qn':Str}{N D N':Xi}{bs bm bs' bm':Xg}{bf hdct':Bool}{sn sn':Xf}{sub sub':Xg}{ab ab':Bool}{col col':Option Bool}{dd gz:Option Xi}{k0 k1 k2 k3 k5 l0 l1 l2 l3 l5:Option Value}{newId newId':String}
def KN {e:Xi}{oe:Obj}{Q:Bool->Xj->Prop} (oC:h.get? C=some (excClassObj nm qn C N bs bm bf sn sub ab col dd k0 k1 k2 k3 k5 newId)) (oD:h.get? D=some (excClassObj nm' qn' D N' bs' bm' hdct' sn' sub' ab' col' gz l0 l1 l2 l3 l5 newId'))
  (he:h.get? e=some oe) (bp:oe.cls=.ref C) (bw:bm'.contains (.type "BaseException")=true) (hq:Q ((Value.ref C::bm).contains (.ref D)) ⟨h,g,d,t,os⟩):wpAny M A (excMatches (.ref e) (.ref D)) Q E ⟨h,g,d,t,os⟩:=by
 have hcB:(Value.ref D::bm').contains (.type "BaseException")=true:=by rw[contains_cons,bw,Bool.or_true]
 have f:=tc_notTuple;unfold excMatches;generalize hb:(Value.ref C::bm).contains (.ref D)=b at hq
 repeat (first | (with_reducible refine ZY he ?_;rw[bp]) |with_reducible refine ZY oD ?_ | (with_reducible refine Z4 oD ?_;rw[hcB]) | (with_reducible refine Z4 oC ?_;rw[hb]) |wp_step)
 cases b <;> (wp_walk;exact hq)
end
noncomputable def BY (X:Cx) (e:Xi) (oe:Obj) (T:Xi) (oT:Obj):Cx:={ X with A:=X.A.mark (some (.ref e)),calm:=false,pn:=X.pn++[(e,oe),(T,oT)],xe:=λ_ _=>False }
section
variable {e T:Xi}{oe oT:Obj}
def Inv.mark (I:Inv X ((e,oe)::(T,oT)::aa) σ H s):Inv (BY X e oe T oT) aa σ H s :=
 ⟨⟨I.ok.mod,I.ok.kind,I.ok.glob,I.ok.blt,I.ok.above,I.ok.inj,I.ok.has,I.ok.ji,(λz=>by cases (show false=true from z)),I.ok.frames,I.ok.gD,I.ok.exf,I.ok.bs,I.ok.gT,I.ok.gu,I.ok.gc,I.ok.dr,I.ok.iz⟩,I.os,I.bare,I.base,I.loc,I.cell,I.free,I.cG,
  λp hp=>I.pin p (by simpa[BY]using hp),I.aD,I.len⟩
def Inv.unmark (ok:X.Ok) (I:Inv (BY X e oe T oT) aa σ H s):Inv X ((e,oe)::(T,oT)::aa) σ H s :=
 ⟨ok,I.os,I.bare,I.base,I.loc,I.cell,I.free,I.cG,λp hp=>I.pin p (by simpa[BY]using hp),I.aD,I.len⟩
def Inv.less {q:LO} (I:Inv X (q++aa) σ H s):Inv X aa σ H s:=I.cL λp hp=>I.pin p (ZT _ (ZT _ hp))
def Inv.nameless {h':Heap}{m':SV}{tk:Nat} (I:Inv X aa σ H s) (hn:h'.Ns X.env.locals m') (hs:Heap.SameBut X.env.locals s.heap h'):Inv X aa (List.replicate σ.length none) H { s with heap:=h',toks:=tk }:=by
 obtain⟨m,⟨oL,_,_,iR,_⟩,_⟩:=id I.loc;refine⟨I.ok,I.os,I.bare,⟨λb o e n hb hx=>?_,λb o e n hb hx=>?_,I.base.free,λb o e hx=>?_,I.base.fh,I.base.fb,I.base.eY⟩,⟨_,hn,λj y v' e1 e2 e3=>?_⟩,λy c e=>?_,I.free,I.cG,λp hp=>?_,λb ob e=>?_,by simpa using I.len⟩
 ·exact(hs.2 b (ZC (Z2 (lt_size e) I.ok.above))).trans (I.base.keep b o e n hb hx)
 ·obtain⟨sl,e1⟩:=I.base.slot b o e n hb hx;exact⟨sl,(hs.2 b (ZC (Z2 (lt_size e) I.ok.above))).trans e1⟩
 ·obtain⟨o',e1⟩:=I.base.there b o e hx;exact⟨o',(hs.2 b (ZC (Z2 (lt_size e) I.ok.above))).trans e1⟩
 ·rw[List.getElem?_replicate]at e2;split at e2 <;> cases e2
 ·obtain⟨w',z⟩:=I.cell y c e;exact⟨w',z.sameBut hs (I.jO y c e)⟩
 ·obtain⟨e,n,ne,nf,d⟩:=I.pin p hp;exact⟨(hs.2 p.1 ne).trans e,n,ne,nf,d⟩
 ·refine(I.aD b ob e).eB (λc w' hc q=>(hs.2 c ?_).trans q) (λ_ q=>q) λ_ _ q=>q;intro z;subst z;rcases hc with z |hc
  ·rw[←z,I.free]at e;cases e
  ·rw[I.free]at hc;cases hc
end
def PH (X:Cx) (C:Xi) (dx:Option Xi) (hs:List ExceptHandler) (t:Xi->TS):Prop :=
 ∀(aa:LO) (s:Xj) (σ:St) (H:Hp) (D:DQ) (e:Xi) (oe:Obj) (T:Xi) (oT:Obj),Cgt C dx e oe T oT->Inv X ((e,oe)::(T,oT)::aa) σ H s->t e D σ H->wpAny (model X.prog X.w) X.A (handleBy (.ref e) X.env hs) (SP X aa D) X.xe s
section
variable {Dn:Xi}{dx:Option Xi}{hs:List ExceptHandler}{t:Xi->TS}{np:Pos}{name:Option Str}{body:List Stmt}
def Jg (e:Xi):Value.ref e≠byPass:=by intro q;cases q
def Jh {e T:Xi}{oe oT:Obj} (hC:A4 X.K C=true) (hD:A4 X.K Dn=true) (c:Cgt C dx e oe T oT) (I:Inv X ((e,oe)::(T,oT)::aa) σ H s) {Q:Bool->Xj->Prop}
  (h:Q ((Ds X.K C).contains (.ref Dn)) s):wpAny (model X.prog X.w) A (excMatches (.ref e) (.ref Dn)) Q E s:=by
 obtain⟨nm,qn,N,bs,bm,bf,sn,sub,ab,col,dd,k0,k1,k2,k3,k5,oC,T1,e1⟩:=LY I.cV hC;obtain⟨nm',qn',N',bs',bm',hdct',sn',sub',ab',col',gz,l0,l1,l2,l3,l5,oD,T2,e2⟩:=LY I.cV hD;have he:=(I.pin (e,oe) (by simp)).1;rw[e1]at h;obtain⟨hp,g,d,tk,os⟩:=s;exact KN oC oD he c.cls T2.base h
def CL (hC:A4 X.K C=true) (hD:A4 X.K Dn=true) (hg:Gl X x) (hm:X.mg x=some (.ref Dn)) (hs':(Ds X.K C).contains (.ref Dn)=false) (hr:PH X C dx hs t) (eM:(x==("__debug__" : Str))=false:=by decide) :
  PH X C dx (.ExceptHandler (some (.Name x np)) name body pos::hs) t:=by
 intro aa s σ H D e oe T oT c I h;refine wpAny_handleBy_cons (codeAny_handlers_test ?_) (Jg e);refine Bu (X:=BY X e oe T oT) I.mark hg hm ?_ eM;refine Jh hC hD c I ?_;rw[hs'];exact hr aa s σ H D e oe T oT c I h
def OK (i:Nat) (tb:TS):Xi->TS:=λe D σ H=>tb { nx:=λ_ _=>False,rt:=D.rt } (σ.set i (some (.ref e))) H
def OL {n:Str}{b₀:Stmt}{i:Nat}{tb:Xi->TS} (hN:X.N.Nodup) (hi:X.N[i]?=some n) (hl:X.env.scope.names.lookup n=some .local) (hC:A4 X.K C=true) (hD:A4 X.K Dn=true) (hg:Gl X x) (hm:X.mg x=some (.ref Dn)) (hs':(Ds X.K C).contains (.ref Dn)=true)
  (hb:∀e oe T oT,Cgt C dx e oe T oT->eN (BY X e oe T oT) (b₀::body) (tb e)) (eM:(x==("__debug__" : Str))=false:=by decide) :
  PH X C dx (.ExceptHandler (some (.Name x np)) (some n) (b₀::body) pos::hs) (λe=>OK i (tb e) e):=by
 intro aa s σ H D e oe T oT c I h;refine wpAny_handleBy_cons (codeAny_handlers_test ?_) (Jg e);refine Bu (X:=BY X e oe T oT) I.mark hg hm ?_ eM;refine Jh hC hD c I ?_;rw[hs'];refine codeAny_handlers_suite_as ?_;obtain⟨vs,hd,h1,h2⟩:=c.fld;obtain⟨ts,jc,h3⟩:=c.tb;have he:=(I.pin (e,oe) (by simp)).1;have hT:=(I.pin (T,oT) (by simp)).1;refine wpAny_setFlight_none he hd h1 hT jc (Z9.mp h3).1 ?_
 have I1:Inv X ((e,oe)::(T,oT)::aa) σ H { s with heap:=s.heap.update T (Obj.mapFields (·.setIfInBounds 3 .none)) }:=I.kept (t':=s.toks) λb u q=>by
  by_cases z:b=T
  ·subst z;have e1:=ZU (Obj.mapFields (·.setIfInBounds 3 Value.none)) hT (Obj.isFreed_of_fields (Obj.data_mapFields jc _));rw[Ew jc]at e1
   have e2:ts.setIfInBounds 3 Value.none=ts:=by
    obtain⟨l1,l2⟩:=Z9.mp h3;rw[Array.setIfInBounds,dif_pos l1]
    conv=>lhs;rw[←l2]
    exact Array.set_getElem_self l1
   rw[e2,←jc]at e1;rw[show s.heap.get? b=some oT from hT]at q;cases q;exact e1
  ·exact(ZW _ _ (Ne.symm z)).trans q
 refine Cb (X:=BY X e oe T oT) (v:=.ref e) I1.mark hN hi (.inl hl) rfl (λs2 I2=>?_) (.inr hl);refine Zv (hb e oe T oT c aa s2 _ H _ I2 h) (λfl s3 z=>?_) λ_ _ z=>z.elim;cases fl with
 |ret u =>
  obtain⟨v,aJ,H',J,rv,q⟩:=z;have J':=J.unmark I.ok;obtain⟨m,hn,_⟩:=id J'.loc;have bp:(X.env.scope.kind == .class||(X.env.scope.kind == .module&&X.env.locals != X.env.globals))=false:=by rw[I.ok.kind];rfl
  exact wpAny_nameGoes hl hn bp λh' m' hn' hs'=>⟨v,_,H',(J'.nameless hn' hs').less (q:=[(e,oe),(T,oT)]),rv,q⟩
 |next =>
  obtain⟨_,_,_,q⟩:=z;exact q.elim
 |brk =>
  obtain⟨_,_,_,q⟩:=z;exact q.elim
 |cont =>
  obtain⟨_,_,_,q⟩:=z;exact q.elim
end
noncomputable def Ff (X:Cx) (P0:LO) (xe:VS):Cx:={ X with pn:=X.pn++P0,xe:=xe }
section
variable {P0:LO}{xe:VS}
def Cx.Ok.tr (ok:X.Ok):(Ff X P0 xe).Ok:=⟨ok.mod,ok.kind,ok.glob,ok.blt,ok.above,ok.inj,ok.has,ok.ji,ok.hd,ok.frames,ok.gD,ok.exf,ok.bs,ok.gT,ok.gu,ok.gc,ok.dr,ok.iz⟩
def Cx.Ok.untr (ok:(Ff X P0 xe).Ok):X.Ok:=⟨ok.mod,ok.kind,ok.glob,ok.blt,ok.above,ok.inj,ok.has,ok.ji,ok.hd,ok.frames,ok.gD,ok.exf,ok.bs,ok.gT,ok.gu,ok.gc,ok.dr,ok.iz⟩
def Inv.tr (I:Inv X P0 σ H s):Inv (Ff X P0 xe) [] σ H s:=⟨I.ok.tr,I.os,I.bare,I.base,I.loc,I.cell,I.free,I.cG,λp hp=>I.pin p (by simpa[Ff]using hp),I.aD,I.len⟩
def Inv.untr (I:Inv (Ff X P0 xe) aa σ H s):Inv X P0 σ H s:=⟨I.ok.untr,I.os,I.bare,I.base,I.loc,I.cell,I.free,I.cG,λp hp=>I.pin p (by
 rcases mem_append.mp hp with z |z
 ·exact ZP _ (ZP _ z)
 ·exact ZP _ (ZT _ z)),I.aD,I.len⟩
end
def Su (n:Nat) (th:Xi->Option Xi->Xi->TS) (D:DQ):XK:=λCv dx H2=>∃C,Cv=.ref C/\∀e,H2 e=some (Fe e C dx)->th C dx e D (List.replicate n none) (del H2 e)
def XE (n:Nat) (tb:XK->TS) (th:Xi->Option Xi->Xi->TS):TS:=λD σ H=>tb (Su n th D) { D with nx:=D.nx } σ H
section
variable {body:List Stmt}{h₀:ExceptHandler}{hs:List ExceptHandler}{tb:XK->TS}{th:Xi->Option Xi->Xi->TS}{Cs:Xi->Prop}
def Uj (O:NA X) (hb:∀P0 xe E,BR (eX X.prog X.w) (Ff X P0 xe) E->eN (Ff X P0 xe) body (tb E)) (hh:∀C dx,PH X C dx (h₀::hs) (th C dx)) :
  PS X (.Try body (h₀::hs) [] [] pos) (XE X.N.length tb th):=by
 intro aa s σ H D I h;refine wpAny_Try_except ?_
 let E:XK:=Su X.N.length th D
 let xe:Value->Xj->Prop:=λev s2=>∃i6 H1 s1 ea C dx H2,ev=.ref ea/\Inv X aa i6 H1 s1/\Fly X.prog X.w X.stack H1 s1 ea C dx H2 s2/\E (.ref C) dx H2
 have hp:BR (eX X.prog X.w) (Ff X aa xe) E:=by
  rintro pins' i6 H1 s1 ev s2 I1 ⟨ea,C,dx,H2,rfl,F,q⟩;exact⟨i6,H1,s1,ea,C,dx,H2,Zj,I1.untr,F,q⟩
 have ok:=I.ok;refine Zv (hb aa xe E hp [] s σ H _ I.tr h) (λfl s1 z=>?_) λev s2 z=>?_
 ·cases fl with
  |next =>
   obtain⟨aJ,H',J,q⟩:=z;exact wpAny_execs_nil ⟨aJ,H',J.untr,q⟩
  |brk=>obtain⟨aJ,H',J,q⟩:=z;exact⟨aJ,H',J.untr,q⟩
  |cont=>obtain⟨aJ,H',J,q⟩:=z;exact⟨aJ,H',J.untr,q⟩
  |ret u=>obtain⟨v,aJ,H',J,r,q⟩:=z;exact⟨v,aJ,H',J.untr,r,q⟩
 ·obtain⟨i6,H1,s1,ea,C,dx,H2,rfl,I1,F,C',eC,q⟩:=z;cases eC;refine Ui O I1 F λs3 oe T oT c I3=>?_
  have I4:Inv X ((ea,oe)::(T,oT)::aa) (List.replicate X.N.length none) (del H2 ea) s3:=I3.weak (by rw[List.length_replicate,I3.len]) λi v z=>by
   rw[List.getElem?_replicate]at z;split at z <;> cases z
  exact hh C dx aa s3 _ _ D ea oe T oT c I4 (q ea F.1.at_)
end
structure Ey (K:FG) (C:Xi):Prop where
 ga:W.findIn K (.ref C) "__getattribute__" = some (some (.builtin "BaseException.__getattribute__"))
 gr:W.findIn K (.ref C) "__getattr__" = some none
 mb:W.mroIn K C (.type "BaseException")=some true
section
variable {prog:Program}{x:Xi}{ox:Obj}{od:Option Obj}{name:Str}{g:Array GenState}{d:Drawn}{t:Nat}{os:OsState}
def Pb {M:Model}{nameV:Value}{Q:Unit->Xj->Prop} (p:Ey K C) (X:K.In h) (I:W.InstAt h x ox C od) (hq:Q () ⟨h,g,d,t,os⟩):wpAny M A (checkBuiltinCall "BaseException.__getattribute__" ⟨[.ref x,nameV],[]⟩) Q E ⟨h,g,d,t,os⟩:=by
 have hk:builtinKind "BaseException.__getattribute__" = some .slot:=by decide +kernel
 have hsplit:splitId "BaseException.__getattribute__" = some ("BaseException", "__getattribute__"):=by decide +kernel
 have ha:=F.args_bexc_ga (.ref x) nameV;have L0:=I.type (M:=M);have L1:=W.looks_mroIn (M:=M) X p.mb;simp only[checkBuiltinCall,hk,hsplit];refine Zx ?_
 ·unfold isInstance
  repeat (first |with_reducible refine L0.at ?_ |with_reducible refine L1.at ?_ |wp_step)
  exact hq
def Pc {v:Value}{tk:Tok}{Q:Fin->Xj->Prop} (X:K.In h) (I:W.InstAt h x ox C od) (hf:W.findObj K C od name=some (.value v)) (hq:Q (.done (.ret v)) ⟨h,g,d,t,os⟩) :
  wpAny (model prog w) A (Builtin.«object.__getattribute__» ⟨[.ref x,.str name tk],[]⟩) Q E ⟨h,g,d,t,os⟩:=by
 have L0:=I.type (M:=model prog w);have L1:=W.looks_find (M:=model prog w) X I hf
 repeat (any_goals (first |assumption |with_reducible refine L0.at ?_ |with_reducible refine L1.at ?_ |wp_step))
def Pd {tk:Tok}{Q:Fin->Xj->Prop} (X:K.In h) (I:W.InstAt h x ox C od) (hf:W.findObj K C od name=some (.bind (.builtin "getset_descriptor.__get__") (.builtin "object.__class__"))) (hm:W.mroIn K C (.type "object")=some true)
  (hq:Q (.done (.ret (.ref C))) ⟨h,g,d,t,os⟩) :
  wpAny (model prog w) A (Builtin.«object.__getattribute__» ⟨[.ref x,.str name tk],[]⟩) Q E ⟨h,g,d,t,os⟩:=by
 have L0:=I.type (M:=model prog w);have L1:=W.looks_find (M:=model prog w) X I hf
 repeat (any_goals (first |assumption |with_reducible refine L0.at ?_ |with_reducible refine L1.at ?_ |wp_step))
 exact W.class_get X I hm (Zw hq)
def Qy {tk:Tok}{v:Value}{R:Result->Xj->Prop} (p:Ey K C) (X:K.In h) (I:W.InstAt h x ox C od)
  (hb:∀(A':Around) (E':VS) (Q:Fin->Xj->Prop),Q (.done (.ret v)) ⟨h,g,d,t,os⟩->wpAny (model prog w) A' (Builtin.«object.__getattribute__» ⟨[.ref x,.str name tk],[]⟩) Q E' ⟨h,g,d,t,os⟩) (hq:R (.ok (.ret v)) ⟨h,g,d,t,os⟩) :
  codeAny (model prog w) A (.call (.builtin "BaseException.__getattribute__") ⟨[.ref x,.str name tk],[]⟩) R ⟨h,g,d,t,os⟩ :=
 codeAny_call_builtin F.excAttr_ValueError.ga.plain F.entry_bexc_ga (Pb p X I (hb _ _ _ hq))
def Qz {tk:Tok}{v:Value}{fill expr:Bool}{Q:VS} (p:Ey K C) (X:K.In h) (I:W.InstAt h x ox C od) (hh:W.handedIn v=true)
  (hb:∀(A':Around) (E':VS) (Q:Fin->Xj->Prop),Q (.done (.ret v)) ⟨h,g,d,t,os⟩->wpAny (model prog w) A' (Builtin.«object.__getattribute__» ⟨[.ref x,.str name tk],[]⟩) Q E' ⟨h,g,d,t,os⟩) (hq:Q v ⟨h,g,d,t,os⟩) :
  wpAny (model prog w) A (getAttrBy (.ref x) (.str name tk) fill expr) Q E ⟨h,g,d,t,os⟩:=by
 have L0:=I.type (M:=model prog w);have L1:=W.looks_findIn (M:=model prog w) X p.ga;have L2:=W.looks_findIn (M:=model prog w) X p.gr;have f3:=F.excAttr_ValueError.ga.bind (.ref x);have hx0:(expr&&onTheHeap (Value.builtin "BaseException.__getattribute__"))=false:=by cases expr <;> rfl
 have hx2:(Value.builtin "BaseException.__getattribute__" == Value.builtin "object.__getattribute__")=false:=by decide +kernel
 have hx1:(onTheHeap (Value.ref C)&&Value.builtin "BaseException.__getattribute__" == Value.builtin "object.__getattribute__")=false:=by rw[hx2];rfl
 have ho:=W.handedOut_of hh
 repeat (any_goals (first |assumption |with_reducible refine L0.at ?_ |with_reducible refine L1.at ?_ |with_reducible refine L2.at ?_ |wp_step))
 refine Qy p X I hb ?_
 repeat (any_goals (first |assumption | (rw[ho];exact Zw hq) |wp_step))
def Q0 {v:Value}{expr:Bool}{Q:VS} (p:Ey K C) (X:K.In h) (I:W.InstAt h x ox C od) (hf:W.findObj K C od name=some (.value v)) (hh:W.handedIn v=true) (hq:Q v ⟨h,g,d,t+1,os⟩) :
  wpAny (model prog w) A (getAttr (.ref x) name expr) Q E ⟨h,g,d,t,os⟩:=by
 unfold getAttr;refine Zx (wpAny_mkText ?_);exact Qz p X I hh (λA' E' Q' z=>Pc X I hf z) hq
def LZ {Q:Option Value->Xj->Prop} (p:Ey K C) (X:K.In h) (I:W.InstAt h x ox C od) (hf:W.findObj K C od "__class__" = some (.bind (.builtin "getset_descriptor.__get__") (.builtin "object.__class__"))) (hm:W.mroIn K C (.type "object")=some true)
  (hq:Q (some (.ref C)) ⟨h,g,d,t+1,os⟩):wpAny (model prog w) A (getAttr? (.ref x) "__class__") Q E ⟨h,g,d,t,os⟩:=by
 unfold getAttr? getAttrBy?;refine Zx (wpAny_mkText (Zx (wpAny_attempt ?_)));exact Qz (v:=.ref C) p X I Zj (λA' E' Q' z=>Pd X I hf hm z) (Zw hq)
end
def JE {name:Str}{od:Option Obj}{a g:Value} (hc:(W.clsIn K C).isSome=true) (ha:W.findIn K (.ref C) name=some (some a)) (hg:W.specialIn K a "__get__" = some (some g)) (ht:W.takesIn K a=some true):W.findObj K C od name=some (.bind g a):=by
 obtain⟨cd,hc⟩:=Option.isSome_iff_exists.mp hc;unfold W.findObj;rw[hc,Option.bind_some,ha,Option.bind_some];simp[hg,ht]
structure Sv (K:FG) (C:Xi):Prop where
 hg:Ey K C
 hc:(W.clsIn K C).isSome=true
 ha:W.findIn K (.ref C) "__class__" = some (some (.builtin "object.__class__"))
 hn:W.specialIn K (.builtin "object.__class__") "__get__" = some (some (.builtin "getset_descriptor.__get__"))
 htk:W.takesIn K (.builtin "object.__class__")=some true
 hm:W.mroIn K C (.type "object")=some true
def Q3 {x D:Xi}{ox:Obj}{od:Option Obj} (k:Sv K D):W.KitX K (.ref x) (.ref D) (λh=>W.InstAt h x ox D od) where
 ty:=λ_ _ _ I=>I.type
 it:=λ_ _ X _=>by
  have jd:=k.hc;unfold W.clsIn at jd;split at jd
  ·rename_i c' d' cd' sl' ho;intro A' Q' E' s' k q;unfold isType loadHead;exact Zx (wpAny_loadPart (k _ _ (X _ _ ho)) (Zw q))
  ·cases jd
 ne:=λh tp dd its n sl X gX=>by
  have jd:=k.hc;refine Bool.eq_false_iff.mpr λq=>?_;have e:D=tp:=Value.ref.inj (beq_iff_eq.mp q);subst e;unfold W.clsIn at jd;split at jd
  ·rename_i c' d' cd' sl' ho;have z:=(X _ _ ho).symm.trans gX;cases z
  ·cases jd
 ca:=λ{prog w A E Q s} X I h=>by
  obtain⟨hh,g,d,t,os⟩:=s;exact LZ k.hg X I (JE k.hc k.ha k.hn k.htk) k.hm h
structure ExcP (X:Cx) (e:Xi) (oe:Obj) (C:Xi):Prop where
 at_:(e,oe)∈X.pn
 cls:oe.cls=.ref C
 fld:∃vs,oe.data=.fields vs
section
variable {e:Xi}{oe:Obj}
def ExcP.inst (p:ExcP X e oe C) (I:Inv X aa σ H s) (hd:oe.dict=none\/∃d u,oe.dict=some d/\H d=some u):∃od,W.InstAt s.heap e oe C od:=by
 have he:=(I.pin (e,oe) (ZP _ p.at_)).1;obtain⟨vs,hv⟩:=p.fld;have no:W.notCls oe=true:=by unfold W.notCls;rw[hv]
 rcases hd with z |⟨d,u,z,hu⟩
 ·exact⟨none,he,p.cls,no,by rw[z];trivial⟩
 ·have hlt:=(I.aD d u hu).lt
  have:∃o,s.heap.get? d=some o:=by
   have q:=(I.aD d u hu);cases u with
   |lst xs=>obtain⟨_,_,_,_,e⟩:=q;exact⟨_,e⟩
   |tup xs=>obtain⟨_,_,_,o,e,_⟩:=q;exact⟨o,e⟩
   |dK kvs=>obtain⟨_,_,_,_,o,_,_,e,_⟩:=q;exact⟨o,e⟩
   |dT kvs=>obtain⟨_,_,_,_,o,_,_,e,_⟩:=q;exact⟨o,e⟩
   |set S n=>obtain⟨o,_,_,_,e,_⟩:=q;exact⟨o,e⟩
   |ins C dx fs=>obtain⟨_,_,_,e,_⟩:=q;exact⟨_,e⟩
   |own y=>exact q
   |xd fs=>obtain⟨_,⟨o,_,_,e,_⟩,_⟩:=q;exact⟨o,e⟩
   |rng lo hi=>obtain⟨_,_,_,e⟩:=q;exact⟨_,e⟩
   |bG ob u=>exact⟨_,q.1⟩
   |fj ps=>exact⟨_,(show s.heap.get? d=some _ from q)⟩
   |met f y=>exact⟨_,(show s.heap.get? d=some _ from q)⟩
   |ext φ=>exact q.2.1
  obtain⟨o,ho⟩:=this;exact⟨some o,he,p.cls,no,by rw[z];exact ho⟩
def Ji (p:ExcP X e oe C) (k:Sv X.K C):aS X (.builtin "isinstance") (λxs H Q=>∃v c b,xs=[.ref e,v]/\((∃D,v=.ref D/\c=.ref D)\/∃T,v=.ty T/\c=.type T)/\(oe.dict=none\/∃d u,oe.dict=some d/\H d=some u)/\W.kitOne X.K (.ref C) c=some b/\Q (.bl b) H):=by
 intro aa s σ H xs us Q I r h;obtain⟨v,c,b,rfl,hv,hd,hk,q⟩:=h;obtain⟨u,uT,rfl,ru,jV⟩:=Hf r;cases (show u=Value.ref e from ru);obtain⟨od,J⟩:=p.inst I hd
 have hc:uT=c:=by
  rcases hv with⟨D,rfl,rfl⟩ |⟨T,rfl,rfl⟩
  ·exact jV
  ·exact jV
 subst hc;exact W.kia_one (Q3 k) I.cV J hk (λz=>nomatch z) λtk=>⟨.bl b,H,I.tok tk,rfl,q⟩
end
section
variable {k:Nat}{f e:Xi}{oe:Obj}{fd:FuncData}{ps:Xf}{sp:SpS}{p:Pos}{a:Expr}{es:List Expr}{t:TA}
def KP (sp:SpS) (e:Xi) (oe:Obj) (t:TA):TE:=λσ H Q=>t σ H λvs H1=>sp e oe vs H1 Q
def La (F:OJ X.prog X.w X.K X.mg X.base k f fd ps sp) (hr:RoomS k X.A) (hh:X.A.handled=some (.ref e)) (at_:(e,oe)∈X.pn) (hg:Gl X x) (hm:X.mg x=some (.ref f)) (hk:W.keepIn X.K (.ref f)=true) (hb:Binds X.K fd ps [])
  (ha:PA X (a::es) t) (eM:(x==("__debug__" : Str))=false:=by decide) (he:starEach (a::es) X.env=(false,eval a X.env)::starEach es X.env:=by rfl) (eQ:(backTo pos (starEach es X.env)).any (·.1)=false:=by rfl) :
  PE X (.Call (.Name x p) (a::es) [] pos) (KP sp e oe t):=by
 intro aa s σ H Q I h;refine Z3 (Bu I hg hm ?_ eM);refine W.callWith_K (h₀:=X.base) I.ok.mod.kin hk (aG (ha pos aa s σ H _ I h) λus s1 ⟨vs,H1,I1,r,q⟩=>⟨I1.cV,?_⟩) he eQ;obtain⟨e1,e2,e3,e4,e5⟩:=I1.pin (e,oe) (ZP _ at_);have hl:(us++[]).length=ps.length:=by rw[Zt,←r.length];exact F.len _ _ _ _ _ q
 have bb:=hb s1 us I1.cV hl;rw[Zt]at bb;refine wpAny_call (codeAny_mono (F.run X.A X.stack s1 H1 ⟨us,[]⟩ us vs Q e oe hr I1.env0 hh e1 e2 (λz=>(mem_cons.mp (I1.d9 e z)).elim e3 e4) e5 bb r q) λr s' hq=>?_);cases r with
 |error e=>exact False.elim hq
 |ok fl =>
  cases fl with
  |ret u=>exact I1.after hq
  |next=>exact False.elim hq
  |brk=>exact False.elim hq
  |cont=>exact False.elim hq
end
def Q4 (a b:Bool):MeetsSeq.EqGives (.bool a) (.bool b) (a==b):=λprog w A E s Q h=>SeqAt.EqAt.bool_bool a b prog w E Q h
def Jj:∀ {bs:List Bool}{us:Xg},Vals (bs.map V.bl) us->us=bs.map Value.bool
 | [],_,.nil=>rfl
 |_::_,_,.cons r t=>by rw[map_cons,←Jj t];cases r;rfl
def Sw:V->Xh->Hp->VK->Prop:=λx vs H Q=>∃(l:Xi) (bs:List Bool) (j:Nat),x=.ref l/\vs=[.bl true]/\H l=some (.lst (bs.map V.bl))/\bs[j]?=some true/\(∀m,m<j->bs[m]?=some false)/\Q (.int (j:Nat)) H
section
def Pe:MtM X "list.index" Sw:=by
 intro aa s σ H x vs v us Q I rx rv h;obtain⟨l,bs,j,rfl,rfl,hH,hj,hno,q⟩:=h;cases rx;obtain⟨u,rfl,ru⟩:=rv.one;obtain rfl:u=Value.bool true:=ru;obtain⟨z,its,n,r,hl,e⟩:=I.lstM hH;have ei:=Jj r;subst ei;have hjs:j<bs.length:=(Z8.mp hj).1
 have hz:(j:Int)<2 ^ 63 - 1:=by
  have hs:sizeLine<2 ^ 62:=by decide
  rw[AK]at z;omega
 refine call_meets F.slot_list_index ⟨_,e,Zj⟩ F.entry_list_index (F.args_list_index_2 _ _)
  (MeetsSeq.list_index l (bs.map Value.bool).toArray n (.bool true) (λy=>match y with | .bool a=>a==true |_=>false) (λy hy=>?_) j (by simpa using hjs) hz ?_ λm hm hlt=>?_) ⟨e,?_⟩
 ·obtain⟨a,_,rfl⟩:=Zr.mp (List.mem_toArray.mp hy);exact Q4 a true
 ·have:=(Z8.mp hj).2;simp[this]
 ·have:=(Z8.mp (hno m hlt)).2;simp[this]
 ·exact⟨.int (j:Nat),H,I.tok _,⟨_,Zj⟩,q⟩
end
noncomputable def jQ (f:Xi) (o:Obj):HO:=.ext λh=>h.get? f=some o
noncomputable def Fg (c:Xi) (qual:Str):HO:=.ext λh=>h.CodeRec (.ref c) qual
noncomputable def Ek (P:Program) (w:World) (K:FG) (mg:SV) (base:Heap) (N:Xf) (qual:Str) (scope:Scope) (f:Xi) (cd:Value) (cl:List (Str×Xi)) (A:Around) (outer:List Env) (s:Xj) (H:Hp) (E:XK):Cx where
 prog:=P
 w:=w
 K:=K
 mg:=mg
 base:=base
 A:=A.deeper (W.envX qual scope s.heap.objs.size f cd cl)
 N:=N
 aY:=s
 fc:=H
 env:=W.envX qual scope s.heap.objs.size f cd cl
 outer:=outer
 stack:=W.envX qual scope s.heap.objs.size f cd cl::outer
 ex:=[]
 calm:=true
 fn:=λ_=>false
 pn:=[]
 xe:=λe s'=>wpAny (model P w) (A.deeper (W.envX qual scope s.heap.objs.size f cd cl)) (leaving (W.envX qual scope s.heap.objs.size f cd cl) e) (λ_ jA=>eX P w outer H s E e jA) (λe' jA=>eX P w outer H s E e' jA) s'
structure Hy (N:Xf) (scope:Scope) (cl:List (Str×Xi)) (σ:St) (H:Hp) (h:Heap):Prop where
 inj:∀x y c,cl.lookup x=some c->cl.lookup y=some c->x=y
 has:∀x,(scope.names.lookup x=some .cell\/scope.names.lookup x=some .free)->∃c,cl.lookup x=some c
 cell:∀x c,cl.lookup x=some c->(∃v,h.IsCell c v)/\H c=none
 val:∀(i:Nat) x v,N[i]?=some x->σ[i]?=some (some v)->scope.names.lookup x=some .free/\∃u c,RelV v u/\cl.lookup x=some c/\h.IsCell c (some u)
 len:σ.length=N.length
section
variable {qual name:Str}{scope:Scope}{f c':Xi}{cd:Value}{cl:List (Str×Xi)}{outer:List Env}{E:XK}
def XG:NA (Ek P w K mg base N qual scope f cd cl A outer s H E):=⟨rfl,rfl,rfl⟩
def Lb:BR (eX P w) (Ek P w K mg base N qual scope f cd cl A outer s H E) E:=by
 rintro aa σ H1 s1 e s2 I ⟨ea,C,dx,H2,rfl,F,q⟩;exact Zv (Hv (X:=Ek P w K mg base N qual scope f cd cl A outer s H E) XG I F) (λ_ s3 G=>⟨ea,C,dx,H2,Zj,G,q⟩) λ_ _ z=>z
def NH {h1:Heap}{m0:SV}{tk:Nat} (hk0:scope.kind=.function) (hd:A.handled=none) (e0:ff P w K mg base A outer s H) (C:Hy N scope cl σ H s.heap) (kb:h1.Ns s.heap.objs.size m0) (hk:∀b o,s.heap.get? b=some o->h1.get? b=some o) :
  Inv (Ek P w K mg base N qual scope f cd cl A outer s H E) [] σ H { s with heap:=h1,toks:=tk }:=by
 have jD:∀b:Xi,b∉ (Ek P w K mg base N qual scope f cd cl A outer s H E).ex:=λb z=>absurd (show b∈([]:List Xi)from z) (by simp);have cellK:∀ {c:Xi}{v:Option Value},s.heap.IsCell c v->h1.IsCell c v:=λ{c v} ⟨o,ho,hd⟩=>⟨o,hk _ _ ho,hd⟩
 refine⟨⟨e0.mod,hk0,Zj,Zj,Zy _,C.inj,C.has,λy c z _=>(by cases (show false=true from z)),λ_=>hd,Around.frames_deeper e0.frames,.inr ⟨Zj,Zj⟩,λb z=>absurd z (jD b),e0.bs,e0.gT,λb _ _=>jD b,λb z=>absurd z (jD b),e0.dr,e0.iz⟩,
  rfl,e0.bare,Un.kept hk,⟨m0,kb,λi x v h1 h2 h3=>?_⟩,λy c h=>?_,e0.aD.fresh (Zy _),λy c h=>(C.cell y c h).2,λp hp=>absurd (show p∈([]:LO)from hp) (by simp),e0.aD.kept hk,C.len⟩
 ·obtain⟨k,u,c,r,e,z⟩:=C.val i x v h1 h2;exact⟨u,r,.inr ⟨.inr k,c,e,cellK z⟩⟩
 ·obtain⟨⟨v,z⟩,_⟩:=C.cell y c h;exact⟨v,cellK z⟩
def Q5 {k:Nat}{params:Arguments}{body:Expr}{pm eF:Value}{Q:VK}{tb:TE} (hr:aE k A) (e0:ff P w K mg base A outer s H) (C:Hy N scope cl σ H s.heap)
  (ho:s.heap.get? f=some (W.kla_obj name qual params body scope cl pm c' eF)) (fm:s.heap.CodeRec (.ref c') qual) (bx:bindArgs (W.kla_fn name qual params body scope cl pm (.ref c') eF) ⟨[],[]⟩=pure [])
  (hco:scope.isCoroutine=false) (cc:scope.isGenerator=false) (hk:scope.kind=.function) (bo:∀x∈scope.names,x.2≠ .cell)
  (hb:PE (Ek P w K mg base N qual scope f (.ref c') cl A outer s H E) body tb) (h:tb σ H Q):codeAny (model P w) A (.call (.ref f) ⟨[],[]⟩) (CR (eX P w) outer P w H s Q E) s:=by
 have lim:s.heap.NoLimit:=e0.mod.nolimit.keeps λb o e=>(e0.bs b o e).1;refine W.kla_callFunE hr.depth ho rfl hco cc rfl fm ?_;rw[bx];refine Zw (wpAny_newFunctionEnv bo (λy hy=>nomatch hy) (λeO kb hsb=>⟨lim.fresh _ hsb,?_⟩) hk);show codeAny _ _ (.expr body (W.envX qual scope s.heap.objs.size f (.ref c') cl)) _ _;have hk₁:∀b o,s.heap.get? b=some o->eO.get? b=some o:=λb o e=>hsb.extBut b o (ZC (lt_size e)) (ZX _ e);have I:Inv (Ek P w K mg base N qual scope f (.ref c') cl A outer s H E) [] σ H _:=NH (tk:=s.toks+([]:List (Str×Value)).length) hk hr.hd e0 C kb hk₁;exact W.kla_codeExpr (Zv (hb [] _ σ H Q I h) (λv s' ⟨x,H',J,rv,q⟩=>⟨x,H',J.os,J.bare,J.base,J.aD,rv,q⟩) λe s' z=>z)
end
section
def Inv.cells {scope:Scope}{cl:List (Str×Xi)}{i0:St} (I:Inv X aa σ H s) (C:Hy N scope cl i0 X.fc X.aY.heap) (iw:∀x c,cl.lookup x=some c->c∉ X.fs) (hex:X.ex=[]):Hy N scope cl i0 H s.heap:=by
 have kp:∀x c v,cl.lookup x=some c->X.aY.heap.IsCell c v->s.heap.IsCell c v:=λx c v e ⟨o,ho,hd⟩=>⟨o,I.base.keep c o ho (C.cell x c e).2 (iw x c e) (by rw[hex];simp),hd⟩;refine⟨C.inj,C.has,λx c e=>?_,λi x v h1 h2=>?_,C.len⟩
 ·obtain⟨⟨v,z⟩,n⟩:=C.cell x c e;obtain⟨o,ho,_⟩:=id z;exact⟨⟨v,kp x c v e z⟩,I.base.free c o ho n (by rw[hex];simp)⟩
 ·obtain⟨k,u,c,r,e,z⟩:=C.val i x v h1 h2;exact⟨k,u,c,r,e,kp x c _ e z⟩
def Lc (i:Nat) (f c':Xi) (qual:Str) (o:Obj) (i0:St) (tb:TE):TE:=λσ H Q=>σ[i]?=some (some (.ref f))/\H f=some (jQ f o)/\H c'=some (Fg c' qual)/\tb i0 H Q
def NI {i k:Nat}{name qual:Str}{p:Pos}{Nl:Xf}{scope:Scope}{cl:List (Str×Xi)}{i0:St}{f c':Xi}{params:Arguments}{body:Expr}{pm eF:Value}{tb:TE}{E:XK}
  (hN:X.N[i]?=some x) (hv:Vis X.env.scope x) (hr:aE k X.A) (C:Hy Nl scope cl i0 X.fc X.aY.heap) (iw:∀x c,cl.lookup x=some c->c∉ X.fs) (hex:X.ex=[]) (hx:BR (eX X.prog X.w) X E)
  (bx:bindArgs (W.kla_fn name qual params body scope cl pm (.ref c') eF) ⟨[],[]⟩=pure [])
  (hco:scope.isCoroutine=false) (cc:scope.isGenerator=false) (hk:scope.kind=.function) (bo:∀x∈scope.names,x.2≠ .cell)
  (hb:∀s H,PE (Ek X.prog X.w X.K X.mg X.base Nl qual scope f (.ref c') cl X.A X.stack s H E) body tb) (hd:(x==("__debug__" : Str))=false:=by decide) (fm:(x==("__classdict__" : Str))=false:=by decide) :
  PE X (.Call (.Name x p) [] [] pos) (Lc i f c' qual (W.kla_obj name qual params body scope cl pm c' eF) i0 tb):=by
 intro aa s σ H Q I h;obtain⟨h1,h2,h3,h4⟩:=h;refine Z3 (aG (QK hN hv hd fm aa s σ H (λv H'=>v=.ref f/\H'=H) I ⟨_,h1,rfl,rfl⟩) λu s1 ⟨v,H1,I1,r,ev,eH⟩=>?_);subst ev eH;obtain rfl:u=Value.ref f:=r;obtain⟨ho,_,_⟩:=I1.aD _ _ h2;obtain⟨hc,_,_⟩:=I1.aD _ _ h3;refine callWith_meth0 rfl ho (wpAny_call (codeAny_mono (Q5 hr I1.env0 (I1.cells C iw hex) ho hc bx hco cc hk bo (hb s1 H1) h4) λr s' hq=>?_));cases r with
 |error e=>exact hx aa σ H1 s1 e s' I1 hq
 |ok fl =>
  cases fl with
  |ret u=>exact I1.after hq
  |next=>exact False.elim hq
  |brk=>exact False.elim hq
  |cont=>exact False.elim hq
end
section
variable {CX:gN}
def aV.at {qual:Str}{st:Stmt}{f:Xi}{fd:FuncData}{ps:Xf}{k:Nat}{outer:List Env}{args:Args}{vs:Xh}{Q:VK}{E:XK} (F:aV K x qual st f fd) (S:AM N ps (defScope st)) (hl:vs.length=ps.length)
  (hr:aE (k+1) A) (e0:ff P w K mg base A outer s H) (hb:BindsTo s fd args (ps.zip us)) (r:Vals vs us)
  (bh:∀ad,aE k (A.deeper (envOfC qual (defScope st) s.heap.objs.size f ad))->∃t,eN (BB CX P w K mg base N qual (defScope st) f ad A outer s H E) (defBody st) t/\t { nx:=λ_ H'=>Q .aO H',rt:=Q } (Bs N vs) H) :
  codeAny (model P w) A (.call (.ref f) args) (CR CX outer P w H s Q E) s:=by
 obtain⟨oc,od,kV,doc,pm,an,ad,ct,gF,rfl,lk,fm⟩:=F.ex;have KX:K.In s.heap:=e0.mod.kin.keeps λb o z=>(e0.bs b o z).1;have lim:s.heap.NoLimit:=e0.mod.nolimit.keeps λb o z=>(e0.bs b o z).1
 have hk:∀y∈ps.zip us,(defScope st).names.lookup y.1=some .local\/((defScope st).names.lookup y.1=some .cell/\((cellsFrom (s.heap.objs.size+1) (defScope st).names []).lookup y.1).isSome=true):=λ⟨n,v⟩ hy=>by
  rcases S.par n (of_mem_zip hy).1 with q |q
  ·exact .inl q
  ·exact .inr ⟨q,W.cellsFrom_some _ _ _ (.inl q)⟩
 refine codeAny_call_function hr.depth (KX _ _ lk) rfl S.co S.gen rfl (W.codeRec_of KX fm) (hb _ _ _ _ (wpAny_newFunctionEnv_cells S.kind hk λenv ee s1 x=>?_));subst ee;refine⟨lim.keeps x.toInCall.keep,codeAny_func ?_⟩;obtain⟨t,ht,hq⟩:=bh ad (hr.deeper _);have I:Inv (BB CX P w K mg base N qual (defScope st) f ad A outer s H E) [] (Bs N vs) H s1:=Ga S hr.hd e0 hl r x;refine Zv (ht [] s1 (Bs N vs) H _ I hq) (λfl s' z=>?_) λ_ _ z=>z;cases fl with
 |ret u =>
  obtain⟨v,aJ,H',J,rv,q⟩:=z;exact⟨v,H',J.os,J.bare,J.base,J.aD,rv,q⟩
 |next =>
  obtain⟨aJ,H',J,q⟩:=z;exact⟨.aO,H',J.os,J.bare,J.base,J.aD,Zj,q⟩
 |brk =>
  obtain⟨_,_,_,q⟩:=z;exact q.elim
 |cont =>
  obtain⟨_,_,_,q⟩:=z;exact q.elim
end
def HG {q:Pos}{c:Value} (a0:(q.line==pos.line&&q.col==pos.col)=false) (l:Xg) (h:TriplesOk l):codeAmong q (l++[rawInt pos.line,rawInt pos.col,c])=codeAmong q l:=by
 fun_induction TriplesOk l with
 |case1 =>
  have:((pos.line:Int)==(q.line:Int)&&(pos.col:Int)==(q.col:Int))=false:=by
   rw[Bool.and_eq_false_iff]at a0 ⊢;rcases a0 with z |z
   ·left;rw[beq_eq_false_iff_ne]at z ⊢;omega
   ·right;rw[beq_eq_false_iff_ne]at z ⊢;omega
  simp[codeAmong,rawInt,this]
 |case2 a t b u x rest ih =>
  simp only[List.cons_append,codeAmong];split
  ·rfl
  ·exact ih h
 |case3 l h1 h2=>exact h.elim
def aW (H:Hp) (P0:Xi) (qual:Str) (ls:List Pos):Prop:=∃ps,H P0=some (.fj ps)/\TriplesOk ps.toList/\∀q∈ls,codeAmong q ps.toList=none\/∃c',codeAmong q ps.toList=some (.ref c')/\H c'=some (Fg c' qual)
def Jk (P0:Xi) (H H':Hp):Prop:=∀b u,b≠P0->H b=some u->H' b=some u
structure Sx (X:Cx) (c P0:Xi):Prop where
 code:X.env.code=.ref c
 hd:W.CodeHd X.base c P0
 bu:X.base.BuiltinsAt X.mg P0
section
variable {c P0:Xi}{ls:List Pos}{cQ:Pos}
def V0 (P0:Xi) (qual:Str) (ls:List Pos) (o:Xi->Value->Obj):TE:=λσ H Q=>aW H P0 qual ls/\∀f c' eF H',H f=none->Jk P0 H H'->aW H' P0 qual ls->H' f=some (jQ f (o c' eF))->H' c'=some (Fg c' qual)->Q (.ref f) H'
def Sy {c':Xi}{qual:Str} (r:h.CodeRec (.ref c') qual):aP P w H h c' (Fg c' qual):=by
 obtain⟨c1,oc,vs,t,e,ho,hd,hq⟩:=id r;cases e;exact⟨r,⟨_,ho⟩,λh1 h2 ⟨c2,o2,v2,t2,e2,a,b⟩ k=>by cases e2;exact⟨_,o2,v2,t2,Zj,k _ a,b⟩⟩
def Tz {f:Xi}{o:Obj} (r:h.get? f=some o):aP P w H h f (jQ f o):=⟨r,⟨_,r⟩,λh1 h2 a k=>k _ a⟩
def Uk {params:Arguments}{body:Expr}{scope:Scope}{bZ:List (Str×Xi)} (L:Sx X c P0) (hm:cQ∈ls) (a0:∀q∈ls,q=cQ\/(q.line==cQ.line&&q.col==cQ.col)=false)
  (af:closureFor scope X.env=pure bZ) (di:defaultsOf params X.env=([],[])) :
  PE X (.Lambda params body scope cQ) (V0 P0 (X.env.qual ++ "<lambda>") ls (λc' eF=>W.kla_obj "<lambda>" (X.env.qual ++ "<lambda>") params body scope bZ ((X.mg "__name__").getD .none) c' eF)):=by
 intro aa s σ H Q I h;obtain⟨⟨ps,hP,ht,hls⟩,k⟩:=h;have bk:∀b o,X.base.get? b=some o->s.heap.get? b=some o:=λb o e=>(I.bs b o e).1;have hPg:s.heap.get? P0=some (W.tabObj ps):=I.aD _ _ hP;have hgs:s.heap.Ns mainGlobals X.mg:=I.ok.mod.glob.keeps bk
 have hgP:mainGlobals≠P0:=λq=>by
  obtain⟨o,es,ep,e,_⟩:=I.ok.mod.glob;have n:=(I.bs _ _ e).2;rw[q,hP]at n;cases n
 have C:=L.hd.keeps bk
 have B:s.heap.BuiltinsAt X.mg P0:=by
  obtain⟨bm,o,a1,a2,a3,a4,a5,a6⟩:=L.bu;exact⟨bm,o,a1,a2,a3,a4,bk _ _ a5,a6⟩
 refine W.kla_eval di ?_;rcases hls cQ hm with hn |⟨c',hf,iM⟩
 ·refine W.kla_makeFunction (mg:=X.mg) af I.ok.glob hgs L.code C hPg ht hn hgP B λc' eF h' tk hx hge hlt hrec ax=>?_;have kp:∀b o,b≠P0->s.heap.get? b=some o->(h'.push (W.kla_obj "<lambda>" (X.env.qual ++ "<lambda>") params body scope bZ ((X.mg "__name__").getD .none) c' eF)).get? b=some o:=λb o n e=>ZX _ (hx b o n e);have lt:∀b u,H b=some u->b<s.heap.objs.size:=λb u e=>I.aD.lt e;have iw:s.heap.objs.size<=h'.objs.size:=Nat.le_trans hge (Nat.le_of_lt hlt);have hPl:P0<s.heap.objs.size:=lt _ _ hP;have hcP:c'≠P0:=λz=>by rw[z]at hge;exact absurd hPl (Nat.not_lt_of_le hge)
  have hfP:h'.objs.size≠P0:=λz=>by rw[z]at iw;exact absurd hPl (Nat.not_lt_of_le iw)
  have hcf:c'≠h'.objs.size:=ZC hlt;generalize cn:upd (upd (upd H P0 (.fj (ps++#[rawInt cQ.line,rawInt cQ.col,.ref c']))) c' (Fg c' (X.env.qual ++ "<lambda>"))) h'.objs.size (jQ h'.objs.size (W.kla_obj "<lambda>" (X.env.qual ++ "<lambda>") params body scope bZ ((X.mg "__name__").getD .none) c' eF))=H'
  have gM:∀b,b<s.heap.objs.size->b≠P0->H' b=H b:=λb hb n=>by
   rw[←cn,AF (ZC (Z2 hb iw)),AF (ZC (Z2 hb hge)),AF n]
  have atP:H' P0=some (.fj (ps++#[rawInt cQ.line,rawInt cQ.col,.ref c'])):=by rw[←cn,AF (Ne.symm hfP),AF (Ne.symm hcP),AB]
  have atc:H' c'=some (Fg c' (X.env.qual ++ "<lambda>")):=by rw[←cn,AF hcf,AB]
  have atf:H' h'.objs.size=some (jQ h'.objs.size (W.kla_obj "<lambda>" (X.env.qual ++ "<lambda>") params body scope bZ ((X.mg "__name__").getD .none) c' eF)):=by rw[←cn,AB]
  have ntbl:∀b u,H b=some u->(∀qs,u≠ .fj qs)->b≠P0:=λb u e n z=>by subst z;rw[hP]at e;cases e;exact n _ rfl
  have un:Un X.fs [] H H' s.heap (h'.push (W.kla_obj "<lambda>" (X.env.qual ++ "<lambda>") params body scope bZ ((X.mg "__name__").getD .none) c' eF)):=by
   have nP:∀b,H b=none->b≠P0:=λb n z=>by subst z;rw[hP]at n;cases n
   refine⟨λb o q n _ _=>kp b o (nP b n) q,λb o q n _ _=>⟨o.slots,kp b o (nP b n) q⟩,λb o q n _=>by rw[gM b (lt_size q) (nP b n)];exact n,λb o q _=>?_,λb xs e=>?_,λb o u e=>?_,λb qs e=>?_⟩
   ·by_cases z:b=P0
    ·subst z;exact⟨_,ZX _ ax⟩
    ·exact⟨o,kp b o z q⟩
   ·rw[gM b (lt _ _ e) (ntbl b _ e λ_ y=>nomatch y)];exact e
   ·rw[gM b (lt _ _ e) (ntbl b _ e λ_ y=>nomatch y)];exact e
   ·by_cases z:b=P0
    ·subst z;rw[hP]at e;cases e;exact⟨_,atP⟩
    ·exact⟨#[],by rw[gM b (lt _ _ e) z,e];simp⟩
  have aD:dv X.prog X.w H' (h'.push (W.kla_obj "<lambda>" (X.env.qual ++ "<lambda>") params body scope bZ ((X.mg "__name__").getD .none) c' eF)):=λb u e=>by
   by_cases z1:b=h'.objs.size
   ·subst z1;rw[atf]at e;cases e;exact Tz (ZN _ Zj)
   by_cases z2:b=c'
   ·subst z2;rw[atc]at e;cases e;obtain⟨c1,oc,vs,t,ec,ho,hd⟩:=hrec;exact Sy ⟨c1,oc,vs,t,ec,ZX _ ho,hd⟩
   by_cases z3:b=P0
   ·subst z3;rw[atP]at e;cases e;exact ZX _ ax
   ·have e':H b=some u:=by rw[←cn,AF z1,AF z2,AF z3]at e;exact e
    refine(I.aD b u e').eB (λb2 o hb q=>kp b2 o ?_ q) (λb2 q=>?_) λb2 xs q=>?_
    ·rcases hb with z |z
     ·rw[z];exact z3
     ·exact ntbl b2 _ z λ_ y=>nomatch y
    ·rw[gM b2 (lt _ _ q) (ntbl b2 _ q λ_ y=>nomatch y)];exact q
    ·rw[gM b2 (lt _ _ q) (ntbl b2 _ q λ_ y=>nomatch y)];exact q
  have I':=I.un (t':=tk) un aD;refine⟨.ref h'.objs.size,H',I',Zj,k _ c' eF H' (I.aD.fresh iw) (λb u n e=>by rw[gM b (lt _ _ e) n];exact e) ⟨_,atP,?_,λq hq=>?_⟩ atf atc⟩
  ·rw[Array.toList_append];exact TriplesOk_snoc _ _ _ _ ht
  ·rw[Array.toList_append];rcases a0 q hq with z |z
   ·subst z;exact .inr ⟨c',codeAmong_snoc _ ht hn,atc⟩
   ·show codeAmong q (ps.toList++[rawInt cQ.line,rawInt cQ.col,.ref c'])=none\/_;rw[HG z _ ht];rcases hls q hq with y |⟨c2,y1,y2⟩
    ·exact .inl y
    ·exact .inr ⟨c2,y1,by rw[gM c2 (lt _ _ y2) (ntbl c2 _ y2 λ_ y=>nomatch y)];exact y2⟩
 ·refine W.kla_makeFunctionHit (mg:=X.mg) af I.ok.glob hgs L.code C hPg ht hf B λeF h' tk hk hsz=>?_;have I':=I.laid (t':=tk) (a:=h'.objs.size) (o:=jQ h'.objs.size (W.kla_obj "<lambda>" (X.env.qual ++ "<lambda>") params body scope bZ ((X.mg "__name__").getD .none) c' eF)) (λb o e=>ZX _ (hk b o e)) hsz (Tz (ZN _ rfl));have fr:H h'.objs.size=none:=I.aD.fresh hsz
  have sm:∀b u,H b=some u->upd H h'.objs.size (jQ h'.objs.size (W.kla_obj "<lambda>" (X.env.qual ++ "<lambda>") params body scope bZ ((X.mg "__name__").getD .none) c' eF)) b=some u:=λb u e=>by
   rw[AF (AI e fr)];exact e
  refine⟨.ref h'.objs.size,_,I',rfl,k _ c' eF _ fr (λb u _ e=>sm b u e) ⟨ps,sm _ _ hP,ht,λq hq=>?_⟩ AB (sm _ _ iM)⟩;rcases hls q hq with y |⟨c2,y1,y2⟩
  ·exact .inl y
  ·exact .inr ⟨c2,y1,sm _ _ y2⟩
end
section
def aV.okX {qual:Str}{st:Stmt}{f:Xi}{fd:FuncData}{ps:Xf}{k:Nat}{sp:Sp} (F:aV K x qual st f fd) (S:AM N ps (defScope st)) (len:∀vs H Q E,sp vs H Q E->vs.length=ps.length)
  (bh:∀(ad:Value) (A:Around) (outer:List Env) (s:Xj) (H:Hp) (vs:Xh) (Q:VK) (E:XK),aE k (A.deeper (envOfC qual (defScope st) s.heap.objs.size f ad))->sp vs H Q E ->
   ∃t,eN (BB (eX P w) P w K mg base N qual (defScope st) f ad A outer s H E) (defBody st) t/\t { nx:=λ_ H'=>Q .aO H',rt:=Q } (Bs N vs) H):AZ P w K mg base (eX P w) (k+1) f fd ps sp:=by
 obtain⟨oc,od,kV,doc,pm,an,ad,ct,gF,rfl,lk,fm⟩:=F.ex;exact N7 lk fm S len λA outer s H vs Q E hr gP=>bh ad A outer s H vs Q E hr gP
structure BdX (P:Program) (w:World) (K:FG) (mg:SV) (base:Heap) (f:Xi) (qual:Str) (st:Stmt) (N ps:Xf) (k:Nat) (vs:Xh) (H:Hp) (Q:VK) (E:XK):Prop where
 len:vs.length=ps.length
 ok:∀(ad:Value) (A:Around) (outer:List Env) (s:Xj),aE k (A.deeper (envOfC qual (defScope st) s.heap.objs.size f ad)) ->
  ∃t,eN (BB (eX P w) P w K mg base N qual (defScope st) f ad A outer s H E) (defBody st) t/\t { nx:=λ_ H'=>Q .aO H',rt:=Q } (Bs N vs) H
def aV.n {qual:Str}{st:Stmt}{f:Xi}{fd:FuncData}{ps:Xf}{k:Nat}{sp:Sp} (F:aV K x qual st f fd) (S:AM N ps (defScope st)) (h:∀vs H Q E,sp vs H Q E->BdX P w K mg base f qual st N ps k vs H Q E) :
  AZ P w K mg base (eX P w) (k+1) f fd ps sp:=F.okX S (λvs H Q E q=>(h vs H Q E q).len) λc A o s H vs Q E r q=>(h vs H Q E q).ok c A o s r
structure FunD (K:FG) (x qual:Str) (st:Stmt) (f:Xi) (fd:FuncData):Prop where
 ex:∃(oc:Value) (od:Option Xi) (dV kV doc pm:Value) (an:Option Xi) (ad ct:Value) (gF:Array (Option Value)),
  fd=W.fnOf x qual (defArgs st) (defBody st) (defScope st) dV kV doc pm an ad ct/\K.lookup f=some ⟨oc,od,.func fd,gF⟩/\W.codeIn K ad qual=true
def FunD.ok {qual:Str}{st:Stmt}{f:Xi}{fd:FuncData}{ps:Xf}{k:Nat}{sp:Sp} (F:FunD K x qual st f fd) (S:AM N ps (defScope st)) (len:∀vs H Q E,sp vs H Q E->vs.length=ps.length)
  (bh:∀(ad:Value) (A:Around) (outer:List Env) (s:Xj) (H:Hp) (vs:Xh) (Q:VK) (E:XK),aE k (A.deeper (envOfC qual (defScope st) s.heap.objs.size f ad))->sp vs H Q E ->
   ∃t,eN (BB aL P w K mg base N qual (defScope st) f ad A outer s H E).gi (defBody st) t/\t { nx:=λ_ H'=>Q .aO H',rt:=Q } (Bs N vs) H):AZ P w K mg base aL (k+1) f fd ps sp:=by
 obtain⟨oc,od,dV,kV,doc,pm,an,ad,ct,gF,rfl,lk,fm⟩:=F.ex;refine N7 lk fm S len λA outer s H vs Q E hr gP=>?_;obtain⟨t,h,q⟩:=bh ad A outer s H vs Q E hr gP;exact⟨t,h.gi,q⟩
end
end L2
end
section
namespace L2
open PySem PySem.Spec PyProof.Rows Builtin Builtin.ObjectAttr
noncomputable def Ez (C M:Xi):Xg:=[.ref C,.ref M,.type "ValueError", .type "Exception", .type "BaseException", .type "object"]
section
variable {prog:Program}{x M:Xi}{ox:Obj}{vs:Array Value}{name:Str}{v:Value}{cd:ClassData}
def Sz {R:Result->Xj->Prop}{tk:Tok} (X:K.In s.heap) (hx:s.heap.get? x=some ox) (af:ox.cls=.ref C) (gH:ox.dict=none) (hf:ox.data=.fields vs) (hc:W.clsIn K C=some cd) (cq:cd.mro=Ez C M) (bf:cd.hasDict=true) (hn:W.findIn K (.ref C) name=some none)
  (h:∀(h':Heap) (tk':Nat),h'.get? x=some { ox with dict:=some s.heap.objs.size }->h'.Ns1 s.heap.objs.size (λy=>if y=name then some v else none)->(∀b o,b≠x->s.heap.get? b=some o->h'.get? b=some o)->R (.ok (.ret .none)) { s with heap:=h',toks:=tk' }) :
  codeAny (model prog w) A (.call (.builtin "object.__setattr__") ⟨[.ref x,.str name tk,v],[]⟩) R s:=by
 have SF:=PySem.F.store_object;have I:W.InstAt s.heap x ox C none:=⟨hx,af,by unfold W.notCls;rw[hf],by rw[gH];trivial⟩;have ne:cd.mro.isEmpty=false:=by rw[cq];rfl
 have sub:W.Looks (model prog w) s.heap (isInstance (.ref x) (.type "object")) true:=I.type.andThen (W.looks_mroIn X (by unfold W.mroIn;rw[hc,Option.bind_some,Zq (by rw[ne];decide),cq];simp[Ez]));refine codeAny_call_builtin SF.slot.plain SF.entry (@W.check_slot (model prog w) _ _ s "object.__setattr__" "object" "__setattr__" (.ref x) [.str name tk,v] [] _ SF.kind SF.split sub (SF.args (.ref x) (.str name tk) v) ?_);have hm:W.Looks (model prog w) s.heap (mroOf (.ref C)) cd.mro:=(W.looks_clsIn X hc).andThen .now;have L3:W.Looks (model prog w) s.heap (storeTaker? none) none:=.now;rw[W.osa_eq,refuse_eq];refine Zx (Zx (I.type.here (Zx (hm.here ?_))));rw[cq];unfold Ez;rw[refuseLoop_ref,refuseLoop_ref,PySem.F.store_ValueError.passes];refine Zw (Zx (I.type.here (Zx ((W.looks_findIn X hn).here (Zx (L3.here ?_))))));obtain⟨oc,odi,oda,gF⟩:=ox
 dsimp only at af gH hf
 subst af gH hf;refine Zx (Zw (Zx (Zx (wpAny_loadPart hx (Zx ((W.looks_clsIn X hc).here ?_))))));rw[bf];have hx₁:(s.heap.push { cls:=.type "dict", data:=.dict #[] }).get? x=some _:=ZX _ hx;have hxs:x≠s.heap.objs.size:=ZC (lt_size hx);obtain⟨hp,g,d,t,os⟩:=s
 dsimp only at hx hx₁ hxs h ⊢
 rw[Zq qc,Zq (by simp[typeHasDict])];refine Zx (wpAny_alloc' ?_);refine Zx (wpAny_update' hx₁ ?_);refine Zw ?_
 have hgd:((hp.push { cls:=.type "dict", data:=.dict #[] }).update x λo=>{ cls:=o.cls,dict:=some hp.objs.size,data:=o.data,slots:=o.slots }).get? hp.objs.size=some { cls:=.type "dict", data:=.dict #[] } :=
  (Heap.get?_update_ne _ _ _ _ hxs.symm).trans (Heap.get?_push_at rfl rfl)
 have iS:((hp.push { cls:=.type "dict", data:=.dict #[] }).update x λo=>{ cls:=o.cls,dict:=some hp.objs.size,data:=o.data,slots:=o.slots }).Ns hp.objs.size (λ_=>none) :=
  ⟨_,#[],_,hgd,rfl,λe he=>absurd he (by simp),λ_=>rfl⟩
 show wpAny _ _ (storeInDict hp.objs.size (.str name tk) name v) _ _ _;unfold storeInDict newKeyGuard;refine Zx (Zw (Zx (wpAny_nsSet1 (Heap.Ns1.of_empty iS) λh' hn' hs=>?_)));obtain⟨oD,esD,epD,hoD,hdD,jd⟩:=hn'.count (Within.cons name v Within.nil);refine Zx (wpAny_lookBehind hoD (by rw[hdD];exact pastItsLine_dict (Nat.le_trans jd (by rw[length_cons,length_nil,sizeLine_eq];omega))) ?_)
 wp_walk
 have hx':h'.get? x=some { cls:=.ref C,dict:=some hp.objs.size,data:=.fields vs,slots:=gF }:=(hs.2 x hxs).trans (ZU _ hx₁ rfl);exact h h' _ hx' hn' λb ob hbx hb=>(hs.2 b (ZC (lt_size hb))).trans ((Heap.get?_update_ne _ _ _ _ hbx).trans (ZX _ hb))
def S0 {Q:Unit->Xj->Prop} (X:K.In s.heap) (hx:s.heap.get? x=some ox) (af:ox.cls=.ref C) (gH:ox.dict=none) (hf:ox.data=.fields vs) (hc:W.clsIn K C=some cd) (cq:cd.mro=Ez C M) (bf:cd.hasDict=true) (hn:W.findIn K (.ref C) name=some none)
  (hs:W.findIn K (.ref C) "__setattr__" = some (some (.builtin "object.__setattr__")))
  (h:∀(h':Heap) (tk':Nat),h'.get? x=some { ox with dict:=some s.heap.objs.size }->h'.Ns1 s.heap.objs.size (λy=>if y=name then some v else none)->(∀b o,b≠x->s.heap.get? b=some o->h'.get? b=some o)->Q () { s with heap:=h',toks:=tk' }) :
  wpAny (model prog w) A (setAttr (.ref x) name v) Q E s:=by
 have I:W.InstAt s.heap x ox C none:=⟨hx,af,by unfold W.notCls;rw[hf],by rw[gH];trivial⟩;exact W.set_plain X I hs (Sz (s:={ s with toks:=s.toks+1 }) X hx af gH hf hc cq bf hn λh' tk' a b c=>h h' tk' a b c)
end
end L2
end
section
namespace L2
open PySem PySem.Spec PyProof.Rows
structure Ld (K:FG) (C M:Xi) (f:Str):Prop where
 cls:∃cd,W.clsIn K C=some cd/\cd.mro=Ez C M/\cd.hasDict=true
 nf:W.findIn K (.ref C) f=some none
 sa:W.findIn K (.ref C) "__setattr__" = some (some (.builtin "object.__setattr__"))
section
variable {o value:Expr}{ta tv:TE}{f:Str}{pos':Pos}{M:Xi}
def V1 (K:FG) (M:Xi) (ta tv:TE) (f:Str):TS:=λD σ H=>tv σ H λy H1=>ta σ H1 λx H2=>∃e C,x=.ref e/\H2 e=some (Ef e C none)/\Ld K C M f /\
 ∀d,H2 d=none->d≠e->D.nx σ (upd (upd H2 e (Ef e C (some d))) d (.xd [(f,y)]))
def OM (ha:PE X o ta) (hv:PE X value tv) (hs:swapsWith value (some (.Attribute o f pos')) pos.line X.env=pure false):PS X (.Assign [.Attribute o f pos'] value pos) (V1 X.K M ta tv f):=by
 intro aa s σ H D I h;refine plainObj_wpAny_Assign_Attribute (aG (hv aa s σ H _ I h) λu s1 ⟨y,H1,I1,ry,q⟩=>aG (ha aa s1 σ H1 _ I1 q) λov s2 ⟨x,H2,I2,rx,e,C,ex,ea,S,q2⟩=>?_) hs;subst ex;obtain rfl:ov=Value.ref e:=rx;obtain⟨⟨oe,vs,a1,a2,a3,a4,a5,a6,a7⟩,_,_⟩:=I2.aD _ _ ea;obtain⟨cd,hc,hm,hd⟩:=S.cls;refine S0 I2.cV a1 a2 a3 a4 hc hm hd S.nf S.sa λh' tk' hx hn hk=>?_;have kg:s2.heap.objs.size≠e:=Nat.ne_of_gt (lt_size a1);have gH:H2 s2.heap.objs.size=none:=I2.aD.fresh (Zy _);generalize hH':upd (upd H2 e (Ef e C (some s2.heap.objs.size))) s2.heap.objs.size (.xd [(f,y)])=H';have lt:∀b u,H2 b=some u->b<s2.heap.objs.size:=λb u z=>I2.aD.lt z;have gM:∀b,b<s2.heap.objs.size->b≠e->H' b=H2 b:=λb hb n=>by rw[←hH',AF (ZC hb),AF n]
 have ate:H' e=some (Ef e C (some s2.heap.objs.size)):=by rw[←hH',AF (Ne.symm kg),AB]
 have atd:H' s2.heap.objs.size=some (.xd [(f,y)]):=by rw[←hH',AB]
 have next:∀b u,H2 b=some u->(∀φ,u≠ .ext φ)->b≠e:=λb u z n w=>by subst w;rw[ea]at z;cases z;exact n _ rfl
 have nn:∀b,H2 b=none->b≠e:=λb z w=>by subst w;rw[ea]at z;cases z
 have un:Un X.fs [] H2 H' s2.heap h':=by
  refine⟨λb ob z n _ _=>hk b ob (nn b n) z,λb ob z n _ _=>⟨ob.slots,hk b ob (nn b n) z⟩,λb ob z n _=>by rw[gM b (lt_size z) (nn b n)];exact n,λb ob z _=>?_,λb xs z=>?_,λb ob w z=>?_,λb ps z=>⟨#[],?_⟩⟩
  ·by_cases w:b=e
   ·subst w;exact⟨_,hx⟩
   ·exact⟨ob,hk b ob w z⟩
  ·rw[gM b (lt _ _ z) (next b _ z λ_ w=>nomatch w)];exact z
  ·rw[gM b (lt _ _ z) (next b _ z λ_ w=>nomatch w)];exact z
  ·rw[gM b (lt _ _ z) (next b _ z λ_ w=>nomatch w),z];simp
 have aD:dv X.prog X.w H' h':=λb w z=>by
  by_cases hb:b=s2.heap.objs.size
  ·subst hb;rw[atd]at z;cases z;refine⟨_,hn,λg=>?_⟩;by_cases hg:g=f
   ·subst hg;simp only[Zp rfl,Zz,beq_self_eq_true];exact ry
   ·have e1:(g==f)=false:=beq_eq_false_iff_ne.mpr hg;simp only[Zq hg,Zz,e1,List.lookup_nil];trivial
  by_cases hb2:b=e
  ·subst hb2;rw[ate]at z;cases z;exact⟨⟨_,vs,hx,a2,Zj,a4,a5,a6,a7⟩,⟨_,hx⟩,λh1 h2 ⟨oe,vs,a,r⟩ k=>⟨oe,vs,k _ a,r⟩⟩
  ·have z':H2 b=some w:=by rw[←hH',AF hb,AF hb2]at z;exact z
   refine(I2.aD b w z').eB (λb2 ob iy q=>hk b2 ob ?_ q) (λb2 q=>?_) λb2 xs q=>?_
   ·rcases iy with w2 |w2
    ·rw[w2];exact hb2
    ·exact next b2 _ w2 λ_ y=>nomatch y
   ·rw[gM b2 (lt _ _ q) (next b2 _ q λ_ y=>nomatch y)];exact q
   ·rw[gM b2 (lt _ _ q) (next b2 _ q λ_ y=>nomatch y)];exact q
 have I3:=I2.un (t':=tk') un aD;have q3:=q2 s2.heap.objs.size gH kg;rw[hH']at q3;exact⟨σ,H',I3,q3⟩
end
section
variable {CX:gN}{k:Nat}{f:Xi}{fd:FuncData}{ps:Xf}{sp:Sp}{d6:Xh}{ds:Xg}{E:XK}{name:Str}{np apos:Pos}{es:List Expr}{t:TA}{mc:Value}
def Hz {pl:Sem Bool} (hg:Gl X x) (hm:X.mg x=some (.ref C)) (ga:W.specialIn X.K (.ref C) "__getattribute__" = some (some (.builtin "type.__getattribute__"))) (hr0:W.readsIn X.K C mc=true) (hf:W.findCls X.K (.ref C) mc name=some (.val (.ref f)))
  (F:AZ X.prog X.w X.K X.mg X.base CX k f fd ps sp) (hr:aE k X.A) (hk:W.keepIn X.K (.ref f)=true) (hb:Binds X.K fd ps ds) (hd:Vals d6 ds) (hx:BR CX X E) (ha:PA X (e::es) t) (eM:(x==("__debug__" : Str))=false:=by decide)
  (he:starEach (e::es) X.env=(false,eval e X.env)::starEach es X.env:=by rfl) (eQ:(backTo pos (starEach es X.env)).any (·.1)=false:=by rfl)
  (ht:eval (.Call (.Attribute (.Name x np) name apos) (e::es) [] pos) X.env=(do
   let ov ←eval (.Name x np) X.env
   standAt apos.atName
   let (f,first) ←holding [ov] (getMethod ov name pl)
   callWith pos f first (backTo pos (starEach (e::es) X.env)) (backToKw pos (keywordEach [] X.env))):=by rfl) :
  PE X (.Call (.Attribute (.Name x np) name apos) (e::es) [] pos) (HA sp d6 E t):=by
 intro aa s σ H Q I h;refine W.methodCall_KW (pl:=pl) ?_ ht;refine Bu I hg hm ?_ eM;refine W.method_cls I.cV ga (W.cls_value I.cV hr0 hf Zj ?_);refine W.callWith_K (h₀:=X.base) I.ok.mod.kin hk (aG (ha pos aa _ σ H _ (I.tok _) h) λus s1 ⟨vs,H1,I1,r,q⟩=>⟨I1.cV,?_⟩) he eQ;exact KB F hr hb hd hx I1 r q
end
section
variable {c:Str}{cp fp:Pos}{ck:Nat}
def V2 (c:Str) (te:TE):TE:=λσ H Q=>te σ H λx H1=>((∃i,x=.int i/\i.natAbs.log2<1920)\/(∃z,x=.str z/\z.length<=1000)\/x=.aO)/\∀z,Q (.str z) H1
def At (a b:Str):(a++b).length=a.length+b.length:=strLen_append a b
def ON (hc:c.length<=1000) (he:PE X e te):PE X (.JoinedStr [.Constant (.str c) ck cp,.FormattedValue e (-1) none fp] pos) (V2 c te):=by
 intro aa s σ H Q I h;refine JoinedStr_many (joinParts_cons (Calls.Constant_str ?_));have l0:(Str.empty++c).length<=1000:=by rw[At];show 0+c.length<=1000;omega
 have sz:(3000:Nat)<=sizeLine:=by decide
 refine⟨Nat.le_trans l0 (Nat.le_trans qc sz),joinParts_cons ?_⟩;refine wpAny_FormattedValue_plain (aG (he aa _ σ H _ (I.tok _) h) λu s1 ⟨x,H1,I1,r,q,k⟩=>?_);rcases q with⟨i,rfl,hi⟩ |⟨z,rfl,hz⟩ |rfl
 ·obtain⟨t,rfl⟩:=r;refine PySem.wpAny_formatField_int hi ?_;have l1:(Str.ofString (toString i)).length<=1921:=by rw[PySem.ofString_length];exact int_text_length_le (k:=1920) qc hi
  have l2:((Str.empty++c)++Str.ofString (toString i)).length<=sizeLine:=by
   rw[At];omega
  exact⟨l2,joinParts_nil ⟨.str _,H1,(I1.tok _).tok _,⟨_,Zj⟩,k _⟩ l2⟩
 ·obtain⟨t,rfl⟩:=r
  have l2:((Str.empty++c)++z).length<=sizeLine:=by
   rw[At];omega
  have hz2:z.length<=sizeLine:=by omega
  exact PySem.wpAny_formatField_str ⟨l2,joinParts_nil ⟨.str _,H1,I1.tok _,⟨_,Zj⟩,k _⟩ l2⟩ ⟨l2,joinParts_nil ⟨.str _,H1,(I1.tok _).tok _,⟨_,Zj⟩,k _⟩ l2⟩ hz2
 ·obtain rfl:u=Value.none:=r
  have l2:((Str.empty++c)++("None" : Str)).length<=sizeLine:=by
   have:("None" : Str).length=4:=by decide +kernel
   rw[At];omega
  exact PySem.wpAny_formatField_none ⟨l2,joinParts_nil ⟨.str _,H1,(I1.tok _).tok _,⟨_,Zj⟩,k _⟩ l2⟩
end
structure V3 (K:FG) (C:Xi) (f:Str):Prop where
 hg:Ey K C
 hh:W.hasDictIn K C=true
 ha:W.findIn K (.ref C) f=some none
section
variable {e:Xi}{oe:Obj}{o:Expr}{f:Str}{ta:TE}
def Q6 (e:Xi) (oe:Obj) (f:Str) (ta:TE):TE:=λσ H Q=>ta σ H λx H1=>∃d fs v,x=.ref e/\oe.dict=some d/\H1 d=some (.xd fs)/\fs.lookup f=some v/\Q v H1
def S4 (p:ExcP X e oe C) (g:V3 X.K C f) (he:PE X o ta) (hb:attributeBase o f X.env (eval o X.env)=eval o X.env):PE X (.Attribute o f pos) (Q6 e oe f ta):=by
 intro aa s σ H Q I h;refine N5 hb (aG (he aa s σ H _ I h) λu s1 ⟨x,H1,I1,rx,d,fs,v,ex,hd,hH,l,q⟩=>?_);subst ex;obtain rfl:u=Value.ref e:=rx;obtain⟨mA,hn,r⟩:=I1.aD _ _ hH;obtain⟨od,ho,hl⟩:=JP hn;obtain⟨w,hw,iq⟩:=eh.some_of (v:=v) (o:=mA f) (by rw[←l];exact r f);have hp:=(I1.pin (e,oe) (ZP _ p.at_)).1;obtain⟨vs,hv⟩:=p.fld;have J:W.InstAt s1.heap e oe C (some od):=⟨hp,p.cls,by unfold W.notCls;rw[hv],by rw[hd];exact ho⟩;exact Q0 g.hg I1.cV J (W.findObj_own g.hh g.ha Zj (by rw[hl,hw])) (JQ iq) ⟨v,H1,I1.tok _,iq,q⟩
end
structure cK (X:Cx) (e:Expr) (t:TE):Prop where
 h:PE X e t
structure PAw (X:Cx) (es:List Expr) (t:TA):Prop where
 h:PA X es t
section
variable {es:List Expr}{t:TA}
def BV:PAw X [] B9:=⟨AC⟩
end
structure PSw (X:Cx) (st:Stmt) (t:TS):Prop where
 h:PS X st t
structure eI (X:Cx) (st:List Stmt) (t:TS):Prop where
 h:eN X st t
structure PIw (X:Cx) (tg e:Expr) (t:TI):Prop where
 h:PI X tg e t
section
variable {st:Stmt}{rest:List Stmt}{t u:TS}{tg l iter:Expr}{tl:TE}
def CG:eI X [] Tt:=⟨AT⟩
def Ci (a:PSw X st t) (b:eI X rest u):eI X (st::rest) (Vl t u):=⟨AG a.h b.h⟩
def Bd (a:PSw X st t):eI X [st] t:=⟨AE a.h⟩
def NJ (h:cK X l tl):PIw X tg l (QP X.K tl):=⟨Bj h.h⟩
def OO {body:List Stmt}{wi:TI}{g:TG}{tb:TS} (hp:PassesOwn (model X.prog X.w) X.A X.env X.xe) (hc:X.calm=true) (hi:PIw X tg iter wi) (hg:PG X tg g) (hb:eI X body tb)
  (hs:∀x,foldedSetIterable iter X.env x=pure x:=by intro _;rfl):PSw X (.For tg iter body [] pos) (Vp wi g tb):=⟨Dw hp hc hi.h hg hb.h hs⟩
end
section
def V4 (i j k:Nat) (ta:TA):TS:=λD σ H=>ta σ H λvs H1=>∃v w z,vs=[v,w,z]/\D.nx (((σ.set k (some z)).set j (some w)).set i (some v)) H1
def S5 {i j k:Nat}{y z:Str}{a b c:Expr}{ta:TA}{px py pz pt:Pos}{kt k2 pt2} (hc:X.calm=true) (hN:X.N.Nodup) (hi:X.N[i]?=some x) (hj:X.N[j]?=some y) (hk:X.N[k]?=some z)
  (hx:X.env.scope.names.lookup x=some .local) (hy:X.env.scope.names.lookup y=some .local) (hz:X.env.scope.names.lookup z=some .local) (ha:PA X [a,b,c] ta)
  (hw:swappedStores [.Tuple [.Name x px,.Name y py,.Name z pz] kt pt] (.Tuple [a,b,c] k2 pt2) X.env=pure (some [x,y,z]))
  (hs:swapsWithSole [.Tuple [.Name x px,.Name y py,.Name z pz] kt pt] (.Tuple [a,b,c] k2 pt2) pos.line X.env=pure false:=by rfl) :
  PS X (.Assign [.Tuple [.Name x px,.Name y py,.Name z pz] kt pt] (.Tuple [a,b,c] k2 pt2) pos) (V4 i j k ta):=by
 intro aa s σ H D I h;rw[exec_Assign_arm];refine Zx (ZJ ?_);rw[hs];refine Zx (Zw ?_);rw[Zq qc];refine Zx (Tuple_ (aG (ha _ aa s σ H _ I h) λus s1 ⟨vs,H1,I1,r1,q1⟩=>?_));obtain⟨v,w,t,e1,q1⟩:=q1;subst e1
 obtain⟨u1,u2,u3,rfl,rv,iq,rt⟩:∃u1 u2 u3,us=[u1,u2,u3]/\RelV v u1/\RelV w u2/\RelV t u3:=by
  cases r1 with
  |cons p q =>
   cases q with
   |cons p' q' =>
    cases q' with
    |cons p'' q'' =>
     cases q'';exact⟨_,_,_,Zj,p,p',p''⟩
 refine wpAny_newObj_type ?_ gO;have I2:Inv X aa σ H1 { s1 with heap:=s1.heap.push { cls:=.type "tuple", data:=.seq [u1,u2,u3].toArray } }:=I1.kept (t':=s1.toks) λb o e=>ZX _ e;rw[hw];refine Zx (Zw ?_);show wpAny (model X.prog X.w) X.A (do rule "assign.swapped-stores";let items ←unpackItems (.ref s1.heap.objs.size) 3 none;assignInOrder [λv=>bindName X.env z v,λv=>bindName X.env y v,λv=>bindName X.env x v] items.reverse;pure Flow.next) _ _ _;refine Zx (wpAny_rule (Zx (unpackItems_tuple (items:=#[u1,u2,u3]) (I.ok.hd hc) (IsTup.new s1.heap _) λh' hx'=>?_)));have I3:=I2.kept (h':=h') (t':=s1.toks) λb o e=>hx' b o (ZC (lt_size e)) e;show wpAny _ _ (assignInOrder [λv=>bindName X.env z v,λv=>bindName X.env y v,λv=>bindName X.env x v] [u3,u2,u1] >>= λ_=>pure Flow.next) _ _ _;refine Zx (assignInOrder_cons (wpAny_bindName (Cb I3 hN hk (.inl hz) rt (λs2 I4=>?_) (.inr hz))));refine assignInOrder_cons (wpAny_bindName (Cb I4 hN hj (.inl hy) iq (λs3 I5=>?_) (.inr hy)));refine assignInOrder_cons (wpAny_bindName (Cb I5 hN hi (.inl hx) rv (λs4 I6=>assignInOrder_nil (Zw ?_)) (.inr hx)));exact⟨_,H1,I6,q1⟩
end
def XH:V->Option Int->Option Int->Hp->VK->Prop:=λx lo hi H Q=>∃z,x=.str z/\z.length<=sizeLine/\Q (.str (Txt.slice z lo hi)) H
def OP {v:Value}{o:Option Int} (h:IsPart v o):∃l:Option (Int×Tok),v=partValue l/\o=l.map (·.1):=by
 cases h with
 |none=>exact⟨none,rfl,rfl⟩
 |int i t=>exact⟨some (i,t),rfl,rfl⟩
def Q7:SlR X XH:=by
 intro aa s σ H x v vl vu lo hi sl Q I rx hs pl pu h;obtain⟨z,rfl,hz,q⟩:=h;obtain⟨t,rfl⟩:=rx;obtain⟨l,rfl,rfl⟩:=OP pl;obtain⟨u,rfl,rfl⟩:=OP pu;refine⟨"str", _,F.slot_str_getitem.lookup,typeIs_str s z t,?_⟩;exact wpAny_getItem_str_slice (l:=l) (u:=u) (st:=none) hs Zj (post_val_or_str ⟨Nat.le_trans (Txt.slice_le z _ _) hz,λt' k=>⟨.str (Txt.slice z _ _),H,I.tok k,⟨t',Zj⟩,q⟩⟩)
def El:aS X (.type "int") (λxs H Q=>∃x n,xs=[.str x]/\x.length<=640/\intText? x=some n/\Q (.int n) H):=by
 intro aa s σ H xs us Q I r h;obtain⟨x,n,rfl,hl,hn,q⟩:=h;obtain⟨u,rfl,t,rfl⟩:=Br r;exact W.KIN.call_text hn hl ⟨.int n,H,I.tok _,⟨_,Zj⟩,q⟩
section
def S6:cS X (binaryOp .Mult) (λx y H Q=>∃(i:Str) (n:Int),x=.str i/\y=.int n/\((n=0/\Q (.str "") H)\/(n=1/\Q (.str i) H))):=by
 intro aa s σ H x y v u Q I rx ry h;obtain⟨i,n,rfl,rfl,h⟩:=h;obtain⟨t,rfl⟩:=rx;obtain⟨t',rfl⟩:=ry;rcases h with⟨rfl,q⟩ |⟨rfl,q⟩
 ·refine PySem.P.mul_str Zj (λz _=>absurd qc z) (λz _=>absurd qc z) ?_;rw[Zp qc];exact⟨qc,.str "", H,I.tok _,⟨_,Zj⟩,q⟩
 ·refine PySem.P.mul_str Zj (λ_ z=>by simp at z) (λ_ z=>by simp at z) ?_;rw[Zq qc,Zp (by simp)];exact⟨.str i,H,I,⟨_,Zj⟩,q⟩
def KQ:aS X (.type "str") (λxs H Q=>∃x,xs=[.str x]/\Q (.str x) H):=by
 intro aa s σ H xs us Q I r h;obtain⟨x,rfl,q⟩:=h;obtain⟨u,rfl,t,rfl⟩:=Br r;exact PySem.P.str_of_str ⟨.str x,H,I,⟨_,Zj⟩,q⟩
end
structure PTw (X:Cx) (e:Expr) (t:TT):Prop where
 h:PT X e t
section
variable {a b c:Expr}{ta tb:TE}{tc:TT}{st:Stmt}{s1 s2 rest:List Stmt}{t u:TS}{es:List Expr}{ts:TA}
def Do {i:Nat}{pos':Pos} (hN:X.N.Nodup) (hi:X.N[i]?=some x) (hx:Loc X.env.scope x) (he:cK X e te) (hs:swapsWith e (some (.Name x pos')) pos.line X.env=pure false:=by rfl) (hf:X.fn x=true\/X.env.scope.names.lookup x=some .local:=by first |exact .inl rfl |exact .inr rfl) :
  PSw X (.Assign [.Name x pos'] e pos) (UT te (Cd i)):=⟨Ae hN hi hx he.h hs hf⟩
def C5 {op:Operator}{r:R2} (ho:cS X (binaryOp op) r) (ha:cK X a ta) (hb:cK X b tb):cK X (.BinOp a op b pos) (iG r ta tb):=⟨Ac ho ha.h hb.h⟩
def DF {r:R2} (hr:IxR X r) (ha:cK X a ta) (hb:cK X b tb) (hs:OA b):cK X (.Subscript a b pos) (iG r ta tb):=⟨BI hr ha.h hb.h hs⟩
def Fh (hc:PTw X c tc) (ha:eI X s1 t) (hb:eI X s2 u):PSw X (.If c s1 s2 pos) (UQ tc t u):=⟨Ai hc.h ha.h hb.h⟩
def T4 (hc:PTw X c tc) (ha:cK X a ta) (hb:cK X b tb):cK X (.IfExp c a b pos) (tIf tc ta tb):=⟨Bf hc.h ha.h hb.h⟩
def Ab (he:cK X e te) (h:PAw X es ts) (hs:starEach (e::es) X.env=(false,eval e X.env)::starEach es X.env:=by rfl):PAw X (e::es) (Ah te ts):=⟨AA he.h h.h hs⟩
def BC {CX:gN}{k:Nat}{f:Xi}{fd:FuncData}{ps:Xf}{sp:Sp}{ds:Xg}{d6:Xh}{E:XK}{p:Pos} (F:AZ X.prog X.w X.K X.mg X.base CX k f fd ps sp) (hr:aE k X.A) (hg:Gl X x) (hm:X.mg x=some (.ref f)) (hk:W.keepIn X.K (.ref f)=true) (hb:Binds X.K fd ps ds) (hd:Vals d6 ds) (hx:BR CX X E)
  (ha:PAw X (e::es) ts) (eM:(x==("__debug__" : Str))=false:=by decide) (he:starEach (e::es) X.env=(false,eval e X.env)::starEach es X.env:=by rfl) (eQ:(backTo pos (starEach es X.env)).any (·.1)=false:=by rfl) :
  cK X (.Call (.Name x p) (e::es) [] pos) (HA sp d6 E ts):=⟨AN F hr hg hm hk hb hd hx ha.h eM he eQ⟩
def CT {k v:Expr}{tk tv:TE} (hk:cK X k tk) (hv:cK X v tv):cK X (.Dict [some k] [v] pos) (LA [(tk,tv)]):=⟨HM (BX hk.h hv.h HL) rfl rfl (λz=>nomatch z) (by show 1<=15;decide)⟩
def S7 {k v k2 v2:Expr}{tk tv tk2 tv2:TE} (hk:cK X k tk) (hv:cK X v tv) (hk2:cK X k2 tk2) (eE:cK X v2 tv2):cK X (.Dict [some k,some k2] [v,v2] pos) (LA [(tk,tv),(tk2,tv2)]):=⟨HM (BX hk.h hv.h (BX hk2.h eE.h HL)) rfl rfl (λz=>nomatch z) (by show 2<=15;decide)⟩
def T5 (h:PAw X es ts):cK X (.List es pos) (Qa ts):=⟨BA h.h⟩
def XI {op:UnaryOp}{r:V->Hp->VK->Prop} (ho:UnR X (unaryOp op) r) (he:cK X e te):cK X (.UnaryOp op e pos) (tUn r te):=⟨Eg ho he.h⟩
end
abbrev DcE:=Str×Tok×Int×Tok
def T6 (P:Params) (e:DcE):DictEntry:=⟨PyData.keyHash P e.1,.str e.1 e.2.1,.int e.2.2.1 e.2.2.2⟩
noncomputable def dcObj (P:Params) (l:List DcE) (ep:Nat):Obj:=⟨.type "dict", none,.dict (l.map (T6 P)).toArray ep,#[]⟩
noncomputable def gS (l:List DcE):LK:=l.map λe=>(Sum.inr e.1,.int e.2.2.1)
def V5 {bd:Xi}{l:List DcE}{ep:Nat} (e:h.get? bd=some (dcObj w.params l ep)) (nd:(l.map (·.1)).Nodup):∃vs,KV (gS l) vs/\h.DictOf (AY P w) bd vs:=by
 refine⟨l.map λe=>(Sum.inr e.1,.int e.2.2.1 e.2.2.2),?_,_,_,_,e,⟨Zj,Zj,Zj⟩,Zj,λx hx=>?_,?_,?_⟩
 ·unfold gS;clear e nd;induction l with
  |nil=>exact .nil
  |cons a r ih=>exact .cons ⟨rfl,_,rfl⟩ ih
 ·obtain⟨a,_,rfl⟩:=Zr.mp (List.mem_toArray.mp hx);exact⟨Sum.inr a.1,Du P w _ _,Zj⟩
 ·show Pairs _ (l.map (T6 w.params)).toArray.toList _;rw[List.toList_toArray];clear e nd;induction l with
  |nil=>exact .nil
  |cons a r ih=>exact .cons (Du P w _ _) rfl ih
 ·rw[map_map];have:(l.map ((λx:Key×Value=>x.1) ∘ λe:DcE=>((Sum.inr e.1:Key),Value.int e.2.2.1 e.2.2.2)))=(l.map (·.1)).map (λx=>(Sum.inr x:Key)):=by rw[map_map];rfl
  rw[this];exact List.Pairwise.map _ (λa b ie z=>ie (Sum.inr.inj z)) nd
def NK {mb:SV}{CX:gN}{k:Nat}{fa c P0 bd:Xi}{l:List DcE}{ep:Nat}{fd:FuncData}{sp:Sp}{aF:Xj}{vs:Xg}{ns:List Int}
  (KX:K.In aF.heap) (kb:aF.heap.Ns mainGlobals mg) (hb:aF.heap.Ns builtinsNs mb) (hbb:∀x:Str,x≠ "__name__" -> mb x=bootBuiltins x) (hlim:aF.heap.NoLimit) (hg:aF.gens=#[])
  (ha:aF.heap.get? a=some { cls:=.type "list", data:=.seq vs.toArray }) (hi:IntsAre vs ns) (hl:ns.length<=sizeLine) (hr:aE k callerA)
  (hP:aF.heap.get? P0=some (W.tabObj #[])) (hKP:K.lookup P0=none) (hC:W.CodeHd aF.heap c P0) (hB:aF.heap.BuiltinsAt mg P0)
  (hD:aF.heap.get? bd=some (dcObj w.params l ep)) (hKD:K.lookup bd=none) (hb5:5<=bd) (hdl:l.length<=1000) (gH:(l.map (·.1)).Nodup)
  (F:∀base:Heap,K.In base->base.Ns mainGlobals mg->W.CodeHd base c P0->base.BuiltinsAt mg P0->AZ P w K mg base CX k fa fd [x] sp) (bx:∀(s:Xj) (u:Value),BindsTo s fd ⟨[u],[]⟩ [(x,u)])
  (gP:∀H:Hp,H P0=some (.fj #[])->Rd H bd (.dK (gS l))->aI K H a (ns.map V.int)->sp [.ref a] H (λv _=>v=.bl true) λ_ _ _=>False)
  (hCX:∀H e s',CX [] H aF (λ_ _ _=>False) e s'->False) :
  codeAny (model P w) callerA (.call (.ref fa) ⟨[.ref a],[]⟩) (λr s'=>r=.ok (.ret (.bool true))/\OldK aF.heap s'.heap/\s'.os=aF.os/\AllBare s'.gens) aF:=by
 have rv:=EW hi;have lenV:=hi.length;have haP:a≠P0:=λz=>by subst z;rw[ha]at hP;cases hP
 have ie:a≠bd:=λz=>by subst z;rw[ha]at hD;cases congrArg Obj.data (Option.some.inj hD)
 have hPb:P0≠bd:=λz=>by subst z;rw[hP]at hD;cases congrArg Obj.data (Option.some.inj hD)
 have okD:∀H:Hp,aP P w H aF.heap bd (.bG (dcObj w.params l ep) (.dK (gS l))):=λH=>⟨hD,by unfold gS;rw[AK];exact Nat.le_of_lt (AO hdl),by
  cases q:(bd==sysModules)with
  |false=>rfl
  |true =>
   rw[beq_iff_eq.mp q]at hb5
   exact absurd hb5 qc,V5 hD gH⟩
 have core:∀H:Hp,(∀b,H b=none\/(∃o u,H b=some (.bG o u))\/b=P0)->H P0=some (.fj #[])->H bd=some (.bG (dcObj w.params l ep) (.dK (gS l)))->aI K H a (ns.map V.int)->dv P w H aF.heap->(∀b,H b≠none->b=a\/b=P0\/b=bd)->(H a≠none->K.lookup a=none)->(∀b o u,H b=some (.bG o u)->aF.heap.get? b=some o) ->
   (∀(H':Hp) (s':Xj) (b:Xi) (o:Obj) (u:HO),H b=some (.bG o u)->dv P w H' s'.heap->H' b=some (.bG o u)->s'.heap.get? b=some o) ->
   codeAny (model P w) callerA (.call (.ref fa) ⟨[.ref a],[]⟩) (λr s'=>r=.ok (.ret (.bool true))/\OldK aF.heap s'.heap/\s'.os=aF.os/\AllBare s'.gens) aF:=by
  intro H hO hHP hHD hS aD hA hK kf hfz';have base_of:∀ {b:Xi}{o:Obj},aF.heap.get? b=some o->H b=none->(HX aF.heap H).get? b=some o:=λe n=>QJ e n
  have noS:∀ {b:Xi}{o:Obj},aF.heap.get? b=some o->(∀xs n,o.data≠ .seq xs n)->(∀es n,o.data≠ .dict es n)->o.cls≠ .none->H b=none:=λ{b o} e d1 d3 d2=>by
   cases q:H b with
   |none=>rfl
   |some u =>
    rcases hA b (by rw[q];simp)with e' |e' |e'
    ·subst e';rw[ha]at e;cases e;exact absurd Zj (d1 _ _)
    ·subst e';rw[hP]at e;cases e;exact absurd Zj d2
    ·subst e';rw[hD]at e;cases e;exact absurd Zj (d3 _ _)
  have jD:∀ {b:Xi}{o:Obj}{es:Array DictEntry}{ep:Nat},b<5->aF.heap.get? b=some o->o.data=.dict es ep->H b=none:=λ{b o es ep} hb e d=>by
   cases q:H b with
   |none=>rfl
   |some u =>
    rcases hA b (by rw[q];simp)with e' |e' |e'
    ·subst e';rw[ha]at e;cases e;cases (show Data.seq vs.toArray _=Data.dict es ep from d)
    ·subst e';rw[hP]at e;cases e;cases (show Data.fields #[]=Data.dict es ep from d)
    ·subst e';exact absurd hb (Nat.not_lt.mpr hb5)
  have nsK:∀ {b:Xi}{m:SV},b<5->aF.heap.Ns b m->(HX aF.heap H).Ns b m:=λ{b m} hb ⟨o,es,ep,e,d,r⟩=>⟨o,es,ep,base_of e (jD hb e d),d,r⟩
  have hKb:K.In (HX aF.heap H):=λb o e=>base_of (KX b o e) (by
   cases q:H b with
   |none=>rfl
   |some u =>
    rcases hA b (by rw[q];simp)with e' |e' |e'
    ·subst e';rw[hK (by rw[q];simp)]at e;cases e
    ·subst e';rw[hKP]at e;cases e
    ·subst e'
     rw[hKD]at e;cases e)
  have hM:Mod K mg (HX aF.heap H):=⟨hKb,nsK qc kb,⟨mb,nsK qc hb,hbb⟩,let ⟨mc,h1,h2⟩:=hlim;⟨mc,nsK qc h1,h2⟩⟩
  have hCb:W.CodeHd (HX aF.heap H) c P0:=by
   obtain⟨o,vs',file,tf,flags,tg,inF,text,tt,e,af,hda,r⟩:=id hC;exact⟨o,vs',file,tf,flags,tg,inF,text,tt,base_of e (noS e (λxs n z=>by rw[hda]at z;cases z) (λxs n z=>by rw[hda]at z;cases z) (by rw[af];exact λz=>nomatch z)),af,hda,r⟩
  have hBb:(HX aF.heap H).BuiltinsAt mg P0:=by
   obtain⟨bm,o,a1,a2,a3,a4,a5,a6,a7,a8⟩:=id hB;exact⟨bm,o,a1,a2,a3,a4,base_of a5 (noS a5 (λxs n z=>by rw[a8]at z;cases z) (λxs n z=>by rw[a8]at z;cases z) (by rw[a6];exact λz=>nomatch z)),a6,a7,a8⟩
  have e0:ff P w K mg (HX aF.heap H) callerA [] aF H:=⟨rfl,hM,λb o e=>SN e,Nat.le_of_eq (O7 _ _),trivial,λb hb=>absurd (show b∈([]:List Xi)from hb) (by simp),aD,.of_eq hg⟩;refine codeAny_mono ((F _ hKb (nsK qc kb) hCb hBb).run callerA [] aF H ⟨[.ref a],[]⟩ [.ref a] [.ref a] _ _ hr e0 (bx aF (.ref a)) (.cons rfl .nil) (gP H hHP (.inr ⟨_,hHD⟩) hS)) λr s' h=>?_;cases r with
  |error e=>exact(hCX H e s' h).elim
  |ok fl =>
   cases fl with
   |next=>exact False.elim h
   |brk=>exact False.elim h
   |cont=>exact False.elim h
   |ret u =>
    obtain⟨v,H',os,bare,un,f7,r',q⟩:=h;have q':v=.bl true:=q;subst q';obtain rfl:u=Value.bool true:=r'
    have tabNow:∃more,s'.heap.get? P0=some (W.tabObj (#[]++more)):=by
     obtain⟨more,e⟩:=un.eY P0 #[] hHP;exact⟨more,f7 _ _ e⟩
    have rest:∀b o,b≠P0->aF.heap.get? b=some o->s'.heap.get? b=some o:=λb o hb e=>by
     cases q:H b with
     |none=>exact un.keep b o e q (by intro z;exact absurd (show b∈([]:List Xi)from z) (by simp)) (by simp)
     |some u =>
      rcases hO b with z |⟨ob,xs,z⟩ |z
      ·rw[q]at z;cases z
      ·have z2:=un.fb b ob _ z;have e1:=kf b ob _ z;rw[e]at e1;cases e1;exact hfz' H' s' b o xs z f7 z2
      ·exact absurd z hb
    refine⟨Zj,⟨λb o e=>?_,λb o e=>?_⟩,os,bare⟩
    ·by_cases hb:b=P0
     ·subst hb;rw[hP]at e;cases e;obtain⟨more,e2⟩:=tabNow;exact .inr (.inl ⟨(hC.tab hP).isCodeTable,Zj,#[],more,Zj,e2⟩)
     ·exact .inl (rest b o hb e)
    ·by_cases hb:b=P0
     ·subst hb;obtain⟨more,e2⟩:=tabNow;exact⟨_,e2⟩
     ·exact⟨o,rest b o hb e⟩
 have fzD:∀(H':Hp) (s':Xj),dv P w H' s'.heap->H' bd=some (.bG (dcObj w.params l ep) (.dK (gS l)))->s'.heap.get? bd=some (dcObj w.params l ep):=λH' s' f7 z=>by
  obtain⟨e1,_⟩:=f7 bd _ z;exact e1
 have fzL:∀(H':Hp) (s':Xj),dv P w H' s'.heap->H' a=some (.bG { cls:=.type "list", data:=.seq vs.toArray } (.lst (ns.map V.int)))->s'.heap.get? a=some { cls:=.type "list", data:=.seq vs.toArray }:=λH' s' f7 z=>by
  obtain⟨e1,_⟩:=f7 a _ z;exact e1
 cases hk:K.lookup a with
 |some o =>
  have e:=KX a o hk;rw[ha]at e;cases e
  have cs:∀b u,(if b=P0 then some (HO.fj #[])else if b=bd then some (.bG (dcObj w.params l ep) (.dK (gS l)))else none)=some u->(b=P0/\u=.fj #[])\/(b=bd/\u=.bG (dcObj w.params l ep) (.dK (gS l))):=λb u z=>by
   by_cases h1:b=P0
   ·rw[Zp h1]at z;exact .inl ⟨h1,(Option.some.inj z).symm⟩
   ·rw[Zq h1]at z;by_cases h2:b=bd
    ·rw[Zp h2]at z;exact .inr ⟨h2,(Option.some.inj z).symm⟩
    ·rw[Zq h2]at z;cases z
  refine core (λb=>if b=P0 then some (.fj #[])else if b=bd then some (.bG (dcObj w.params l ep) (.dK (gS l)))else none) (λb=>?_) (Zp Zj) ((Zq (Ne.symm hPb)).trans (Zp Zj)) (.inr ⟨_,vs.toArray,_,hk,Zj,Zj,Zj,by rw[size_toArray,lenV];exact hl,by simpa using rv⟩) (λb u z=>?_) (λb z=>?_) (λz=>absurd ((Zq haP).trans (Zq ie)) z) (λb o u z=>?_) (λH' s' b o u z f7 z'=>?_)
  ·by_cases h1:b=P0
   ·exact .inr (.inr h1)
   ·by_cases h2:b=bd
    ·exact .inr (.inl ⟨_,_,(Zq h1).trans (Zp h2)⟩)
    ·exact .inl ((Zq h1).trans (Zq h2))
  ·rcases cs b u z with⟨rfl,rfl⟩ |⟨rfl,rfl⟩
   ·exact hP
   ·exact okD _
  ·cases q:(if b=P0 then some (HO.fj #[])else if b=bd then some (.bG (dcObj w.params l ep) (.dK (gS l)))else none)with
   |none=>exact absurd q z
   |some u =>
    rcases cs b u q with⟨h,_⟩ |⟨h,_⟩
    ·exact .inr (.inl h)
    ·exact .inr (.inr h)
  ·rcases cs b _ z with⟨rfl,h⟩ |⟨rfl,h⟩
   ·cases h
   ·cases h;exact hD
  ·rcases cs b _ z with⟨rfl,h⟩ |⟨rfl,h⟩
   ·cases h
   ·cases h;exact fzD H' s' f7 z'
 |none =>
  have cs:∀b u,(if b=P0 then some (HO.fj #[])else if b=bd then some (.bG (dcObj w.params l ep) (.dK (gS l)))else if b=a then some (.bG { cls:=.type "list", data:=.seq vs.toArray } (.lst (ns.map V.int)))else none)=some u->(b=P0/\u=.fj #[])\/(b=bd/\u=.bG (dcObj w.params l ep) (.dK (gS l)))\/(b=a/\u=.bG { cls:=.type "list", data:=.seq vs.toArray } (.lst (ns.map V.int))):=λb u z=>by
   by_cases h1:b=P0
   ·rw[Zp h1]at z;exact .inl ⟨h1,(Option.some.inj z).symm⟩
   ·rw[Zq h1]at z;by_cases h2:b=bd
    ·rw[Zp h2]at z;exact .inr (.inl ⟨h2,(Option.some.inj z).symm⟩)
    ·rw[Zq h2]at z;by_cases h3:b=a
     ·rw[Zp h3]at z;exact .inr (.inr ⟨h3,(Option.some.inj z).symm⟩)
     ·rw[Zq h3]at z;cases z
  refine core (λb=>if b=P0 then some (.fj #[])else if b=bd then some (.bG (dcObj w.params l ep) (.dK (gS l)))else if b=a then some (.bG { cls:=.type "list", data:=.seq vs.toArray } (.lst (ns.map V.int)))else none) (λb=>?_) (Zp Zj) ((Zq (Ne.symm hPb)).trans (Zp Zj)) (.inl (.inr ⟨{ cls:=.type "list", data:=.seq vs.toArray },(Zq haP).trans ((Zq ie).trans (Zp Zj))⟩)) (λb u z=>?_) (λb z=>?_) (λ_=>hk) (λb o u z=>?_) (λH' s' b o u z f7 z'=>?_)
  ·by_cases h1:b=P0
   ·exact .inr (.inr h1)
   ·by_cases h2:b=bd
    ·exact .inr (.inl ⟨_,_,(Zq h1).trans (Zp h2)⟩)
    ·by_cases h3:b=a
     ·exact .inr (.inl ⟨_,_,(Zq h1).trans ((Zq h2).trans (Zp h3))⟩)
     ·exact .inl ((Zq h1).trans ((Zq h2).trans (Zq h3)))
  ·rcases cs b u z with⟨rfl,rfl⟩ |⟨rfl,rfl⟩ |⟨rfl,rfl⟩
   ·exact hP
   ·exact okD _
   ·exact⟨ha,by rw[AK];exact hl,vs,_,rv,ha⟩
  ·cases q:(if b=P0 then some (HO.fj #[])else if b=bd then some (.bG (dcObj w.params l ep) (.dK (gS l)))else if b=a then some (.bG { cls:=.type "list", data:=.seq vs.toArray } (.lst (ns.map V.int)))else none)with
   |none=>exact absurd q z
   |some u =>
    rcases cs b u q with⟨h,_⟩ |⟨h,_⟩ |⟨h,_⟩
    ·exact .inr (.inl h)
    ·exact .inr (.inr h)
    ·exact .inl h
  ·rcases cs b _ z with⟨rfl,h⟩ |⟨rfl,h⟩ |⟨rfl,h⟩
   ·cases h
   ·cases h;exact hD
   ·cases h;exact ha
  ·rcases cs b _ z with⟨rfl,h⟩ |⟨rfl,h⟩ |⟨rfl,h⟩
   ·cases h
   ·cases h;exact fzD H' s' f7 z'
   ·cases h;exact fzL H' s' f7 z'
def Pf {l:W.OpenLaw}{n k:Nat}{q:Program}{loose:Xf}{XP:(Str->Option Value)->Heap->Prop}{YP:World->Heap->Prop}{d:DefRec}{K:Params->FG}{CX:World->gN}{sp:World->Sp}{c P0 bd:Xi}{dl:List DcE}{ep:Nat}
  (hn:l.most=some n) (hn2:n<=sizeLine) (hdf:d.params.defaults=[]) (hr:aE k callerA) (hb5:5<=bd) (hdl:dl.length<=1000) (gH:(dl.map (·.1)).Nodup)
  (hY:∀(w:World) (h:Heap),YP w h->(K w.params).In h/\h.get? P0=some (W.tabObj #[])/\(K w.params).lookup P0=none/\W.CodeHd h c P0/\h.get? bd=some (dcObj w.params dl ep)/\(K w.params).lookup bd=none)
  (F:∀(w:World) (mg:SV) (fa:Xi) (h:Heap),(K w.params).In h->h.Ns mainGlobals mg->mg d.name=some (.ref fa) ->
   ∃fd:FuncData,(∀(s:Xj) (u:Value),BindsTo s fd ⟨[u],[]⟩ [(x,u)]) /\
    ∀base:Heap,(K w.params).In base->base.Ns mainGlobals mg->W.CodeHd base c P0->base.BuiltinsAt mg P0->AZ l.prog w (K w.params) mg base (CX w) k fa fd [x] (sp w))
  (gP:∀(w:World) (H:Hp) (a:Xi) (ns:List Int),ns.length<=n->H P0=some (.fj #[])->Rd H bd (.dK (gS dl))->aI (K w.params) H a (ns.map V.int)->sp w [.ref a] H (λv _=>v=.bl true) λ_ _ _=>False)
  (hCX:∀(w:World) (H:Hp) (s:Xj) (e:Value) (s':Xj),CX w [] H s (λ_ _ _=>False) e s'->False) :
  W.WalkO q loose XP YP l.row.toRowW d [] (λf vs=>PySem.call f vs):=by
 refine Att.attach_call hn hdf λw aY aF mg mb fa o pm cd doc a vs ns G Y ho hd fm hmg de bz be hg=>?_;obtain⟨KX,hP,hKP,hC,hD,hKD⟩:=hY w _ Y;obtain⟨fd,hb,hF⟩:=F w mg fa _ KX G.T.g hmg
 have hB:aF.heap.BuiltinsAt mg P0:=by
  obtain⟨bm,ob,b1,b2,b3,b4,b5,b6⟩:=G.T.bmain;refine⟨bm,ob,b1,b2,λz=>?_,λz=>?_,b3,b4,b5,b6⟩
  ·obtain⟨o',es,ep,e,hd',_⟩:=G.T.g;rw[z,e]at b3;cases b3;rw[hd']at b6;cases b6
  ·rw[z,hP]at b3;cases b3;cases b4
 exact NK KX G.T.g G.T.b G.T.builtins G.T.nolimit hg de bz (Nat.le_trans be hn2) hr hP hKP hC hB hD hKD hb5 hdl gH hF hb (λH hH hR hS=>gP w H a ns be hH hR hS) λH e s'=>hCX w H aF e s'
section
def S8:MtR X "dict.pop" (λx xs H Q=>∃a kvs k v,x=.ref a/\xs=[kV k]/\H a=some (.dK kvs)/\As kvs k=some v/\Q v (upd H a (.dK (FW kvs k)))):=by
 intro aa s σ H x xs u us Q I rx rs h;obtain⟨a,kvs,k,v,rfl,rfl,hd,hv,q⟩:=h;cases rx;obtain⟨uk,rfl,rk⟩:=Br rs;obtain⟨z,y,vs,rel,dd⟩:=OB I.aD hd
 have hpart:(keyPart uk).isSome=true:=by
  cases k with
  |inl i=>obtain⟨t,rfl⟩:=(show ∃t,uk=Value.int i t from rk);rfl
  |inr x=>obtain⟨t,rfl⟩:=(show ∃t,uk=Value.str x t from rk);rfl
 have rr:=rel.val k;rw[hv]at rr;cases e:valueAt vs k with
 |none=>rw[e]at rr;exact False.elim rr
 |some w =>
  rw[e]at rr;refine call_meetsIn PySem.F.slot_dict_pop dd.typeIs PySem.F.entry_dict_pop (PySem.F.args_dict_pop_2 _ _) (meets_dict_pop_there (AY X.prog X.w) a (FX rk) [] (.inl Zj) hpart) ⟨vs,w,dd,by rw[←rel.length];exact z,e,λh' gz hs=>?_⟩;have he:∃q,h'.get? a=some q:=let ⟨q,_,_,hq,_⟩:=gz;⟨q,hq⟩
  have jH:(FW kvs k).length<=sizeLine:=by
   have:(FW kvs k).length<=kvs.length:=ZS _ _;omega
  exact⟨v,_,FY I (by rw[hd];exact True.intro) hs he (Hm jH y (rel.drop k) gz),rr,q⟩
def NL:aS X (.type "dict") (λxs H Q=>∃a kvs,xs=[.ref a]/\Rd H a (.dK kvs)/\∀p,H p=none->Q (.ref p) (upd H p (.dK kvs))):=by
 intro aa s σ H xs us Q I r h;obtain⟨a,kvs,rfl,hd,q⟩:=h;obtain⟨u,rfl,ru⟩:=Br r;cases (show u=Value.ref a from ru);obtain⟨z,y,vs,rel,dd⟩:=Dl I.aD hd;have hp0:H s.heap.objs.size=none:=I.aD.fresh (Zy _);refine kt_call_dict y dd (by rw[←rel.length];exact z) λh' gz hs=>?_;refine⟨.ref s.heap.objs.size,_,I.laid (a:=s.heap.objs.size) (o:=.dK kvs) (t':=s.toks) (λb o e=>?_) (Zy _) (Hm z (by rw[beq_eq_false_iff_ne];exact Nat.ne_of_gt I.big) rel gz),Zj,q _ hp0⟩;exact(hs.2 b (ZC (lt_size e))).trans (ZX _ e)
def NM:cS X (compareOp .In) (λx y H Q=>∃(c:Nat) (j:Str),x=.str ⟨#[c]⟩/\y=.str j/\Q (.bl (decide (c∈j.cps.toList))) H):=by
 intro aa s σ H x y v u Q I rx ry h;obtain⟨c,j,rfl,rfl,q⟩:=h;obtain⟨t,rfl⟩:=rx;obtain⟨t',rfl⟩:=ry;refine PyProof.Rows.in_str ?_;rw[StrLaws.found_one];exact⟨.bl _,H,I,Zj,q⟩
def Le {i7:List Stmt}{t:TS} (h:eN X i7 t):eN X i7 (λD σ H=>t D σ H\/∃a kvs,H a=some (.dK kvs)/\∀o,t D σ (upd H a (.bG o (.dK kvs)))):=by
 intro aa s σ H D I k;rcases k with k |⟨a,kvs,e,k⟩
 ·exact h aa s σ _ D I k
 ·obtain⟨o,I'⟩:=I.freeze e;exact h aa s σ _ D I' (k o)
end
def Pg:aS X (.builtin "isinstance") (λxs H Q=>∃a o kvs,xs=[.ref a,.ty "dict"]/\H a=some (.bG o (.dK kvs))/\Q (.bl true) H):=by
 intro aa s σ H xs us Q I r h;obtain⟨a,o,kvs,rfl,e,q⟩:=h;obtain⟨u,uT,rfl,ru,jV⟩:=Hf r;cases (show uT=Value.type "dict" from jV);cases (show u=Value.ref a from ru);obtain⟨_,_,vs,_,dd⟩:=Dl I.aD (.inr ⟨o,e⟩);obtain⟨ob,es,ep,h1,ex,_⟩:=id dd;exact W.kia_one W.kitx_dict I.cV ⟨ob,h1,ex.1⟩ rfl (λz=>nomatch z) λtk=>⟨.bl true,H,I.tok tk,rfl,q⟩
def Ul (h:PE X e te):PE X e (λσ H Q=>te σ H λv H1=>∃a kvs,v=.ref a/\H1 a=some (.dK kvs)/\∀o,Q v (upd H1 a (.bG o (.dK kvs)))):=by
 intro aa s σ H Q I k;refine aG (h aa s σ H _ I k) λu s1 ⟨v,H1,I1,r,a,kvs,e,ha,q⟩=>?_;obtain⟨o,I2⟩:=I1.freeze ha;exact⟨v,_,I2,r,q o⟩
def Fi (xs:Array Nat):Prop:=∀i j (hi:i<xs.size) (hj:j<xs.size),i<j->xs[i]<xs[j]
structure BlS (xs:Array Nat) (j k:Nat):Prop where
 le:k<=xs.size
 lo:∀i (h:i<xs.size),i<k->xs[i]<j
 hi:∀i (h:i<xs.size),k<=i->j<=xs[i]
def IA {xs:Array Nat} (hs:Fi xs) (j:Nat):∀(fuel lo hi:Nat),lo<=hi->hi<=xs.size->hi - lo<=fuel->(∀i (h:i<xs.size),i<lo->xs[i]<j)->(∀i (h:i<xs.size),hi<=i->j<=xs[i])->BlS xs j (SetTable.below.go xs j fuel lo hi)
 |0,lo,hi,h1,h2,h3,h4,h5=>by
  rw[SetTable.below.go];have e:lo=hi:=by omega
  subst e;exact⟨h2,h4,h5⟩
 |fuel+1,lo,hi,h1,h2,h3,h4,h5=>by
  rw[SetTable.below.go];by_cases hlt:lo<hi
  ·rw[Zp hlt];have hm:(lo+hi) / 2<xs.size:=by omega
   have eg:xs.getD ((lo+hi) / 2) j=xs[(lo+hi) / 2]:=by
    rw[Array.getD_eq_getD_getElem?,Array.getElem?_eq_getElem hm];rfl
   show BlS xs j (if xs.getD ((lo+hi) / 2) j<j then _ else _);rw[eg];by_cases hc:xs[(lo+hi) / 2]<j
   ·rw[Zp hc];refine IA hs j fuel _ _ qe h2 qe (λi jl hl=>?_) h5;by_cases e:i=(lo+hi) / 2
    ·subst e;exact hc
    ·exact Nat.lt_trans (hs i ((lo+hi) / 2) jl hm qe) hc
   ·rw[Zq hc];refine IA hs j fuel _ _ qe qe qe h4 (λi jl hl=>?_);by_cases e:i=(lo+hi) / 2
    ·subst e;omega
    ·have:=hs ((lo+hi) / 2) i hm jl qe;omega
  ·rw[Zq hlt];have e:lo=hi:=by omega
   subst e;exact⟨h2,h4,h5⟩
def Fj {xs:Array Nat} (hs:Fi xs) (j:Nat):BlS xs j (SetTable.below xs j):=by
 unfold SetTable.below;exact IA hs j xs.size 0 xs.size (Nat.zero_le _) (Zy _) qe (λi _ h=>absurd h (Nat.not_lt_zero _)) (λi h h'=>absurd h qe)
def Um {xs:Array Nat} (hs:Fi xs) {j:Nat} (h:SetTable.has xs j=false):∀i (h:i<xs.size),xs[i]≠j:=by
 intro i hi e;have B:=Fj hs j;unfold SetTable.has at h
 have hk:SetTable.below xs j=i:=by
  rcases Nat.lt_trichotomy (SetTable.below xs j) i with z |z |z
  ·have h1:=B.hi _ qe (Zy (SetTable.below xs j));have h2:=hs (SetTable.below xs j) i qe hi z;omega
  ·exact z
  ·have:=B.lo i hi z;omega
 rw[hk,Array.getElem?_eq_getElem hi,e]at h;simp at h
def JF {α:Type} (xs:Array α) (p:Nat) (x:α):(SetTable.insertAt xs p x).toList=xs.toList.take p++x::xs.toList.drop p:=by
 unfold SetTable.insertAt;rw[Array.toList_append,Array.toList_push,Array.toList_extract,Array.toList_extract];simp[List.extract_eq_drop_take];exact take_of_length_le (by simp)
def Q8 (l:List Nat):Prop:=l.Pairwise (· < ·)
def Lf {xs:Array Nat}:Fi xs ↔ Q8 xs.toList:=by
 unfold Q8;rw[List.pairwise_iff_getElem];constructor
 ·intro h i j hi hj hij;exact h i j (by simpa using hi) (by simpa using hj) hij
 ·intro h i j hi hj hij;exact h i j (by simpa using hi) (by simpa using hj) hij
def Lg {xs:Array Nat} (hs:Fi xs) {j:Nat} (hn:∀i (h:i<xs.size),xs[i]≠j):Fi (SetTable.insertAt xs (SetTable.below xs j) j):=by
 have B:=Fj hs j;rw[Lf]at hs ⊢;rw[JF];generalize SetTable.below xs j=k at B;unfold Q8 at hs ⊢;have hd:=hs;rw[←List.take_append_drop k xs.toList,List.pairwise_append]at hd;obtain⟨h1,h2,h3⟩:=hd;rw[List.pairwise_append,pairwise_cons];refine⟨h1,⟨λy hy=>?_,h2⟩,λa ha b hb=>?_⟩
 ·obtain⟨i,hi,rfl⟩:=List.getElem_of_mem hy;rw[List.length_drop]at hi;have hsz:k+i<xs.size:=by have:xs.toList.length=xs.size:=Array.length_toList;omega
  rw[List.getElem_drop];have:=B.hi (k+i) hsz qe;have ne:=hn (k+i) hsz;simp only[Array.getElem_toList];omega
 ·have haj:a<j:=by
   obtain⟨i,hi,rfl⟩:=List.getElem_of_mem ha;rw[ZA]at hi;have hsz:i<xs.size:=by have:xs.toList.length=xs.size:=Array.length_toList;omega
   rw[List.getElem_take];have:=B.lo i hsz qe;simpa using this
  rcases mem_cons.mp hb with rfl |hb
  ·exact haj
  ·exact h3 a ha b hb
def NN (n:Nat):Fi (Array.range n):=λi j hi hj h=>by simpa using h
structure Fk (t:SetTable) (n:Nat):Prop where
 fits:t.fits n=true
 rise:Fi t.place
 nod:t.dummies=#[]
def S9 {t:SetTable}{j:Nat} (h:t.slot j=.empty) (hs:Fi t.place):∀i (h:i<t.place.size),t.place[i]≠j:=by
 refine Um hs ?_;unfold SetTable.slot at h;unfold SetTable.has;cases e:(t.place[SetTable.below t.place j]?==some j)with
 |false=>rfl
 |true =>
  simp only[e,if_true]at h;cases h
def Lh (j:Nat):SetTable.has #[] j=false:=by
 unfold SetTable.has;simp
def NO {t:SetTable}{j:Nat} (hd:t.dummies=#[]):t.slot j≠ .dummy:=by
 unfold SetTable.slot;rw[hd,Lh];intro h;simp only[Bool.false_eq_true,if_false]at h;split at h <;> cases h
def Ph (t:SetTable) (p:SetTable.Probe):(t.advance p).dummy=p.dummy:=by
 unfold SetTable.advance;split <;> rfl
def Li {t:SetTable}{hashAt:Nat->Int}{h:Int} (hd:t.dummies=#[]):∀(fuel:Nat) (p:SetTable.Probe) {j:Nat}{d:Option Nat},p.dummy=none->SetTable.probe.go t hashAt h fuel p=some (.empty j d)->d=none/\t.slot j=.empty
 |0,p,j,d,hp,e=>by rw[SetTable.probe.go]at e;cases e
 |fuel+1,p,j,d,hp,e=>by
  rw[SetTable.probe.go]at e;cases hs:t.slot p.j with
  |empty =>
   rw[hs]at e;cases e;exact⟨hp,hs⟩
  |dummy=>exact absurd hs (NO hd)
  |live i =>
   rw[hs]at e;simp only at e;split at e
   ·cases e
   ·exact Li hd fuel _ (by rw[Ph];exact hp) e
def TC {t:SetTable}{h:Int}{j:Nat}{wd:Bool} (hs:Fi t.place) (hd:t.dummies=#[]) (e:t.freeSlot h=some (j,wd)):(∀i (h:i<t.place.size),t.place[i]≠j)/\wd=false:=by
 unfold SetTable.freeSlot at e;cases q:t.probe (λ_=>h+1) h (t.probeStart h)with
 |none=>rw[q]at e;cases e
 |some m =>
  rw[q]at e;cases m with
  |candidate a b c=>cases e
  |empty a b =>
   unfold SetTable.probe at q;obtain⟨rfl,h2⟩:=Li hd _ _ rfl q;cases e;exact⟨S9 h2 hs,Zj⟩
def Fl (t:SetTable) (n:Nat):Fk (t.standIn n) n/\(t.standIn n).led=t.led:=⟨⟨SetTable.standIn_fits t n,NN n,rfl⟩,rfl⟩
def NP {t:SetTable} (n:Nat) (hs:Fi t.place) (hd:t.dummies=#[]):Fk (t.orStandIn n) n/\(t.orStandIn n).led=t.led:=by
 unfold SetTable.orStandIn;split
 ·rename_i h;exact⟨⟨h,hs,hd⟩,Zj⟩
 ·exact Fl t n
def Pi {t:SetTable}{es:Array (Int×Value)} (h:Int) (x:Value) (T:Fk t es.size):Fk (layNew t es h x).2.1 (layNew t es h x).1.size/\(layNew t es h x).2.1.led=t.led:=by
 unfold layNew;cases e:t.freeSlot h with
 |none =>
  have:=Fl t (es.size+1);simpa using this
 |some q =>
  obtain⟨j,wd⟩:=q;obtain⟨h1,_⟩:=TC T.rise T.nod e;have hr:=Lg T.rise h1
  exact NP (t:=(t.put j).1) _ hr (by
   show(if SetTable.has t.dummies j=true then _ else t.dummies)=#[];rw[T.nod,Lh]
   rfl)
def Pj (f:Nat->Option Nat) (n:Nat):Fi (((List.range n).filterMap λj=>(f j).map λx=>(j,x)).map (·.1)).toArray:=by
 rw[Lf];show List.Pairwise _ _;rw[List.toList_toArray,List.pairwise_map,List.pairwise_filterMap];refine List.Pairwise.imp ?_ (List.pairwise_lt_range (n:=n));intro a b ie p hp q hq;obtain⟨x,_,rfl⟩:=Z6.mp hp;obtain⟨y,_,rfl⟩:=Z6.mp hq;exact ie
def Lj {t:SetTable}{es:Array (Int×Value)} (n:Nat) (T:Fk t es.size):Fk (relayAll t es n).2.1 (relayAll t es n).1.size/\(relayAll t es n).2.1.led=t.led:=by
 unfold relayAll;cases e:t.relaid (es.map (·.1)) n with
 |none=>exact Fl t es.size
 |some q =>
  obtain⟨t',order⟩:=q;simp only;split
  ·rename_i h;rw[Bool.and_eq_true]at h;unfold SetTable.relaid SetTable.laid at e;obtain⟨owner,_,e2⟩:=Option.bind_eq_some_iff.mp e;cases e2;exact⟨⟨h.2,Pj (λj=>owner.getD j none) _,Zj⟩,Zj⟩
  ·exact Fl t es.size
def Q9 {t:SetTable}{n:Nat} (b:Bool) (T:Fk t n):Fk { t with plain:=b } n:=⟨T.fits,T.rise,T.nod⟩
def RB (a b:Nat) (led:Bool):Fk (SetTable.fresh a b led) 0:=⟨by rfl,λi j hi _ _=>absurd hi (Nat.not_lt_zero _),rfl⟩
section
variable {prog:Program}{K:Type} [DecidableEq K]
structure jR (knd:KeyKind prog w K) (k:K) (e:Int×Value):Prop where
 is:knd.is k e.2=true
 hs:e.1=knd.hash k
 sc:e.2.scannable=true
def cX (knd:KeyKind prog w K) (h:Heap) (a:Xi) (ks:List K) (led:Bool):Prop :=
 ∃(o:Obj) (ar:Array (Int×Value)) (ep:Nat) (t:SetTable) (ft:List K),h.get? a=some o/\o.ExactSet/\o.data=.set ar ep t/\Fk t ar.size/\t.led=led/\ft.Perm ks/\Paired (jR knd) ft ar.toList/\ar.size<scanBound
def Pk {knd:KeyKind prog w K}{ks:List K}{es:List (Int×Value)} (h:Paired (jR knd) ks es):ElemsOf knd es:=by
 induction h with
 |nil=>intro e he;cases he
 |cons r t ih =>
  intro e he;rcases mem_cons.mp he with rfl |he
  ·exact⟨⟨_,r.is,r.hs⟩,r.sc⟩
  ·exact ih e he
def Lk {knd:KeyKind prog w K}{k:K}:∀ {ks:List K}{es:List (Int×Value)},Paired (jR knd) ks es->(es.findIdx? (λe=>knd.is k e.2)).isSome=decide (k∈ks)
 |_,_,.nil=>rfl
 |k'::ks,e::es,.cons r t=>by
  rw[List.findIdx?_cons]
  have hk:knd.is k e.2=decide (k=k'):=by
   cases q:knd.is k e.2 with
   |true=>rw[knd.inj _ _ _ q r.is,ZL rfl]
   |false =>
    symm
    refine ZO λz=>?_;rw[z,r.is]at q;cases q
  rw[hk];by_cases z:k=k'
  ·rw[ZL z,Zp rfl,z];simp
  ·rw[ZO z,Zq qc];have:=Lk (knd:=knd) (k:=k) t;simp only[Option.isSome_map,this,mem_cons,z,false_or]
def Ll {knd:KeyKind prog w K}{es jo:List (Int×Value)} (p:jo.Perm es):∀ {ks:List K},Paired (jR knd) ks es->∃ft,ft.Perm ks/\Paired (jR knd) ft jo:=by
 induction p with
 |nil=>intro ks h;exact⟨ks,List.Perm.refl _,h⟩
 |cons x p ih =>
  intro ks h;cases h with
  |cons r t =>
   obtain⟨ft,p',h'⟩:=ih t;exact⟨_::ft,p'.cons _,.cons r h'⟩
 |swap x y l =>
  intro ks h;cases h with
  |cons r t =>
   cases t with
   |cons r2 t=>exact⟨_::_::_,List.Perm.swap ..,.cons r2 (.cons r t)⟩
 |trans p1 p2 ih1 ih2 =>
  intro ks h;obtain⟨k1,q1,h1⟩:=ih2 h;obtain⟨k2,q2,h2⟩:=ih1 h1;exact⟨k2,q2.trans q1,h2⟩
def cX.put {knd:KeyKind prog w K}{o:Obj}{ar:Array (Int×Value)}{ep:Nat}{t:SetTable} (e:h.get? a=some o) (x:o.ExactSet) (d:o.data=.set ar ep t) {ky:Array (Int×Value)}{t':SetTable}{ks ft:List K}{led:Bool}
  (T:Fk t' ky.size) (hl:t'.led=led) (p:ft.Perm ks) (pr:Paired (jR knd) ft ky.toList) (hs:ky.size<scanBound):cX knd (h.update a (Obj.putSet ky t')) a ks led:=by
 refine⟨_,ky,ep+1,t',ft,ZU _ e (by rw[putSet_of ky t' d];rfl),?_,?_,T,hl,p,pr,hs⟩
 ·rw[putSet_of ky t' d];exact⟨x.1,x.2.1,x.2.2⟩
 ·rw[putSet_of ky t' d]
def XJ {knd:KeyKind prog w K}{ks:List K}{led:Bool}{k:K}{x:Value}{Q:Bool->Xj->Prop} (hx:knd.is k x=true) (hsc:x.scannable=true) (hS:cX knd s.heap a ks led) (hn:ks.length+1<scanBound)
  (h1:k∈ks->Q false s) (h2:k∉ ks->∀h',Heap.SameBut a s.heap h'->cX knd h' a (k::ks) led->Q true { s with heap:=h' }):wpAny (model prog w) A (setAddHashed a x (knd.hash k)) Q E s:=by
 obtain⟨o,ar,ep,t,ft,e,xs,d,T,hl,p,pr,hs⟩:=hS;have el:=Pk pr
 have be:ar.size=ks.length:=by
  have:=pr.length;rw[←p.length_eq,this];simp
 unfold setAddHashed;refine ZK ?_;rw[setAddHashedIn.eq_def];refine Zx (wpAny_setState_of e d T.fits ?_);show wpAny _ _ (if byScan x ar=true then _ else _) _ _ _;rw[Zp (byScan_of hsc hs el)];refine Zx ?_;unfold setAddByScan;refine Zx ?_
 wp_step
 refine Zx (wpAny_setScan_of hx e d T.fits el ?_);have hf:=Lk (knd:=knd) (k:=k) pr;cases q:ar.toList.findIdx? (λe=>knd.is k e.2)with
 |some j =>
  rw[q]at hf;have hm:k∈ks:=p.mem_iff.mp (ZV hf.symm);exact Zw (Zw (h1 hm))
 |none =>
  rw[q]at hf;have hm:k∉ ks:=λz=>absurd (p.mem_iff.mpr z) (of_decide_eq_false hf.symm);obtain⟨T1,l1⟩:=Pi (knd.hash k) x T;have p1:=layNew_perm t ar (knd.hash k) x
  have hq:∃ksn,ksn.Perm (k::ks)/\Paired (jR knd) ksn (layNew t ar (knd.hash k) x).1.toList:=by
   have pr2:Paired (jR knd) (ft++[k]) (ar.push (knd.hash k,x)).toList:=by
    rw[Array.toList_push];exact Paired.snoc pr ⟨hx,Zj,hsc⟩
   obtain⟨k2,q2,kj⟩:=Ll p1 pr2;refine⟨k2,q2.trans ?_,kj⟩;exact(List.perm_append_comm).trans (p.cons k)
  have hsz:(layNew t ar (knd.hash k) x).1.size<scanBound:=by
   have:=p1.length_eq;rw[Array.length_toList,Array.length_toList,Array.size_push]at this;omega
  rw[hl]at l1
  dsimp only
  generalize layNew t ar (knd.hash k) x=L at T1 l1 hq hsz ⊢;obtain⟨eU,t1,wd,gv⟩:=L;obtain⟨kn1,pk1,pr1⟩:=hq;have hsz:eU.size<scanBound:=hsz
  have fin:∀t2:SetTable,Fk t2 eU.size->t2.led=led->∀g:Bool->Sem Unit,(∀b aF (Q':Unit->Xj->Prop),Q' () aF->wpAny (model prog w) A (g b) Q' E aF) ->
    wpAny (model prog w) A (do storeSet a eU t2;if (!wd&&t2.tooFull)=true then (do g (relayAll t2 eU (SetTable.grown eU.size)).2.2;storeSet a (relayAll t2 eU (SetTable.grown eU.size)).1 (relayAll t2 eU (SetTable.grown eU.size)).2.1;pure (some true))else pure (some true)) (λb s'=>b=some true/\∃h',Heap.SameBut a s.heap h'/\cX knd h' a (k::ks) led/\s'={ s with heap:=h' }) E s:=λt2 T2 ia g hg=>by
   refine Zx (wpAny_storeSet_of e d ?_ (fits_of_scanBound hsz));have S1:=cX.put (knd:=knd) e xs d T2 ia pk1 pr1 hsz;have B1:Heap.SameBut a s.heap (s.heap.update a (Obj.putSet eU t2)):=Heap.SameBut.update _ _ _;split
   ·refine Zx (hg _ _ _ ?_);have e1:(s.heap.update a (Obj.putSet eU t2)).get? a=some (Obj.putSet eU t2 o):=ZU _ e (by rw[putSet_of eU t2 d];rfl);have d1:(Obj.putSet eU t2 o).data=.set eU (ep+1) t2:=by rw[putSet_of eU t2 d]
    have x1:(Obj.putSet eU t2 o).ExactSet:=by rw[putSet_of eU t2 d];exact⟨xs.1,xs.2.1,xs.2.2⟩
    obtain⟨T3,l3⟩:=Lj (SetTable.grown eU.size) T2;have p3:=relayAll_perm t2 eU (SetTable.grown eU.size)
    have hs3:(relayAll t2 eU (SetTable.grown eU.size)).1.size<scanBound:=by
     have:=p3.length_eq;rw[Array.length_toList,Array.length_toList]at this;omega
    obtain⟨k3,q3,pr3⟩:=Ll p3 pr1;refine Zx (wpAny_storeSet_of e1 d1 ?_ (fits_of_scanBound hs3));exact Zw ⟨Zj,_,B1.trans (Heap.SameBut.update _ _ _),cX.put e1 x1 d1 T3 (l3.trans ia) (q3.trans pk1) pr3 hs3,Zj⟩
   ·exact Zw ⟨Zj,_,B1,S1,Zj⟩
  have out:∀ {b:Option Bool}{s':Xj},(b=some true/\∃h',Heap.SameBut a s.heap h'/\cX knd h' a (k::ks) led/\s'={ s with heap:=h' })->wpAny (model prog w) A (match b with |some added=>pure added |none=>setAddHashedIn a x (knd.hash k) 99999) Q E s':=λ{b s'} hb=>by
   obtain⟨rfl,h',B,S,rfl⟩:=hb;exact Zw (h2 hm h' B S)
  refine Zv (Q:=λb s'=>b=some true/\∃h',Heap.SameBut a s.heap h'/\cX knd h' a (k::ks) led/\s'={ s with heap:=h' }) ?_ (λb s' hb=>out hb) (λ_ _ z=>z)
  have gw:∀(b:Bool) (aF:Xj) (Q':Unit->Xj->Prop),Q' () aF->wpAny (model prog w) A (match b with |true=>rule "set.scan.the-table-gave-way" |false=>pure ()) Q' E aF:=λb aF Q' fv=>by
   cases b
   ·exact Zw fv
   ·show wpAny _ _ (rule _) _ _ _
    wp_step
    exact fv
  refine Zx (gw gv s _ ?_)
  have go:∀byv:Bool,wpAny (model prog w) A (do storeSet a eU (if byv=true then t1 else { t1 with plain:=false });if (!wd&&(if byv=true then t1 else { t1 with plain:=false }).tooFull)=true then (do (match (relayAll (if byv=true then t1 else { t1 with plain:=false }) eU (SetTable.grown eU.size)).2.2 with |true=>rule "set.scan.the-table-gave-way" |false=>pure ());storeSet a (relayAll (if byv=true then t1 else { t1 with plain:=false }) eU (SetTable.grown eU.size)).1 (relayAll (if byv=true then t1 else { t1 with plain:=false }) eU (SetTable.grown eU.size)).2.1;pure (some true))else pure (some true)) (λb s'=>b=some true/\∃h',Heap.SameBut a s.heap h'/\cX knd h' a (k::ks) led/\s'={ s with heap:=h' }) E s:=λbyv=>by
   cases byv
   ·exact fin _ (Q9 false T1) l1 _ gw
   ·exact fin _ T1 l1 _ gw
  split
  ·rw[hashByValue_scannable 8 hsc];refine Zx (Zw ?_);exact go _
  ·exact go true
end
noncomputable abbrev Fo (w:World):Bool:=!w.params.followText "set-order"
noncomputable def KR (P:Program) (w:World) (a:Xi) (ks:List Key):HO:=.ext λh=>cX (AY P w) h a ks (Fo w)
def Uo {ks:List Key} (hs:cX (AY P w) h a ks (Fo w)):aP P w H h a (KR P w a ks):=by
 refine⟨hs,?_,λh1 h2 s1 hk=>?_⟩
 ·obtain⟨o,_,_,_,_,e,_⟩:=hs;exact⟨o,e⟩
 ·obtain⟨o,ar,ep,t,ft,e,r⟩:=s1;exact⟨o,ar,ep,t,ft,hk _ e,r⟩
def Up {ks:List Key} (aD:dv P w H h) (e:H a=some (KR P w a ks)):cX (AY P w) h a ks (Fo w):=(aD a _ e).1
open Classical in
noncomputable def IB (acc:List Key) (k:Key):List Key:=if k∈acc then acc else k::acc
def RC {k:Key}{v:Value} (h:(AY P w).is k v=true):v.scannable=true:=by
 cases v <;> first |rfl | (cases k <;> cases h)
section
def Pl {d:Xi} (e:h.get? d=some { cls:=.type "set", data:=.set #[] 0 (SetTable.fresh 0 0 (Fo w)) }):cX (AY P w) h d [] (Fo w) :=
 ⟨_,#[],0,_,[],e,⟨rfl,rfl,rfl⟩,rfl,RB _ _ _,rfl,List.Perm.refl _,.nil,qc⟩
end
def aA:Slot "set_iterator" "__next__" "set_iterator.__next__" :=
 .of (owner := "set_iterator") (n := "__next__") (by rw[typeLookup_type,builtinLookup_eq_fast];kernel_rfl) qb qb qb
  (by first |exact .inl qb |exact .inr qb) (by rw[isSubtype_type];kernel_rfl)
def Bb:entryFor table "set_iterator.__next__" = some Builtin.«set_iterator.__next__»:=entryFor_of_tree qd
def Bn (a:Value):argsOk "set_iterator.__next__" ⟨[a],[]⟩:=by unfold argsOk;kernel_rfl
def IC:entryFor table "set.__iter__" = some Builtin.«frozenset.__iter__»:=entryFor_alias (id' := "frozenset.__iter__") qd (by first |rfl |decide +kernel) qb qd
def E3 {α:Type}:∀(xs:List α) (i:Nat) (h:i<xs.length),(xs[i]::xs.eraseIdx i).Perm xs
 | [],i,h=>absurd h (Nat.not_lt_zero _)
 |x::r,0,h=>List.Perm.refl _
 |x::r,i+1,h=>(List.Perm.swap ..).trans ((E3 r i (Nat.lt_of_succ_lt_succ h)).cons x)
def g7 (h:Heap) (I a:Xi) (first:Value) (i n ep:Nat):Prop:=∃o,h.get? I=some o/\o.cls=.type "set_iterator" /\ o.data=.fields #[first,.int i 0,.ref a,.int n 0,.int ep 0]
def g7.typeIs {I a first i n ep} (x:g7 s.heap I a first i n ep):s.TypeIs (.ref I) "set_iterator" := let ⟨o,ho,hc,_⟩:=x;⟨o,ho,hc⟩
section
variable {prog:Program}
def KS {src:Source}{n:Nat}{Q:Nat->Xj->Prop} (hn:n≠0) (h:∀i d,i<n->Q i { s with drawn:=d }):wpAny (model prog w) A (choose src n) Q E s:=λΓ p hΓ=>⟨hn,h _ _ (Nat.mod_lt _ (Nat.pos_of_ne_zero hn))⟩
def Dp {α:Type}:∀(n:Nat) (xs:List α) (s:Xj) {Q:List α->Xj->Prop},xs.length<=n->(∀ys d,List.Perm ys xs->Q ys { s with drawn:=d })->wpAny (model prog w) A (drawOrder n xs) Q E s
 |0,xs,s,Q,hl,h=>by
  have e:xs=[]:=List.length_eq_zero_iff.mp (Nat.le_zero.mp hl);subst e;unfold drawOrder;exact Zw (h _ s.drawn (List.Perm.refl _))
 |n+1,[],s,Q,hl,h=>by
  unfold drawOrder;exact Zw (h _ s.drawn (List.Perm.refl _))
 |n+1,x::r,s,Q,hl,h=>by
  unfold drawOrder;refine Zx (KS (by simp) λi d hi=>?_);rw[Z7 hi]
  have be:((x::r).eraseIdx i).length<=n:=by
   rw[List.length_eraseIdx,Zp hi];simp at hl ⊢;omega
  refine Zx (Dp n _ _ be λys d' hp=>Zw (h _ d' ?_));exact(hp.cons _).trans (E3 _ _ hi)
def OQ {α:Type} (next:Nat->Nat):∀(fuel k:Nat) (left:List α) (out:Array α),left.length<=fuel->(pickOrder.go next fuel k left out).toList.Perm (out.toList++left)
 |0,k,left,out,h=>by
  have e:left=[]:=List.length_eq_zero_iff.mp (Nat.le_zero.mp h);subst e;unfold pickOrder.go;simp
 |fuel+1,k,[],out,h=>by
  unfold pickOrder.go;simp
 |fuel+1,k,x::r,out,h=>by
  unfold pickOrder.go;have hi:next k % (x::r).length<(x::r).length:=Nat.mod_lt _ (by simp)
  rw[Z7 hi]
  have be:((x::r).eraseIdx (next k % (x::r).length)).length<=fuel:=by
   rw[List.length_eraseIdx,Zp hi];simp at h ⊢;omega
  refine(OQ next fuel (k+1) _ _ be).trans ?_;rw[Array.toList_push,List.append_assoc];exact(E3 _ _ hi).append_left _
def Jl {α:Type} (next:Nat->Nat) (xs:Array α):(pickOrder next xs).toList.Perm xs.toList:=by
 unfold pickOrder;exact(OQ next xs.size 0 xs.toList #[] (by simp)).trans (by simp)
section
variable {I:Xi}{slot nx i n ep:Nat}{o:Obj}{ar:Array (Int×Value)}{t:SetTable}{x:Value}{Q:Option Value->Xj->Prop}
def Fp (hit:g7 s.heap I a (.int slot 0) i n ep) (ho:s.heap.get? a=some o) (hd:o.data=.set ar ep t) (hf:t.fits ar.size=true) (hn:ar.size=n)
  (hN:∀ {A:Around}{E:VS}{Q:Option (Value×Nat)->Xj->Prop},Q (some (x,nx)) s->wpAny (model prog w) A (setNext a slot i ep) Q E s)
  (hQ:∀h',g7 h' I a (.int nx 0) (i+1) n ep->Heap.SameBut I s.heap h'->Q (some x) { s with heap:=h' }):wpAny (model prog w) A (pyNext (.ref I)) Q E s:=by
 obtain⟨oi,iu,hci,fG⟩:=id hit;unfold pyNext
 refine Zx (wpAny_attempt (wpAny_callSpecial?_slot (name:=Str.ofString "__next__") hit.typeIs aA
  (wpAny_call_entry aA hit.typeIs Bb ?_ (Bn _))))
 unfold Builtin.«set_iterator.__next__»;refine Zx (Zw ?_);refine Zx (wpAny_fieldsOf iu fG ?_);show wpAny _ _ (setEntries a >>= _) _ _ _;refine Zx (wpAny_setEntries_of ho hd hf ?_);rw[Zq (by rw[hn];simp)];show wpAny _ _ (setNext a slot i ep >>= _) _ _ _;refine Zx (hN ?_);show wpAny _ _ (setField (.ref I) 0 (rawInt nx) >>= _) _ _ _;refine Zx (wpAny_setField iu fG (by simp) ?_);have cy:=ZU (Obj.mapFields (·.setIfInBounds 0 (rawInt nx))) iu (Obj.isFreed_of_fields (Obj.data_mapFields fG _));have eT:=Obj.data_mapFields fG (·.setIfInBounds 0 (rawInt nx));show wpAny _ _ (setField (.ref I) 1 (rawInt ((i:Int)+1)) >>= _) _ _ _;refine Zx (wpAny_setField cy eT (by simp) ?_);refine Zw ⟨_,Zj,Zw (hQ _ ?_ ((Heap.SameBut.update ..).trans (Heap.SameBut.update ..)))⟩;exact⟨_,ZU _ cy (Obj.isFreed_of_fields (Obj.data_mapFields eT _)),(Obj.cls_mapFields ..).trans ((Obj.cls_mapFields ..).trans hci),by rw[Obj.data_mapFields eT];simp[rawInt]⟩
def HC (hh:A.handled=none) (hit:g7 s.heap I a (.int slot 0) i n ep) (ho:s.heap.get? a=some o) (hd:o.data=.set ar ep t) (hf:t.fits ar.size=true) (hn:ar.size=n)
  (hN:∀ {A:Around}{E:VS}{Q:Option (Value×Nat)->Xj->Prop},Q none s->wpAny (model prog w) A (setNext a slot i ep) Q E s)
  (hQ:∀h',Heap.ExtBut I s.heap h'->Q none { s with heap:=h' }):wpAny (model prog w) A (pyNext (.ref I)) Q E s:=by
 obtain⟨oi,iu,hci,fG⟩:=id hit;unfold pyNext
 refine Zx (wpAny_attempt (wpAny_callSpecial?_slot (name:=Str.ofString "__next__") hit.typeIs aA
  (wpAny_call_entry aA hit.typeIs Bb ?_ (Bn _))))
 unfold Builtin.«set_iterator.__next__»;refine Zx (Zw ?_);refine Zx (wpAny_fieldsOf iu fG ?_);show wpAny _ _ (setEntries a >>= _) _ _ _;refine Zx (wpAny_setEntries_of ho hd hf ?_);rw[Zq (by rw[hn];simp)];show wpAny _ _ (setNext a slot i ep >>= _) _ _ _;refine Zx (hN ?_);show wpAny _ _ (setField (.ref I) 2 .none >>= _) _ _ _;refine Zx (wpAny_setField iu fG (by simp) ?_);show wpAny _ _ (newExc (.type "StopIteration") [] >>= _) _ _ _;refine Zx ?_;simp only[newExc,newTuple];refine Zx (wpAny_newObj_type ?_ (by size_fits));refine Zx (m:=firstArgMember _ _) (wpAny_of_eq (a:=Value.none) (by first |rfl | (simp only[firstArgMember];rfl)) ?_);refine wpAny_newObj_type ?_ (by size_fits);simp only[raiseNew];refine Zx (wpAny_handled ?_);rw[show A.in1.handled=none from hh];refine Zx (Zw (wpAny_throw ?_));refine Zx (wpAny_isInstance (T := "StopIteration") (b:=true) ⟨_,ZN _ Zj,Zj⟩ isSubtype_stop ?_);exact Zw (hQ _ (((Heap.SameBut.update ..).extBut.push _).push _))
def KU {T:Xi}{ot:Obj}{tp:Array Value}{m pl:Nat}{hx:Int} (hit:g7 s.heap I a (.ref T) i n ep) (ho:s.heap.get? a=some o) (hd:o.data=.set ar ep t) (hf:t.fits ar.size=true) (hn:ar.size=n)
  (hT:s.heap.get? T=some ot) (htd:ot.data=.seq tp m) (hi:tp[i]?=some (.int pl 0)) (he:ar[pl]?=some (hx,x))
  (hQ:∀h',g7 h' I a (.ref T) (i+1) n ep->Heap.SameBut I s.heap h'->Q (some x) { s with heap:=h' }):wpAny (model prog w) A (pyNext (.ref I)) Q E s:=by
 obtain⟨oi,iu,hci,fG⟩:=id hit;unfold pyNext
 refine Zx (wpAny_attempt (wpAny_callSpecial?_slot (name:=Str.ofString "__next__") hit.typeIs aA
  (wpAny_call_entry aA hit.typeIs Bb ?_ (Bn _))))
 unfold Builtin.«set_iterator.__next__»;refine Zx (Zw ?_);refine Zx (wpAny_fieldsOf iu fG ?_);show wpAny _ _ (setEntries a >>= _) _ _ _;refine Zx (wpAny_setEntries_of ho hd hf ?_);rw[Zq (by rw[hn];simp)];show wpAny _ _ (seqItems? (.ref T) >>= _) _ _ _;refine Zx ?_;unfold seqItems?;refine Zx (wpAny_load hT ?_);rw[htd];refine Zw ?_
 dsimp only
 rw[Int.toNat_natCast,hi]
 dsimp only
 unfold setNextDrawn;refine Zx (Zx (wpAny_setState_of ho hd hf ?_))
 dsimp only
 rw[Zq (by simp),Int.toNat_natCast,he];refine Zw ?_;show wpAny _ _ (setField (.ref I) 1 (rawInt ((i:Int)+1)) >>= _) _ _ _;refine Zx (wpAny_setField iu fG (by simp) ?_);refine Zw ⟨_,Zj,Zw (hQ _ ?_ (Heap.SameBut.update ..))⟩;exact⟨_,ZU _ iu (Obj.isFreed_of_fields (Obj.data_mapFields fG _)),(Obj.cls_mapFields ..).trans hci,by rw[Obj.data_mapFields fG];simp[rawInt]⟩
def Lm {T:Xi}{ot:Obj}{tp:Array Value}{m:Nat} (hh:A.handled=none) (hit:g7 s.heap I a (.ref T) i n ep) (ho:s.heap.get? a=some o) (hd:o.data=.set ar ep t) (hf:t.fits ar.size=true) (hn:ar.size=n)
  (hT:s.heap.get? T=some ot) (htd:ot.data=.seq tp m) (hi:tp[i]?=none)
  (hQ:∀h',Heap.ExtBut I s.heap h'->Q none { s with heap:=h' }):wpAny (model prog w) A (pyNext (.ref I)) Q E s:=by
 obtain⟨oi,iu,hci,fG⟩:=id hit;unfold pyNext
 refine Zx (wpAny_attempt (wpAny_callSpecial?_slot (name:=Str.ofString "__next__") hit.typeIs aA
  (wpAny_call_entry aA hit.typeIs Bb ?_ (Bn _))))
 unfold Builtin.«set_iterator.__next__»;refine Zx (Zw ?_);refine Zx (wpAny_fieldsOf iu fG ?_);show wpAny _ _ (setEntries a >>= _) _ _ _;refine Zx (wpAny_setEntries_of ho hd hf ?_);rw[Zq (by rw[hn];simp)];show wpAny _ _ (seqItems? (.ref T) >>= _) _ _ _;refine Zx ?_;unfold seqItems?;refine Zx (wpAny_load hT ?_);rw[htd];refine Zw ?_
 dsimp only
 rw[Int.toNat_natCast,hi]
 dsimp only
 refine Zx (wpAny_setField iu fG (by simp) ?_);have cy:=ZU (Obj.mapFields (·.setIfInBounds 0 (rawInt 0))) iu (Obj.isFreed_of_fields (Obj.data_mapFields fG _));have eT:=Obj.data_mapFields fG (·.setIfInBounds 0 (rawInt 0));refine Zx (wpAny_setField cy eT (by simp) ?_);show wpAny _ _ (newExc (.type "StopIteration") [] >>= _) _ _ _;refine Zx ?_;simp only[newExc,newTuple];refine Zx (wpAny_newObj_type ?_ (by size_fits));refine Zx (m:=firstArgMember _ _) (wpAny_of_eq (a:=Value.none) (by first |rfl | (simp only[firstArgMember];rfl)) ?_);refine wpAny_newObj_type ?_ (by size_fits);simp only[raiseNew];refine Zx (wpAny_handled ?_);rw[show A.in1.handled=none from hh];refine Zx (Zw (wpAny_throw ?_));refine Zx (wpAny_isInstance (T := "StopIteration") (b:=true) ⟨_,ZN _ Zj,Zj⟩ isSubtype_stop ?_);exact Zw (hQ _ ((((Heap.SameBut.update ..).trans (Heap.SameBut.update ..)).extBut.push _).push _))
end
end
def Dq:Slot "set_iterator" "__iter__" "set_iterator.__iter__" :=
 .of (owner := "set_iterator") (n := "__iter__") (by rw[typeLookup_type,builtinLookup_eq_fast];kernel_rfl) qb qb qb
  (by first |exact .inl qb |exact .inr qb) (by rw[isSubtype_type];kernel_rfl)
def Gc:entryFor table "set_iterator.__iter__" = some Builtin.«dict_keyiterator.__iter__»:=entryFor_alias (id' := "dict_keyiterator.__iter__") qd (by first |rfl |decide +kernel) qb qd
def HH (a:Value):argsOk "set_iterator.__iter__" ⟨[a],[]⟩:=by unfold argsOk;kernel_rfl
def g7.at {h':Heap}{I a first i n ep} (x:g7 h I a first i n ep) (e:∀o,h.get? I=some o->h'.get? I=some o):g7 h' I a first i n ep:=let ⟨o,ho,r⟩:=x;⟨o,e _ ho,r⟩
section
variable {prog:Program}{I T:Xi}{n ep:Nat}{o ot:Obj}{ar:Array (Int×Value)}{t:SetTable}
def NQ {first:Value}{i:Nat}{Q:VS} (hit:g7 s.heap I a first i n ep) (h:Q (.ref I) s):wpAny (model prog w) A (pyIter (.ref I)) Q E s:=by
 refine wpAny_pyIter_slot hit.typeIs Dq (wpAny_call_entry Dq hit.typeIs Gc ?_ (HH _));show wpAny _ _ (ret (.ref I)) _ _ s;exact Zw ⟨_,Zj, "set_iterator", _,hit.typeIs,aA.lookup,h⟩
def Ge {G:Nat->Value->Prop}{vs:Xg} (jM:a≠I) (hTI:T≠I)
  (hIt:∀i (s:Xj) first,i<n->s.heap.get? a=some o->s.heap.get? T=some ot->g7 s.heap I a first i n ep->G i first->∀(Q:Option Value->Xj->Prop) (E:VS),(∀first' h' v,vs[i]?=some v->g7 h' I a first' (i+1) n ep->G (i+1) first'->Heap.SameBut I s.heap h'->Q (some v) { s with heap:=h' })->wpAny (model prog w) A (pyNext (.ref I)) Q E s)
  (hEn:∀(s:Xj) first,s.heap.get? a=some o->s.heap.get? T=some ot->g7 s.heap I a first n n ep->G n first->∀(Q:Option Value->Xj->Prop) (E:VS),(∀h',Heap.ExtBut I s.heap h'->Q none { s with heap:=h' })->wpAny (model prog w) A (pyNext (.ref I)) Q E s) :
  WalksS prog w A I [I,a,T] [I] (λa b=>b=a) n (λi v=>vs[i]?=some v) (λi s=>s.heap.get? a=some o/\s.heap.get? T=some ot/\∃first,g7 s.heap I a first i n ep/\G i first) where
 sub:=λb hb=>by simp at hb;simp[hb]
 grefl:=λ_=>rfl
 gtrans:=λ_ _ _ h1 h2=>h2.trans h1
 frame:=λi s h' tk st _ hk=>⟨hk a (by simp) _ st.1,hk T (by simp) _ st.2.1,let ⟨f,x,g⟩:=st.2.2;⟨f,x.at λo e=>hk I (by simp) o e,g⟩⟩
 item:=λi s Q E hi st hQ=>by
  obtain⟨ha,hT,first,hit,g⟩:=st;refine hIt i s first hi ha hT hit g Q E λfirst' h' v hv gx g' sb=>?_
  exact hQ v _ hv ⟨(sb.2 a jM).trans ha,(sb.2 T hTI).trans hT,first',gx,g'⟩ ⟨λb ob hb e=>(sb.2 b (λz=>hb (by simp[z]))).trans e,Zj,Zj,Zj,Zy _⟩
 done:=λs Q E st hQ=>by
  obtain⟨ha,hT,first,hit,g⟩:=st;exact hEn s first ha hT hit g Q E λh' eb=>hQ _ ⟨λb ob hb e=>eb b ob (λz=>hb (by simp[z])) e,Zj,Zj,Zj,Zy _⟩
 self:=λi s Q E st hQ=>let ⟨_,_,f,x,_⟩:=st;NQ x hQ
def NR {xs:Array Nat} (hs:Fi xs):SetTable.below xs 0=0:=by
 have B:=Fj hs 0;rcases Nat.eq_zero_or_pos (SetTable.below xs 0)with h |h
 ·exact h
 ·exact absurd (B.lo 0 (Z2 h B.le) h) (Nat.not_lt_zero _)
def NS {xs:Array Nat} (hs:Fi xs) {i:Nat} (hi:i<xs.size):SetTable.below xs (xs[i]+1)=i+1:=by
 have B:=Fj hs (xs[i]+1)
 have h1:i<SetTable.below xs (xs[i]+1):=by
  rcases Nat.lt_or_ge i (SetTable.below xs (xs[i]+1))with h |h
  ·exact h
  ·exact absurd (B.hi i hi h) qe
 have h2:SetTable.below xs (xs[i]+1)<=i+1:=by
  rcases Nat.lt_or_ge (i+1) (SetTable.below xs (xs[i]+1))with h |h
  ·have hlt:=Z2 h B.le;have h3:=B.lo (i+1) hlt h;have h4:=hs i (i+1) hi hlt (Nat.lt_succ_self _);omega
  ·exact h
 omega
def Jm {slot i:Nat}{Q:Option (Value×Nat)->Xj->Prop} (ho:s.heap.get? a=some o) (hd:o.data=.set ar ep t) (hf:t.fits ar.size=true) (hw:w.params.followText "set-order" = true)
  (h:Q ((pickOrder (w.params.setOrder a ep) ar)[i]?.map λe=>(e.2,slot)) s):wpAny (model prog w) A (setNext a slot i ep) Q E s:=by
 unfold setNext;refine Zx (wpAny_setState_of ho hd hf ?_);unfold setsByText;refine Zx (Zx (wpAny_askSetting (Zw ?_)));show wpAny _ _ (if w.params.followText "set-order" = true then _ else _) _ _ _;rw[Zp hw];show wpAny _ _ (if (ep != ep)=true then _ else _) _ _ _;rw[Zq (by simp)];unfold setWalk;refine Zx (Zx (wpAny_setState_of ho hd hf ?_));unfold setsByText;refine Zx (Zx (wpAny_askSetting (Zw ?_)));show wpAny _ _ (if w.params.followText "set-order" = true then _ else _) _ _ _;rw[Zp hw];refine Zx (wpAny_askSetting (Zw ?_));exact Zw h
def Jn {slot i:Nat}{Q:Option (Value×Nat)->Xj->Prop} (ho:s.heap.get? a=some o) (hd:o.data=.set ar ep t) (hf:t.fits ar.size=true) (hw:w.params.followText "set-order" = false) (hl:t.led=true) (hp:(!t.plain&&decide (ar.size>1))=false)
  (h:Q (match ar[SetTable.below t.place slot]?,t.place[SetTable.below t.place slot]? with |some (_,x),some j=>some (x,j+1) |_,_=>none) s):wpAny (model prog w) A (setNext a slot i ep) Q E s:=by
 unfold setNext;refine Zx (wpAny_setState_of ho hd hf ?_);unfold setsByText;refine Zx (Zx (wpAny_askSetting (Zw ?_)));show wpAny _ _ (if w.params.followText "set-order" = true then _ else _) _ _ _;rw[Zq (by rw[hw];decide)];show wpAny _ _ (if (!t.plain&&decide (ar.size>1))=true then _ else _) _ _ _;rw[Zq (by rw[hp];decide)];show wpAny _ _ ((if (!t.led && !ar.isEmpty)=true then unsupported _ else pure ()) >>= _) _ _ _;rw[Zq (by rw[hl];simp)];exact Zx (Zw (Zw h))
end
section
variable {prog:Program}{ep:Nat}{o:Obj}{ar:Array (Int×Value)}{t:SetTable}
def NT {α β:Type} (ar:Array α) (f:α->β) (z:β) {ys:List Nat} (hp:ys.Perm (List.range ar.size)):(ys.map λi=>(ar[i]?.map f).getD z).Perm (ar.toList.map f):=by
 refine(hp.map _).trans (List.Perm.of_eq ?_);refine List.ext_getElem (by simp) λi h1 h2=>?_;simp at h1 h2;simp[h2]
def NU {Q:VS} (hx:o.ExactSet) (ho:s.heap.get? a=some o) (hd:o.data=.set ar ep t) (K:Fk t ar.size) (hl:t.led=Fo w) (hb:ar.size<scanBound)
  (hQ:∀(h':Heap) (d:Drawn) (I:Xi) (fp:List Xi) (vs:Xg) (St:Nat->Xj->Prop),vs.Perm (ar.toList.map (·.2))->(∀A:Around,A.handled=none->WalksS prog w A I fp [I] (λa b=>b=a) ar.size (λi v=>vs[i]?=some v) St)->St 0 { s with heap:=h',drawn:=d } ->
   (∀b o,s.heap.get? b=some o->h'.get? b=some o)->s.heap.objs.size<=I->(∀b∈fp,b=a\/s.heap.objs.size<=b)->Q (.ref I) { s with heap:=h',drawn:=d }) :
  wpAny (model prog w) A (pyIter (.ref a)) Q E s:=by
 have hT:s.TypeIs (.ref a) "set" := ⟨o,ho,hx.1⟩;have aw:a<s.heap.objs.size:=lt_size ho
 have hps:t.place.size=ar.size:=by
  have:=K.fits;unfold SetTable.fits at this;simp at this;exact this.1
 refine wpAny_pyIter_slot hT PySem.F.slot_set_iter (wpAny_call_entry PySem.F.slot_set_iter hT IC ?_ (PySem.F.args_set_iter_1 _));unfold Builtin.«frozenset.__iter__»;refine Zx (m:=Builtin.Frozenset.slot0 _ _) (Zw ?_);unfold Builtin.Frozenset.sizeOf;refine Zx (Zx (wpAny_setEntries_of ho hd K.fits (Zw ?_)));unfold setDrawn;refine Zx (Zx (wpAny_setState_of ho hd K.fits ?_));unfold setsByText;refine Zx (Zx (wpAny_askSetting (Zw (Zw ?_))));show wpAny _ _ (if (!w.params.followText "set-order" && (!t.plain&&decide (ar.size>1)))=true then _ else _) _ _ _;cases hw:w.params.followText "set-order" with
 |true =>
  rw[Zq (by simp)];refine Zx (Zw ?_);refine Zx (wpAny_setEpoch_of ho hd K.fits ?_);refine Zx (wpAny_newObj_type (Zw ⟨_,Zj, "set_iterator", _,⟨_,ZN _ Zj,Zj⟩,aA.lookup,?_⟩));have jM:a≠s.heap.objs.size:=ZC aw
  have hsz:(pickOrder (w.params.setOrder a ep) ar).size=ar.size:=by
   have:=(Jl (w.params.setOrder a ep) ar).length_eq;simpa using this
  refine hQ _ s.drawn _ [s.heap.objs.size,a,a] ((pickOrder (w.params.setOrder a ep) ar).toList.map (·.2)) _ ((Jl _ ar).map _) (λA' hA'=>Ge (I:=s.heap.objs.size) (T:=a) (o:=o) (ot:=o) (n:=ar.size) (ep:=ep) (G:=λi f=>f=.int 0 0) jM jM ?_ ?_) ⟨ZX _ ho,ZX _ ho,_,⟨_,ZN _ Zj,Zj,Zj⟩,Zj⟩ (λb o e=>ZX _ e) (Zy _) ?_
  ·rintro i s1 first hi ha _ hit rfl Q1 E1 h1
   have hg:(pickOrder (w.params.setOrder a ep) ar)[i]?=some (pickOrder (w.params.setOrder a ep) ar)[i]:=Array.getElem?_eq_getElem qe;refine Fp (slot:=0) (nx:=0) (x:=(pickOrder (w.params.setOrder a ep) ar)[i].2) hit ha hd K.fits Zj (λ{A2 E2 Q2} h2=>Jm ha hd K.fits hw ?_) (λh' gx sb=>h1 _ h' _ ?_ gx Zj sb)
   ·rw[hg];exact h2
   ·rw[ZE,Array.getElem?_toList,hg];rfl
  ·rintro s1 first ha _ hit rfl Q1 E1 h1
   have hg:(pickOrder (w.params.setOrder a ep) ar)[ar.size]?=none:=Array.getElem?_eq_none qe;refine HC (slot:=0) hA' hit ha hd K.fits Zj (λ{A2 E2 Q2} h2=>Jm ha hd K.fits hw ?_) h1;rw[hg];exact h2
  ·intro b hb;simp at hb;rcases hb with h |h
   ·exact .inr (Nat.le_of_eq h.symm)
   ·exact .inl h
 |false =>
  have hled:t.led=true:=by rw[hl];show(!w.params.followText "set-order")=true;rw[hw];rfl
  cases hp:(!t.plain&&decide (ar.size>1))with
  |false =>
   rw[Zq (by simp)];refine Zx (Zw ?_);refine Zx (wpAny_setEpoch_of ho hd K.fits ?_);refine Zx (wpAny_newObj_type (Zw ⟨_,Zj, "set_iterator", _,⟨_,ZN _ Zj,Zj⟩,aA.lookup,?_⟩));have jM:a≠s.heap.objs.size:=ZC aw;refine hQ _ s.drawn _ [s.heap.objs.size,a,a] (ar.toList.map (·.2)) _ (List.Perm.refl _) (λA' hA'=>Ge (I:=s.heap.objs.size) (T:=a) (o:=o) (ot:=o) (n:=ar.size) (ep:=ep) (G:=λi f=>∃slot:Nat,f=.int slot 0/\SetTable.below t.place slot=i) jM jM ?_ ?_) ⟨ZX _ ho,ZX _ ho,_,⟨_,ZN _ Zj,Zj,Zj⟩,0,Zj,NR K.rise⟩ (λb o e=>ZX _ e) (Zy _) ?_
   ·rintro i s1 first hi ha _ hit ⟨slot,rfl,hsl⟩ Q1 E1 h1
    have hg:ar[i]?=some ar[i]:=Array.getElem?_eq_getElem hi;have iT:i<t.place.size:=by omega
    have hg2:t.place[i]?=some t.place[i]:=Array.getElem?_eq_getElem iT;refine Fp (slot:=slot) (nx:=t.place[i]+1) (x:=ar[i].2) hit ha hd K.fits Zj (λ{A2 E2 Q2} h2=>Jn ha hd K.fits hw hled hp ?_) (λh' gx sb=>h1 _ h' _ ?_ gx ⟨_,Zj,NS K.rise iT⟩ sb)
    ·rw[hsl,hg,hg2];exact h2
    ·rw[ZE,Array.getElem?_toList,hg];rfl
   ·rintro s1 first ha _ hit ⟨slot,rfl,hsl⟩ Q1 E1 h1
    refine HC (slot:=slot) hA' hit ha hd K.fits Zj (λ{A2 E2 Q2} h2=>Jn ha hd K.fits hw hled hp ?_) h1;rw[hsl,Array.getElem?_eq_none (Zy _)];exact h2
   ·intro b hb;simp at hb;rcases hb with h |h
    ·exact .inr (Nat.le_of_eq h.symm)
    ·exact .inl h
  |true =>
   rw[Zp (by simp)];refine Zx (Dp _ _ _ (by simp) λys d bj=>?_);have hyl:ys.length=ar.size:=by rw[bj.length_eq];simp
   have h4:scanBound=4096:=rfl
   have be:(ys.map λ(i:Nat)=>rawInt i).toArray.size<=sizeLine:=by
    have:sizeLine=2 ^ 24:=rfl;simp;omega
   refine Zx (wpAny_newObj_type ?_ (by size_fits));have ho1:(s.heap.push { cls:=.type "tuple", data:=.seq (ys.map λ(i:Nat)=>rawInt i).toArray }).get? a=some o:=ZX _ ho;refine Zx (wpAny_setEpoch_of ho1 hd K.fits ?_);refine Zx (wpAny_newObj_type (Zw ⟨_,Zj, "set_iterator", _,⟨_,ZN _ Zj,Zj⟩,aA.lookup,?_⟩));have hs1:(s.heap.push { cls:=.type "tuple", data:=.seq (ys.map λ(i:Nat)=>rawInt i).toArray }).objs.size=s.heap.objs.size+1:=Heap.size_push _ _;have jM:a≠(s.heap.push { cls:=.type "tuple", data:=.seq (ys.map λ(i:Nat)=>rawInt i).toArray }).objs.size:=by rw[hs1];exact ZC (Nat.lt_succ_of_lt aw)
   have hTI:s.heap.objs.size≠(s.heap.push { cls:=.type "tuple", data:=.seq (ys.map λ(i:Nat)=>rawInt i).toArray }).objs.size:=by rw[hs1];exact ZC (Nat.lt_succ_self _)
   refine hQ _ d _ [(s.heap.push { cls:=.type "tuple", data:=.seq (ys.map λ(i:Nat)=>rawInt i).toArray }).objs.size,a,s.heap.objs.size] (ys.map λi=>(ar[i]?.map (·.2)).getD .none) _ (NT ar _ _ bj) (λA' hA'=>Ge (I:=(s.heap.push { cls:=.type "tuple", data:=.seq (ys.map λ(i:Nat)=>rawInt i).toArray }).objs.size) (T:=s.heap.objs.size) (o:=o) (ot:={ cls:=.type "tuple", data:=.seq (ys.map λ(i:Nat)=>rawInt i).toArray }) (n:=ar.size) (ep:=ep) (G:=λi f=>f=.ref s.heap.objs.size) jM hTI ?_ ?_) ⟨ZX _ ho1,ZX _ (ZN _ Zj),_,⟨_,ZN _ Zj,Zj,Zj⟩,Zj⟩ (λb o e=>ZX _ (ZX _ e)) (Nat.le_trans (Nat.le_succ _) (Nat.le_of_eq hs1.symm)) ?_
   ·rintro i s1 first hi ha hT1 hit rfl Q1 E1 h1
    have hyi:ys[i]?=some (ys[i]'qe):=Z7 qe
    have hyr:ys[i]'qe<ar.size:=by
     have:=bj.mem_iff.mp (getElem_mem (l:=ys) (n:=i) qe);simpa using this
    have hg:ar[ys[i]'qe]?=some (ar[ys[i]'qe]):=Array.getElem?_eq_getElem hyr;refine KU (pl:=ys[i]'qe) (hx:=(ar[ys[i]'qe]).1) (x:=(ar[ys[i]'qe]).2) hit ha hd K.fits Zj hT1 Zj ?_ hg (λh' gx sb=>h1 _ h' _ ?_ gx Zj sb)
    ·rw[List.getElem?_toArray,ZE,hyi];rfl
    ·rw[ZE,hyi];simp[hyr]
   ·rintro s1 first ha hT1 hit rfl Q1 E1 h1
    refine Lm hA' hit ha hd K.fits Zj hT1 Zj ?_ h1;rw[List.getElem?_toArray,List.getElem?_eq_none (by simp[hyl])]
   ·intro b hb;simp at hb;rcases hb with h |h |h
    ·exact .inr (by rw[h];exact Nat.le_succ _)
    ·exact .inl h
    ·exact .inr (Nat.le_of_eq h.symm)
end
def Ln {α β:Type}{F:α->β->Prop}{es jo:List β} (p:jo.Perm es):∀ {ks:List α},Paired F ks es->∃ft,ft.Perm ks/\Paired F ft jo:=by
 induction p with
 |nil=>intro ks h;exact⟨ks,List.Perm.refl _,h⟩
 |cons x p ih =>
  intro ks h;cases h with
  |cons r t =>
   obtain⟨ft,p',h'⟩:=ih t;exact⟨_::ft,p'.cons _,.cons r h'⟩
 |swap x y l =>
  intro ks h;cases h with
  |cons r t =>
   cases t with
   |cons r2 t=>exact⟨_::_::_,List.Perm.swap ..,.cons r2 (.cons r t)⟩
 |trans p1 p2 ih1 ih2 =>
  intro ks h;obtain⟨k2,q2,h2⟩:=ih2 h;obtain⟨k1,q1,h1⟩:=ih1 h2;exact⟨k1,q1.trans q2,h1⟩
def ID {P:Program}{w:World}:∀ {ks:List Key}{es:List (Int×Value)},Paired (jR (AY P w)) ks es->Paired (λk v=>RelV (kV k) v) ks (es.map (·.2))
 |_,_,.nil=>.nil
 |_,_,.cons r t=>.cons (HN r.is) (ID t)
section
variable {prog:Program}{ep:Nat}{o:Obj}{ar:Array (Int×Value)}{t:SetTable}
def TD:typeLookup (.type "set") "__len__" = pure (some (.builtin "set.__len__")):=by rw[typeLookup_type,builtinLookup_eq_fast];kernel_rfl
def Lo {Q:Xg->Xj->Prop} (hh:A.handled=none) (hx:o.ExactSet) (ho:s.heap.get? a=some o) (hd:o.data=.set ar ep t) (K:Fk t ar.size) (hl:t.led=Fo w) (hb:ar.size<scanBound)
  (hQ:∀s' acc,(∀b o,s.heap.get? b=some o->s'.heap.get? b=some o)->s'.gens=s.gens->s'.os=s.os->acc.Perm (ar.toList.map (·.2))->Q acc s') :
  wpAny (model prog w) A (collect (.ref a)) Q E s:=by
 have aw:a<s.heap.objs.size:=lt_size ho;have a0:a≠s.heap.objs.size:=ZC aw
 have hn:ar.size<=sizeLine:=by
  have h4:scanBound=4096:=rfl;have:sizeLine=2 ^ 24:=rfl;omega
 unfold collect;refine Zx (wpAny_runValue (codeAny_builtin PySem.F.entry_proto_collect ?_));rw[Around.under_plainId PySem.F.plain_proto_collect _];show wpAny _ A.in1 (newList [] >>= λl=>again (.builtin "list.__iadd__" ⟨[l,.ref a],[]⟩)) _ _ s;refine Zx (wpAny_newObj_type ?_);refine Zw ⟨plainId_quiet PySem.F.plain_list_iadd _,codeAny_builtin PySem.F.entry_list_iadd ?_⟩;rw[Around.under_plainId PySem.F.plain_list_iadd _];show wpAny _ A.in1 (Builtin.List.listExtendWith (.ref s.heap.objs.size) (.ref a) (.ref s.heap.objs.size)) _ _ _;unfold Builtin.List.listExtendWith;have ho1:(s.heap.push { cls:=.type "list", data:=.seq ([]:Xg).toArray }).get? a=some o:=ZX _ ho;have hT1:Shared.TypeIs { s with heap:=s.heap.push { cls:=.type "list", data:=.seq ([]:Xg).toArray } } (.ref a) "set" := ⟨o,ho1,hx.1⟩;refine Zx (wpAny_typeOf hT1 ?_);have h1:Builtin.List.listSameRef (.ref s.heap.objs.size) (.ref a)=false:=by simp[Builtin.List.listSameRef,Ne.symm a0]
 have h2:(Value.type "set" == Value.type "list")=false:=by decide
 have h3:(Value.type "set" == Value.type "tuple")=false:=by decide
 simp only[h1,h2,h3,Bool.or_false,Bool.false_eq_true,if_false];refine Zx (NU hx ho1 hd K hl hb λh' d I fp vs St bj W hst keep hI ib=>?_);have hT2:Shared.TypeIs { s with heap:=h',drawn:=d } (.ref a) "set" := ⟨o,keep _ _ ho1,hx.1⟩;refine Zx (ZK ?_);unfold Builtin.List.listLengthHint;refine Zx (wpAny_specialOf hT2 TD ?_)
 wp_delta
 refine Zx (wpAny_isInstance (b:=true) hT2 (by rw[isSubtype_type];kernel_rfl) ?_);show wpAny _ A.in1 (typeOf (Value.ref a) >>= _) _ _ _;refine Zx (wpAny_typeOf hT2 ?_);refine Zw ?_;rw[Zp qc];have hHs:(s.heap.push { cls:=.type "list", data:=.seq ([]:Xg).toArray }).objs.size=s.heap.objs.size+1:=Heap.size_push _ _
 have hSf:s.heap.objs.size∉ fp:=λhm=>by
  rcases ib _ hm with z |z
  ·exact a0 z.symm
  ·exact absurd z (by show ¬ ((s.heap.push { cls:=.type "list", data:=.seq ([]:Xg).toArray }).objs.size<=s.heap.objs.size);rw[hHs];exact Nat.not_succ_le_self _)
 have hS:h'.get? s.heap.objs.size=some { cls:=.type "list", data:=.seq ([]:Xg).toArray }:=keep _ _ (ZN _ rfl);refine Zx (wpAny_rule ?_);refine Zx ?_;show wpAny _ A.in1 (updateSeq s.heap.objs.size (·.push .none) >>= λ_=>updateSeq s.heap.objs.size (·.pop)) _ _ _;refine Zx (wpAny_updateSeq hS Zj ?_);have hS₂:=ZU (Obj.mapSeq (·.push Value.none)) hS rfl;refine wpAny_updateSeq (hz:=by seq_fits) hS₂ Zj ?_;have hS₃:=ZU (Obj.mapSeq (·.pop)) hS₂ rfl
 have gM:∀b o,b≠s.heap.objs.size->h'.get? b=some o->((h'.update s.heap.objs.size (Obj.mapSeq (·.push Value.none))).update s.heap.objs.size (Obj.mapSeq (·.pop))).get? b=some o :=
  λb o hb e=>(ZW _ _ (Ne.symm hb)).trans ((ZW _ _ (Ne.symm hb)).trans e)
 refine Zw ⟨plainId_quiet PySem.F.plain_extend_loop _,codeAny_extend_loopS (W A.in1 hh) hn _ hSf _ ar.size 0 _ _ _ Zj (Nat.zero_le _) ((W A.in1 hh).frame 0 { s with heap:=h',drawn:=d } _ s.toks hst (Zy _) λb hb o e=>gM b o (λh=>hSf (h ▸ hb)) e) hS₃ (ItemsOf.nil _) λs' acc' c' hm hS' cb=>?_⟩;show wpAny _ A (load s.heap.objs.size >>= _) _ _ s';refine Zx (wpAny_load hS' ?_);refine Zw (hQ s' acc'.toList (λb ob e=>hm.heap b ob (λhb=>?_) (gM _ _ (ZC (lt_size e)) (keep _ _ (ZX _ e)))) hm.gens hm.os ?_)
 ·have hlt:=lt_size e;rcases mem_cons.mp hb with h |h
  ·exact absurd hlt (h ▸ ZF _)
  ·rw[ZG.mp h]at hlt;have hI':s.heap.objs.size+1<=I:=by rw[←hHs];exact hI
   exact absurd (Z2 hlt (Nat.le_of_succ_le hI')) (ZF _)
 ·have e:acc'.toList=vs:=by
   refine List.ext_getElem? λi=>?_;rw[Array.getElem?_toList];cases q:acc'[i]? with
   |none =>
    have hv:vs.length=ar.size:=by rw[bj.length_eq];simp
    rw[Array.getElem?_eq_none_iff,cb.1]at q;rw[List.getElem?_eq_none qe]
   |some v=>exact(cb.2 i v q).symm
  rw[e];exact bj
end
section
def Inv.went {s':Xj} (I:Inv X aa σ H s) (k:∀b u,s.heap.get? b=some u->s'.heap.get? b=some u) (hg:s'.gens=s.gens) (ho:s'.os=s.os):Inv X aa σ H s':=by
 have I1:=I.kept (t':=s'.toks) k;exact⟨I1.ok,ho.trans I.os,hg ▸ I.bare,I1.base,I1.loc,I1.cell,I1.free,I1.cG,I1.pin,I1.aD,I1.len⟩
end
def OR {h':Heap}{ks:List Key}{led:Bool} (e:∀o,h.get? a=some o->h'.get? a=some o) (x:cX (AY P w) h a ks led):cX (AY P w) h' a ks led :=
 let ⟨o,ar,ep,t,ft,q,r⟩:=x;⟨o,ar,ep,t,ft,e _ q,r⟩
def TF (acc:List Key) (k:Key):acc.length<=(IB acc k).length:=by
 unfold IB;split
 ·exact Zy _
 ·exact Nat.le_succ _
def KW (elt target iter:Expr) (ifs:List Expr) (scope:Scope) (pos:Pos) (it:Value) (D:Xi) (env:Env) :
  compTurn (.SetComp elt [⟨target,iter,ifs,0⟩] scope pos) 0 it (.ref D) env=(do
   standAt iter.pos
   match ←pyNext it with
   |none=>pure (.done .next)
   |some v =>
    letOwnedTupleGo target it v
    assign target env v
    let mut ok:=true
    for c in ifs do
     if ok then ok ←isTrue c env (eval c env)
    if ok then
     (do
      let v ←eval elt env
      standAt elt.pos
      let _ ←call (.builtin "set.add") [.ref D,v])
    again (.compLoop (.SetComp elt [⟨target,iter,ifs,0⟩] scope pos) 0 it (.ref D) env)):=by rfl
section
variable {prog:Program}{R:Result->Xj->Prop}
def Dt {elt target iter ifs rest scope pos it acc env}
    (h0:codeAny (model prog w) A (.compLoop (.SetComp elt (⟨target,iter,ifs,0⟩::rest) scope pos) 0 it acc env) R s)
    (h:wpAny (model prog w) A (pyIter it) (λit' s'=>codeAny (model prog w) A (.compLoop (.SetComp elt (⟨target,iter,ifs,0⟩::rest) scope pos) 0 it' acc env) R s')
      (notedBy (model prog w) A env λx s'=>R (.error x) s') s) :
    codeAny (model prog w) A (.compStart (.SetComp elt (⟨target,iter,ifs,0⟩::rest) scope pos) 0 it acc env) R s:=by
  refine codeAny_of_tree ?_;show wpAny _ A ((compStart (.SetComp elt (⟨target,iter,ifs,0⟩::rest) scope pos) 0 it acc env).onRaise (λx=>do noteFrame x env;standAt theWindowsPlace)) _ _ s;refine wpAny_notedAt ?_;unfold compStart;show wpAny _ A (ask >>= _) _ _ s;refine Zx (wpAny_askSetting (wpAny_ite ?_));split
  · first
      |exact Zx (Zw (Zw (And.intro rfl h0)))
      |exact Zw (And.intro rfl h0)
  · first
      |exact Zx (wpAny_rule (Zx (ZJ (Zx (Zv h (λit' s' h'=>Zw (And.intro rfl h')) λ_ _ x=>x)))))
      | (refine Zx (wpAny_rule ?_);show wpAny _ _ (standAt iter.pos >>= _) _ _ s;exact Zx (ZJ (Zx (Zv h (λit' s' h'=>Zw (And.intro rfl h')) λ_ _ x=>x))))
def Lp {ks:List Key}{k:Key}{x:Value}{led:Bool}{Q:VS} (hx:(AY prog w).is k x=true) (hS:cX (AY prog w) s.heap a ks led) (hn:ks.length+1<scanBound)
  (h1:k∈ks->Q .none { s with toks:=s.toks+1 }) (h2:k∉ ks->∀h',Heap.SameBut a s.heap h'->cX (AY prog w) h' a (k::ks) led->Q .none { s with heap:=h',toks:=s.toks+1 }) :
  wpAny (model prog w) A (call (.builtin "set.add") [.ref a,x]) Q E s:=by
 have hT:s.TypeIs (.ref a) "set" := by
  obtain⟨o,ar,ep,t,ft,e,ex,_⟩:=id hS;exact⟨o,e,ex.1⟩
 refine wpAny_call_entry PySem.F.slot_set_add hT PySem.F.entry_set_add ?_ (PySem.F.args_set_add_2 _ _);unfold Builtin.«set.add» Builtin.Frozenset.oneOther;simp only[List.isEmpty_nil,bind_assoc];unfold Builtin.Frozenset.addrOf setAdd;refine Zx (Zw ?_)
 try dsimp only
 refine Zx (Zw ?_)
 try dsimp only
 refine Zx ?_;refine ZK (Zx ((AY prog w).pyHash hx ?_));refine XJ hx (RC hx) hS hn (λhm=>?_) (λhm h' sb SX=>?_)
 ·exact Zw ⟨_,Zj,h1 hm⟩
 ·exact Zw ⟨_,Zj,h2 hm h' sb SX⟩
end
def NV (wi:TI) (g:TG) (tt:TT) (te:TE) (ix:List (Option Nat)) (R:List Key->Hp->Prop):St->Hp->Prop:=λσ H=>wi σ H λJ H1=>∃W:Nat->Nat->List Key->Hp->Prop,(∃m,W 0 m [] H1)/\∀i m ys H,W i m ys H ->
 (J.stop i H/\ys.length<=1000/\R ys H) \/
 (J.go i H/\∃N:List Key->Hp->Prop,(∀cP H',N cP H'->cP.length<=1000/\∃m',m'<m/\W (i+1) m' cP H') /\
  ∀x H',J.g8 i H x H'->g x (B7 ix σ) H' λcC H2=>tt cC H2 λb H3=>if b=true then te cC H3 λy H4=>∃k,y=kV k/\N (IB ys k) H4 else N ys H3)
section
variable {N':Xf}{ix:List (Option Nat)}{scope:Scope}{tg iter elt:Expr}{ifs:List Expr}{wi:TI}{g:TG}{tt:TT}{pos':Pos}
def NX {RD:Cx->Prop}{use:Option (Value->Sem Unit)}{Qv:VS} (hf:aQ X.env.scope scope X.N N' ix) (hc:∀cl s H C fp aa,RD (Al X N' scope cl s H C fp (X.pn++aa))) (hi:PIg RD X tg iter wi)
  (hg:∀cl s H C fp pn,kA (Al X N' scope cl s H C fp pn) tg ix g) (ht:∀cl s H C fp pn,iO (Al X N' scope cl s H C fp pn) ifs tt) (he:∀cl s H C fp pn,PE (Al X N' scope cl s H C fp pn) elt te)
  (hs:∀x,foldedSetIterable iter X.env x=pure x) {aa:LO}{s:Xj}{σ:St}{H:Hp}{R:List Key->Hp->Prop} (I:Inv X aa σ H s) (h:NV wi g tt te ix R σ H)
  (df:∀s' ys H' D C m,Inv X aa σ (upd H' D (KR X.prog X.w D ys)) s'->R ys H'->H' D=none->s'.heap.Ns C m->X.aY.heap.objs.size<=C->C≠X.env.locals->(∀x c,X.env.cells.lookup x=some c->c≠C)->(∀p∈X.pn++aa,p.1≠C) ->
   upd H' D (KR X.prog X.w D ys) C=none->compPost (model X.prog X.w) X.A X.xe use Qv (.ref D) C (.ok .next) s') :
  wpAny (model X.prog X.w) X.A (comprehension (.SetComp elt [⟨tg,iter,ifs,0⟩] scope pos) scope X.env pos' (newSet (.type "set")) false (eval iter X.env) use) Qv X.xe s:=by
 obtain⟨cl,dh,c1,c2⟩:=OD (env:=X.env) (scope:=scope) λy hy hyf=>by
  have:=hf.free y hy hyf;exact I.ok.has y.1 this
 refine wpAny_comprehension_free (use:=use) Zj hs dh hf.kind hf.loc (aG (hi aa s σ H _ I h) λv s1 h1=>aG h1 λitv s2 h2=>?_);obtain⟨it,fp,tn,J,H2,e,I2,T,jy,f2,W,⟨m0,w0⟩,turn⟩:=h2;subst e
 have hlt:∀b∈fp,b<s2.heap.objs.size:=λb hb=>by
  obtain⟨o,e,_⟩:=T.obj _ _ jy b hb;exact lt_size e
 unfold newSet setsByText;refine Zx (Zx (wpAny_askSetting (Zw ?_)));show wpAny _ _ (newObj (.type "set") (.set #[] 0 (SetTable.fresh 0 0 (Fo X.w)))) _ _ _;refine wpAny_newObj_type (wpAny_newFunctionEnv hf.nocell (by intro y hy;simp at hy) (λeO hns₁ dQ=>?_) hf.kind)
 dsimp only at hns₁ dQ ⊢
 generalize hH2:s2.heap.push { cls:=.type "set", data:=.set #[] 0 (SetTable.fresh 0 0 (Fo X.w)) }=HP at hns₁ dQ ⊢;have hC:HP.objs.size=s2.heap.objs.size+1:=by rw[←hH2,Heap.size_push]
 have jf:s2.heap.objs.size≠HP.objs.size:=by rw[hC];exact ZC (Nat.lt_succ_self _)
 have eZ:s2.heap.objs.size<=HP.objs.size:=by rw[hC];exact Nat.le_succ _
 have hCne:∀b,b<s2.heap.objs.size->b≠HP.objs.size:=λb hb=>by rw[hC];exact ZC (Nat.lt_succ_of_lt hb)
 have old:∀b o,s2.heap.get? b=some o->eO.get? b=some o:=λb o e=>dQ.extBut b o (hCne b (lt_size e)) (ZX _ (hH2 ▸ ZX _ e));have cb:eO.get? s2.heap.objs.size=some { cls:=.type "set", data:=.set #[] 0 (SetTable.fresh 0 0 (Fo X.w)) }:=dQ.extBut _ _ jf (ZX _ (hH2 ▸ ZN _ rfl));generalize hCC:HP.objs.size=C at *;generalize gy:s2.heap.objs.size=D at *;have IX:=Hs (N':=N') (fp:=fp) I2 hf c1 c2 (by rw[gy];exact eZ) f2 (by rw[gy];exact hlt) (tk:=s2.toks+([]:List (Str×Value)).length) old hns₁;have hDn:H2 D=none:=I2.aD.fresh (by rw[gy];exact Zy _)
 have hDfs:D∉ du X.stack:=λz=>by
  rcases mem_cons.mp (I2.d9 D z)with q |q
  ·have:=I2.lt;rw[←q,gy]at this;exact ZF _ this
  ·exact I2.nofs (by rw[gy];exact Zy _) q
 have cellLt:∀x c,X.env.cells.lookup x=some c->c<D:=λx c e=>by
  obtain⟨v,z⟩:=I2.cell x c e;rw[←gy];exact z.lt
 have pinLt:∀p∈X.pn++aa,p.1<D:=λp hp=>by rw[←gy];exact lt_size (I2.pin p hp).1
 have s0D:X.aY.heap.objs.size<=D:=by rw[←gy];exact I2.sz
 have locLt:X.env.locals<D:=by rw[←gy];exact I2.lt
 let X':Cx:=Al X N' scope cl s2 H2 C fp (X.pn++aa)
 have f6:∀ {H':Hp}{ob:Obj},(∀b∈fp,H' b=none)->∀b∈fp,Eo X' [(D,ob)] H' b:=λ{H' ob} hn b hb=>by
  refine⟨hn b hb,ZC (Z2 (hlt b hb) eZ),λz=>?_,.inl hb,λx c e=>(f2 b hb).2.2.2.2.1 x c (c1 x c e),λp hp=>?_⟩
  ·exact IX.ok.gc b hb z
  ·rcases mem_append.mp hp with z |z
   ·exact(f2 b hb).2.2.2.2.2 p z
   ·have e:p=(D,ob):=by simpa using z
    subst e;exact Nat.ne_of_gt (hlt b hb)
 have pinD:∀ {aJ:St}{H':Hp}{s':Xj}{ob:Obj},Inv X' [] aJ H' s'->s'.heap.get? D=some ob->H' D=none->(∀v,ob.data≠ .cell v)->Inv X' [(D,ob)] aJ H' s':=λ{aJ H' s' ob} Ia e n d =>
  Ia.cL λp hp=>by
   have q:p=(D,ob):=by simpa using hp
   subst q;exact⟨e,n,jf,hDfs,d⟩
 have loop:∀s3:Xj,s3={ s2 with heap:=eO,toks:=s2.toks+([]:List (Str×Value)).length } ->
   codeAny (model X.prog X.w) X.A (.compLoop (.SetComp elt [⟨tg,iter,ifs,0⟩] scope pos) 0 (.ref it) (.ref D) (compEnvC scope cl C X.env)) (compPost (model X.prog X.w) X.A X.xe use Qv (.ref D) C) s3:=by
  rintro s3 rfl
  refine codeAny_loop Zj (λn s'=>∃i ys ob H',Inv X' [(D,ob)] (B7 ix σ) H' s'/\tn i s'.heap/\(∀b∈fp,H' b=none)/\W i n ys H'/\cX (AY X.prog X.w) s'.heap D ys (Fo X.w))
   (λn s4 hI=>?_) m0 ⟨0,[],_,H2,pinD IX cb hDn (λv z=>by cases z),T.keep _ _ _ jy (λb _ o e=>old b o e),λb hb=>(f2 b hb).1,w0,Pl cb⟩
  obtain⟨i,ys,ob,H4,I4,st4,fr4,w4,dd4⟩:=hI;show wpAny _ X.A ((compTurn (.SetComp elt [⟨tg,iter,ifs,0⟩] scope pos) 0 (.ref it) (.ref D) (compEnvC scope cl C X.env)).onRaise (λx=>do noteFrame x (compEnvC scope cl C X.env);theTreesLotGoes x)) _ _ s4;refine wpAny_noted ?_;rw[KW];refine DE ?_;rcases turn i n ys H4 w4 with⟨stop,hz,r⟩ |⟨go,N,hN,step⟩
  ·refine Zx (ZJ (Zx (aG (T.done X' Zj Zj Zj (hc _ _ _ _ _ _) i _ s4 _ H4 _ I4 (f6 fr4) st4 stop) λr' s5 ⟨hr,I5⟩=>?_)));subst hr;have pD:=I5.pin (D,_) (ZT _ ZI);have Ib:Inv X aa σ H4 s5:=Ja I2 f2 I5;have pD4:=I4.pin (D,_) (ZT _ ZI);have dd5:=OR (h':=s5.heap) (λo e=>by rw[pD4.1]at e;cases e;exact pD.1) dd4;have Ic:Inv X aa σ (upd H4 D (KR X.prog X.w D ys)) s5:=Ib.track pD.2.1 (Nat.ne_of_gt locLt) (.inr s0D) (λx c e=>ZC (cellLt x c e)) (λp hp=>ZC (pinLt p hp)) (Uo dd5);obtain⟨m5,n5,_⟩:=I5.loc
   refine Zw (df s5 ys H4 D C m5 Ic r pD.2.1 n5 (Nat.le_trans s0D eZ) (Nat.ne_of_gt (Z2 locLt eZ)) (λx c e=>ZC (Z2 (cellLt x c e) eZ))
    (λp hp=>ZC (Z2 (pinLt p hp) eZ)) ?_)
   rw[AF (Ne.symm jf)];exact I5.free
  ·refine Zx (ZJ (Zx (aG (T.item X' Zj Zj Zj (hc _ _ _ _ _ _) i _ s4 _ H4 _ I4 (f6 fr4) st4 go) λr' s5 ⟨u,hr,h5⟩=>?_)));subst hr;refine Zx (aG h5 λ_ s6 ⟨x,H6,I6,r6,y6,st6,fr6⟩=>?_);have I6':=I6.pinned (f6 fr6) (T.obj _ _ st6);refine Zx (aG (hg _ _ _ _ _ _ _ s6 _ H6 x u _ I6' r6 (step x H6 y6)) λ_ s7 ⟨fQ,H7,I7,k7,q7⟩=>?_);refine Zx (aG (ht _ _ _ _ _ _ _ s7 fQ H7 _ I7 q7) λb s8 ⟨H8,I8,q8⟩=>?_)
   have again:∀ {H9:Hp}{s9:Xj}{cP:List Key}{ob':Obj},Inv X' ([(D,ob')]++Ce fp s6.heap) fQ H9 s9->cX (AY X.prog X.w) s9.heap D cP (Fo X.w) ->
     (∃m',m'<n/\W (i+1) m' cP H9)->∃m,m<n/\∃i ys ob H',Inv X' [(D,ob)] (B7 ix σ) H' s9/\tn i s9.heap/\(∀b∈fp,H' b=none)/\W i m ys H'/\cX (AY X.prog X.w) s9.heap D ys (Fo X.w):=by
    intro H9 s9 cP ob' I9 gz ⟨m',hm,w9⟩;refine⟨m',hm,i+1,cP,ob',H9,I9.unpinned.weak (I4.len.trans I9.len.symm) k7,T.keep _ _ _ st6 λb hb o e=>(I9.pin (b,o) (ZT _ (ZT _ (B8 hb e)))).1,λb hb=>?_,w9,gz⟩;obtain⟨o,e,d⟩:=T.obj _ _ st6 b hb;exact(I9.pin (b,o) (ZT _ (ZT _ (B8 hb e)))).2.1
   have pD4:=I4.pin (D,_) (ZT _ ZI)
   have dAt:∀ {σ9:St}{H9:Hp}{s9:Xj},Inv X' ([(D,ob)]++Ce fp s6.heap) σ9 H9 s9->cX (AY X.prog X.w) s9.heap D ys (Fo X.w):=λ{σ9 H9 s9} I9=>OR (λo e=>by
    rw[pD4.1]at e;cases e
    exact(I9.pin (D,_) (ZT _ (ZP _ ZI))).1) dd4
   cases b with
   |false =>
    rw[Zq Bool.false_ne_true]at q8;exact Zw ⟨Zj,again I8 (dAt I8) (hN _ _ q8).2⟩
   |true =>
    rw[Zp rfl]at q8;refine Zx (Zx (aG (he _ _ _ _ _ _ _ s8 fQ H8 _ I8 q8) λy s9 ⟨z,H9,I9,r9,kk,ek,q9⟩=>?_));subst ek;refine Zx (ZJ ?_);have hz:(IB ys kk).length<=1000:=(hN _ _ q9).1
    have hb:ys.length+1<scanBound:=by
     have h1:=TF ys kk;have:(4096:Nat)=scanBound:=rfl;omega
    have pD:=I9.pin (D,_) (ZT _ (ZP _ ZI));refine Zx (Lp (FX r9) (dAt I9) hb (λhm=>?_) (λhm h2 sb2 dd2=>?_))
    ·have ea:IB ys kk=ys:=by unfold IB;rw[Zp hm]
     rw[ea]at q9;have I9':=I9.tok (s9.toks+1);exact Zw (Zw ⟨Zj,again I9' (dAt I9') (hN _ _ q9).2⟩)
    ·have ea:IB ys kk=kk::ys:=by unfold IB;rw[Zq hm]
     rw[ea]at q9;obtain⟨ob2,ar2,ep2,t2,ks2,q,ex2,dt2,rest2⟩:=id dd2;have Iw:Inv X' (Ce fp s6.heap) fQ H9 s9:=I9.cL λp hp=>I9.pin p (ZT _ (ZT _ hp))
     have It:Inv X' (Ce fp s6.heap) fQ H9 { s9 with heap:=h2,toks:=s9.toks+1 }:=Iw.turned (it:=D) (λb o hb e=>(sb2.2 b hb).trans e) pD.2.1 jf
      (.inr (by show s2.heap.objs.size<=D;rw[gy];exact Zy _)) (λx c e=>ZC (cellLt x c (c1 x c e))) (λp hp=>by
       rcases mem_append.mp hp with z' |z'
       ·exact ZC (pinLt p z')
       ·exact ZC (hlt p.1 (GV z').1))
     refine Zw (Zw ⟨rfl,again (ob':=ob2) (It.cL λp hp=>?_) dd2 (hN _ _ q9).2⟩);rcases mem_append.mp hp with z' |z'
     ·have e:p=(D,ob2):=by simpa using z'
      subst e;exact⟨q,pD.2.1,jf,hDfs,λv z=>by rw[dt2]at z;cases z⟩
     ·exact It.pin p (ZT _ z')
 exact Dt (loop _ Zj) (T.self _ 0 _ _ _ (T.keep _ _ _ jy λb _ o e=>old b o e) (loop _ Zj))
def RE (hf:aQ X.env.scope scope X.N N' ix) (hc:X.calm=true) (hi:PI X tg iter wi)
  (hg:∀cl s H C fp pn,kA (Al X N' scope cl s H C fp pn) tg ix g) (ht:∀cl s H C fp pn,iO (Al X N' scope cl s H C fp pn) ifs tt) (he:∀cl s H C fp pn,PE (Al X N' scope cl s H C fp pn) elt te)
  (hs:∀x,foldedSetIterable iter X.env x=pure x:=by intro _;rfl) :
  PE X (.SetComp elt [⟨tg,iter,ifs,0⟩] scope pos) (λσ H Q=>NV wi g tt te ix (λys H'=>∀p,H' p=none->Q (.ref p) (upd H' p (KR X.prog X.w p ys))) σ H):=by
 intro aa s σ H Q I h;rw[arm_eval_SetComp];refine NX (use:=none) hf (λ_ _ _ _ _ _=>hc) hi.g hg ht he hs I h λs' ys H' D C m I' r hD hn h1 h2 h3 h4 h5=>?_;refine⟨m,hn,λh'' hs''=>⟨.ref D,_,I'.turned (it:=C) (t':=s'.toks) (λb o hb e=>(hs''.2 b hb).trans e) h5 h2 (.inr h1) h3 h4,Zj,r D hD⟩⟩
variable {px:Pos}
def Pm (Nc:Xf) (gB:List (Option Nat)) (hf:Ho X.env.scope scope X.N (x::Nc) (none::gB)=true) (iS:(x::Nc).Nodup) (hx:scope.names.lookup x=some .local) (hc:X.calm=true) (hi:PI X (.Name x px) iter wi)
  (ht:∀cl s H C fp pn,iO (Al X (x::Nc) scope cl s H C fp pn) ifs tt) (he:∀cl s H C fp pn,PE (Al X (x::Nc) scope cl s H C fp pn) elt te)
  (hs:∀x,foldedSetIterable iter X.env x=pure x:=by intro _;rfl) :
  PE X (.SetComp elt [⟨.Name x px,iter,ifs,0⟩] scope pos) (λσ H Q=>NV wi (Cd 0) tt te (none::gB) (λys H'=>∀p,H' p=none->Q (.ref p) (upd H' p (KR X.prog X.w p ys))) σ H) :=
 RE (aQ.of hf) hc hi (λcl s H C fp pn=>Fb (Af (i:=0) iS rfl (.inl (Z5 hx)) (.inr (Z5 hx)))) ht he hs
end
def NY {ss:Xf}:∀ {us:Xg},Vals (ss.map V.str) us->StrsAre us ss:=by
 induction ss with
 |nil=>intro us r;rw[map_nil]at r;cases r;exact .nil
 |cons x ss ih =>
  intro us r;cases r with
  |cons h t =>
   obtain⟨tk,rfl⟩:=(show ∃t,_=Value.str x t from h);exact .cons x tk (ih t)
def IE:∀ {vs:Xg}{ss:Xf},StrsAre vs ss->Vals (ss.map V.str) vs
 |_,_,.nil=>.nil
 |_,_,.cons x t h=>.cons ⟨t,rfl⟩ (IE h)
section
def KY (hc:X.calm=true):aS X (.builtin "sorted") (λxs H Q=>∃(a:Xi) (ms:Xf),xs=[.ref a]/\H a=some (KR X.prog X.w a (ms.map Sum.inr))/\ms.length<64 /\
  ∀(l:Xi) (ns:Xf),H l=none->ns.Perm ms->sortedS ns=true->Q (.ref l) (upd H l (.lst (ns.map V.str)))):=by
 intro aa s σ H xs us Q I r h;obtain⟨a,ms,rfl,hS,h64,q⟩:=h;obtain⟨u,rfl,ru⟩:=Br r;cases ru;obtain⟨o,ar,ep,t,ft,ho,hx,hd,K,hl,hp,hpr,hb⟩:=Up I.aD hS;have hA:X.A.handled=none:=I.ok.hd hc;refine Calls.call_function_entry kind_sorted plain_sorted entry_sorted (args_sorted1 _) ?_;unfold Builtin.«sorted»;refine Zx (m:=checkCount "sorted" 1 1 _) (Zw ?_);refine Zx (Lo (A:=X.A.in1) hA hx ho hd K hl hb λs' acc keep hg hos bj=>?_);obtain⟨k2,p2,h2⟩:=Ln bj (ID hpr);have hk2:k2.Perm (ms.map Sum.inr):=p2.trans hp
 obtain⟨m2,e2⟩:∃m2:Xf,k2=m2.map Sum.inr:=by
  refine⟨k2.map λk=>match k with |Sum.inl i => "" |Sum.inr x=>x,?_⟩;rw[map_map];refine(List.map_id k2).symm.trans (List.map_congr_left λk hk=>?_);obtain⟨i,_,e⟩:=Zr.mp (hk2.mem_iff.mp hk);subst e;rfl
 subst e2
 have hm2:m2.Perm ms:=by
  have:=hk2.map (λk:Key=>match k with |Sum.inl i=>("" : Str) |Sum.inr x=>x);simpa[map_map,Function.comp_def]using this
 have cr:StrsAre acc m2:=by
  refine NY (show Vals (m2.map V.str) acc from ?_)
  have:∀ {ms:Xf}{vs:Xg},Paired (λk v=>RelV (kV k) v) (ms.map Sum.inr) vs->Vals (ms.map V.str) vs:=by
   intro ms;induction ms with
   |nil=>intro vs h;cases h;exact .nil
   |cons x r ih=>intro vs h;cases h with |cons r t=>exact .cons r (ih t)
  exact this h2
 have aw:acc.length=ms.length:=by
  rw[←hm2.length_eq,←cr.strs,AK]
 have hz:acc.length<=sizeLine:=by
  have:sizeLine=2 ^ 24:=rfl;omega
 refine Zx (wpAny_newList ?_ hz);have I1:Inv X aa σ H s':=I.went keep hg hos;have iR:(s'.heap.push { cls:=.type "list", data:=.seq acc.toArray }).get? s'.heap.objs.size=some (seqObj "list" acc.toArray 0):=ZN _ rfl;refine Zx (ZK (wpAny_call_entry slot_list_sort ⟨_,iR,Zj⟩ entry_list_sort (list_sort_treeK strKind_oneLt iR cr.keysOf (λv₁ v₂ rest e=>keyKind_strs (by rw[←e];exact cr)) (by rw[aw];exact h64) λgq hp' hs'=>⟨_,Zj,?_⟩) (args_list_sort _)));refine Zw ⟨_,Zj,?_⟩;obtain⟨ns',a1,a2,a3⟩:=sorted_out_str cr hp' hs';have hn:H s'.heap.objs.size=none:=I1.aD.fresh (Zy _);have be:ns'.length=acc.length:=by rw[a2.length_eq,←cr.strs,AK]
 refine⟨.ref s'.heap.objs.size,_,I1.laid (t':=s'.toks) (o:=.lst (ns'.map V.str)) (h':=sortedHeap (s'.heap.push { cls:=.type "list", data:=.seq acc.toArray }) s'.heap.objs.size acc ((arrOf gq).map (·.2))) (λb o e=>?_) (Zy _) ⟨by rw[AK,be];exact hz,((arrOf gq).map (·.2)).toList,?_⟩,Zj,q _ ns' hn (a2.trans hm2) a3⟩
 ·rw[sortedHeap_old (ZC (lt_size e)) (lt_size (ZX _ e))];exact ZX _ e
 ·obtain⟨c,hcx⟩:=sortedHeap_at (out:=(arrOf gq).map (·.2)) iR;exact⟨c,IE a1,by rw[Array.toArray_toList];exact hcx⟩
end
end L2
end
section
namespace MK
open PySem
def Bx (a b:Nat):Builtin.bitAnd (a:Int) (b:Int)=((a&&&b:Nat):Int):=by
 rw[PyProof.Rows.bitAnd_pp (Z1 _) (Z1 _)];simp
def C6 (a b:Nat):Builtin.bitOr (a:Int) (b:Int)=((a |||b:Nat):Int):=by
 have ha:¬ (0:Int)<=Builtin.bitNot (a:Int):=by unfold Builtin.bitNot;omega
 have hb:¬ (0:Int)<=Builtin.bitNot (b:Int):=by unfold Builtin.bitNot;omega
 unfold Builtin.bitOr;rw[PyProof.Rows.bitAnd_nn ha hb];have e:∀n:Nat,(Builtin.bitNot (Builtin.bitNot (n:Int))).toNat=n:=λn=>by unfold Builtin.bitNot;omega
 rw[e a,e b];unfold Builtin.bitNot;omega
def IF (a b:Nat):Builtin.bitAnd (a:Int) (Builtin.bitNot (b:Int))=((a - (a&&&b):Nat):Int):=by
 rw[PyProof.Rows.bitAnd_not,Bx];have:a&&&b<=a:=Nat.and_le_left;omega
noncomputable def Av (l:List Nat):Nat:=l.foldl (· ||| ·) 0
def Fq (k:Nat):∀(l:List Nat) (a:Nat),(l.foldl (· ||| ·) a).testBit k=(a.testBit k ||l.any (·.testBit k))
 | [],a=>by simp
 |x::r,a=>by rw[foldl_cons,Fq k r,Nat.testBit_or,any_cons,Bool.or_assoc]
def EZ (l:List Nat) (k:Nat):(Av l).testBit k=l.any (·.testBit k):=by
 unfold Av;rw[Fq];simp
def IG {l:List Nat}{m:Nat} (h:∀n∈l,n<2 ^ m):Av l<2 ^ m:=by
 have:∀(l:List Nat) (a:Nat),a<2 ^ m->(∀n∈l,n<2 ^ m)->l.foldl (· ||| ·) a<2 ^ m:=by
  intro l;induction l with
  |nil=>intro a ha _;exact ha
  |cons x r ih=>intro a ha hl;exact ih _ (Nat.or_lt_two_pow ha (hl x ZI)) λn hn=>hl n (ZR _ hn)
 exact this l 0 (Nat.two_pow_pos m) h
def E4 (l:List Nat) (n:Nat):Av (l++[n])=Av l |||n:=by unfold Av;rw[foldl_append];rfl
noncomputable def Bp (n:Nat):Bool:=decide (0<n)&&decide (n&&&(n - 1)=0)
def NZ (k:Nat):Bp (2 ^ k)=true:=by
 unfold Bp;have h0:0<2 ^ k:=Nat.two_pow_pos k
 have h1:2 ^ k&&&(2 ^ k - 1)=0:=by
  apply Nat.eq_of_testBit_eq;intro i;rw[Nat.testBit_and,Nat.testBit_two_pow,Nat.testBit_two_pow_sub_one,Nat.zero_testBit];by_cases e:k=i
  ·subst e;simp
  ·simp[e]
 simp[h0,h1]
def C7 {n:Nat} (h:Bp n=true):∃k,n=2 ^ k:=by
 unfold Bp at h;simp only[Bool.and_eq_true,decide_eq_true_eq]at h;obtain⟨h0,h1⟩:=h;refine⟨n.log2,?_⟩;have hlo:2 ^ n.log2<=n:=Nat.log2_self_le qe;have hhi:n<2 ^ (n.log2+1):=Nat.lt_log2_self;rcases Nat.eq_or_lt_of_le hlo with e |hlt
 ·exact e.symm
 ·exfalso
  have b1:n.testBit n.log2=true:=by
   rw[Nat.testBit_eq_decide_div_mod_eq];simp
   have:n / 2 ^ n.log2=1:=by
    apply Nat.div_eq_of_lt_le <;> (try rw[Nat.pow_succ]at hhi) <;> omega
   rw[this]
  have b2:(n - 1).testBit n.log2=true:=by
   rw[Nat.testBit_eq_decide_div_mod_eq];simp
   have:(n - 1) / 2 ^ n.log2=1:=by
    apply Nat.div_eq_of_lt_le <;> (try rw[Nat.pow_succ]at hhi) <;> omega
   rw[this]
  have:(n&&&(n - 1)).testBit n.log2=true:=by rw[Nat.testBit_and,b1,b2];rfl
  rw[h1,Nat.zero_testBit]at this;cases this
noncomputable def DW (n:Nat):List Nat:=(List.range 42).filter λk=>n.testBit k
def IH {α:Type} [DecidableEq α] {p:α->Bool}:∀ {l:List α}{a:α},l.Nodup->a∈l->(∀b∈l,p b=true ↔ b=a)->l.filter p=[a]
 | [],_,_,h,_=>by cases h
 |b::r,a,hn,ha,hp=>by
  obtain⟨n1,n2⟩:=Zs.mp hn;by_cases e:b=a
  ·subst e;have hb:p b=true:=(hp b ZI).mpr rfl;rw[filter_cons,Zp hb];congr 1;apply List.filter_eq_nil_iff.mpr;intro c hc hpc;have:=(hp c (ZR _ hc)).mp hpc;exact n1 (this ▸ hc)
  ·have hb:¬ p b=true:=λz=>e ((hp b ZI).mp z);rw[filter_cons,Zq hb];rcases mem_cons.mp ha with z |z
   ·exact absurd z.symm e
   ·exact IH n2 z λc hc=>hp c (ZR _ hc)
def JG {n:Nat} (hn:n<2 ^ 42):decide ((DW n).length=1)=Bp n:=by
 rw[Bool.eq_iff_iff,decide_eq_true_eq];constructor
 ·intro h;obtain⟨k,hk⟩:∃k,DW n=[k]:=List.length_eq_one_iff.mp h
  have mem:∀i,i<42->(n.testBit i=true ↔ i=k):=λi hi=>by
   have:i∈DW n ↔ i=k:=by rw[hk];simp
   unfold DW at this;rw[mem_filter]at this;constructor
   ·intro hb;exact this.mp ⟨mem_range.mpr hi,hb⟩
   ·intro e;exact(this.mpr e).2
  have hk42:k<42:=by
   have:k∈DW n:=by rw[hk];simp
   unfold DW at this;exact mem_range.mp (mem_filter.mp this).1
  have e:n=2 ^ k:=by
   apply Nat.eq_of_testBit_eq;intro i;rw[Nat.testBit_two_pow];by_cases hi:i<42
   ·rw[Bool.eq_iff_iff,mem i hi,decide_eq_true_eq];exact eq_comm
   ·have h1:n.testBit i=false:=Nat.testBit_lt_two_pow (Z2 hn (Nat.pow_le_pow_right qc qe));rw[h1];symm;rw[decide_eq_false_iff_not];omega
  rw[e];exact NZ k
 ·intro h;obtain⟨k,rfl⟩:=C7 h;have hk:k<42:=(Nat.pow_lt_pow_iff_right qc).mp hn
  have:DW (2 ^ k)=[k]:=by
   unfold DW;refine IH List.nodup_range (mem_range.mpr hk) λb _=>?_;rw[Nat.testBit_two_pow,decide_eq_true_eq];exact eq_comm
  rw[this];rfl
noncomputable def BZ (m:Nat):Nat:=2 ^ (Builtin.Int.intBits (m:Int))
def ED {m:Nat} (h:0<m):Builtin.Int.intBits (m:Int)=m.log2+1:=by
 unfold Builtin.Int.intBits;have:((m:Int)==0)=false:=by rw[beq_eq_false_iff_ne];omega
 rw[this];simp
def Lq {m k:Nat} (h1:m<2 ^ k) (h2:k=0\/2 ^ (k - 1)<=m):2 ^ k=BZ m:=by
 unfold BZ;congr 1;rcases Nat.eq_zero_or_pos m with e |hm
 ·subst e
  have:k=0:=by
   rcases h2 with z |z
   ·exact z
   ·have:=Nat.two_pow_pos (k - 1);omega
  rw[this];rfl
 ·rw[ED hm];rcases h2 with z |z
  ·subst z;simp at h1;omega
  ·have hk:0<k:=by rcases Nat.eq_zero_or_pos k with e |e
                   ·subst e;simp at h1;omega
                   ·exact e
   have e:m.log2=k - 1:=by
    apply Nat.le_antisymm
    ·have:m.log2<k:=(Nat.log2_lt qe).mpr h1;omega
    ·exact(Nat.le_log2 qe).mpr z
   omega
def RF:∀ {l:List Nat}{a:Nat},(∀n∈l,Bp n=true)->l.Pairwise (· < ·)->(∀n∈l,a&&&n=0)->a+l.sum=l.foldl (· ||| ·) a
 | [],a,_,_,_=>by simp
 |n::r,a,hm,hp,ha=>by
  obtain⟨p1,p2⟩:=pairwise_cons.mp hp;have han:=ha n ZI
  have e:a |||n=a+n:=by
   have h:=PyProof.Rows.bitOr_and (a:Int) (n:Int);rw[C6,Bx,han]at h;omega
  rw[sum_cons,foldl_cons,←RF (a:=a |||n) (λm hm'=>hm m (ZR _ hm')) p2 (λm hm'=>?_),e]
  ·omega
  ·obtain⟨i,rfl⟩:=C7 (hm n ZI);obtain⟨j,rfl⟩:=C7 (hm m (ZR _ hm'));have hlt:=p1 _ hm';have haj:=ha _ (ZR _ hm');apply Nat.eq_of_testBit_eq;intro t;rw[Nat.testBit_and,Nat.testBit_or,Nat.zero_testBit];have h1:(a&&&2 ^ j).testBit t=false:=by rw[haj];exact Nat.zero_testBit t
   rw[Nat.testBit_and]at h1;rw[Bool.and_or_distrib_right,h1,Nat.testBit_two_pow,Nat.testBit_two_pow];have:i≠j:=λe=>by subst e;omega
   by_cases e1:i=t
   ·have:¬ j=t:=by omega
    simp[this]
   ·simp[e1]
def Pn {l:List Nat} (hm:∀n∈l,Bp n=true) (hp:l.Pairwise (· < ·)):l.sum=Av l:=by
 have:=RF (a:=0) hm hp (λn _=>by simp);unfold Av;omega
end MK
end
end
variable {P:PySem.Program}{w:PySem.World}{K:FG}{mg:SV}{base:PySem.Heap}{fd:PySem.FuncData}{H:L2.Hp}{H':L2.Hp}{due:Aa}{ac:Aa}{C:PySem.Addr}{VC:PySem.Addr}{EC:PySem.Addr}
section
namespace Mk
open PySem L2 MK
noncomputable def top (i:Nat):Stmt:=PySem.Challenge.pw_markworks_k33_whole_reckoned.main.body.getD i (.Pass ⟨0,0,0,0⟩)
noncomputable abbrev A8:Stmt:=inClass (top 1) 0
noncomputable abbrev DX:Stmt:=inClass (top 6) 0
noncomputable abbrev DY:Stmt:=inClass (top 8) 0
noncomputable abbrev Fs:Stmt:=top 18
noncomputable abbrev KZ:Stmt:=top 19
noncomputable abbrev II:Stmt:=top 21
noncomputable abbrev IJ:Stmt:=top 22
noncomputable abbrev Gf:Stmt:=top 24
noncomputable abbrev E5:Stmt:=top 25
noncomputable abbrev DZ:Stmt:=top 26
noncomputable abbrev E6:Stmt:=top 27
noncomputable abbrev Gg:Stmt:=top 28
noncomputable abbrev EE:Stmt:=top 29
noncomputable abbrev BQ:Stmt:=inClass (top 30) 0
noncomputable abbrev Cr:Stmt:=inClass (top 30) 2
noncomputable abbrev E7:Stmt:=inClass (top 30) 6
noncomputable abbrev Gh:Stmt:=inClass (top 30) 7
noncomputable abbrev Ea:Stmt:=top 33
noncomputable abbrev Ka:Stmt:=top 34
noncomputable abbrev E8:Stmt:=inClass (top 35) 0
noncomputable abbrev Db:Stmt:=inClass (top 35) 1
noncomputable abbrev OS:Stmt:=top 36
noncomputable abbrev Gi:Stmt:=top 41
noncomputable abbrev E9:Stmt:=top 42
noncomputable abbrev Kb:Stmt:=top 43
noncomputable abbrev IK:Stmt:=top 44
noncomputable abbrev Dc:Stmt:=inClass (top 45) 0
noncomputable abbrev CH:Stmt:=inClass (top 45) 1
noncomputable abbrev CI:Stmt:=inClass (top 45) 2
noncomputable abbrev By:Stmt:=inClass (top 45) 3
noncomputable abbrev Be:Stmt:=inClass (top 45) 4
noncomputable abbrev Bz:Stmt:=inClass (top 45) 5
noncomputable abbrev Cj:Stmt:=inClass (top 45) 6
noncomputable abbrev Dd:Stmt:=inClass (top 45) 7
noncomputable abbrev CM:Stmt:=top 46
noncomputable abbrev FA:Stmt:=top 47
noncomputable abbrev Kc:Stmt:=top 48
noncomputable abbrev Ct:Stmt:=top 49
noncomputable abbrev Eb:Stmt:=top 50
noncomputable abbrev IL:Stmt:=top 52
noncomputable abbrev DH:Stmt:=top 53
noncomputable abbrev Ft:Stmt:=top 54
noncomputable abbrev IM:Stmt:=top 56
noncomputable abbrev Gj:Stmt:=top 57
noncomputable abbrev Fu:Stmt:=top 58
noncomputable abbrev FB:Stmt:=top 59
noncomputable abbrev EG:Stmt:=top 60
noncomputable abbrev Aq:Stmt:=top 61
noncomputable abbrev FC:Stmt:=top 62
noncomputable abbrev FD:Stmt:=top 63
noncomputable abbrev CJ:Stmt:=top 64
noncomputable abbrev EH:Stmt:=top 65
noncomputable abbrev De:Stmt:=top 66
noncomputable abbrev IN:Stmt:=top 67
noncomputable abbrev Gk:Stmt:=top 68
noncomputable abbrev Fv:Stmt:=top 69
noncomputable abbrev Cu:Stmt:=top 70
noncomputable abbrev Fw:Stmt:=top 71
noncomputable abbrev EI:Stmt:=top 72
noncomputable abbrev Cm:Stmt:=top 73
structure Fn (P:Program) (w:World) (K:FG) (mg:SV) (base:Heap) (x:Str) (k:Nat) (ps:Xf) (sp:Sp):Prop where
 ex:∃f fd,AZ P w K mg base aL k f fd ps sp/\mg x=some (.ref f)/\W.keepIn K (.ref f)=true/\Binds K fd ps []
structure Bl (mg:SV):Prop where
 len:mg "len" = none
 fk:mg "isinstance" = none
 max:mg "max" = none
 min:mg "min" = none
 range:mg "range" = none
 list:mg "list" = none
 tuple:mg "tuple" = none
 sorted:mg "sorted" = none
 sum:mg "sum" = none
 all:mg "all" = none
 enum:mg "enumerate" = none
 int:mg "int" = none
 bool:mg "bool" = none
 str:mg "str" = none
noncomputable def A3 (ns:List Nat):Xh:=ns.map λ(n:Nat)=>V.int (n:Int)
section
inductive spUnionOf (K:FG) (vs:Xh) (H:Hp) (Q:VK) (_E:XK):Prop where
 |mk (a:Xi) (ns:List Nat) (cD:vs=[.ref a]) (cE:aI K H a (A3 ns)) (cJ:Q (.int (Av ns:Nat)) H)
def scUnionOf:AM ["numbers", "bits", "number"] ["numbers"] (defScope II):=cH
def OT {ns:List Nat}{i:Nat}{x:V} (h:(A3 ns)[i]?=some x):∃n,ns[i]?=some n/\x=V.int (n:Int):=by
 unfold A3 at h;rw[ZE]at h;cases e:ns[i]? with
 |none=>rw[e]at h;cases h
 |some n=>rw[e]at h;exact⟨n,Zj,(Option.some.inj h).symm⟩
def Na {f:Xi} (F:aV K "union_of" "union_of" II f fd):AZ P w K mg base aL 1 f fd ["numbers"] (spUnionOf K):=by
 refine F.m scUnionOf λvs H Q E h=>?_;obtain⟨a,ns,rfl,hS,k⟩:=h;refine⟨Zj,λad A outer s hr=>?_⟩
 refine⟨_,AG (Ae (i:=1) scUnionOf.nd Zj (Or.inl Zj) AD)
  (AG (Dw PassesOwn.never rfl (Bj (pv 0)) (Af (i:=2) scUnionOf.nd rfl (Or.inl rfl))
   (AE (Mg (i:=1) scUnionOf.nd rfl (Or.inl rfl) (pv 2) (UW:cS _ _ _))))
  (AE (AQ (pv 1)))),?_⟩
 refine⟨_,Zj,a,Zj,⟨_,hS⟩,Cf (K:=K) (a:=a) (xs:=A3 ns) (λi σ H2=>∃v:Option V,σ=[some (.ref a),some (.int (Av (ns.take i):Nat)),v]/\H2=H) ⟨none,Zj,Zj⟩ (λi σ H2 _ ⟨_,_,e⟩=>e ▸ hS) ?_ ?_⟩
 ·rintro i x σ H2 hi ⟨v,rfl,rfl⟩;obtain⟨n,hn,rfl⟩:=OT hi;refine⟨_,Zj,_,Zj,_,_,Zj,Zj,?_⟩;refine⟨some (V.int (n:Int)),?_,Zj⟩;rw[ZD,hn,Option.toList_some,E4];show [some (V.ref a),some (V.int (Builtin.bitOr (Av (ns.take i):Nat) (n:Nat))),some (V.int (n:Int))]=_;rw[C6]
 ·rintro σ H2 ⟨v,rfl,rfl⟩;refine⟨_,Zj,?_⟩;have e:(A3 ns).length=ns.length:=by unfold A3;rw[AK]
  rw[e,ZB];exact k
end
end Mk
end
section
namespace L2
open PySem
def IP {x:Str}{g:TG}{tt:TT}{te:TE}{ix:List (Option Nat)}{R:Xh->Hp->Prop}{σ:St}{H1:Hp} (Pv:Nat->Xh->Hp->Prop) (h0:Pv 0 [] H1) (hz:∀i ys H,Pv i ys H->ys.length<=1000)
  (hs:∀(i c:Nat) ys H,x.cps[i]?=some c->Pv i ys H->g (.str ⟨#[c]⟩) (B7 ix σ) H λcC H2=>tt cC H2 λb H3=>if b=true then te cC H3 λy H4=>Pv (i+1) (ys++[y]) H4 else Pv (i+1) ys H3) (hd:∀ys H,Pv x.cps.size ys H->R ys H) :
  ∃W:Nat->Nat->Xh->Hp->Prop,(∃m,W 0 m [] H1)/\∀i m ys H,W i m ys H ->
   ((Its x).stop i H/\ys.length<=sizeLine/\R ys H) \/
   ((Its x).go i H/\∃N:Xh->Hp->Prop,(∀cP H',N cP H'->cP.length<=sizeLine/\∃m',m'<m/\W (i+1) m' cP H') /\
    ∀v H',(Its x).g8 i H v H'->g v (B7 ix σ) H' λcC H2=>tt cC H2 λb H3=>if b=true then te cC H3 λy H4=>N (ys++[y]) H4 else N ys H3):=by
 refine⟨λi m ys H=>m=x.cps.size - i/\i<=x.cps.size/\Pv i ys H,⟨_,Zj,Nat.zero_le _,h0⟩,?_⟩;rintro i m ys H ⟨rfl,hi,hp⟩;by_cases hlt:i<x.cps.size
 ·refine .inr ⟨hlt,Pv (i+1),λcP H' q=>⟨Nat.le_of_lt (AO (hz _ cP H' q)),x.cps.size - (i+1),qe,Zj,hlt,q⟩,?_⟩;rintro v H' ⟨rfl,c,hc,rfl⟩;exact hs i c ys H' hc hp
 ·have e:i=x.cps.size:=by omega
  subst e;exact .inl ⟨Zy _,Nat.le_of_lt (AO (hz _ ys H hp)),hd ys H hp⟩
end L2
namespace Mk
open PySem L2 MK
def IQ:bootBuiltins "all" = some (.builtin "all"):=by decide +kernel
def IR:bootBuiltins "isinstance" = some (.builtin "isinstance"):=by decide +kernel
def Jo:bootBuiltins "sorted" = some (.builtin "sorted"):=by decide +kernel
def RG:bootBuiltins "sum" = some (.builtin "sum"):=by decide +kernel
def Ur:bootBuiltins "min" = some (.builtin "min"):=by decide +kernel
def Us:bootBuiltins "max" = some (.builtin "max"):=by decide +kernel
def Gm:bootBuiltins "str" = some (.type "str"):=by decide +kernel
def IS:bootBuiltins "int" = some (.type "int"):=by decide +kernel
def TH:bootBuiltins "bool" = some (.type "bool"):=by decide +kernel
def Fx:bootBuiltins "tuple" = some (.type "tuple"):=by decide +kernel
def Kd:bootBuiltins "list" = some (.type "list"):=by decide +kernel
def AH {H1:Hp}{p:Xi}{o:HO} (s:U H H1) (hp:H1 p=none):U H (upd H1 p o):=λb u e=>by
 have e':=s b u e;rw[AF (AI e' hp)];exact e'
noncomputable def Cn (c:Nat):Bool:=decide (65<=c)&&decide (c<=90)
noncomputable def B0 (x:Str):Bool:=(decide (1<=x.length)&&decide (x.length<=6))&&x.cps.toList.all Cn
section
def B2 {X:Cx}{e:Expr}{te:TE}{T:String}{x:Str}{p p2 pos:Pos} (K:FG) (hK:X.K=K) (hg:Gl X "isinstance") (hm:X.mg "isinstance" = none) (hgT:Gl X x) (hmT:X.mg x=none) (hvT:bootBuiltins x=some (.type T)) (he:PE X e te)
  (hn:x≠ "__name__" := by decide) (eM:(x==("__debug__" : Str))=false:=by decide)
  (hs:starEach [e,.Name x p2] X.env=(false,eval e X.env)::starEach [.Name x p2] X.env:=by rfl) (eQ:(backTo pos (starEach [.Name x p2] X.env)).any (·.1)=false:=by rfl) (jF:starEach [.Name x p2] X.env=(false,eval (.Name x p2) X.env)::starEach [] X.env:=by rfl) :
  PE X (.Call (.Name "isinstance" p) [e,.Name x p2] [] pos) (tCB (λxs H Q=>∃v T t b,xs=[v,.ty T]/\dY K H v t/\W.kitOne K t (.type T)=some b/\Q (.bl b) H) (Ah te (Ah (tC (.ty T)) B9))):=by
 subst hK;exact AX LI hg hm IR (AA he (AA (J6 hgT hmT hvT Zj hn eM) AC jF) hs) qc qc hs eQ
def Ar {X:Cx} (K:FG) (hK:X.K=K):IxR X (Vs K):=hK ▸ Sb
def Ay {X:Cx} (K:FG) (hK:X.K=K):IxR X (UY K):=hK ▸ UZ
def BJ {X:Cx} (K:FG) (hK:X.K=K):aS X (.builtin "len") (λxs H Q=>∃p ys,xs=[.ref p]/\(aI K H p ys\/aX K H p ys)/\Q (.int ys.length) H):=hK ▸ FV
inductive spIsName (vs:Xh) (H:Hp) (Q:VK) (_E:XK):Prop where
 |mk (x:Str) (cD:vs=[.str x]) (cE:x.cps.all (· < 128)=true) (cJ:x.length<=1000) (cW:∀H',U H H'->Q (.bl (B0 x)) H')
def RH:AM ["thing"] ["thing"] (defScope KZ):=cH
def RJ (c:Nat):(if (!decide ((⟨#[c]⟩:Str).cps.toList<("A" : Str).cps.toList))=true then (!decide (("Z" : Str).cps.toList<(⟨#[c]⟩:Str).cps.toList))else false)=Cn c:=by
 have hA:("A" : Str).cps.toList=[65]:=by decide +kernel
 have hZ:("Z" : Str).cps.toList=[90]:=by decide +kernel
 rw[hA,hZ];show(if (!decide ([c]<[65]))=true then !decide ([90]<[c])else false)=Cn c;unfold Cn
 have e1:decide ([c]<[65])=decide (c<65):=by
  rw[Bool.eq_iff_iff,decide_eq_true_eq,decide_eq_true_eq,cons_lt_cons_iff];simp
 have e2:decide ([90]<[c])=decide (90<c):=by
  rw[Bool.eq_iff_iff,decide_eq_true_eq,decide_eq_true_eq,cons_lt_cons_iff];simp
 rw[e1,e2];by_cases h1:c<65 <;> by_cases h2:90<c <;> simp[h1,h2] <;> omega
def Po {f:Xi}{t6:Tok} (F:aV K "is_name" "is_name" KZ f fd) (B:Bl mg) (hL:mg "LONGEST_NAME" = some (.int 6 t6)):AZ P w K mg base aL 1 f fd ["thing"] spIsName:=by
 refine F.m RH λvs H Q E h=>?_;obtain⟨x,rfl,ha,hz,k⟩:=h;refine⟨Zj,λad A outer s hr=>?_⟩
 refine⟨_,AG (Ai (PW.pt (Dv (BM (Aw (B2 K Zj Zj B.fk Zj B.str Gm (pv 0)))) (Cc (BM (FQ FO FO AD (AX BE Zj B.len PySem.boot_len (AA (pv 0) AC)) (BL (v:=.int 6) Zj hL ⟨t6,Zj⟩))))))
   (AE (AQ DB)) AT)
  (AE (AQ (AX (D3 rfl) rfl B.all IQ (AA (Bw [] [] qd qb qd rfl (Mz (pv 0)) (λ_ _ _ _ _ _=>Bm) (λ_ _ _ _ _ _=>FP CY CY AJ (pv 0) AJ)) AC)))),?_⟩
 refine⟨_,Zj,_,_,_,true,Zj,.str x,Zj,_,Zj,?_⟩;refine AV ?_;refine⟨_,Zj,x,Zj,Nat.le_of_lt (AO hz),_,_,Zj,Zj,_,Zj,?_⟩;refine B6 (λh1=>?_) (λh1=>?_)
 ·have h1':1<=x.length:=by have:=ZV h1;omega
  refine⟨_,_,Zj,Zj,_,Zj,?_⟩;refine B6 (λh2=>?_) (λh2=>?_)
  ·have kj:¬ x.length<=6:=by
    intro z;rw[ZL (show(x.length:Int)<=6 by omega)]at h2;cases h2
   have e:B0 x=false:=by unfold B0;simp[kj]
   have:=k H (U.refl H);rw[e]at this;exact this
  ·have kj:x.length<=6:=Decidable.byContradiction λz=>h2 (by rw[ZO (show ¬ (x.length:Int)<=6 by omega)];rfl);refine⟨_,Zj,x,Zj,ha,IP (x:=x) (λi ys H2=>H2=H/\ys=(x.cps.toList.take i).map λc=>V.bl (Cn c)) ⟨Zj,Zj⟩ (λi ys H2 ⟨_,e⟩=>?_) ?_ ?_⟩
   ·rw[e,AK,ZA];have:x.cps.toList.length=x.length:=by rw[Array.length_toList];rfl
    omega
   ·rintro i c ys H2 hc ⟨rfl,rfl⟩;refine⟨_,Zj,_,_,Zj,Zj,_,Zj,?_⟩
    have fin:∀b,b=Cn c->(H2=H2/\(x.cps.toList.take i).map (λc=>V.bl (Cn c))++[V.bl b]=(x.cps.toList.take (i+1)).map λc=>V.bl (Cn c)):=λb hb=>by
     refine⟨Zj,?_⟩;have iM:x.cps.toList[i]?=some c:=by rw[Array.getElem?_toList];exact hc
     rw[ZD,iM,Zu,hb];rfl
    have hu:=RJ c;refine B6 (λh3=>?_) (λh3=>?_)
    ·rw[Zp h3]at hu;exact⟨_,_,Zj,Zj,fin _ hu⟩
    ·rw[Zq h3]at hu;exact fin _ hu
   ·rintro ys H2 ⟨rfl,rfl⟩ p hp;have el:x.cps.toList.take x.cps.size=x.cps.toList:=take_of_length_le (by rw[Array.length_toList];exact Zy _);refine⟨p,x.cps.toList.map Cn,Zj,aI.of (by rw[AB,el,map_map];rfl),?_⟩
    have e:B0 x=((x.cps.toList.map Cn).all id):=by
     unfold B0;rw[ZL h1',ZL kj,all_map];rfl
    rw[←e];exact k _ (AH (U.refl _) hp)
 ·have h1':¬ 1<=x.length:=λz=>h1 (ZL qe);refine⟨_,Zj,?_⟩;refine Ag ?_;have e:B0 x=false:=by unfold B0;simp[h1']
  have:=k H (U.refl H);rw[e]at this;exact this
end
inductive Th where
 |aO |num (n:Nat) |jY (ns:Xf)
def gA (H:Hp) (v:V):Th->Prop
 | .aO=>v=.aO
 | .num n=>v=.int (n:Int)
 | .jY ns=>∃a,v=.ref a/\H a=some (.tup (ns.map V.str))
noncomputable def Dr (ns:List Nat):Nat:=ns.foldl max 0
noncomputable def look (due:Aa) (x:Str):Nat:=((due.find? λp=>decide (p.1=x)).map (·.2)).getD 0
noncomputable def Az (due:Aa):LK:=due.map λp=>(Sum.inr p.1,V.int (p.2:Int))
noncomputable def Cw (due:Aa):Th->Nat
 | .aO=>BZ (Dr (due.map (·.2)))
 | .num n=>n
 | .jY ns=>Av (ns.map (look due))
def FE (x:Str):∀due:Aa,As (Az due) (Sum.inr x)=(due.find? λp=>decide (p.1=x)).map λp=>V.int (p.2:Int)
 | []=>rfl
 |p::r=>by
  show As ((Sum.inr p.1,V.int (p.2:Int))::Az r) (Sum.inr x)=_;by_cases e:p.1=x
  ·rw[Dz (p:=(Sum.inr p.1,V.int (p.2:Int))) (by rw[←e]),List.find?_cons_of_pos (by simpa using e)];rfl
  ·rw[D0 (p:=(Sum.inr p.1,V.int (p.2:Int))) (λz=>e (Sum.inr.inj z)),List.find?_cons_of_neg (by simpa using e)];exact FE x r
def Pp {x:Str} (h:x∈due.map (·.1)):(due.find? λp=>decide (p.1=x)).isSome=true:=by
 obtain⟨p,hp,e⟩:=Zr.mp h;rw[List.find?_isSome];exact⟨p,hp,by simpa using e⟩
def CN {x:Str} (h:x∈due.map (·.1)):As (Az due) (Sum.inr x)=some (V.int (look due x:Int)):=by
 rw[FE];unfold look;obtain⟨p,hp⟩:=Option.isSome_iff_exists.mp (Pp h);rw[hp];rfl
def Df {x:Str} (h:x∉ due.map (·.1)):As (Az due) (Sum.inr x)=none:=by
 rw[FE]
 have:(due.find? λp=>decide (p.1=x))=none:=by
  rw[List.find?_eq_none];intro p hp e;exact h (Zr.mpr ⟨p,hp,by simpa using e⟩)
 rw[this];rfl
def Fy {m:Nat}:∀(l:List Nat) (a:Nat),a<m->(∀n∈l,n<m)->l.foldl max a<m
 | [],a,h,_=>h
 |x::r,a,h,k=>Fy r (max a x) (by have:=k x ZI;omega) λn hn=>k n (ZR _ hn)
def Lr {ns:List Nat}{m:Nat} (h0:0<m) (h:∀n∈ns,n<m):Dr ns<m:=Fy ns 0 h0 h
def RL (a b:Nat):max (a:Int) (b:Int)=((max a b:Nat):Int):=by omega
def IT:∀(r:List Nat) (a:Nat),(r.map λn:Nat=>(n:Int)).foldl max (a:Int)=((r.foldl max a:Nat):Int)
 | [],_=>rfl
 |x::r,a=>by rw[map_cons,foldl_cons,RL,IT r];rfl
def Ls {ns:List Nat} (h:ns≠ []):LJ 0 (ns.map λn:Nat=>(n:Int))=(Dr ns:Nat):=by
 cases ns with
 |nil=>exact absurd rfl h
 |cons a r =>
  show(r.map λn:Nat=>(n:Int)).foldl max (a:Int)=_;rw[IT];unfold Dr;rw[foldl_cons];have:max 0 a=a:=by omega
  rw[this]
def Nb {m:Nat} (h:m<2 ^ 20):Builtin.Int.intBits (m:Int)<=20:=by
 rcases Nat.eq_zero_or_pos m with e |hm
 ·subst e;decide
 ·rw[ED hm];have:m.log2<20:=(Nat.log2_lt qe).mpr h;omega
section
inductive spNextMark (K:FG) (vs:Xh) (H:Hp) (Q:VK) (_E:XK):Prop where
 |mk (a:Xi) (ns:List Nat) (cD:vs=[.ref a]) (cE:aI K H a (A3 ns)) (cJ:(∀n∈ns,n<2 ^ 20)) (cW:Q (.int (BZ (Dr ns):Nat)) H)
def Nd:AM ["numbers"] ["numbers"] (defScope Gf):=cH
def HS (ns:List Nat):A3 ns=(ns.map λn:Nat=>(n:Int)).map V.int:=by unfold A3;rw[map_map];rfl
def Lu {f:Xi} (F:aV K "next_mark" "next_mark" Gf f fd) (B:Bl mg):AZ P w K mg base aL 1 f fd ["numbers"] (spNextMark K):=by
 refine F.m Nd λvs H Q E h=>?_;obtain⟨a,ns,rfl,hS,hlt,k⟩:=h;refine⟨Zj,λad A outer s hr=>?_⟩;refine⟨_,AE (AQ (Ac J8 AD (Hj PySem.F.plainAttrs_int PySem.F.slot_int_bit_length PySem.F.type_int_bit_length KJ (OE Zj Zj B.max (pv 0) AD)))),?_⟩;have hm:=Lr (m:=2 ^ 20) qc hlt
 have fin:∀m:Int,m=(Dr ns:Nat)->tyV K "int" (.int m) H/\∃i,V.int m=.int i/\([]:Xh)=[]/\rI SU (λi j=>V.int (i*2 ^ j.toNat)) (V.int 1) (V.int (Builtin.Int.intBits i:Nat)) H Q:=λm e=>by
  subst e;refine⟨Zj,_,Zj,Zj,1,_,Zj,Zj,⟨Z1 _,?_,qc⟩,?_⟩
  ·have:=Nb hm;omega
  ·have e:(1:Int)*2 ^ ((Builtin.Int.intBits (Dr ns:Nat):Nat):Int).toNat=((BZ (Dr ns):Nat):Int):=by
    unfold BZ;rw[Int.one_mul,Int.toNat_natCast];simp
   show Q (V.int (1*2 ^ ((Builtin.Int.intBits (Dr ns:Nat):Nat):Int).toNat)) H;rw[e];exact k
 refine⟨_,Zj,a,ns.map (λn:Nat=>(n:Int)),0,Zj,Zj,by rw[←HS];exact hS,λe=>?_,λe=>?_⟩
 ·have e':ns=[]:=List.map_eq_nil_iff.mp e;exact fin 0 (by rw[e'];rfl)
 ·have e':ns≠ []:=λz=>e (by rw[z];rfl);exact fin _ (Ls e')
def DI (K:FG):Sp:=λvs H Q _=>(∃(x:Str) (d:Xi) (kvs:LK),vs=[.str x,.ref d]/\Rd H d (.dK kvs)/\Q (.bl (As kvs (Sum.inr x:Key)).isSome) H) \/
 (∃(x:Str) (t:Xi) (xs:Xf),vs=[.str x,.ref t]/\aX K H t (xs.map V.str)/\Q (.bl (eK (.str x) (xs.map V.str))) H)
def Pq:AM ["thing", "names"] ["thing", "names"] (defScope IJ):=cH
def Jp:∀xs:Xf,(xs.map V.str).all FS=true
 | []=>rfl
 |_::r=>Jp r
def Nf {f:Xi} (F:aV K "is_one_of" "is_one_of" IJ f fd) (B:Bl mg):AZ P w K mg base aL 1 f fd ["thing", "names"] (DI K):=by
 refine F.ok Pq (λvs H Q E h=>?_) (λad A outer s H vs Q E hr h=>?_)
 ·rcases h with⟨x,d,kvs,rfl,_⟩ |⟨x,t,xs,rfl,_⟩ <;> rfl
 ·have hu:=Ch hr;rcases h with⟨x,d,kvs,rfl,hd,k⟩ |⟨x,t,xs,rfl,ht,k⟩
  ·refine⟨_,AE (AQ (C1 (B2 K Zj Zj B.fk Zj B.str Gm (pv 0)) (C0 (QL (Mw hu (pv 0) (pv 1)))))),?_⟩;refine⟨_,Zj,_,_,_,true,Zj,.str x,Zj,_,Zj,?_⟩;exact⟨_,Zj,_,Zj,d,_,Zj,.inl ⟨kvs,Sum.inr x,hd,Zj,Zj⟩,k⟩
  ·refine⟨_,AE (AQ (C1 (B2 K Zj Zj B.fk Zj B.str Gm (pv 0)) (C0 (ES EU (pv 0) (pv 1) (by with_unfolding_all rfl))))),?_⟩;refine⟨_,Zj,_,_,_,true,Zj,.str x,Zj,_,Zj,?_⟩;exact⟨_,Zj,_,Zj,t,_,Zj,.inr ht,Zj,Jp xs,k⟩
inductive spIsNamesOf (vs:Xh) (H:Hp) (Q:VK) (_E:XK):Prop where
 |mk (a d:Xi) (ns:Xf) (kvs:LK) (cD:vs=[.ref a,.ref d]) (cE:H a=some (.tup (ns.map V.str))) (cJ:ns.length<=1000) (cW:Rd H d (.dK kvs)) (eJ:∀H',U H H'->Q (.bl (decide (0<ns.length)&&ns.all λx=>(As kvs (Sum.inr x:Key)).isSome)) H')
def Lv:AM ["parts", "ahead"] ["parts", "ahead"] (defScope E5):=cH
def U.rd {a:Xi}{u:HO} (s:U H H') (h:Rd H a u):Rd H' a u:=by
 rcases h with h |⟨o,h⟩
 ·exact .inl (s _ _ h)
 ·exact .inr ⟨o,s _ _ h⟩
def Ke {f:Xi} (F:aV K "is_names_of" "is_names_of" E5 f fd) (B:Bl mg) (GO:Fn P w K mg base "is_one_of" 1 ["thing", "names"] (DI K)):AZ P w K mg base aL 2 f fd ["parts", "ahead"] spIsNamesOf:=by
 obtain⟨fO,dO,GO,mO,kO,bO⟩:=GO.ex;refine F.m Lv λvs H Q E h=>?_;obtain⟨a,d,ns,kvs,rfl,ha,hz,hd,k⟩:=h;refine⟨Zj,λad A outer s hr=>?_⟩;have hu:=Ch hr
 refine⟨_,AE (AQ (C1 (ES G3 (AX FV Zj B.len PySem.boot_len (AA (pv 0) AC)) AD (AS _))
  (C0 (AX (D3 rfl) rfl B.all IQ (AA (Bw ["ahead"] [some 1] qd qb qd rfl (QQ (pv 0)) (λ_ _ _ _ _ _=>Bm)
   (λ_ _ _ _ _ _=>AN GO hr rfl mO kO bO .nil AR (AA (pv 0) (AA (pv 1) AC)))) AC))))),?_⟩
 have hl:(ns.map V.str).length=ns.length:=AK _;refine⟨_,Zj,a,_,Zj,.inr (aX.of ha),_,_,Zj,Zj,_,Zj,?_⟩;refine B6 (λh1=>?_) (λh1=>?_)
 ·have h1':0<ns.length:=by have:=ZV h1;rw[hl]at this;omega
  refine⟨_,Zj,a,Zj,⟨_,aX.of ha⟩,LG (K:=K) (a:=a) (xs:=ns.map V.str) (λi ys H2=>H2=H/\ys=(ns.take i).map λx=>V.bl (As kvs (Sum.inr x:Key)).isSome) ⟨Zj,Zj⟩ (λi ys H2 _ ⟨e,_⟩=>e ▸ aX.of ha) (λi ys H2 ⟨_,e⟩=>?_) ?_ ?_⟩
  ·rw[e,AK,ZA];omega
  ·rintro i v ys H2 hi ⟨rfl,rfl⟩;rw[ZE]at hi
   obtain⟨x,hx,rfl⟩:∃x,ns[i]?=some x/\v=V.str x:=by
    cases e:ns[i]? with
    |none=>rw[e]at hi;cases hi
    |some x=>rw[e]at hi;exact⟨x,Zj,(Option.some.inj hi).symm⟩
   refine⟨_,Zj,_,Zj,.inl ⟨x,d,kvs,Zj,hd,Zj,?_⟩⟩;rw[ZD,hx,Zu];rfl
  ·rintro ys H2 ⟨rfl,rfl⟩ p hp;have el:ns.take (ns.map V.str).length=ns:=by rw[hl];exact ZB
   refine⟨p,ns.map λx=>(As kvs (Sum.inr x:Key)).isSome,Zj,aI.of (by rw[AB,el,map_map];rfl),?_⟩
   have e:(decide (0<ns.length)&&ns.all λx=>(As kvs (Sum.inr x:Key)).isSome)=(ns.map λx=>(As kvs (Sum.inr x:Key)).isSome).all id:=by
    rw[ZL h1',Bool.true_and,all_map];rfl
   rw[←e];exact k _ (AH (U.refl _) hp)
 ·have h1':¬ 0<ns.length:=λz=>h1 (ZL (by rw[hl];omega));have:=k H (U.refl H);rw[ZO h1',Bool.false_and]at this;exact this
inductive spIsWhole (vs:Xh) (H:Hp) (Q:VK) (_E:XK):Prop where
 |mk (n:Int) (cD:vs=[.int n]) (cE:Q (.bl true) H)
def Pr:AM ["thing"] ["thing"] (defScope Fs):=cH
structure EJ (due:Aa):Prop where
 len:due.length<=10
 lt:∀p∈due,p.2<2 ^ 20
 nd:(due.map (·.1)).Nodup
 nm:∀p∈due,B0 p.1=true/\p.1.cps.all (· < 128)=true/\p.1.length<=1000
def TJ (due:Aa):Th->Prop
 | .aO=>True
 | .num _=>True
 | .jY ns=>ns≠ []/\ns.length<=10/\∀x∈ns,x∈due.map (·.1)
inductive spThing (vs:Xh) (H:Hp) (Q:VK) (_E:XK):Prop where
 |mk (tv:V) (th:Th) (d:Xi) (due:Aa) (cD:vs=[tv,.ref d]) (cE:gA H tv th) (cJ:Rd H d (.dK (Az due))) (cW:EJ due) (eJ:TJ due th) (fV:∀H',U H H'->Q (.int (Cw due th:Nat)) H')
def TK:AM ["thing", "ahead"] ["thing", "ahead"] (defScope DZ):=cH
def RM (due:Aa):(Az due).map (·.2)=A3 (due.map (·.2)):=by unfold Az A3;rw[map_map,map_map];rfl
def RP {f:Xi} (F:aV K "thing_number" "thing_number" DZ f fd) (B:Bl mg) (GN:Fn P w K mg base "next_mark" 1 ["numbers"] (spNextMark K)) (GI:Fn P w K mg base "is_names_of" 2 ["parts", "ahead"] spIsNamesOf)
  (GU:Fn P w K mg base "union_of" 1 ["numbers"] (spUnionOf K)) (GW:Fn P w K mg base "is_whole" 1 ["thing"] spIsWhole):AZ P w K mg base aL 3 f fd ["thing", "ahead"] spThing:=by
 obtain⟨fN,dN,GN,mN,kN,bN⟩:=GN.ex;obtain⟨fI,dI,GI,mI,kI,bI⟩:=GI.ex;obtain⟨fU,dU,GU,mU,kU,bU⟩:=GU.ex;obtain⟨fW,dW,GW,mW,kW,bW⟩:=GW.ex;refine F.m TK λvs H Q E h=>?_;obtain⟨tv,th,d,due,rfl,hT,hd,DO,TO,k⟩:=h;refine⟨Zj,λad A outer s hr=>?_⟩;have hu:=Ch hr;have d5:aE 1 _:=hr.mono qc
 refine⟨_,AG (Ai (GQ (Mf (pv 0))) (AE (AQ (AN GN d5 Zj mN kN bN .nil AR (AA (Ba (M8 Zj) Zj B.list Kd (AA (Ud PySem.F.slot_dict_values PySem.F.type_dict_values PP (pv 1)) AC)) AC)))) AT)
  (AG (Ai (PW.pt (CP (Aw (B2 K rfl rfl B.fk rfl B.tuple Fx (pv 0))) (Bh (Aw (AN GI hr rfl mI kI bI .nil AR (AA (pv 0) (AA (pv 1) AC)))))))
   (AE (AQ (AN GU d5 rfl mU kU bU .nil AR (AA (Bw ["ahead"] [some 1] qd qb qd rfl (QQ (pv 0)) (λ_ _ _ _ _ _=>Bm) (λ_ _ _ _ _ _=>BU hu (pv 1) (pv 0) (λ_ _=>rfl))) AC)))) AT)
  (AG (Ai (Aw (AN GW d5 rfl mW kW bW .nil AR (AA (pv 0) AC))) (AE (AQ (pv 0))) AT)
  (AE Am))),?_⟩
 refine⟨_,rfl,_,rfl,?_⟩;cases th with
 |aO =>
  have e:tv=.aO:=hT;subst e;refine B6 (λ_=>?_) (λz=>absurd Zj z);refine⟨_,Zj,d,Zj,.inl ⟨_,hd⟩,d,_,Zj,Zj,hd,λp hp=>?_⟩;refine⟨p,d,_,Zj,AB,U.rd (AH (U.refl _) hp) hd,λl hl=>?_⟩;refine⟨l,due.map (·.2),Zj,aI.of (by rw[AB,RM]),λn hn=>?_,?_⟩
  ·obtain⟨q,hq,rfl⟩:=Zr.mp hn;exact DO.lt q hq
  ·exact k _ (AH (AH (U.refl _) hp) hl)
 |num n =>
  have e:tv=.int (n:Int):=hT;subst e;refine B6 (λz=>absurd (ZV z) (by intro q;cases q)) (λ_=>?_);refine⟨_,Zj,_,_,_,false,Zj,.int _,qd,_,Zj,?_⟩;refine AV ?_;refine⟨_,Zj,n,Zj,_,Zj,?_⟩;refine Ag ?_;exact⟨_,Zj,k H (U.refl H)⟩
 |jY ns =>
  obtain⟨a,rfl,ha⟩:=hT;obtain⟨a0,hln,gQ⟩:=TO;refine B6 (λz=>absurd (ZV z) (by intro q;cases q)) (λ_=>?_);refine⟨_,Zj,_,_,_,true,Zj,.tup ha,Zj,_,Zj,?_⟩;have hl:(ns.map V.str).length=ns.length:=AK _;refine⟨_,Zj,_,Zj,a,d,ns,Az due,Zj,ha,qe,hd,λH1 s1=>⟨_,Zj,?_⟩⟩
  have e1:(decide (0<ns.length)&&ns.all λx=>(As (Az due) (Sum.inr x:Key)).isSome)=true:=by
   rw[Bool.and_eq_true,decide_eq_true_eq,List.all_eq_true];refine⟨List.length_pos_iff.mpr a0,λx hx=>?_⟩;rw[CN (gQ x hx)];rfl
  rw[e1];refine Ag ?_;refine⟨_,Zj,a,Zj,⟨_,aX.of (s1 _ _ ha)⟩,LG (K:=K) (a:=a) (xs:=ns.map V.str) (λi ys H2=>H2=H1/\ys=A3 ((ns.take i).map (look due))) ⟨Zj,Zj⟩ (λi ys H2 _ ⟨e,_⟩=>e ▸ aX.of (s1 _ _ ha)) (λi ys H2 ⟨_,e⟩=>?_) ?_ ?_⟩
  ·rw[e];unfold A3;rw[AK,AK,ZA];omega
  ·rintro i v ys H2 hi ⟨rfl,rfl⟩;rw[ZE]at hi
   obtain⟨x,hx,rfl⟩:∃x,ns[i]?=some x/\v=V.str x:=by
    cases e:ns[i]? with
    |none=>rw[e]at hi;cases hi
    |some x=>rw[e]at hi;exact⟨x,Zj,(Option.some.inj hi).symm⟩
   refine⟨_,Zj,_,Zj,d,_,Zj,.inl ⟨Az due,Sum.inr x,U.rd s1 hd,Zj,(CN (gQ x (ZQ hx))).symm⟩,Zj,?_⟩;rw[ZD,hx,Zu];unfold A3;rw[Zu];rfl
  ·rintro ys H2 ⟨rfl,rfl⟩ p hp;have el:ns.take (ns.map V.str).length=ns:=by rw[hl];exact ZB
   refine⟨p,ns.map (look due),Zj,aI.of (by rw[AB,el]),?_⟩;exact k _ (AH s1 hp)
end
end Mk
end
section
namespace L2
open PySem
def RS {a:Xi}{xs:Xh}{g:TG}{tb:TS}{D:DQ}{σ:St} (Pv:Nat->St->Hp->Prop) (h0:Pv 0 σ H) (hl:∀i σ H,i<=xs.length->Pv i σ H->aI K H a xs)
  (hs:∀i x σ H p,xs[i]?=some x->Pv i σ H->H p=none->g (.ref p) σ (upd H p (.tup [.int i,x])) λcC H2=>tb { D with nx:=Pv (i+1),ct:=Pv (i+1),bk:=D.nx } cC H2) (hd:∀σ H,Pv xs.length σ H->D.nx σ H) :
  ∃W:Nat->Nat->St->Hp->Prop,(∃m,W 0 m σ H)/\∀i m σ H,W i m σ H ->
   ((Ite K a).stop i H/\D.nx σ H)\/((Ite K a).go i H/\∃N:St->Hp->Prop,(∀aJ H',N aJ H'->∃m',m'<m/\W (i+1) m' aJ H')/\∀x H',(Ite K a).g8 i H x H'->g x σ H' λcC H2=>tb { D with nx:=N,ct:=N,bk:=D.nx } cC H2):=by
 refine⟨λi m σ H=>m=xs.length - i/\i<=xs.length/\Pv i σ H,⟨_,Zj,Nat.zero_le _,h0⟩,?_⟩;rintro i m σ H ⟨rfl,hi,hp⟩;by_cases hlt:i<xs.length
 ·have hx:xs[i]?=some xs[i]:=Z7 hlt;refine .inr ⟨⟨xs,xs[i],hl i σ H hi hp,hx⟩,Pv (i+1),λaJ H' q=>⟨xs.length - (i+1),qe,Zj,hlt,q⟩,?_⟩;rintro x H' ⟨p,y,hn,rfl,hy,rfl⟩
  have ex:y=xs[i]:=by
   have:=hy xs (hl i σ H hi hp);rw[hx]at this;exact(Option.some.inj this).symm
  subst ex;exact hs i xs[i] σ H p hx hp hn
 ·have e:i=xs.length:=by omega
  subst e;exact .inl ⟨⟨xs,hl _ σ H hi hp,Zy _⟩,hd σ H hp⟩
def Ps {a:Xi}{o:Obj}{kvs:LK}{g:TG}{tb:TS}{D:DQ}{σ:St} (Pv:Nat->St->Hp->Prop) (h0:Pv 0 σ H) (hl:∀i σ H,Pv i σ H->H a=some (.bG o (.dK kvs)))
  (hs:∀i kv σ H p,kvs[i]?=some kv->Pv i σ H->H p=none->g (.ref p) σ (upd H p (.tup [kV kv.1,kv.2])) λcC H2=>tb { D with nx:=Pv (i+1),ct:=Pv (i+1),bk:=D.nx } cC H2) (hd:∀σ H,Pv kvs.length σ H->D.nx σ H) :
  ∃W:Nat->Nat->St->Hp->Prop,(∃m,W 0 m σ H)/\∀i m σ H,W i m σ H ->
   ((kG a o kvs).stop i H/\D.nx σ H)\/((kG a o kvs).go i H/\∃N:St->Hp->Prop,(∀aJ H',N aJ H'->∃m',m'<m/\W (i+1) m' aJ H')/\∀x H',(kG a o kvs).g8 i H x H'->g x σ H' λcC H2=>tb { D with nx:=N,ct:=N,bk:=D.nx } cC H2):=by
 refine⟨λi m σ H=>m=kvs.length - i/\i<=kvs.length/\Pv i σ H,⟨_,Zj,Nat.zero_le _,h0⟩,?_⟩;rintro i m σ H ⟨rfl,hi,hp⟩;by_cases hlt:i<kvs.length
 ·refine .inr ⟨⟨hl i σ H hp,hlt⟩,Pv (i+1),λaJ H' q=>⟨kvs.length - (i+1),qe,Zj,hlt,q⟩,?_⟩;rintro x H' ⟨p,kv,hn,rfl,gj,rfl⟩;exact hs i kv σ H p gj hp hn
 ·have e:i=kvs.length:=by omega
  subst e;exact .inl ⟨⟨hl _ σ H hp,Zy _⟩,hd σ H hp⟩
def Ng {a:Xi}{o:Obj}{kvs:LK}{g:TG}{tt:TT}{te:TE}{ix:List (Option Nat)}{R:Xh->Hp->Prop}{σ:St}{H1:Hp} (Pv:Nat->Xh->Hp->Prop) (h0:Pv 0 [] H1) (hl:∀i ys H,Pv i ys H->H a=some (.bG o (.dK kvs))) (hz:∀i ys H,Pv i ys H->ys.length<=1000)
  (hs:∀i kv ys H p,kvs[i]?=some kv->Pv i ys H->H p=none->g (.ref p) (B7 ix σ) (upd H p (.tup [kV kv.1,kv.2])) λcC H2=>tt cC H2 λb H3=>if b=true then te cC H3 λy H4=>Pv (i+1) (ys++[y]) H4 else Pv (i+1) ys H3) (hd:∀ys H,Pv kvs.length ys H->R ys H) :
  ∃W:Nat->Nat->Xh->Hp->Prop,(∃m,W 0 m [] H1)/\∀i m ys H,W i m ys H ->
   ((kG a o kvs).stop i H/\ys.length<=sizeLine/\R ys H) \/
   ((kG a o kvs).go i H/\∃N:Xh->Hp->Prop,(∀cP H',N cP H'->cP.length<=sizeLine/\∃m',m'<m/\W (i+1) m' cP H') /\
    ∀x H',(kG a o kvs).g8 i H x H'->g x (B7 ix σ) H' λcC H2=>tt cC H2 λb H3=>if b=true then te cC H3 λy H4=>N (ys++[y]) H4 else N ys H3):=by
 refine⟨λi m ys H=>m=kvs.length - i/\i<=kvs.length/\Pv i ys H,⟨_,Zj,Nat.zero_le _,h0⟩,?_⟩;rintro i m ys H ⟨rfl,hi,hp⟩;by_cases hlt:i<kvs.length
 ·refine .inr ⟨⟨hl i ys H hp,hlt⟩,Pv (i+1),λcP H' q=>⟨Nat.le_of_lt (AO (hz _ cP H' q)),kvs.length - (i+1),qe,Zj,hlt,q⟩,?_⟩;rintro x H' ⟨p,kv,hn,rfl,gj,rfl⟩;exact hs i kv ys H p gj hp hn
 ·have e:i=kvs.length:=by omega
  subst e;exact .inl ⟨⟨hl _ ys H hp,Zy _⟩,Nat.le_of_lt (AO (hz _ ys H hp)),hd ys H hp⟩
end L2
namespace Mk
open PySem L2 MK
def V6 (x:Str):Prop:=B0 x=true/\x.cps.all (· < 128)=true/\x.length<=1000
structure OU (due:Aa) (r:Str×Th):Prop where
 ahead:EJ due
 few:due.length<10
 nm:V6 r.1
 new:r.1∉ due.map (·.1)
 th:TJ due r.2
 lt:Cw due r.2<2 ^ 20
noncomputable def An (rows:List (Str×Th)):Aa:=rows.foldl (λdue r=>due++[(r.1,Cw due r.2)]) []
def Gn (rows:List (Str×Th)) (r:Str×Th):An (rows++[r])=An rows++[(r.1,Cw (An rows) r.2)]:=by unfold An;rw[foldl_append];rfl
def FF (rows:List (Str×Th)):Prop:=∀(i:Nat) r,rows[i]?=some r->OU (An (rows.take i)) r
inductive dG (H:Hp) (b:Xi) (r:Str×Th):Prop where
 |mk (tv:_) (cD:H b=some (.tup [.str r.1,tv])) (cE:gA H tv r.2)
inductive RowsAt (H:Hp) (l:Xi) (rows:List (Str×Th)):Prop where
 |mk (as:List Xi) (cD:H l=some (.lst (as.map V.ref))) (cE:Paired (dG H) as rows)
def gA.same {v:V}{th:Th} (s:U H H') (h:gA H v th):gA H' v th:=by
 cases th with
 |aO=>exact h
 |num n=>exact h
 |jY ns=>obtain⟨a,e,h⟩:=h;exact⟨a,e,s _ _ h⟩
def dG.same {b:Xi}{r:Str×Th} (s:U H H') (h:dG H b r):dG H' b r:=by
 obtain⟨tv,e,t⟩:=h;exact⟨tv,s _ _ e,t.same s⟩
def FH {α β:Type}{F:α->β->Prop}:∀ {xs:List α}{ys:List β}{i:Nat}{x:α},Paired F xs ys->xs[i]?=some x->∃y,ys[i]?=some y/\F x y
 |_,_,_,_,.nil,e=>by simp at e
 |_,_,0,_,.cons r _,e=>by simp at e;subst e;exact⟨_,Zj,r⟩
 |_,_,i+1,x,.cons _ t,e=>by
  obtain⟨u,h1,h2⟩:=FH (i:=i) (x:=x) t (by simpa using e);exact⟨u,by simpa using h1,h2⟩
def IU {H1:Hp}{d:Xi}{o:HO} (s:U H H1) (hd:H d=none):U H (upd H1 d o):=λb u e=>by
 rw[AF (AI e hd)];exact s b u e
section
inductive spRow (vs:Xh) (H:Hp) (Q:VK) (_E:XK):Prop where
 |mk (b d:Xi) (r:Str×Th) (due:Aa) (cD:vs=[.ref b,.ref d]) (cE:dG H b r) (cJ:Rd H d (.dK (Az due))) (cW:OU due r) (eJ:∀H',U H H'->Q (.int (Cw due r.2:Nat)) H')
def scRow:AM ["row", "ahead", "name", "thing", "number"] ["row", "ahead"] (defScope E6):=cH
def Ut {f:Xi}{tg:Tok} (F:aV K "row_number" "row_number" E6 f fd) (B:Bl mg) (hG:mg "GREATEST" = some (.int 1048575 tg)) (GN:Fn P w K mg base "is_name" 1 ["thing"] spIsName) (GT:Fn P w K mg base "thing_number" 3 ["thing", "ahead"] spThing) :
  AZ P w K mg base aL 4 f fd ["row", "ahead"] spRow:=by
 obtain⟨fN,dN,GN,mN,kN,bN⟩:=GN.ex;obtain⟨fT,dT,GT,mT,kT,bT⟩:=GT.ex;refine F.m scRow λvs H Q E h=>?_;obtain⟨b,d,r,due,rfl,⟨tv,hb,hT⟩,hd,RO,k⟩:=h;refine⟨Zj,λad A outer s hr=>?_⟩;have hu:=Ch hr;have d5:aE 1 _:=hr.mono qc
 refine⟨_,AG (Ai (PW.pt (Dv (BM (Aw (B2 K Zj Zj B.fk Zj B.tuple Fx (pv 0)))) (Cc (AL FN (AX (BJ K Zj) Zj B.len PySem.boot_len (AA (pv 0) AC)) AD (AS _))))) (AE Am) AT)
  (AG (C2 (pv 0) (CQ rfl (Ak (Af (i:=2) scRow.nd rfl (Or.inl rfl)) (Ak (Af (i:=3) scRow.nd rfl (Or.inl rfl)) Bi))))
  (AG (Ai (PW.pt (Dv (BM (Aw (AN GN d5 rfl mN kN bN .nil AR (AA (pv 2) AC)))) (Cc (GQ (Mw hu (pv 2) (pv 1)))))) (AE Am) AT)
  (AG (Ae (i:=4) scRow.nd rfl (Or.inl rfl) (AN GT hr rfl mT kT bT .nil AR (AA (pv 3) (AA (pv 1) AC))))
  (AG (Ai (PW.pt (Dv (GQ (Mf (pv 4))) (Cc (BM (FQ FO FO AD (pv 4) (BL (v:=.int 1048575) rfl hG ⟨tg,rfl⟩)))))) (AE Am) AT)
  (AE (AQ (pv 4))))))),?_⟩
 refine⟨_,Zj,_,_,_,true,Zj,.tup hb,Zj,_,Zj,?_⟩;refine AV ?_;refine⟨_,Zj,b,_,Zj,.inr (aX.of hb),Zj,_,Zj,?_⟩;refine Qg Zj ?_;refine⟨_,Zj,b,_,Zj,aX.of hb,Zj,_,_,Zj,_,_,Zj,Zj,?_⟩;refine⟨_,Zj,r.1,Zj,RO.nm.2.1,RO.nm.2.2,λH1 s1=>⟨_,Zj,?_⟩⟩;rw[RO.nm.1];refine AV ?_;refine⟨_,Zj,_,Zj,d,_,Zj,.inl ⟨Az due,Sum.inr r.1,U.rd s1 hd,Zj,(Df RO.new).symm⟩,_,Zj,?_⟩;refine AV ?_;refine⟨_,Zj,_,Zj,tv,r.2,d,due,Zj,hT.same s1,U.rd s1 hd,RO.ahead,RO.th,λH2 s2=>?_⟩;refine⟨_,Zj,_,Zj,?_⟩;refine B6 (λz=>absurd (ZV z) (by intro q;cases q)) (λ_=>?_);refine⟨_,Zj,_,_,Zj,Zj,_,Zj,?_⟩;refine B6 (λ_=>?_) (λz=>absurd (ZL (Z1 _)) z);refine⟨_,_,Zj,Zj,_,Zj,?_⟩;have hlt:=RO.lt;refine Qg (show((Cw due r.2:Nat):Int)<=1048575 by omega) ?_;exact⟨_,Zj,k _ (s1.trans s2)⟩
inductive spNumbered (vs:Xh) (H:Hp) (Q:VK) (_E:XK):Prop where
 |mk (l:Xi) (rows:List (Str×Th)) (cD:vs=[.ref l]) (cE:RowsAt H l rows) (cJ:0<rows.length) (cW:rows.length<=10) (eJ:FF rows) (fV:∀d H',U H H'->H d=none->H' d=some (.dK (Az (An rows)))->Q (.ref d) H')
def scNumbered:AM ["rows", "numbers", "at", "row", "number"] ["rows"] (defScope Gg):=cH
def OV {x:Str}{n:Nat} (h:x∉ due.map (·.1)):Cl (Az due) (Sum.inr x:Key) (V.int (n:Int))=Az (due++[(x,n)]):=by
 rw[K5 _ (Df h)];unfold Az;rw[Zu];rfl
def Jq (due:Aa):(Az due).length=due.length:=AK _
def Bg:∀rows:List (Str×Th),(An rows).length=rows.length:=λrows=>by
 have:∀(l:List (Str×Th)) (a:Aa),(l.foldl (λdue r=>due++[(r.1,Cw due r.2)]) a).length=a.length+l.length:=by
  intro l;induction l with
  |nil=>intro a;rfl
  |cons x r ih=>intro a;rw[foldl_cons,ih,ZH,length_cons,length_cons,length_nil];omega
 have e:=this rows [];rw[length_nil]at e;unfold An;omega
def Lw {f:Xi}{tm:Tok} (F:aV K "numbered" "numbered" Gg f fd) (B:Bl mg) (hM:mg "MOST_ROWS" = some (.int 10 tm)) (GR:Fn P w K mg base "row_number" 4 ["row", "ahead"] spRow):AZ P w K mg base aL 5 f fd ["rows"] spNumbered:=by
 obtain⟨fR,dR,GR,mR,kR,bR⟩:=GR.ex;refine F.m scNumbered λvs H Q E h=>?_;obtain⟨l,rows,rfl,⟨as,hl,hP⟩,h0,f9,RO,k⟩:=h;refine⟨Zj,λad A outer s hr=>?_⟩;have hu:=Ch hr;have be:as.length=rows.length:=hP.length
 refine⟨_,AG (Ai (PW.pt (Dv (BM (Aw (B2 K Zj Zj B.fk Zj B.list Kd (pv 0)))) (Cc (BM (FQ FO FO AD (AX (BJ K Zj) Zj B.len PySem.boot_len (AA (pv 0) AC)) (BL (v:=.int 10) Zj hM ⟨tm,Zj⟩)))))) (AE Am) AT)
  (AG (Ae (i:=1) scNumbered.nd rfl (Or.inl rfl) FZ)
  (AG (Dw PassesOwn.never rfl (Sk rfl B.enum (AA (pv 0) AC)) (CQ rfl (Ak (Af (i:=2) scNumbered.nd rfl (Or.inl rfl)) (Ak (Af (i:=3) scNumbered.nd rfl (Or.inl rfl)) Bi)))
   (AG (Ae (i:=4) scNumbered.nd rfl (Or.inl rfl) (AN GR hr rfl mR kR bR .nil AR (AA (pv 3) (AA (pv 1) AC))))
   (AG (Ai (GQ (Mf (pv 4))) (AE Am) AT)
   (AE (HK hu (pv 1) (BI (Ay K rfl) (pv 3) AD (λ_ _=>rfl)) (pv 4) rfl)))))
  (AE (AQ (pv 1))))),?_⟩
 refine⟨_,Zj,_,_,_,true,Zj,.lst hl,Zj,_,Zj,?_⟩;refine AV ?_;have hll:(as.map V.ref).length=rows.length:=by rw[AK,be]
 refine⟨_,Zj,l,_,Zj,.inl (aI.of hl),_,_,Zj,Zj,_,Zj,?_⟩;refine B6 (λ_=>?_) (λz=>absurd (ZL (by rw[hll];omega)) z);refine⟨_,_,Zj,Zj,_,Zj,?_⟩;refine Qg (show(((as.map V.ref).length:Nat):Int)<=10 by rw[hll];omega) ?_;intro d gH
 refine⟨_,Zj,l,Zj,⟨_,aI.of (AH (U.refl _) gH _ _ hl)⟩,RS (K:=K) (a:=l) (xs:=as.map V.ref) (λi σ H2=>∃v1 v2 v3:Option V,σ=[some (.ref l),some (.ref d),v1,v2,v3]/\U H H2/\H2 d=some (.dK (Az (An (rows.take i)))))
  ⟨none,none,none,rfl,AH (U.refl _) gH,AB⟩ (λi σ H2 _ ⟨_,_,_,_,s2,_⟩=>aI.of (s2 _ _ hl)) ?_ ?_⟩
 ·rintro i y σ H2 p hi ⟨v1,v2,v3,rfl,s2,hd2⟩ hp;rw[ZE]at hi
  obtain⟨b,hb,rfl⟩:∃b,as[i]?=some b/\y=V.ref b:=by
   cases e:as[i]? with
   |none=>rw[e]at hi;cases hi
   |some x=>rw[e]at hi;exact⟨x,Zj,(Option.some.inj hi).symm⟩
  obtain⟨r,jZ,hra⟩:=FH hP hb;have R1:=RO i r jZ;have s3:U H (upd H2 p (.tup [.int i,.ref b])):=AH s2 hp;have jJ:(upd H2 p (.tup [.int i,.ref b])) d=some (.dK (Az (An (rows.take i)))):=by rw[AF (AI hd2 hp)];exact hd2
  refine⟨p,_,Zj,aX.of AB,Zj,_,_,Zj,_,_,Zj,Zj,?_⟩;refine⟨_,Zj,_,Zj,b,d,r,An (rows.take i),Zj,hra.same s3,.inl jJ,R1,λH4 s4=>?_⟩;refine⟨_,Zj,_,Zj,?_⟩;refine B6 (λz=>absurd (ZV z) (by intro q;cases q)) (λ_=>?_);obtain⟨tv,aj,_⟩:=hra.same (s3.trans s4);refine⟨_,Zj,_,Zj,_,Zj,b,_,0,.str r.1,Zj,Zj,aX.of aj,Zj,d,_,Zj,DPut.k (k:=Sum.inr r.1) (s4 _ _ jJ) (AO (by rw[Jq,Bg,ZA];omega)),?_⟩;refine⟨_,_,_,Zj,IU (s3.trans s4) gH,?_⟩;rw[AB,OV R1.new,ZD,jZ,Option.toList_some,Gn]
 ·rintro σ H2 ⟨v1,v2,v3,rfl,s2,hd2⟩;rw[hll,ZB]at hd2;exact⟨_,Zj,k d H2 s2 gH hd2⟩
end
noncomputable def Aj (due:Aa):List (Nat×Str):=due.foldl (λfs p=>if (fs.map (·.1)).contains p.2 then fs else fs++[(p.2,p.1)]) []
noncomputable def CS (fs:List (Nat×Str)):LK:=fs.map λq=>(Sum.inl (q.1:Int),V.str q.2)
noncomputable def Lx (fs:List (Nat×Str)) (n:Nat):Str:=((fs.find? λq=>decide (q.1=n)).map (·.2)).getD (Str.ofString "")
def Cy (due:Aa) (p:Str×Nat):Aj (due++[p])=if ((Aj due).map (·.1)).contains p.2 then Aj due else Aj due++[(p.2,p.1)]:=by unfold Aj;rw[foldl_append];rfl
def Go (n:Nat):∀fs:List (Nat×Str),As (CS fs) (Sum.inl (n:Int):Key)=(fs.find? λq=>decide (q.1=n)).map λq=>V.str q.2
 | []=>rfl
 |q::r=>by
  show As ((Sum.inl (q.1:Int),V.str q.2)::CS r) (Sum.inl (n:Int))=_;by_cases e:q.1=n
  ·rw[Dz (p:=(Sum.inl (q.1:Int),V.str q.2)) (by rw[←e]),List.find?_cons_of_pos (by simpa using e)];rfl
  ·rw[D0 (p:=(Sum.inl (q.1:Int),V.str q.2)) (λz=>e (by have:=Sum.inl.inj z;omega)),List.find?_cons_of_neg (by simpa using e)];exact Go n r
def Nh {fs:List (Nat×Str)}{n:Nat} (h:n∈fs.map (·.1)):(fs.find? λq=>decide (q.1=n)).isSome=true:=by
 obtain⟨q,hq,e⟩:=Zr.mp h;rw[List.find?_isSome];exact⟨q,hq,by simpa using e⟩
def IV {fs:List (Nat×Str)}{n:Nat} (h:n∈fs.map (·.1)):As (CS fs) (Sum.inl (n:Int):Key)=some (V.str (Lx fs n)):=by
 rw[Go];unfold Lx;obtain⟨q,hq⟩:=Option.isSome_iff_exists.mp (Nh h);rw[hq];rfl
def Gp {fs:List (Nat×Str)}{n:Nat} (h:n∉ fs.map (·.1)):As (CS fs) (Sum.inl (n:Int):Key)=none:=by
 rw[Go]
 have:(fs.find? λq=>decide (q.1=n))=none:=by
  rw[List.find?_eq_none];intro q hq e;exact h (Zr.mpr ⟨q,hq,by simpa using e⟩)
 rw[this];rfl
def Ly {fs:List (Nat×Str)}{n:Nat}{x:Str} (h:n∉ fs.map (·.1)):Cl (CS fs) (Sum.inl (n:Int):Key) (V.str x)=CS (fs++[(n,x)]):=by
 rw[K5 _ (Gp h)];unfold CS;rw[Zu];rfl
def Dg (due:Aa):(Aj due).length<=due.length:=by
 have:∀(l:Aa) (a:List (Nat×Str)),(l.foldl (λfs p=>if (fs.map (·.1)).contains p.2 then fs else fs++[(p.2,p.1)]) a).length<=a.length+l.length:=by
  intro l;induction l with
  |nil=>intro a;exact Zy _
  |cons x r ih =>
   intro a;rw[foldl_cons];refine Nat.le_trans (ih _) ?_;split
   ·rw[length_cons];omega
   ·rw[ZH,length_cons,length_cons,length_nil];omega
 have e:=this due [];rw[length_nil]at e;unfold Aj;omega
def EK (due:Aa):∀(a:List (Nat×Str)),(a.map (·.1)).Nodup->(∀n∈a.map (·.1),n∈(due.foldl (λfs p=>if (fs.map (·.1)).contains p.2 then fs else fs++[(p.2,p.1)]) a).map (·.1)) /\
  ((due.foldl (λfs p=>if (fs.map (·.1)).contains p.2 then fs else fs++[(p.2,p.1)]) a).map (·.1)).Nodup/\(∀p∈due,p.2∈(due.foldl (λfs p=>if (fs.map (·.1)).contains p.2 then fs else fs++[(p.2,p.1)]) a).map (·.1)) /\
  (∀q∈due.foldl (λfs p=>if (fs.map (·.1)).contains p.2 then fs else fs++[(p.2,p.1)]) a,q∈a\/(q.2,q.1)∈due):=by
 induction due with
 |nil=>intro a ha;exact⟨λn hn=>hn,ha,λp hp=>(nomatch hp),λq hq=>.inl hq⟩
 |cons p r ih =>
  intro a ha;rw[foldl_cons];by_cases hc:(a.map (·.1)).contains p.2=true
  ·rw[Zp hc];obtain⟨i1,i2,i3,i4⟩:=ih a ha;refine⟨i1,i2,λq hq=>?_,λq hq=>?_⟩
   ·rcases mem_cons.mp hq with rfl |hq
    ·exact i1 _ (by simpa using hc)
    ·exact i3 q hq
   ·rcases i4 q hq with z |z
    ·exact .inl z
    ·exact .inr (ZR _ z)
  ·rw[Zq hc];have hnot:p.2∉ a.map (·.1):=λz=>hc (by simpa using z);obtain⟨i1,i2,i3,i4⟩:=ih (a++[(p.2,p.1)]) (by rw[Zu];exact OC ha hnot);refine⟨λn hn=>i1 n (by rw[Zu];exact ZP _ hn),i2,λq hq=>?_,λq hq=>?_⟩
   ·rcases mem_cons.mp hq with rfl |hq
    ·exact i1 _ (by rw[Zu];exact ZT _ (by simp))
    ·exact i3 q hq
   ·rcases i4 q hq with z |z
    ·rcases mem_append.mp z with z |z
     ·exact .inl z
     ·have:q=(p.2,p.1):=by simpa using z
      subst this;exact .inr ZI
    ·exact .inr (ZR _ z)
def Pt (due:Aa):((Aj due).map (·.1)).Nodup:=(EK due [] nodup_nil).2.1
def Pu {p:Str×Nat} (h:p∈due):p.2∈(Aj due).map (·.1):=(EK due [] nodup_nil).2.2.1 p h
def Jr {q:Nat×Str} (h:q∈Aj due):(q.2,q.1)∈due:=by
 rcases (EK due [] nodup_nil).2.2.2 q h with z |z
 ·cases z
 ·exact z
section
inductive spFirsts (vs:Xh) (H:Hp) (Q:VK) (_E:XK):Prop where
 |mk (d:Xi) (o:Obj) (due:Aa) (cD:vs=[.ref d]) (cE:H d=some (.bG o (.dK (Az due)))) (cJ:due.length<=100) (cW:∀e H',U H H'->H e=none->H' e=some (.dK (CS (Aj due)))->Q (.ref e) H')
def scFirsts:AM ["numbers", "firsts", "name", "number"] ["numbers"] (defScope EE):=cH
def RT {i:Nat}{kv:Key×V} (h:(Az due)[i]?=some kv):∃p,due[i]?=some p/\kv=(Sum.inr p.1,V.int (p.2:Int)):=by
 unfold Az at h;rw[ZE]at h;cases e:due[i]? with
 |none=>rw[e]at h;cases h
 |some p=>rw[e]at h;exact⟨p,Zj,(Option.some.inj h).symm⟩
def Pw {f:Xi} (F:aV K "first_names" "first_names" EE f fd):AZ P w K mg base aL 1 f fd ["numbers"] spFirsts:=by
 refine F.m scFirsts λvs H Q E h=>?_;obtain⟨d,o,due,rfl,hd,hz,k⟩:=h;refine⟨Zj,λad A outer s hr=>?_⟩
 refine⟨_,AG (Ae (i:=1) scFirsts.nd Zj (Or.inl Zj) FZ)
  (AG (Dw PassesOwn.never rfl (LH (pv 0)) (CQ rfl (Ak (Af (i:=2) scFirsts.nd rfl (Or.inl rfl)) (Ak (Af (i:=3) scFirsts.nd rfl (Or.inl rfl)) Bi)))
   (AE (BD (Eh PySem.F.plainAttrs_dict PySem.F.slot_dict_setdefault PySem.F.type_dict_setdefault JD (pv 1) (AA (pv 3) (AA (pv 2) AC))))))
  (AE (AQ (pv 1)))),?_⟩
 intro e he
 refine⟨_,Zj,d,o,Az due,Zj,AH (U.refl _) he _ _ hd,Ps (a:=d) (o:=o) (kvs:=Az due) (λi σ H2=>∃v1 v2:Option V,σ=[some (.ref d),some (.ref e),v1,v2]/\U H H2/\H2 e=some (.dK (CS (Aj (due.take i)))))
  ⟨none,none,rfl,AH (U.refl _) he,AB⟩ (λi σ H2 ⟨_,_,_,s2,_⟩=>s2 _ _ hd) ?_ ?_⟩
 ·rintro i kv σ H2 p gj ⟨v1,v2,rfl,s2,ic⟩ hp;obtain⟨pr,hpr,rfl⟩:=RT gj;have s3:U H (upd H2 p (.tup [.str pr.1,.int (pr.2:Int)])):=AH s2 hp;have he3:(upd H2 p (.tup [.str pr.1,.int (pr.2:Int)])) e=some (.dK (CS (Aj (due.take i)))):=by rw[AF (AI ic hp)];exact ic
  have et:due.take (i+1)=due.take i++[pr]:=by rw[ZD,hpr];rfl
  have hle:(CS (Aj (due.take i))).length<=100:=by
   unfold CS;rw[AK];have:=Dg (due.take i);rw[ZA]at this;omega
  refine⟨p,_,Zj,aX.of AB,Zj,_,_,Zj,_,_,Zj,Zj,?_⟩;refine⟨_,Zj,.inr (.inr (.inl ⟨Zj,.inl ⟨_,he3⟩⟩)),_,Zj,_,Zj,e,_,Sum.inl (pr.2:Int),.str pr.1,Zj,Zj,he3,AO qe,λw' hw=>?_,λhn=>?_⟩
  ·refine⟨_,_,Zj,s3,?_⟩;have z:pr.2∈(Aj (due.take i)).map (·.1):=Decidable.byContradiction λz=>by rw[Gp z]at hw;cases hw
   rw[et,Cy,Zp (by simpa using z)];exact he3
  ·have z:pr.2∉ (Aj (due.take i)).map (·.1):=λz=>by rw[IV z]at hn;cases hn
   refine⟨_,_,Zj,IU s3 he,?_⟩;rw[AB,et,Cy,Zq (by simpa using z),Ly z]
 ·rintro σ H2 ⟨v1,v2,rfl,s2,ic⟩;rw[Jq,ZB]at ic;exact⟨_,Zj,k e H2 s2 he ic⟩
end
def n12:¬ (("numbers" : Str) = "firsts"):=by decide +kernel
def n13:¬ (("numbers" : Str) = "rule"):=by decide +kernel
def n23:¬ (("firsts" : Str) = "rule"):=by decide +kernel
noncomputable def IW (d1 d2:Xi) (r:Str):List (Str×V):=BP "rule" (.str r) (BP "firsts" (.ref d2) (BP "numbers" (.ref d1) []))
def IY (d1 d2:Xi) (r:Str):(IW d1 d2 r).lookup ("numbers" : Str)=some (.ref d1):=by
 unfold IW;rw[AW,Zq n13,AW,Zq n12,AW,Zp rfl]
def RU (d1 d2:Xi) (r:Str):(IW d1 d2 r).lookup ("firsts" : Str)=some (.ref d2):=by
 unfold IW;rw[AW,Zq n23,AW,Zp rfl]
def Px (d1 d2:Xi) (r:Str):(IW d1 d2 r).lookup ("rule" : Str)=some (.str r):=by
 unfold IW;rw[AW,Zp rfl]
def Ec (d1 d2:Xi) (r:Str) {m:Str} (h1:¬ m = "rule" := by decide +kernel) (h2:¬ m = "firsts" := by decide +kernel) (h3:¬ m = "numbers" := by decide +kernel):(IW d1 d2 r).lookup m=none:=by
 unfold IW;rw[AW,Zq h1,AW,Zq h2,AW,Zq h3];rfl
def TL (d1:Xi):(BP "numbers" (V.ref d1) []).lookup ("numbers" : Str)=some (.ref d1):=by rw[AW,Zp rfl]
structure aU (C:Xi) (H:Hp) (p:Xi) (due:Aa) (r:Str):Prop where
 ex:∃dx d1 o1 d2 o2,H p=some (.ins C dx (IW d1 d2 r))/\H d1=some (.bG o1 (.dK (Az due)))/\H d2=some (.bG o2 (.dK (CS (Aj due))))
def aU.same {p:Xi}{r:Str} (s:U H H') (h:aU C H p due r):aU C H' p due r:=by
 obtain⟨dx,d1,o1,d2,o2,a,b,c⟩:=h.ex;exact⟨⟨dx,d1,o1,d2,o2,s _ _ a,s _ _ b,s _ _ c⟩⟩
structure IZ (K:FG) (C:Xi):Prop where
 cl:iA K C
 nN:cI K C "numbers"
 nF:cI K C "firsts"
 nR:cI K C "rule"
noncomputable def ruleNames:Xf:=["bar", "drop", "keep", "leave"]
section
inductive spInit (C:Xi) (vs:Xh) (H:Hp) (Q:VK) (_E:XK):Prop where
 |mk (p dx l:Xi) (rows:List (Str×Th)) (r:Str) (cD:vs=[.ref p,.ref l,.str r]) (cE:H p=some (.ins C dx [])) (cJ:RowsAt H l rows) (cW:0<rows.length) (eJ:rows.length<=10) (fV:FF rows) (jS:r∈ruleNames) (z_7:∀H',(∀b o,H b=some o->b≠p->H' b=some o)->aU C H' p (An rows) r->Q .aO H')
def Uu:AM ["self", "rows", "rest"] ["self", "rows", "rest"] (defScope BQ):=cH
def RV {r:Str} (h:r∈ruleNames):eK (.str r) (ruleNames.map V.str)=true:=by
 unfold eK;rw[any_map,any_eq_true];exact⟨r,h,by show(r==r)=true;simp⟩
def TM {f aR:Xi} (F:aV K "__init__" "Kind.__init__" BQ f fd) (B:Bl mg) (T:IZ K C) (hR:mg "RULES" = some (.ref aR)) (hRT:∀H:Hp,aX K H aR (ruleNames.map V.str))
  (GN:Fn P w K mg base "numbered" 5 ["rows"] spNumbered) (GF:Fn P w K mg base "first_names" 1 ["numbers"] spFirsts) (GO:Fn P w K mg base "is_one_of" 1 ["thing", "names"] (DI K)):AZ P w K mg base aL 6 f fd ["self", "rows", "rest"] (spInit C):=by
 obtain⟨fN,dN,GN,mN,kN,bN⟩:=GN.ex;obtain⟨fF,dF,GF,mF,kF,bF⟩:=GF.ex;obtain⟨fO,dO,GO,mO,kO,bO⟩:=GO.ex;refine F.m Uu λvs H Q E h=>?_;obtain⟨p,dx,l,rows,r,rfl,hp,RA,h0,f9,RO,aq,k⟩:=h;refine⟨Zj,λad A outer s hr=>?_⟩;have d5:aE 1 _:=hr.mono qc
 refine⟨_,AG (C4 (pv 0) (AN GN hr Zj mN kN bN .nil AR (AA (pv 1) AC)) Zj)
  (Eu (AG (Ai (BM (Aw (AN GO d5 rfl mO kO bO .nil AR (AA (pv 2) (AA (BL (v:=.ref aR) rfl hR rfl) AC))))) (AE Am) AT)
  (AG (C4 (pv 0) (AN GF d5 rfl mF kF bF .nil AR (AA (BH (pv 0) rfl) AC)) rfl)
  (Eu (AE (C4 (pv 0) (pv 2) rfl)))))),?_⟩
 refine⟨_,Zj,l,rows,Zj,RA,h0,f9,RO,λd1 H1 s1 hd1n eT=>?_⟩;have jB:p≠d1:=AI hp hd1n;refine⟨_,Zj,p,C,dx,[],Zj,s1 _ _ hp,T.cl,T.nN,(by show 0<1000;decide),?_⟩;refine⟨d1,Az (An rows),by rw[AF (Ne.symm jB)];exact eT,λo1=>?_⟩;refine⟨_,Zj,.inr ⟨r,aR,ruleNames,Zj,hRT _,_,Zj,?_⟩⟩;rw[RV aq];refine AV ?_;have am:∀o,(upd (upd H1 p (.ins C dx (BP "numbers" (.ref d1) []))) d1 o) p=some (.ins C dx (BP "numbers" (.ref d1) [])):=λo=>by rw[AF jB,AB]
 refine⟨_,Zj,p,C,dx,_,_,Zj,am _,T.cl,T.nN,TL d1,d1,o1,An rows,Zj,AB,by rw[Bg];omega,λd2 H2 s2 hd2n hd2=>?_⟩;have npd2:p≠d2:=AI (am _) hd2n;have iL:=s2 _ _ (am _);refine⟨_,Zj,p,C,dx,_,Zj,iL,T.cl,T.nF,(by show 1<1000;decide),?_⟩;refine⟨d2,CS (Aj (An rows)),by rw[AF (Ne.symm npd2)];exact hd2,λo2=>?_⟩;have hp4:∀o,(upd (upd H2 p (.ins C dx (BP "firsts" (.ref d2) (BP "numbers" (.ref d1) [])))) d2 o) p=some (.ins C dx (BP "firsts" (.ref d2) (BP "numbers" (.ref d1) []))):=λo=>by rw[AF npd2,AB]
 refine⟨_,Zj,_,Zj,p,C,dx,_,Zj,hp4 _,T.cl,T.nR,Nat.lt_of_le_of_lt (A7 _ _ _) (by show 2<1000;decide),?_⟩;have nd12:d1≠d2:=AI (AB (H:=upd H1 p (.ins C dx (BP "numbers" (.ref d1) []))) (o:=.bG o1 (.dK (Az (An rows))))) hd2n;refine k _ (λb o e hb=>?_) ⟨⟨dx,d1,o1,d2,o2,AB,?_,?_⟩⟩
 ·rw[AF hb,AF,AF hb]
  ·refine s2 _ _ ?_;rw[AF (AI e hd1n),AF hb];exact s1 _ _ e
  ·intro z;subst z
   have:(upd (upd H1 p (.ins C dx (BP "numbers" (.ref d1) []))) d1 (.bG o1 (.dK (Az (An rows))))) b=some o:=by
    rw[AF (AI e hd1n),AF hb];exact s1 _ _ e
   rw[hd2n]at this;cases this
 ·rw[AF (Ne.symm jB),AF nd12,AF (Ne.symm jB)];exact s2 _ _ AB
 ·rw[AF (Ne.symm npd2),AB]
end
structure Mt (P:Program) (w:World) (K:FG) (mg:SV) (base:Heap) (C:Xi) (m:Str) (k:Nat) (ps:Xf) (sp:Sp):Prop where
 ex:∃f fd,AZ P w K mg base aL k f fd ps sp/\QZ K C m f/\Binds K fd ps []
noncomputable def FI (due:Aa):List (V×V):=due.map λp=>(V.str p.1,V.int (p.2:Int))
noncomputable def BW (due:Aa):List Nat:=((Aj due).map (·.1)).mergeSort λa b=>decide (a<=b)
noncomputable def BG (due:Aa):List Nat:=(BW due).filter Bp
noncomputable def OW (due:Aa):List (V×V):=(BG due).map λn=>(V.str (Lx (Aj due) n),V.int (n:Int))
def Dh (due:Aa):(BW due).Perm ((Aj due).map (·.1)):=List.mergeSort_perm _ _
def Fz (due:Aa):(BW due).Pairwise (· <= ·):=by
 have:=List.pairwise_mergeSort (le:=λa b:Nat=>decide (a<=b)) (λa b c h1 h2=>by simp at h1 h2 ⊢;omega) (λa b=>by simp;omega) ((Aj due).map (·.1));exact this.imp λh=>by simpa using h
def RW {ns:List Int} (hp:ns.Perm ((CS (Aj due)).map λkv=>match kv.1 with |Sum.inl i=>i |Sum.inr _=>0)) (hs:ns.Pairwise (· <= ·)):ns=(BW due).map λn:Nat=>(n:Int):=by
 refine List.Perm.eq_of_pairwise (le:=(· <= ·)) (λa b _ _ h1 h2=>Int.le_antisymm h1 h2) hs ?_ ?_
 ·rw[List.pairwise_map];exact(Fz due).imp λh=>by omega
 ·have e:((CS (Aj due)).map λkv=>match kv.1 with |Sum.inl i=>i |Sum.inr _=>0)=((Aj due).map (·.1)).map λn:Nat=>(n:Int):=by
   unfold CS;rw[map_map,map_map];rfl
  rw[e]at hp;exact hp.trans ((Dh due).symm.map _)
def mem_keysS {n:Nat}:n∈BW due ↔ n∈(Aj due).map (·.1):=(Dh due).mem_iff
def Js (due:Aa):(BW due).length<=due.length:=by
 rw[(Dh due).length_eq,AK];exact Dg due
section
inductive spKnown (C:Xi) (vs:Xh) (H:Hp) (Q:VK) (_E:XK):Prop where
 |mk (p:Xi) (due:Aa) (r:Str) (cD:vs=[.ref p]) (cE:aU C H p due r) (cJ:∀H',U H H'->Q (.int (Av ((Aj due).map (·.1)):Nat)) H')
def TN:AM ["self"] ["self"] (defScope E7):=cH
def RX {f:Xi} (F:aV K "known" "Kind.known" E7 f fd) (B:Bl mg) (T:IZ K C) (GU:Fn P w K mg base "union_of" 1 ["numbers"] (spUnionOf K)):AZ P w K mg base aL 2 f fd ["self"] (spKnown C):=by
 obtain⟨fU,dU,GU,mU,kU,bU⟩:=GU.ex;refine F.m TN λvs H Q E h=>?_;obtain⟨p,due,r,rfl,KA,k⟩:=h;refine⟨Zj,λad A outer s hr=>?_⟩;obtain⟨dx,d1,o1,d2,o2,hp,h1,h2⟩:=KA.ex;refine⟨_,AE (AQ (AN GU hr Zj mU kU bU .nil AR (AA (Ba (M7 Zj) Zj B.list Kd (AA (BH (pv 0) Zj) AC)) AC))),?_⟩;refine⟨_,Zj,p,C,dx,_,_,Zj,hp,T.cl,T.nF,RU _ _ _,d2,_,Zj,.inr ⟨o2,h2⟩,λl hl=>?_⟩;refine⟨l,(Aj due).map (·.1),Zj,aI.of (by rw[AB];unfold CS A3;rw[map_map,map_map];rfl),k _ (AH (U.refl _) hl)⟩
def Py {as:List Xi}{ps:List (V×V)}{b:Xi}{p:V×V} (s:U H H') (h:aB H as ps) (hb:H' b=some (.tup [p.1,p.2])):aB H' (as++[b]) (ps++[p]):=Paired.snoc (aB.same s h) hb
end
def Lz {as:List Xi}{ps:List (V×V)}{i:Nat}{b:Xi} (h:aB H as ps) (e:as[i]?=some b):∃p,ps[i]?=some p/\H b=some (.tup [p.1,p.2]):=FH h e
section
def aU.ins {p:Xi}{r:Str} (h:aU C H p due r):∃dx d1 d2,H p=some (.ins C dx (IW d1 d2 r)):=by
 obtain⟨dx,d1,o1,d2,o2,a,_⟩:=h.ex;exact⟨dx,d1,d2,a⟩
def Pz (due:Aa):(OW due).length=(BG due).length:=AK _
end
def OX (h:∀p∈due,p.2<2 ^ 20):∀n∈(Aj due).map (·.1),n<2 ^ 20:=λn hn=>by
 obtain⟨q,hq,rfl⟩:=Zr.mp hn;exact h _ (Jr hq)
def RY (h:∀p∈due,p.2<2 ^ 20):∀n∈BG due,n<2 ^ 20:=λn hn=>OX h n (mem_keysS.mp (mem_filter.mp hn).1)
def F0 {x:Int}{n:Nat} (h0:0<=x) (h:x<2 ^ n):Builtin.Int.intBits x<=n:=by
 obtain⟨m,rfl⟩:=Int.eq_ofNat_of_zero_le h0;have hm:m<2 ^ n:=by exact_mod_cast h
 rcases Nat.eq_zero_or_pos m with e |hp
 ·subst e;exact Nat.zero_le _
 ·rw[ED hp];exact(Nat.log2_lt qe).mpr hm
def Gr {xs:Xh}{i:Int} (h0:0<=i) (h1:i<xs.length):∃v,gU xs i=some v/\xs[i.toNat]?=some v:=by
 have hlt:i.toNat<xs.length:=by omega
 refine⟨xs[i.toNat],?_,Z7 hlt⟩;unfold gU g9;rw[Zp h0,Zp h1];exact Z7 hlt
structure aH (d:Xi) (H H':Hp):Prop where
 old:∀b o,H b=some o->b≠d->H' b=some o
 bH:∃a b:Int,H' d=some (.lst [.int a,.int b])
def aH.step {d:Xi}{H1 H2:Hp} (x:aH d H H1) (s:U H1 H2):aH d H H2 :=
 ⟨λb o e hb=>s _ _ (x.old b o e hb),by obtain⟨a,b,e⟩:=x.bH;exact⟨a,b,s _ _ e⟩⟩
def aH.trans {d:Xi}{H1 H2:Hp} (x:aH d H H1) (y:aH d H1 H2):aH d H H2:=⟨λb o e hb=>y.old _ _ (x.old b o e hb) hb,y.bH⟩
section
inductive spCell (K:FG) (vs:Xh) (H:Hp) (Q:VK) (_E:XK):Prop where
 |mk (a:Xi) (ns:List Int) (k:Int) (cD:vs=[.ref a,.int k]) (cE:aI K H a (ns.map V.int)) (cJ:ns.length<=63) (cW:0<=k) (eJ:∀(v:Int) H',U H H'->Q (.int v) H')
def Uv:AM ["_law_script", "_law_k"] ["_law_script", "_law_k"] (defScope IM):=cH
def TQ {f:Xi} (F:aV K "_law_cell" "_law_cell" IM f fd) (B:Bl mg):AZ P w K mg base aL 1 f fd ["_law_script", "_law_k"] (spCell K):=by
 refine F.m Uv λvs H Q E h=>?_;obtain⟨a,ns,kk,rfl,hS,h63,hk,k⟩:=h;refine⟨Zj,λad A outer s hr=>?_⟩;have hu:=hr.units
 refine⟨_,AG (Ai (AL (Ue K Zj hu) (pv 0) (BA AC) (AS _)) (AE (AQ (Ac HZ (pv 1) AD))) AT)
  (AE (AQ (Ac C3 (BI (Ar K rfl) (pv 0) (Ac Ep (pv 1) (AX (BJ K rfl) rfl B.len PySem.boot_len (AA (pv 0) AC))) (λ_ _=>rfl))
   (Ac HZ (Ac N0 (pv 1) (AX (BJ K rfl) rfl B.len PySem.boot_len (AA (pv 0) AC))) AD)))),?_⟩
 refine⟨_,Zj,Nat.zero_le _,λp hp=>?_⟩;have s1:U H (upd H p (.lst [])):=AH (U.refl _) hp;refine⟨a,p,ns,[],Zj,Zj,s1.seq hS,aI.of AB,_,Zj,?_⟩;refine B6 (λh0=>?_) (λh0=>?_)
 ·exact⟨_,Zj,_,_,Zj,Zj,.inr ⟨qc,qc⟩,k _ _ s1⟩
 ·have a0:ns≠ []:=λz=>h0 (ZL z);have hpos:0<ns.length:=List.length_pos_iff.mpr a0;have hl:(ns.map V.int).length=ns.length:=AK _;have hm0:0<=kk % ((ns.map V.int).length:Int):=Int.emod_nonneg _ (by rw[hl];omega);have hm1:kk % ((ns.map V.int).length:Int)<((ns.map V.int).length:Nat):=Int.emod_lt_of_pos _ (by rw[hl];omega);obtain⟨v,hv,eE⟩:=Gr (xs:=ns.map V.int) hm0 hm1
  obtain⟨n,rfl⟩:∃n,v=V.int n:=by
   rw[ZE]at eE;cases e:ns[(kk % ((ns.map V.int).length:Int)).toNat]? with
   |none=>rw[e]at eE;cases eE
   |some n=>rw[e]at eE;exact⟨n,(Option.some.inj eE).symm⟩
  refine⟨_,Zj,_,Zj,_,Zj,a,_,Zj,.inl (s1.seq hS),_,_,Zj,Zj,(by rw[hl];omega),a,_,_,_,Zj,Zj,s1.seq hS,hv,?_⟩;exact⟨_,Zj,_,Zj,a,_,Zj,.inl (s1.seq hS),_,_,Zj,Zj,⟨by rw[hl];omega,by rw[hl];omega⟩,_,_,Zj,Zj,.inr ⟨qc,qc⟩,_,_,Zj,Zj,k _ _ s1⟩
inductive spDrawn (vs:Xh) (H:Hp) (Q:VK) (_E:XK):Prop where
 |mk (c k:Int) (cD:vs=[.int c,.int k]) (cE:∀r:Int,0<=r->Q (.int r) H)
def scDrawn:AM ["_law_cell_here", "_law_k", "_law_more"] ["_law_cell_here", "_law_k"] (defScope Gj):=cH
def RZ {f:Xi} (F:aV K "_law_drawn" "_law_drawn" Gj f fd):AZ P w K mg base aL 1 f fd ["_law_cell_here", "_law_k"] spDrawn:=by
 refine F.m scDrawn λvs H Q E h=>?_;obtain⟨c,kk,rfl,k⟩:=h;refine⟨Zj,λad A outer s hr=>?_⟩
 refine⟨_,AG (Ae (i:=2) scDrawn.nd Zj (Or.inl Zj) (Ac Ep (Ac C3 (Ac HZ (pv 0) AD) (Ac HZ (Ac C3 (pv 1) AD) AD)) AD))
  (AG (Ae (i:=2) scDrawn.nd rfl (Or.inl rfl) (Ac Ep (Ac KK (pv 2) (pv 2)) AD))
  (AG (Ae (i:=2) scDrawn.nd rfl (Or.inl rfl) (Ac KK (Ac KK (Ac C3 (Ac Ep (pv 2) AD) AD) (Ac C3 (Ac LL (pv 2) AD) AD)) (pv 2)))
  (AE (AQ (Ac Ep (pv 2) AD))))),?_⟩
 refine⟨_,Zj,_,_,Zj,Zj,.inr ⟨qc,qc⟩,_,Zj,_,_,Zj,Zj,_,_,Zj,Zj,.inr ⟨qc,qc⟩,_,_,Zj,Zj,_,_,Zj,Zj,(by show(0:Int)<_;decide),?_⟩;generalize ha:(c*6364136223846793005+(kk+1)*1442695040888963407) % 340282366920938463463374607431768211507=m1
 have h1:0<=m1/\m1<2 ^ 130:=by
  rw[←ha];exact⟨Int.emod_nonneg _ qc,Int.lt_trans (Int.emod_lt_of_pos _ qc) qc⟩
 have b1:Builtin.Int.intBits m1<=2 ^ 20:=Nat.le_trans (F0 h1.1 h1.2) qc;subst ha;refine⟨_,Zj,_,Zj,_,_,Zj,Zj,⟨b1,b1⟩,_,_,Zj,Zj,(by show(0:Int)<_;decide),?_⟩;generalize hb:(c*6364136223846793005+(kk+1)*1442695040888963407) % 340282366920938463463374607431768211507*((c*6364136223846793005+(kk+1)*1442695040888963407) % 340282366920938463463374607431768211507) % 340282366920938463463374607431768211297=m2
 have h2:0<=m2/\m2<2 ^ 130:=by
  rw[←hb];exact⟨Int.emod_nonneg _ qc,Int.lt_trans (Int.emod_lt_of_pos _ qc) qc⟩
 have b2:Builtin.Int.intBits m2<=2 ^ 20:=Nat.le_trans (F0 h2.1 h2.2) qc
 have p1:0<=m2 % 18446744073709551557+1/\m2 % 18446744073709551557+1<2 ^ 65:=by
  have:=Int.emod_nonneg m2 (show(18446744073709551557:Int)≠0 by decide);have:=Int.emod_lt_of_pos m2 (show(0:Int)<18446744073709551557 by decide);omega
 have p2:0<=m2 / 18446744073709551557+1/\m2 / 18446744073709551557+1<2 ^ 131:=by
  have h3:=Int.ediv_nonneg h2.1 (show(0:Int)<=18446744073709551557 by decide);have h4:=Int.ediv_le_self (18446744073709551557) h2.1;omega
 have p3:0<=(m2 % 18446744073709551557+1)*(m2 / 18446744073709551557+1):=Int.mul_nonneg p1.1 p2.1
 have p4:(m2 % 18446744073709551557+1)*(m2 / 18446744073709551557+1)<2 ^ 196:=by
  have:=Int.mul_lt_mul' (Int.le_of_lt p1.2) p2.2 p2.1 (show(0:Int)<2 ^ 65 by decide);exact Int.lt_of_lt_of_le this qc
 have c1:Builtin.Int.intBits (m2 % 18446744073709551557+1)<=2 ^ 20:=Nat.le_trans (F0 p1.1 p1.2) qc;have c2:Builtin.Int.intBits (m2 / 18446744073709551557+1)<=2 ^ 20:=Nat.le_trans (F0 p2.1 p2.2) qc;have c3:Builtin.Int.intBits ((m2 % 18446744073709551557+1)*(m2 / 18446744073709551557+1))<=2 ^ 20:=Nat.le_trans (F0 p3 p4) qc;subst hb;refine⟨_,Zj,_,_,Zj,Zj,(by show(0:Int)<_;decide),_,_,Zj,Zj,_,Zj,_,_,Zj,Zj,⟨qc,PyProof.noPylong_of_log2 qb⟩,_,_,Zj,Zj,_,_,Zj,Zj,⟨c1,c2⟩,?_⟩;refine⟨_,Zj,_,_,Zj,Zj,⟨c3,b2⟩,?_⟩;exact⟨_,Zj,_,_,Zj,Zj,(by show(0:Int)<_;decide),k _ (Int.emod_nonneg _ qc)⟩
inductive dH (vs:Xh) (H:Hp) (Q:VK) (_E:XK):Prop where
 |mk (d:Xi) (a b m:Int) (cD:vs=[.ref d,.int m]) (cE:H d=some (.lst [.int a,.int b])) (cJ:0<m) (cW:m<1073741824) (eJ:∀r a' b':Int,0<=r->r<m->Q (.int r) (upd H d (.lst [.int a',.int b'])))
def scRoll:AM ["_law_dice", "_law_many", "_law_told_here"] ["_law_dice", "_law_many"] (defScope Fu):=cH
inductive spRollB (vs:Xh) (H:Hp) (Q:VK) (_E:XK):Prop where
 |mk (d:Xi) (a b m:Int) (cD:vs=[.ref d,.int m]) (cE:H d=some (.lst [.int a,.int b])) (cJ:0<m) (cW:m.natAbs.log2<9000) (eJ:∀r a' b':Int,0<=r->r<m->Q (.int r) (upd H d (.lst [.int a',.int b'])))
def MA {f:Xi} (F:aV K "_law_roll" "_law_roll" Fu f fd) (GD:Fn P w K mg base "_law_drawn" 1 ["_law_cell_here", "_law_k"] spDrawn):AZ P w K mg base aL 2 f fd ["_law_dice", "_law_many"] spRollB:=by
 obtain⟨fD,dD,GD,mD,kD,bD⟩:=GD.ex;refine F.m scRoll λvs H Q E h=>?_;obtain⟨d,a,b,m,rfl,hd,m0,m1,k⟩:=h;refine⟨Zj,λad A outer s hr=>?_⟩
 refine⟨_,AG (Ai (AL K0 (BI (Ar K Zj) (pv 0) AD (λ_ _=>rfl)) (Ac Er AD AD) (AS _))
   (AG (Ae (i:=2) scRoll.nd rfl (Or.inl rfl) (Ac Ep (BI (Ar K rfl) (pv 0) AD (λ_ _=>rfl)) (pv 1)))
   (AG (C2 (Ac LL (BI (Ar K rfl) (pv 0) AD (λ_ _=>rfl)) (pv 1)) (J7 (pv 0) AD FR))
   (AE (AQ (pv 2))))) AT)
  (AG (C2 (Ac C3 (BI (Ar K rfl) (pv 0) AD (λ_ _=>rfl)) AD) (J7 (pv 0) AD FR))
  (AE (AQ (Ac Ep (Ac N0 (AN GD hr rfl mD kD bD .nil AR (AA (BI (Ar K rfl) (pv 0) AD (λ_ _=>rfl)) (AA (BI (Ar K rfl) (pv 0) AD (λ_ _=>rfl)) AC))) AD) (pv 1))))),?_⟩
 refine⟨_,Zj,d,_,0,.int a,Zj,Zj,aI.of hd,BS (j:=0) Zj,_,_,Zj,Zj,⟨qc,qc,qc⟩,_,_,Zj,Zj,_,Zj,?_⟩;refine B6 (λ_=>?_) (λ_=>?_)
 ·refine⟨_,Zj,d,_,0,.int a,Zj,Zj,aI.of hd,BS (j:=0) Zj,_,Zj,_,_,Zj,Zj,m0,?_⟩;refine⟨_,Zj,d,_,0,.int a,Zj,Zj,aI.of hd,BS (j:=0) Zj,_,Zj,_,_,Zj,Zj,⟨m0,PyProof.noPylong_of_log2 m1⟩,_,Zj,d,_,0,0,Zj,Zj,hd,Zj,?_⟩;exact⟨_,Zj,k _ (a / m) b (Int.emod_nonneg _ qe) (Int.emod_lt_of_pos _ m0)⟩
 ·refine⟨_,Zj,d,_,1,.int b,Zj,Zj,aI.of hd,BS (j:=1) Zj,_,_,Zj,Zj,_,Zj,d,_,1,1,Zj,Zj,hd,Zj,?_⟩;have hd2:(upd H d (.lst ([V.int a,V.int b].set 1 (V.int (b+1))))) d=some (.lst [.int a,.int (b+1)]):=AB;refine⟨_,Zj,d,_,0,.int a,Zj,Zj,aI.of hd2,BS (j:=0) Zj,_,Zj,d,_,1,.int (b+1),Zj,Zj,aI.of hd2,BS (j:=1) Zj,_,_,Zj,λr hr0=>?_⟩;refine⟨_,_,Zj,Zj,⟨qc,qc⟩,_,Zj,_,_,Zj,Zj,m0,?_⟩;exact k _ a (b+1) (Int.emod_nonneg _ qe) (Int.emod_lt_of_pos _ m0)
def Ra {CX:gN}{k:Nat}{f:Xi}{ps:Xf}{sp sp':Sp} (F:AZ P w K mg base CX k f fd ps sp) (h:∀vs H Q E,sp' vs H Q E->sp vs H Q E):AZ P w K mg base CX k f fd ps sp' :=
 ⟨λvs H Q E q=>F.len _ _ _ _ (h _ _ _ _ q),λA outer s H args us vs Q E hr he hb hv q=>F.run A outer s H args us vs Q E hr he hb hv (h _ _ _ _ q)⟩
def TR {f:Xi} (F:aV K "_law_roll" "_law_roll" Fu f fd) (GD:Fn P w K mg base "_law_drawn" 1 ["_law_cell_here", "_law_k"] spDrawn):AZ P w K mg base aL 2 f fd ["_law_dice", "_law_many"] dH:=Ra (MA F GD) λvs H Q E h=>by
 obtain⟨d,a,b,m,e,hd,h0,h1,q⟩:=h;refine⟨d,a,b,m,e,hd,h0,?_,q⟩
 have:m.natAbs<2 ^ 30:=by
  have:(2:Nat) ^ 30=1073741824:=by decide
  omega
 have:=(Nat.log2_lt (n:=m.natAbs) (k:=30) qe).mpr this;omega
inductive spRuleOf (vs:Xh) (H:Hp) (Q:VK) (_E:XK):Prop where
 |mk (d:Xi) (a b:Int) (cD:vs=[.ref d]) (cE:H d=some (.lst [.int a,.int b])) (cJ:∀(r:Str) H',r∈(["bar", "drop", "keep", "leave"]:Xf)->aH d H H'->Q (.str r) H')
def Rb:AM ["_law_dice"] ["_law_dice"] (defScope FD):=cH
def P1 {f:Xi} (F:aV K "_law_rule_of" "_law_rule_of" FD f fd) (GR:Fn P w K mg base "_law_roll" 2 ["_law_dice", "_law_many"] dH):AZ P w K mg base aL 3 f fd ["_law_dice"] spRuleOf:=by
 obtain⟨fR,dR,GR,mR,kR,bR⟩:=GR.ex;refine F.m Rb λvs H Q E h=>?_;obtain⟨d,a,b,rfl,hd,k⟩:=h;refine⟨Zj,λad A outer s hr=>?_⟩;refine⟨_,AE (AQ (BI (Ar K Zj) (BA (AA AJ (AA AJ (AA AJ (AA AJ AC))))) (AN GR hr Zj mR kR bR .nil AR (AA (pv 0) (AA AD AC))) (λ_ _=>rfl))),?_⟩;refine⟨sl4,λp hp=>?_⟩;have jB:d≠p:=AI hd hp;refine⟨_,Zj,d,a,b,4,Zj,by rw[AF jB];exact hd,qc,qc,λr a' b' h0 h1=>?_⟩;have hl:(upd (upd H p (.lst [.str "bar", .str "drop", .str "keep", .str "leave"])) d (.lst [.int a',.int b'])) p=some (.lst [.str "bar", .str "drop", .str "keep", .str "leave"]):=by rw[AF (Ne.symm jB),AB]
 obtain⟨v,hv,eE⟩:=Gr (xs:=[V.str "bar", V.str "drop", V.str "keep", V.str "leave"]) h0 (by show r<4;exact h1)
 have gQ:∃x,v=.str x/\x∈(["bar", "drop", "keep", "leave"]:Xf):=by
  have:=ZQ eE;simp only[mem_cons,not_mem_nil,or_false]at this;rcases this with z |z |z |z
  ·exact⟨_,z,by simp⟩
  ·exact⟨_,z,by simp⟩
  ·exact⟨_,z,by simp⟩
  ·exact⟨_,z,by simp⟩
 obtain⟨x,rfl,hx⟩:=gQ;refine⟨p,_,r,_,Zj,Zj,aI.of hl,hv,k x _ hx ⟨λc o e hc=>?_,⟨a',b',AB⟩⟩⟩;rw[AF hc,AF (AI e hp)];exact e
end
def OY (n k:Nat):decide (V.int (Builtin.bitAnd ((n:Int) / 2 ^ ((0:Int)+(k:Int)).toNat) 1)=V.int 1)=n.testBit k:=by
 have e0:((0:Int)+(k:Int)).toNat=k:=by omega
 have e1:(n:Int) / 2 ^ k=((n / 2 ^ k:Nat):Int):=by push_cast;rfl
 have e2:Builtin.bitAnd ((n / 2 ^ k:Nat):Int) 1=((n / 2 ^ k % 2:Nat):Int):=by
  have:=Bx (n / 2 ^ k) 1;rw[Nat.and_one_is_mod]at this;exact this
 rw[e0,e1,e2,Nat.testBit_eq_decide_div_mod_eq];refine decide_eq_decide.mpr ⟨λh=>?_,λh=>?_⟩
 ·have:=V.int.inj h;omega
 ·rw[h];rfl
section
inductive spRounds (K:FG) (vs:Xh) (H:Hp) (Q:VK) (_E:XK):Prop where
 |mk (a:Xi) (ns:List Int) (cD:vs=[.ref a,.int 4]) (cE:aI K H a (ns.map V.int)) (cJ:ns.length<=63) (cW:∀(l:Xi) (as:List Xi) H',U H H'->H' l=some (.lst (as.map V.ref))->as.Nodup->l∉ as->as.length<=4->(∀b∈as,H b=none/\∃x y:Int,H' b=some (.lst [.int x,.int y]))->Q (.ref l) H')
def Rc:AM ["_law_script", "_law_most"] ["_law_script", "_law_most"] (defScope FB):=cH
def P2 {f:Xi} (F:aV K "_law_rounds" "_law_rounds" FB f fd) (B:Bl mg) (GC:Fn P w K mg base "_law_cell" 1 ["_law_script", "_law_k"] (spCell K)):AZ P w K mg base aL 2 f fd ["_law_script", "_law_most"] (spRounds K):=by
 obtain⟨fC,dC,GC,mC,kC,bC⟩:=GC.ex;refine F.m Rc λvs H Q E h=>?_;obtain⟨a,ns,rfl,hS,h63,k⟩:=h;refine⟨Zj,λad A outer s hr=>?_⟩
 refine⟨_,AE (AQ (Bw ["_law_script"] [some 0] qd qb qd rfl
  (DD rfl B.range (AA (AX (O8 rfl) rfl B.max Us (AA AD (AA (AX (O9 rfl) rfl B.min Ur (AA (pv 1) (AA (AX (BJ K rfl) rfl B.len PySem.boot_len (AA (pv 0) AC)) AC))) AC))) AC))
  (λ_ _ _ _ _ _=>Bm)
  (λ_ _ _ _ _ _=>BA (AA (AN GC hr rfl mC kC bC .nil AR (AA (pv 1) (AA (pv 0) AC))) (AA AD AC))))),?_⟩
 have hl:(ns.map V.int).length=ns.length:=AK _;refine⟨_,Zj,_,Zj,a,_,Zj,.inl hS,_,_,Zj,_,_,Zj,_,Zj,?_,?_,?_⟩
 ·split <;> split <;> omega
 ·split <;> split <;> omega
 ·generalize hn:(if (if (((ns.map V.int).length:Nat):Int)<4 then (((ns.map V.int).length:Nat):Int)else 4)>1 then (if (((ns.map V.int).length:Nat):Int)<4 then (((ns.map V.int).length:Nat):Int)else 4)else 1).toNat=n
  have n5:n<=4:=by
   rw[←hn];split <;> split <;> omega
  refine Et (lo:=0) (n:=n) (λi ys H2=>∃as:List Xi,ys=as.map V.ref/\as.length=i/\i<=4/\U H H2/\as.Nodup/\∀b∈as,H b=none/\∃x y:Int,H2 b=some (.lst [.int x,.int y])) ⟨[],rfl,rfl,qc,U.refl _,nodup_nil,λb hb=>nomatch hb⟩ ?_ ?_ ?_
  ·rintro i ys H2 ⟨as,rfl,e,h5,_⟩;rw[AK];omega
  ·rintro i ys H2 hi ⟨as,rfl,e,h5,s2,nd,hb⟩;refine⟨_,Zj,_,Zj,a,ns,_,Zj,s2.seq hS,h63,qe,λv H3 s3=>⟨eV,λp hp=>?_⟩⟩;refine⟨as++[p],by rw[Zu];rfl,by rw[ZH,e];rfl,qe,AH (s2.trans s3) hp,?_,λb je=>?_⟩
   ·refine List.nodup_append.mpr ⟨nd,Zs.mpr ⟨not_mem_nil,nodup_nil⟩,?_⟩;intro x hx y hy;rw[ZG]at hy;subst hy;obtain⟨_,x1,y1,e1⟩:=hb x hx;exact AI (s3 _ _ e1) hp
   ·rcases mem_append.mp je with z |z
    ·obtain⟨h0,x1,y1,e1⟩:=hb b z;exact⟨h0,x1,y1,AH s3 hp _ _ e1⟩
    ·rw[ZG]at z;subst z;refine⟨?_,v,0,AB⟩;cases e:H b with
     |none=>rfl
     |some o =>
      have:=s3 _ _ (s2 _ _ e);rw[this]at hp;cases hp
  ·rintro ys H2 ⟨as,rfl,e,h5,s2,nd,hb⟩ l hl;refine k l as _ (AH s2 hl) AB nd ?_ qe λb je=>?_
   ·intro z;obtain⟨_,x,y,e1⟩:=hb l z;rw[e1]at hl;cases hl
   ·obtain⟨h0,x,y,e1⟩:=hb b je;exact⟨h0,x,y,AH (U.refl _) hl _ _ e1⟩
inductive spBitsOf (vs:Xh) (H:Hp) (Q:VK) (_E:XK):Prop where
 |mk (n:Nat) (cD:vs=[.int (n:Int)]) (cE:∀l ys H',U H H'->H' l=some (.lst ys)->ys.length=(DW n).length->Q (.ref l) H')
def Re:AM ["_law_number"] ["_law_number"] (defScope FC):=cH
def P3 {f:Xi} (F:aV K "_law_bits_of" "_law_bits_of" FC f fd) (B:Bl mg):AZ P w K mg base aL 1 f fd ["_law_number"] spBitsOf:=by
 refine F.m Re λvs H Q E h=>?_;obtain⟨n,rfl,k⟩:=h;refine⟨Zj,λad A outer s hr=>?_⟩
 refine⟨_,AE (AQ (Bw ["_law_number"] [some 0] qd qb qd Zj (DD Zj B.range (AA AD AC))
  (λ_ _ _ _ _ _=>Fa (AL Ax (Ac DS (Ac UV (pv 1) (pv 0)) AD) AD (AS _)))
  (λ_ _ _ _ _ _=>Ac J8 AD (pv 0)))),?_⟩
 refine⟨42,Zj,qc,qc,?_⟩;refine Et (lo:=0) (n:=42) (λi ys H2=>ys.length=((List.range i).filter λk=>n.testBit k).length/\i<=42/\H2=H) ⟨Zj,qc,Zj⟩ ?_ ?_ ?_
 ·rintro i ys H2 ⟨e,hi,_⟩;rw[e];have:=ZS (λk=>n.testBit k) (List.range i);rw[List.length_range]at this;omega
 ·rintro i ys H2 hi ⟨e,_,rfl⟩;refine⟨_,Zj,_,Zj,_,_,Zj,Zj,qe,_,_,Zj,Zj,?_⟩;refine⟨Zj,_,Zj,?_⟩
  have er:((List.range (i+1)).filter λk=>n.testBit k).length=((List.range i).filter λk=>n.testBit k).length+(if n.testBit i then 1 else 0):=by
   rw[List.range_succ,filter_append,ZH,filter_cons,List.filter_nil];split <;> rfl
  refine B6 (λh=>?_) (λh=>?_)
  ·have hb:n.testBit i=true:=by rw[←OY];exact h
   refine⟨_,Zj,_,_,Zj,Zj,⟨qe,by first |decide |omega,by first |decide |omega⟩,?_,qe,Zj⟩;rw[er,hb,ZH,e];rfl
  ·have hb:n.testBit i=false:=by rw[←OY];exact Bool.eq_false_iff.mpr h
   refine⟨?_,qe,Zj⟩;rw[er,hb,e];rfl
 ·rintro ys H2 ⟨e,_,rfl⟩ l hl;exact k l ys _ (AH (U.refl _) hl) AB e
end
end Mk
end
section
namespace L2
open PySem
def V7 (t u:TS):TS:=λD σ H=>∃G:St->Hp->Prop,(∀R:St->Hp->Prop,(∀σ H,G σ H->R σ H)->t { D with nx:=R } σ H)/\∀σ H,G σ H->u D σ H
def A1 {X:Cx}{st:Stmt}{rest:List Stmt}{t u:TS} (h1:PS X st t) (h2:eN X rest u):eN X (st::rest) (V7 t u):=λaa s σ H D I ⟨_,a,b⟩=>AG h1 h2 aa s σ H D I (a (u D) b)
end L2
namespace Mk
open PySem L2 MK
def aK (H H':Hp):Prop:=∀b xs,H b=some (.tup xs)->H' b=some (.tup xs)
def aK.of (s:U H H'):aK H H':=λb xs e=>s _ _ e
def aK.upd {d:Xi}{xs ys:Xh} (h:H d=some (.lst xs)):aK H (upd H d (.lst ys)):=λb zs e=>by
 rw[AF (λz=>by subst z;rw[h]at e;cases e)];exact e
def aK.trans {H1 H2:Hp} (x:aK H H1) (y:aK H1 H2):aK H H2:=λb xs e=>y _ _ (x _ _ e)
def aB.aN {as:List Xi}{ps:List (V×V)} (s:aK H H') (h:aB H as ps):aB H' as ps:=Paired.mapP h λ_ _ e=>s _ _ e
def gA.aN {v:V}{th:Th} (s:aK H H') (h:gA H v th):gA H' v th:=by
 cases th with
 |aO=>exact h
 |num n=>exact h
 |jY ns=>obtain⟨a,e,h⟩:=h;exact⟨a,e,s _ _ h⟩
def dG.aN {b:Xi}{r:Str×Th} (s:aK H H') (h:dG H b r):dG H' b r:=by
 obtain⟨tv,e,t⟩:=h;exact⟨tv,s _ _ e,t.aN s⟩
def Bq {as:List Xi}{rows:List (Str×Th)} (s:aK H H') (h:Paired (dG H) as rows):Paired (dG H') as rows:=Paired.mapP h λ_ _ e=>e.aN s
noncomputable def Rf (due:Aa):List PyData:=due.map λp=>.tuple [.str p.1,.int (p.2:Int)]
def Ie {b:Xi}{x:Str}{n:Int} (h:H b=some (.tup [.str x,.int n])):CD K H (.tuple [.str x,.int n]) (.ref b):=by
 rw[CD];refine⟨b,_,Zj,aX.of h,?_⟩;rw[BF];refine⟨_,_,Zj,by rw[CD],?_⟩;rw[BF];refine⟨_,_,Zj,by rw[CD],?_⟩;rw[BF]
def MB:∀ {due:Aa}{bs:List Xi},aB H bs (FI due)->BF K H (Rf due) (bs.map V.ref)
 | [],bs,h=>by
  have:bs=[]:=List.eq_nil_of_length_eq_zero (by rw[h.length];rfl);subst this;show BF K H [] [];rw[BF]
 |p::r,[],h=>by have:=h.length;simp[FI]at this
 |p::r,b::bs,h=>by
  have hh:H b=some (.tup [.str p.1,.int (p.2:Int)])/\aB H bs (FI r):=by
   cases h with
   |cons h1 h2=>exact⟨h1,h2⟩
  show BF K H (.tuple [.str p.1,.int (p.2:Int)]::Rf r) (V.ref b::bs.map V.ref);rw[BF];exact⟨_,_,Zj,Ie hh.1,MB hh.2⟩
def F1:∀xs:Xf,BF K H (xs.map PyData.str) (xs.map V.str)
 | []=>by show BF K H [] [];rw[BF]
 |x::r=>by
  show BF K H (.str x::r.map PyData.str) (V.str x::r.map V.str);rw[BF];exact⟨_,_,Zj,by rw[CD],F1 r⟩
def DJ {l:Xi}{ds:List PyData}{xs:Xh} (h:H l=some (.lst xs)) (d:BF K H ds xs):CD K H (.list ds) (.ref l):=by
 rw[CD];exact⟨l,xs,Zj,aI.of h,d⟩
def OZ:BF K H [] []:=by rw[BF]
def Oa (ds:List PyData):PyData.eqv (.list ds) (.list [])=ds.isEmpty:=by
 cases ds with
 |nil=>rfl
 |cons a r=>simp[PyData.eqv,PyData.eqvAll]
def DK {x:Str} (h:x.cps.all (· < 128)=true):PyData.strOk x=true:=by
 unfold PyData.strOk;simp only[Array.all_eq_true,decide_eq_true_eq]at h ⊢;intro i hi;have:=h i hi;simp;omega
def Kh {ds:List PyData} (h:∀d∈ds,d.canLay0=true):PyData.canLayAll0 ds=true:=by
 induction ds with
 |nil=>rfl
 |cons a r ih=>rw[PyData.canLayAll0,h a ZI,ih λd hd=>h d (ZR _ hd)];rfl
def Uw {ds:List PyData}{k:Nat} (h:∀d∈ds,d.depth<=k):PyData.depthAll ds<=k:=by
 induction ds with
 |nil=>rw[PyData.depthAll];exact Nat.zero_le _
 |cons a r ih=>rw[PyData.depthAll];exact Nat.max_le.mpr ⟨h a ZI,ih λd hd=>h d (ZR _ hd)⟩
def HD {ds:List PyData} (h:∀d∈ds,d.canLay0=true/\d.depth<=60):SeqAt.shaped (.list ds)=true:=by
 unfold SeqAt.shaped;rw[Bool.and_eq_true,decide_eq_true_eq];refine⟨by rw[PyData.canLay0];exact Kh λd hd=>(h d hd).1,?_⟩;rw[PyData.depth];have:=Uw (k:=60) λd hd=>(h d hd).2;omega
def Ig {x:Str}{n:Int} (h:x.cps.all (· < 128)=true):(PyData.tuple [.str x,.int n]).canLay0=true/\(PyData.tuple [.str x,.int n]).depth<=60:=by
 refine⟨?_,?_⟩
 ·rw[PyData.canLay0];refine Kh λd hd=>?_;simp only[mem_cons,not_mem_nil,or_false]at hd;rcases hd with rfl |rfl
  ·rw[PyData.canLay0];exact DK h
  ·rw[PyData.canLay0]
 ·simp only[PyData.depth,PyData.depthAll];omega
def HE {x:Str}{n:Int} (h:x.cps.all (· < 128)=true):SeqAt.shaped (.tuple [.str x,.int n])=true:=by
 unfold SeqAt.shaped;rw[Bool.and_eq_true,decide_eq_true_eq];exact⟨(Ig h).1,Nat.le_trans (Ig h).2 qc⟩
def MC (h:∀p∈due,p.1.cps.all (· < 128)=true):SeqAt.shaped (.list (Rf due))=true:=HD λd hd=>by
 obtain⟨p,hp,rfl⟩:=Zr.mp hd;exact Ig (h p hp)
def EL {xs:Xf} (h:∀x∈xs,x.cps.all (· < 128)=true):SeqAt.shaped (.list (xs.map PyData.str))=true:=HD λd hd=>by
 obtain⟨x,hx,rfl⟩:=Zr.mp hd;exact⟨by rw[PyData.canLay0];exact DK (h x hx),by simp[PyData.depth]⟩
def Ih:SeqAt.shaped (.list [])=true:=by decide +kernel
noncomputable def uni (due:Aa) (ns:Xf):Nat:=Av (due.map λp=>if eK (.str p.1) (ns.map V.str)then p.2 else 0)
def Ob (x:Str) (ns:Xf):eK (.str x) (ns.map V.str)=ns.any (· == x):=by
 unfold eK;rw[any_map];rfl
def DL {p:Str×Nat} (nd:(due.map (·.1)).Nodup) (h:p∈due):look due p.1=p.2:=by
 induction due with
 |nil=>cases h
 |cons q r ih =>
  rw[map_cons,Zs]at nd;unfold look;by_cases e:q.1=p.1
  ·rw[List.find?_cons_of_pos (by simpa using e)];rcases mem_cons.mp h with z |z
   ·subst z;rfl
   ·exact absurd (Zr.mpr ⟨p,z,e.symm⟩) nd.1
  ·rw[List.find?_cons_of_neg (by simpa using e)];rcases mem_cons.mp h with z |z
   ·subst z;exact absurd Zj e
   ·exact ih nd.2 z
def Ux {ns:Xf} (nd:(due.map (·.1)).Nodup) (hs:∀x∈ns,x∈due.map (·.1)):uni due ns=Av (ns.map (look due)):=by
 refine Nat.eq_of_testBit_eq λk=>?_;unfold uni;rw[EZ,EZ,any_map,any_map,Bool.eq_iff_iff,any_eq_true,any_eq_true];constructor
 ·rintro⟨p,hp,hb⟩;simp only[Function.comp]at hb;by_cases hi:eK (.str p.1) (ns.map V.str)=true
  ·rw[Zp hi]at hb;rw[Ob,any_eq_true]at hi;obtain⟨x,hx,e⟩:=hi;have e':x=p.1:=by simpa using e
   subst e';exact⟨p.1,hx,by simp only[Function.comp];rw[DL nd hp];exact hb⟩
  ·rw[Zq hi,Nat.zero_testBit]at hb;cases hb
 ·rintro⟨x,hx,hb⟩;obtain⟨p,hp,rfl⟩:=Zr.mp (hs x hx);refine⟨p,hp,?_⟩;simp only[Function.comp]at hb ⊢;rw[DL nd hp]at hb;rw[Zp (by rw[Ob,any_eq_true];exact⟨p.1,hx,by simp⟩)];exact hb
def MD {rows:List (Str×Th)}{r:Str×Th} (h:FF rows) (hr:OU (An rows) r):FF (rows++[r]):=by
 intro i q e;rcases Nat.lt_trichotomy i rows.length with z |z |z
 ·rw[List.getElem?_append_left z]at e;rw[List.take_append_of_le_length (Nat.le_of_lt z)];exact h i q e
 ·subst z;rw[getElem?_append_right (Zy _),Nat.sub_self]at e;have:r=q:=by simpa using e
  subst this;rw[List.take_append_of_le_length (Zy _),ZB];exact hr
 ·rw[List.getElem?_eq_none (by rw[ZH,length_singleton];omega)]at e;cases e
def MF {rows:List (Str×Th)} (h:FF rows) (f9:rows.length<=10):EJ (An rows):=by
 have key:∀n,n<=rows.length->EJ (An (rows.take n)):=by
  intro n;induction n with
  |zero=>intro _;rw[List.take_zero];exact⟨qc,(λp hp=>nomatch hp),nodup_nil,(λp hp=>nomatch hp)⟩
  |succ n ih =>
   intro hn;have D:=ih qe;have hq:rows[n]?=some rows[n]:=Z7 qe;have R:=h n _ hq;rw[ZD,hq,Option.toList_some,Gn];refine⟨?_,λp hp=>?_,?_,λp hp=>?_⟩
   ·rw[ZH,length_singleton];have:=R.few;omega
   ·rcases mem_append.mp hp with z |z
    ·exact D.lt p z
    ·rw[ZG]at z;subst z;exact R.lt
   ·rw[Zu];refine List.nodup_append.mpr ⟨D.nd,Zs.mpr ⟨not_mem_nil,nodup_nil⟩,?_⟩;intro x hx y hy;have ey:y=(rows[n]).1:=by simpa using hy
    subst ey;exact λz=>R.new (z ▸ hx)
   ·rcases mem_append.mp hp with z |z
    ·exact D.nm p z
    ·rw[ZG]at z;subst z;exact R.nm
 have:=key rows.length (Zy _);rw[ZB]at this;exact this
def Uy {A B:TT}{σ:St}{Q:Bool->Hp->Prop} (p q:Bool) (hA:∀Q':Bool->Hp->Prop,Q' p H->A σ H Q') (hB:∀Q':Bool->Hp->Prop,Q' q H->B σ H Q') (h:Q (p ||q) H):tOr A B σ H Q:=by
 refine hA _ ?_;cases p with
 |true=>exact Ag h
 |false=>exact AV (hB _ h)
def TU {A B:TT}{σ:St}{Q:Bool->Hp->Prop} (p q:Bool) (hA:∀Q':Bool->Hp->Prop,Q' p H->A σ H Q') (hB:∀Q':Bool->Hp->Prop,(∀H',U H H'->Q' q H')->B σ H Q') (h:∀H',U H H'->Q (p&&q) H'):Vi A B σ H Q:=by
 refine hA _ ?_;cases p with
 |true=>exact Ag (hB _ h)
 |false=>exact AV (h _ (U.refl _))
def Jt {p:Xi} (s:U H H') (h:H' p=none):H p=none:=by
 cases e:H p with
 |none=>rfl
 |some o=>rw[s _ _ e]at h;cases h
def C8 {X:Cx}{x:Str}{j}{p:Pos}{es:List Expr}{t:TA} (h:PA X es t):PA X (.Constant (.str x) j p::es) (Ah (tC (.str x)) t):=AA AJ h
def P4 {X:Cx}{x0 x1 x2 x3 x4 x5 x6 x7 x8 x9:Str}{j0}{j1}{j2}{j3}{j4}{j5}{j6}{j7}{j8}{j9}{p0 p1 p2 p3 p4 p5 p6 p7 p8 p9:Pos}:PA X [.Constant (.str x0) j0 p0,.Constant (.str x1) j1 p1,.Constant (.str x2) j2 p2,.Constant (.str x3) j3 p3,.Constant (.str x4) j4 p4,.Constant (.str x5) j5 p5,.Constant (.str x6) j6 p6,.Constant (.str x7) j7 p7,.Constant (.str x8) j8 p8,.Constant (.str x9) j9 p9] (Ah (tC (.str x0)) (Ah (tC (.str x1)) (Ah (tC (.str x2)) (Ah (tC (.str x3)) (Ah (tC (.str x4)) (Ah (tC (.str x5)) (Ah (tC (.str x6)) (Ah (tC (.str x7)) (Ah (tC (.str x8)) (Ah (tC (.str x9)) (B9))))))))))):=C8 (C8 (C8 (C8 (C8 (C8 (C8 (C8 (C8 (C8 (AC))))))))))
def CZ {bs:List Xi}{i:Nat}{v:V} (h:aB H bs (FI due)) (e:(bs.map V.ref)[i]?=some v):∃b p,v=.ref b/\bs[i]?=some b/\due[i]?=some p/\H b=some (.tup [.str p.1,.int (p.2:Int)]):=by
 rw[ZE]at e
 obtain⟨b,hb,rfl⟩:∃b,bs[i]?=some b/\v=V.ref b:=by
  cases q:bs[i]? with
  |none=>rw[q]at e;cases e
  |some x=>rw[q]at e;exact⟨x,Zj,(Option.some.inj e).symm⟩
 obtain⟨pq,iK,aj⟩:=Lz h hb;unfold FI at iK;rw[ZE]at iK
 obtain⟨pr,hpr,rfl⟩:∃q,due[i]?=some q/\pq=(V.str q.1,V.int (q.2:Int)):=by
  cases q:due[i]? with
  |none=>rw[q]at iK;cases iK
  |some x=>rw[q]at iK;exact⟨x,Zj,(Option.some.inj iK).symm⟩
 exact⟨b,pr,Zj,hb,hpr,aj⟩
noncomputable def bV:Xf:=["A", "B", "CD", "EFG", "H", "IJKLMN", "O", "P", "Q", "R"]
def Rg:∀x∈bV,V6 x:=by
 have:∀x∈bV,(B0 x&&x.cps.all (· < 128)&&decide (x.length<=1000))=true:=by decide +kernel
 intro x hx;have:=this x hx;simp only[Bool.and_eq_true,decide_eq_true_eq]at this;exact⟨this.1.1,this.1.2,this.2⟩
def P5:∀i:Fin 10,(bV[i.1]?.map λx=>decide (x∈bV.take i.1))=some false:=by decide +kernel
structure LW (d w f u:Xi) (H0 H:Hp) (rows:List (Str×Th)):Prop where
 old:∀b o,H0 b=some o->b≠d->H b=some o
 bH:∃a b:Int,H d=some (.lst [.int a,.int b])
 words:H w=some (.lst (bV.map V.str))
 found:∃as:List Xi,H f=some (.lst (as.map V.ref))/\Paired (dG H) as rows
 due:∃bs:List Xi,H u=some (.lst (bs.map V.ref))/\aB H bs (FI (An rows))
structure Ap (d w f u:Xi) (H0:Hp):Prop where
 wd:w≠d
 fd:f≠d
 ud:u≠d
 wf:w≠f
 wu:w≠u
 fu:f≠u
 nf:H0 f=none
 nu:H0 u=none
section
variable {d w f u:Xi}{H0:Hp}{rows:List (Str×Th)}
def LW.same (h:LW d w f u H0 H rows) (s:U H H'):LW d w f u H0 H' rows:=by
 obtain⟨a,b,e⟩:=h.bH;obtain⟨as,e1,p1⟩:=h.found;obtain⟨bs,e2,p2⟩:=h.due;exact⟨λc o ec hc=>s _ _ (h.old c o ec hc),⟨a,b,s _ _ e⟩,s _ _ h.words,⟨as,s _ _ e1,Bq (aK.of s) p1⟩,⟨bs,s _ _ e2,aB.aN (aK.of s) p2⟩⟩
def LW.roll (A:Ap d w f u H0) (h:LW d w f u H0 H rows) (a' b':Int):LW d w f u H0 (upd H d (.lst [.int a',.int b'])) rows:=by
 obtain⟨a,b,e⟩:=h.bH;obtain⟨as,e1,p1⟩:=h.found;obtain⟨bs,e2,p2⟩:=h.due;have t:aK H (upd H d (.lst [.int a',.int b'])):=aK.upd e;exact⟨λc o ec hc=>by rw[AF hc];exact h.old c o ec hc,⟨a',b',AB⟩,by rw[AF A.wd];exact h.words,⟨as,by rw[AF A.fd];exact e1,Bq t p1⟩,⟨bs,by rw[AF A.ud];exact e2,aB.aN t p2⟩⟩
end
def Ca {rows:List (Str×Th)}{bs:List Xi} (h:aB H bs (FI (An rows))):bs.length=rows.length:=by
 rw[h.length];unfold FI;rw[AK,Bg]
def MH (rows:List (Str×Th)):(An rows).map (·.1)=rows.map (·.1):=by
 have:∀(l:List (Str×Th)) (a:Aa),((l.foldl (λdue r=>due++[(r.1,Cw due r.2)]) a).map (·.1))=a.map (·.1)++l.map (·.1):=by
  intro l;induction l with
  |nil=>intro a;simp
  |cons x r ih=>intro a;rw[foldl_cons,ih,Zu];simp
 have e:=this rows [];unfold An;rw[e];rfl
noncomputable def XM:St->Nat
 | [_,_,_,_,_,_,_,_,_,some (.int i),_,_]=>(2 ^ 22 - i).toNat
 |_=>0
section
inductive spLines (vs:Xh) (H:Hp) (Q:VK) (_E:XK):Prop where
 |mk (d:Xi) (a b M:Int) (cD:vs=[.ref d,.int M]) (cE:1<=M) (cJ:M<=10) (cW:H d=some (.lst [.int a,.int b])) (eJ:∀(q f u:Xi) (as bs:List Xi) (rows:List (Str×Th)) H',aH d H H'->H' q=some (.tup [.ref f,.ref u])->H f=none->H u=none->H' f=some (.lst (as.map V.ref))->Paired (dG H') as rows->H' u=some (.lst (bs.map V.ref))->aB H' bs (FI (An rows)) ->     0<rows.length->(rows.length:Int)<=M->FF rows->(∀x∈rows.map (·.1),x∈bV)->Q (.ref q) H')
noncomputable abbrev Uz:Xf:=["_law_dice", "_law_most", "_law_words", "_law_found", "_law_due", "_law_at", "_law_high", "_law_kind", "_law_thing", "_law_number", "_law_name", "_law_more"]
@[irreducible] noncomputable def Ni:Expr:=match defBody CJ with | .Assign _ (.Tuple (e::_) _ _) _::_=>e |_=>.Constant .none 0 ⟨0,0,0,0⟩
noncomputable abbrev TV:Stmt:=match defBody CJ with | .Assign t (.Tuple (_::r) k p) q::_=>.Assign t (.Tuple (Ni::r) k p) q |_=>.Pass ⟨0,0,0,0⟩
noncomputable abbrev U0:List Stmt:=(defBody CJ).drop 1
def U1:defBody CJ=TV::U0:=by kernel_rfl
def P6 {X:Cx}:PE X Ni (Qa (Ah (tC (.str "A")) (Ah (tC (.str "B")) (Ah (tC (.str "CD")) (Ah (tC (.str "EFG")) (Ah (tC (.str "H")) (Ah (tC (.str "IJKLMN")) (Ah (tC (.str "O")) (Ah (tC (.str "P")) (Ah (tC (.str "Q")) (Ah (tC (.str "R")) (B9)))))))))))):=by
 unfold Ni;exact BA P4
def aT:AM Uz ["_law_dice", "_law_most"] (defScope CJ):=cH
def Rh {f0:Xi} (F:aV K "_law_lines" "_law_lines" CJ f0 fd) (B:Bl mg) (GR:Fn P w K mg base "_law_roll" 2 ["_law_dice", "_law_many"] dH):AZ P w K mg base aL 3 f0 fd ["_law_dice", "_law_most"] spLines:=by
 obtain⟨fR,dR,GR,mR,kR,bR⟩:=GR.ex;refine F.m aT λvs H Q E h=>?_;obtain⟨d,a,b,M,rfl,M1,M10,hd,k⟩:=h;refine⟨Zj,λad A outer s hr=>?_⟩;have gG:=hr.units;have nd:=aT.nd;rw[U1]
 refine⟨_,AG (C2 (hs:=by kernel_rfl) (hw:=by kernel_rfl) (A5 (AA (hs:=by kernel_rfl) P6 (AA (BA AC) (AA (BA AC) AC))))
   (CQ rfl (Ak (Af (i:=2) aT.nd rfl (Or.inl rfl)) (Ak (Af (i:=3) aT.nd rfl (Or.inl rfl)) (Ak (Af (i:=4) aT.nd rfl (Or.inr rfl)) Bi)))))
  (AG (Dw PassesOwn.never rfl (DD rfl B.range (AA (Ac C3 AD (AN GR hr rfl mR kR bR .nil AR (AA (pv 0) (AA (pv 1) AC)))) AC)) (Af (i:=5) aT.nd rfl (Or.inl rfl))
   (A1 (Ae (i:=6) aT.nd rfl (Or.inl rfl) (OE rfl rfl B.max (Fc [] [] qd qb qd qd rfl (Bj (pv 4)) (λ_ _ _ _ _ _=>Bm) (λ_ _ _ _ _ _=>pv 1)) AD))
   (AG (Ae (i:=7) aT.nd rfl (Or.inl rfl) (AN GR hr rfl mR kR bR .nil AR (AA (pv 0) (AA AD AC))))
   (AG (C2 (hs:=by kernel_rfl) (hw:=by kernel_rfl) (A5 (AA J5 (AA AD AC))) (CQ rfl (Ak (Af (i:=8) aT.nd rfl (Or.inl rfl)) (Ak (Af (i:=9) aT.nd rfl (Or.inl rfl)) Bi))))
   (A1 (FM PassesOwn.never (AL FO (pv 9) (pv 6) (AS _)) (AE (Ae (i:=9) aT.nd rfl (Or.inl rfl) (Ac HZ (pv 9) AD))))
   (A1 (Ai (PW.pt (Dv (AL Ax (pv 7) AD (AS _)) (Cc (AL K0 (pv 9) (Ac Er AD AD) (AS _)))))
     (AG (Ae (i:=8) aT.nd rfl (Or.inl rfl) (BI (Ar K rfl) (BA (AA (Ac J8 AD (AN GR hr rfl mR kR bR .nil AR (AA (pv 0) (AA AD AC)))) (AA (AN GR hr rfl mR kR bR .nil AR (AA (pv 0) (AA AD AC)))
      (AA (Ac J8 AD (AN GR hr rfl mR kR bR .nil AR (AA (pv 0) (AA AD AC)))) (AA AD AC))))) (AN GR hr rfl mR kR bR .nil AR (AA (pv 0) (AA AD AC))) (λ_ _=>rfl)))
     (AE (Ae (i:=9) aT.nd rfl (Or.inl rfl) (pv 8)))) AT)
   (A1 (Ai (PW.pt (CP (AL G3 (pv 7) AD (AS _)) (Bh (AL (D5 K rfl gG) (pv 4) (BA AC) (AS _)))))
     (AG (Ae (i:=8) aT.nd rfl (Or.inl rfl) (Ba JB rfl B.tuple Fx (AA (Bw ["_law_due", "_law_dice"] [some 4,some 0] qd qb qd rfl (DD rfl B.range (AA (Ac C3 AD (AN GR hr rfl mR kR bR .nil AR (AA (pv 0) (AA AD AC)))) AC)) (λ_ _ _ _ _ _=>Bm)
      (λ_ _ _ _ _ _=>BI (Ay K rfl) (BI (Ar K rfl) (pv 1) (AN GR hr rfl mR kR bR .nil AR (AA (pv 2) (AA (AX (BJ K rfl) rfl B.len PySem.boot_len (AA (pv 1) AC)) AC))) (λ_ _=>rfl)) AD (λ_ _=>rfl))) AC)))
     (AG (Ae (i:=9) aT.nd rfl (Or.inl rfl) AD)
     (AE (Dw PassesOwn.never rfl (Bj (pv 4)) (CQ rfl (Ak (Af (i:=10) aT.nd rfl (Or.inl rfl)) (Ak (Af (i:=11) aT.nd rfl (Or.inl rfl)) Bi)))
      (AE (Ae (i:=9) aT.nd rfl (Or.inl rfl) (Ac Kz (pv 9) (Bf (AL EU (pv 10) (pv 8) rfl) (pv 11) AD)))))))) AT)
   (AG (BD (Eh PySem.F.plainAttrs_list PySem.F.slot_list_append PySem.F.type_list_append CA (pv 3) (AA (A5 (AA (BI (Ar K rfl) (pv 2) (pv 5) (λ_ _=>rfl)) (AA (pv 8) AC))) AC)))
   (AE (BD (Eh PySem.F.plainAttrs_list PySem.F.slot_list_append PySem.F.type_list_append CA (pv 4) (AA (A5 (AA (BI (Ar K rfl) (pv 2) (pv 5) (λ_ _=>rfl)) (AA (pv 9) AC))) AC))))))))))))
  (AE (AQ (A5 (AA (pv 3) (AA (pv 4) AC)))))),?_⟩
 refine⟨(by show 10<=sizeLine;decide),λpw hpw=>⟨Nat.zero_le _,λpf hpf=>⟨Nat.zero_le _,λpu hpu=>⟨gO,λq0 hq0=>?_⟩⟩⟩⟩;refine⟨q0,_,Zj,aX.of AB,Zj,_,_,Zj,_,_,Zj,_,_,Zj,Zj,?_⟩;have dw:pw≠d:=Ne.symm (AI hd hpw);have s1:U H (upd H pw (.lst (bV.map V.str))):=AH (U.refl _) hpw;have s2:U (upd H pw (.lst (bV.map V.str))) (upd (upd H pw (.lst (bV.map V.str))) pf (.lst [])):=AH (U.refl _) hpf;have s3:U (upd (upd H pw (.lst (bV.map V.str))) pf (.lst [])) (upd (upd (upd H pw (.lst (bV.map V.str))) pf (.lst [])) pu (.lst [])):=AH (U.refl _) hpu;have s4:=AH (U.refl _) hq0 (o:=HO.tup [.ref pw,.ref pf,.ref pu]);have nf0:H pf=none:=Jt s1 hpf;have nu0:H pu=none:=Jt (s1.trans s2) hpu;have AP:Ap d pw pf pu H:=⟨dw,Ne.symm (AI hd nf0),Ne.symm (AI hd nu0),AI AB hpf,AI (s2 _ _ AB) hpu,AI AB hpu,nf0,nu0⟩;have L0:LW d pw pf pu H _ []:=⟨λb o e _=>s4 _ _ (s3 _ _ (s2 _ _ (s1 _ _ e))),⟨a,b,s4 _ _ (s3 _ _ (s2 _ _ (s1 _ _ hd)))⟩,s4 _ _ (s3 _ _ (s2 _ _ AB)),⟨[],s4 _ _ (s3 _ _ AB),.nil⟩,⟨[],s4 _ _ AB,.nil⟩⟩;obtain⟨a1,b1,eT⟩:=L0.bH;refine⟨_,Zj,_,Zj,d,a1,b1,M,Zj,eT,qe,qe,λr a' b' h0 h1=>?_⟩;refine⟨_,_,Zj,Zj,_,Zj,qe,qe,?_⟩
 refine JN (lo:=0) (n:=(1+r).toNat) (λi σ H2=>∃(v5 v6 v7 v8 v9 v10 v11:Option V) (rows:List (Str×Th)),σ=[some (.ref d),some (.int M),some (.ref pw),some (.ref pf),some (.ref pu),v5,v6,v7,v8,v9,v10,v11]/\rows.length=i/\FF rows/\rows.map (·.1)=bV.take i/\LW d pw pf pu H H2 rows)
  ⟨none,none,none,none,none,none,none,[],rfl,rfl,(λi r e=>by simp at e),rfl,L0.roll AP a' b'⟩ ?_ ?_
 ·rintro i σ H2 hi ⟨v5,v6,v7,v8,v9,v10,v11,rows,rfl,be,RO,cz,L⟩;have hi10:i<10:=by omega
  have DO:EJ (An rows):=MF RO qe;generalize ce:Dr ((An rows).map (·.2))=bg
  have hh20:bg<2 ^ 20:=by
   rw[←ce];exact Lr qc λn hn=>by obtain⟨p,hp,rfl⟩:=Zr.mp hn;exact DO.lt p hp
  refine⟨λσ H3=>σ=[some (.ref d),some (.int M),some (.ref pw),some (.ref pf),some (.ref pu),some (.int (0+(i:Int))),some (.int (bg:Int)),v7,v8,v9,v10,v11]/\LW d pw pf pu H H3 rows,λR hR=>?_,?_⟩
  ·obtain⟨bs,hu,gJ⟩:=L.due;have gK:=Ca gJ;refine⟨_,Zj,pu,Zj,⟨_,aI.of hu⟩,CB (K:=K) (a:=pu) (xs:=bs.map V.ref) (λj ys H3=>ys=A3 (((An rows).take j).map (·.2))/\H3=H2) ⟨by rfl,Zj⟩ (λj ys H3 _ ⟨_,e⟩=>e ▸ aI.of hu) (λj ys H3 ⟨e,_⟩=>?_) ?_ ?_⟩
   ·rw[e];unfold A3;rw[AK,AK,ZA,Bg];omega
   ·rintro j v ys H3 hj ⟨rfl,rfl⟩;obtain⟨bb,p,rfl,hb1,ak,aj⟩:=CZ gJ hj;refine⟨bb,_,Zj,aX.of aj,Zj,_,_,Zj,_,_,Zj,Zj,?_⟩;refine⟨_,Zj,?_,Zj⟩;rw[ZD,ak,Option.toList_some,Zu];unfold A3;rw[Zu];rfl
   ·rintro ys H3 ⟨rfl,rfl⟩ p hp;have sp:=AH (U.refl _) hp (o:=HO.lst (A3 (((An rows).take (bs.map V.ref).length).map (·.2))));have el:(An rows).take (bs.map V.ref).length=An rows:=by rw[AK,gK,←Bg,ZB]
    refine⟨p,((An rows).map (·.2)).map (λn:Nat=>(n:Int)),0,Zj,Zj,aI.of (by rw[AB,el,HS]),λe=>?_,λe=>?_⟩
    ·refine hR _ _ ⟨?_,L.same sp⟩;have:(An rows).map (·.2)=[]:=List.map_eq_nil_iff.mp e;rw[this]at ce;subst ce;rfl
    ·refine hR _ _ ⟨?_,L.same sp⟩;have a0:(An rows).map (·.2)≠ []:=λz=>e (by rw[z];rfl);rw[Ls a0,ce];rfl
  ·rintro σ H3 ⟨rfl,L3⟩;obtain⟨a3,b3,jJ⟩:=L3.bH;refine⟨_,Zj,d,a3,b3,8,Zj,jJ,qc,qc,λkd a4 b4 kd0 kd1=>?_⟩;have L4:=L3.roll AP a4 b4;refine⟨eV,λq hq=>⟨q,_,Zj,aX.of AB,Zj,_,_,Zj,_,_,Zj,Zj,?_⟩⟩;have L5:=L4.same (AH (U.refl _) hq (o:=HO.tup [V.aO,V.int 1]));refine⟨λσ H6=>σ=[some (.ref d),some (.int M),some (.ref pw),some (.ref pf),some (.ref pu),some (.int (0+(i:Int))),some (.int (bg:Int)),some (.int kd),some .aO,some (.int (BZ bg:Nat)),v10,v11]/\LW d pw pf pu H H6 rows,λR hR=>?_,?_⟩
   ·refine QS (λσ H6=>LW d pw pf pu H H6 rows/\∃j:Nat,j<=20/\σ=[some (.ref d),some (.int M),some (.ref pw),some (.ref pf),some (.ref pu),some (.int (0+(i:Int))),some (.int (bg:Int)),some (.int kd),some .aO,some (.int ((2 ^ j:Nat):Int)),v10,v11]/\(j=0\/2 ^ (j - 1)<=bg)) (λσ _=>XM σ) ⟨L5,0,qe,Zj,.inl Zj⟩ ?_ ?_
    ·rintro σ H6 ⟨L6,j,hj,rfl,hjj⟩;refine⟨_,Zj,_,Zj,_,_,Zj,Zj,_,Zj,?_⟩;refine B6 (λhle=>?_) (λhle=>?_)
     ·have hle':2 ^ j<=bg:=by have:=ZV hle;exact_mod_cast this
      have hj20:j<20:=(Nat.pow_lt_pow_iff_right qc).mp (Nat.lt_of_le_of_lt hle' hh20);refine⟨_,Zj,_,_,Zj,Zj,.inr ⟨qc,qc⟩,?_⟩;have e2:(((2 ^ j:Nat):Int)*2)=((2 ^ (j+1):Nat):Int):=by rw[Nat.pow_succ];omega
      refine⟨⟨L6,j+1,qe,?_,.inr hle'⟩,?_⟩
      ·show [some (V.ref d),some (V.int M),some (V.ref pw),some (V.ref pf),some (V.ref pu),some (V.int (0+(i:Int))),some (V.int (bg:Int)),some (V.int kd),some V.aO,some (V.int (((2 ^ j:Nat):Int)*2)),v10,v11]=_;rw[e2]
      ·show(2 ^ 22 - (((2 ^ j:Nat):Int)*2)).toNat<(2 ^ 22 - ((2 ^ j:Nat):Int)).toNat;have h1:0<2 ^ j:=Nat.two_pow_pos j;have h2:2 ^ j<=2 ^ 20:=Nat.pow_le_pow_right qc hj;omega
     ·have hgt:bg<2 ^ j:=by
       have:¬ ((2 ^ j:Nat):Int)<=(bg:Int):=λz=>hle (ZL z);omega
      refine hR _ _ ⟨?_,L6⟩;rw[Lq hgt hjj]
    ·rintro σ H6 Q1 Q2 hQ ⟨v,e1,v2,e2,i,j,a,b,c,ec,q⟩;exact⟨v,e1,v2,e2,i,j,a,b,c,ec,hQ _ _ q⟩
   ·rintro σ H6 ⟨rfl,L6⟩;have hsig:∀(tv nv iF iE:V),True:=λ_ _ _ _=>trivial;refine⟨λσ H7=>∃(tv:V) (th:Th) (iF iE:Option V),σ=[some (.ref d),some (.int M),some (.ref pw),some (.ref pf),some (.ref pu),some (.int (0+(i:Int))),some (.int (bg:Int)),some (.int kd),some tv,some (.int (Cw (An rows) th:Nat)),iF,iE]/\LW d pw pf pu H H7 rows/\gA H7 tv th/\TJ (An rows) th/\Cw (An rows) th<2 ^ 20,λR hR=>?_,?_⟩
    ·refine Uy (decide (V.int kd=V.int 5)) (decide ((2:Int) ^ (20:Int).toNat<=(BZ bg:Nat))) (λQ' h=>⟨_,Zj,Zj,_,Zj,h⟩) (λQ' h=>⟨_,Zj,_,_,Zj,Zj,⟨qc,qc,qc⟩,_,_,Zj,Zj,_,Zj,h⟩) ?_;refine B6 (λ_=>?_) (λhc=>?_)
     ·obtain⟨x1,y1,e1⟩:=L6.bH;refine⟨_,Zj,d,x1,y1,8,Zj,e1,qc,qc,λr1 a1 b1 r10 r11=>?_⟩;have M1:=L6.roll AP a1 b1;refine⟨_,_,Zj,Zj,⟨r10,qe,qc⟩,?_⟩;obtain⟨x2,y2,e2⟩:=M1.bH;refine⟨_,Zj,d,x2,y2,64,Zj,e2,qc,qc,λr2 a2 b2 r20 r21=>?_⟩;have M2:=M1.roll AP a2 b2;obtain⟨x3,y3,e3⟩:=M2.bH;refine⟨_,Zj,d,x3,y3,20,Zj,e3,qc,qc,λr3 a3 b3 r30 r31=>?_⟩;have M3:=M2.roll AP a3 b3;refine⟨_,_,Zj,Zj,⟨r30,qe,qc⟩,?_⟩;refine⟨sl4,λp hp=>?_⟩;have M4:=M3.same (AH (U.refl _) hp (o:=HO.lst [V.int (1*2 ^ r1.toNat),V.int r2,V.int (1*2 ^ r3.toNat),V.int 0]));obtain⟨x4,y4,e4⟩:=M4.bH;have jB:p≠d:=Ne.symm (AI AB hp);refine⟨_,Zj,d,x4,y4,4,Zj,e4,qc,qc,λr4 a4 b4 r40 r41=>?_⟩;have M5:=M4.roll AP a4 b4;obtain⟨v,hv,eE⟩:=Gr (xs:=[V.int (1*2 ^ r1.toNat),V.int r2,V.int (1*2 ^ r3.toNat),V.int 0]) r40 (by show r4<4;exact r41)
      have gQ:∃n:Nat,v=.int (n:Int)/\n<2 ^ 20:=by
       have:=ZQ eE;simp only[mem_cons,not_mem_nil,or_false]at this;rcases this with z |z |z |z
       ·refine⟨2 ^ r1.toNat,by rw[z];simp,?_⟩;exact(Nat.pow_lt_pow_iff_right qc).mpr qe
       ·exact⟨r2.toNat,by rw[z,Int.toNat_of_nonneg r20],qe⟩
       ·refine⟨2 ^ r3.toNat,by rw[z];simp,?_⟩;exact(Nat.pow_lt_pow_iff_right qc).mpr qe
       ·exact⟨0,z,qc⟩
      obtain⟨n,rfl,hn⟩:=gQ;refine⟨p,_,r4,_,Zj,Zj,aI.of (by rw[AF jB];exact AB),hv,?_⟩;exact⟨_,Zj,hR _ _ ⟨.int (n:Int),.num n,v10,v11,Zj,M5,Zj,trivial,hn⟩⟩
     ·refine hR _ _ ⟨.aO,.aO,v10,v11,?_,L6,Zj,trivial,?_⟩
      ·show _=[some (V.ref d),some (V.int M),some (V.ref pw),some (V.ref pf),some (V.ref pu),some (V.int (0+(i:Int))),some (V.int (bg:Int)),some (V.int kd),some V.aO,some (V.int ((BZ (Dr ((An rows).map (·.2))):Nat):Int)),v10,v11];rw[ce]
      ·show BZ (Dr ((An rows).map (·.2)))<2 ^ 20;rw[ce];have h2:¬ ((2:Int) ^ (20:Int).toNat<=(BZ bg:Nat)):=λz=>hc (by rw[ZL z,Bool.or_true]);have h3:((2:Int) ^ (20:Int).toNat)=1048576:=by decide
       omega
    ·rintro σ H7 ⟨tv,th,iF,iE,rfl,L7,hT,hTO,hlt⟩;obtain⟨bs,hu,gJ⟩:=L7.due;have gK:=Ca gJ;refine⟨λσ H8=>∃(tv:V) (th:Th) (iF iE:Option V),σ=[some (.ref d),some (.int M),some (.ref pw),some (.ref pf),some (.ref pu),some (.int (0+(i:Int))),some (.int (bg:Int)),some (.int kd),some tv,some (.int (Cw (An rows) th:Nat)),iF,iE]/\LW d pw pf pu H H8 rows/\gA H8 tv th/\TJ (An rows) th/\Cw (An rows) th<2 ^ 20,λR hR=>?_,?_⟩
     ·refine TU (decide ((5:Int)<kd)) (!(Rf (An rows)).isEmpty) (λQ' h=>⟨_,Zj,_,_,Zj,Zj,_,Zj,h⟩) (λQ' h=>⟨_,Zj,Nat.zero_le _,λp hp=>?_⟩) (λH8 s8=>?_)
      ·have sp:=AH (U.refl _) hp (o:=HO.lst []);refine⟨.list (Rf (An rows)),.list [],DJ (sp _ _ hu) (MB (aB.aN (aK.of sp) gJ)),DJ AB OZ,MC λp hp=>(DO.nm p hp).2.1,Ih,_,Zj,?_⟩;rw[Oa];exact h _ sp
      ·refine B6 (λhc=>?_) (λhc=>?_)
       ·have a0:0<bs.length:=by
         rw[Bool.and_eq_true]at hc;have h2:=hc.2;rw[gK,←Bg];cases hz:An rows with
         |nil=>rw[hz]at h2;cases h2
         |cons x r=>simp
        have L8:=L7.same s8;obtain⟨x1,y1,e1⟩:=L8.bH;refine⟨_,rfl,d,x1,y1,3,rfl,e1,qc,qc,λr1 a1 b1 r10 r11=>?_⟩;have M1:=L8.roll AP a1 b1;refine⟨_,_,rfl,rfl,_,rfl,qe,qe,?_⟩;refine Et (lo:=0) (n:=(1+r1).toNat) (λj ys H9=>∃ns:Xf,ys=ns.map V.str/\ns.length=j/\j<=3/\(∀x∈ns,x∈(An rows).map (·.1))/\LW d pw pf pu H H9 rows) ⟨[],rfl,rfl,qc,(λx hx=>nomatch hx),M1⟩ ?_ ?_ ?_
        ·rintro j ys H9 ⟨ns,rfl,e,h3,_⟩;rw[AK];omega
        ·rintro j ys H9 hj ⟨ns,rfl,e,h3,gQ,L9⟩;obtain⟨x2,y2,e2⟩:=L9.bH;obtain⟨cs,hu9,bc⟩:=L9.due;have af:=Ca bc;have av:(cs.map V.ref).length=bs.length:=by rw[AK,af,gK]
         refine⟨_,Zj,_,Zj,_,Zj,pu,_,Zj,.inl (aI.of hu9),d,x2,y2,_,Zj,e2,by rw[av];omega,by rw[av];omega,λr2 a2 b2 r20 r21=>?_⟩;have M2:=L9.roll AP a2 b2;have hu10:(upd H9 d (.lst [.int a2,.int b2])) pu=some (.lst (cs.map V.ref)):=by rw[AF AP.ud];exact hu9
         have hcs2:aB (upd H9 d (.lst [.int a2,.int b2])) cs (FI (An rows)):=aB.aN (aK.upd e2) bc;obtain⟨v,hv,eE⟩:=Gr (xs:=cs.map V.ref) r20 (by exact r21);obtain⟨bb,p,rfl,_,ak,aj⟩:=CZ hcs2 eE;refine⟨pu,_,r2,_,rfl,rfl,aI.of hu10,hv,bb,_,0,.str p.1,rfl,rfl,aX.of aj,rfl,?_⟩;refine⟨ns++[p.1],by rw[Zu];rfl,by rw[ZH,e];rfl,qe,λx hx=>?_,M2⟩;rcases mem_append.mp hx with z |z
         ·exact gQ x z
         ·rw[ZG]at z;subst z;exact Zr.mpr ⟨p,ZQ ak,Zj⟩
        ·rintro ys H9 ⟨ns,rfl,e,h3,gQ,L9⟩ l hl;have L10:=L9.same (AH (U.refl _) hl (o:=HO.lst (ns.map V.str)));refine⟨l,_,Zj,.inl ⟨aI.of AB,λt ht=>?_⟩⟩;have L11:=L10.same (AH (U.refl _) ht (o:=HO.tup (ns.map V.str)));obtain⟨cs,hu11,bc⟩:=L11.due;have af:=Ca bc;refine⟨_,Zj,pu,Zj,⟨_,aI.of hu11⟩,Cf (K:=K) (a:=pu) (xs:=cs.map V.ref) (λj σ iZ=>iZ=upd (upd H9 l (.lst (ns.map V.str))) t (.tup (ns.map V.str))/\∃iF iE:Option V,σ=[some (.ref d),some (.int M),some (.ref pw),some (.ref pf),some (.ref pu),some (.int (0+(i:Int))),some (.int (bg:Int)),some (.int kd),some (.ref t),some (.int (uni ((An rows).take j) ns:Nat)),iF,iE]) ⟨Zj,iF,iE,Zj⟩ (λj σ iZ _ ⟨e,_⟩=>e ▸ aI.of hu11) ?_ ?_⟩
         ·rintro j v σ iZ hj ⟨rfl,iF,iE,rfl⟩;obtain⟨bb,p,rfl,_,ak,aj⟩:=CZ bc hj;refine⟨bb,_,Zj,aX.of aj,Zj,_,_,Zj,_,_,Zj,Zj,?_⟩;refine⟨_,Zj,_,Zj,_,Zj,t,_,Zj,.inr (aX.of AB),Zj,?_,_,Zj,?_⟩
          ·rw[all_map];exact List.all_eq_true.mpr λ_ _=>rfl
          ·have eu:uni ((An rows).take (j+1)) ns=uni ((An rows).take j) ns|||(if eK (.str p.1) (ns.map V.str)then p.2 else 0):=by
            unfold uni;rw[ZD,ak,Option.toList_some,Zu];exact E4 _ _
           refine B6 (λiy=>?_) (λiy=>?_)
           ·refine⟨_,Zj,_,_,Zj,Zj,Zj,some (.str p.1),some (.int (p.2:Int)),?_⟩;have hc3:eK (.str p.1) (ns.map V.str)=true:=iy;rw[hc3,Zp rfl]at eu;rw[eu,←C6];rfl
           ·refine⟨_,_,Zj,Zj,Zj,some (.str p.1),some (.int (p.2:Int)),?_⟩;have hc3:eK (.str p.1) (ns.map V.str)=false:=Bool.eq_false_iff.mpr iy;rw[hc3,Zq Bool.false_ne_true]at eu;rw[eu,←C6];rfl
         ·rintro σ iZ ⟨rfl,iF,iE,rfl⟩;have el:(An rows).take (cs.map V.ref).length=An rows:=by rw[AK,af,←Bg,ZB]
          have en:Cw (An rows) (.jY ns)=uni (An rows) ns:=(Ux DO.nd gQ).symm;have eL:ns.length=(1+r1).toNat:=e;refine hR _ _ ⟨.ref t,.jY ns,iF,iE,by rw[el,en],L11,⟨t,Zj,AB⟩,⟨?_,qe,gQ⟩,?_⟩
          ·intro z;subst z;simp at eL;omega
          ·show Av (ns.map (look (An rows)))<2 ^ 20;refine IG λn hn=>?_;obtain⟨x,hx,rfl⟩:=Zr.mp hn;obtain⟨p,hp,rfl⟩:=Zr.mp (gQ x hx);rw[DL DO.nd hp];exact DO.lt p hp
       ·exact hR _ _ ⟨tv,th,iF,iE,Zj,L7.same s8,hT.same s8,hTO,hlt⟩
     ·rintro σ H8 ⟨tv,th,iF,iE,rfl,L8,hT,hTO,hlt⟩;obtain⟨as,hf,hP⟩:=L8.found;have aw:as.length=rows.length:=hP.length;have hw:bV[i]?=some bV[i]:=Z7 hi10;generalize au:bV[i]=wd at hw
      have hat:gU (bV.map V.str) (0+(i:Int))=some (.str wd):=by
       have:(0:Int)+(i:Int)=((i:Nat):Int):=by omega
       rw[this];exact BS (by rw[ZE,hw];rfl)
      refine⟨_,Zj,.inl ⟨Zj,_,aI.of hf⟩,_,Zj,_,Zj,pw,_,_,.str wd,Zj,Zj,aI.of L8.words,hat,_,Zj,eV,λp hp=>?_⟩;have sp:=AH (U.refl _) hp (o:=HO.tup [V.str wd,tv]);have hz1:(as.map V.ref).length<sizeLine:=AO (by rw[AK];omega);refine⟨pf,_,.ref p,Zj,Zj,sp _ _ hf,hz1,?_⟩;have t1:aK (upd H8 p (.tup [V.str wd,tv])) (upd (upd H8 p (.tup [V.str wd,tv])) pf (.lst (as.map V.ref++[.ref p]))):=aK.upd (sp _ _ hf);obtain⟨bs,hu,gJ⟩:=L8.due;have gK:=Ca gJ;have hu1:(upd (upd H8 p (.tup [V.str wd,tv])) pf (.lst (as.map V.ref++[.ref p]))) pu=some (.lst (bs.map V.ref)):=by rw[AF (Ne.symm AP.fu)];exact sp _ _ hu
      have hw1:(upd (upd H8 p (.tup [V.str wd,tv])) pf (.lst (as.map V.ref++[.ref p]))) pw=some (.lst (bV.map V.str)):=by rw[AF AP.wf];exact sp _ _ L8.words
      refine⟨_,Zj,.inl ⟨Zj,_,aI.of hu1⟩,_,Zj,_,Zj,pw,_,_,.str wd,Zj,Zj,aI.of hw1,hat,_,Zj,eV,λq hq=>?_⟩;have sq:=AH (U.refl _) hq (o:=HO.tup [V.str wd,V.int ((Cw (An rows) th:Nat):Int)]);have hz2:(bs.map V.ref).length<sizeLine:=AO (by rw[AK];omega);refine⟨pu,_,.ref q,Zj,Zj,sq _ _ hu1,hz2,?_⟩;have t2:=aK.upd (sq _ _ hu1) (ys:=bs.map V.ref++[.ref q]);have tall:=((aK.of sp).trans t1).trans ((aK.of sq).trans t2);obtain⟨x,y,ed⟩:=L8.bH;have RR:OU (An rows) (wd,th):=⟨DO,by rw[Bg];omega,Rg wd (ZQ hw),?_,hTO,hlt⟩;refine⟨_,_,_,_,_,_,_,rows++[(wd,th)],Zj,by rw[ZH,be];rfl,MD RO RR,?_,?_⟩
      ·rw[Zu,cz,ZD,hw,Option.toList_some];rfl
      ·refine⟨λc o ec hc=>?_,⟨x,y,?_⟩,?_,⟨as++[p],?_,?_⟩,⟨bs++[q],?_,?_⟩⟩
       ·have n1:c≠pu:=AI ec AP.nu;have n2:c≠pf:=AI ec AP.nf;rw[AF n1];refine sq _ _ ?_;rw[AF n2];exact sp _ _ (L8.old c o ec hc)
       ·rw[AF (Ne.symm AP.ud)];refine sq _ _ ?_;rw[AF (Ne.symm AP.fd)];exact sp _ _ ed
       ·rw[AF AP.wu];exact sq _ _ hw1
       ·rw[AF AP.fu];refine sq _ _ ?_;rw[AB,Zu];rfl
       ·refine Paired.snoc (Bq tall hP) ?_;exact⟨tv,t2 _ _ (sq _ _ (t1 _ _ AB)),hT.aN tall⟩
       ·rw[AB,Zu];rfl
       ·rw[Gn];unfold FI;rw[Zu];exact Paired.snoc (aB.aN tall gJ) (t2 _ _ AB)
      ·rw[MH,cz];intro z;have key:=P5 ⟨i,hi10⟩;rw[hw]at key;have:=Option.some.inj key;exact of_decide_eq_false this z
 ·rintro σ H2 ⟨v5,v6,v7,v8,v9,v10,v11,rows,rfl,be,RO,cz,L⟩;obtain⟨as,hf,hP⟩:=L.found;obtain⟨bs,hu,gJ⟩:=L.due;refine⟨_,Zj,_,Zj,eV,λq hq=>?_⟩;have sq:=AH (U.refl _) hq (o:=HO.tup [V.ref pf,V.ref pu]);refine k q pf pu as bs rows _ ⟨λc o e hc=>sq _ _ (L.old c o e hc),?_⟩ AB nf0 nu0 (sq _ _ hf) (Bq (aK.of sq) hP) (sq _ _ hu) (aB.aN (aK.of sq) gJ) qe qe RO (λx hx=>mem_of_mem_take (cz ▸ hx));obtain⟨x,y,e⟩:=L.bH;exact⟨x,y,sq _ _ e⟩
end
end Mk
end
section
namespace L2
open PySem
def P7 {X:Cx} (K:FG) (hK:X.K=K):aS X (.builtin "isinstance") (λxs H Q=>∃v C t b,xs=[v,.ref C]/\dY K H v t/\W.kitOne K t (.ref C)=some b/\Q (.bl b) H):=by
 subst hK;intro aa s σ H xs us Q I r h;obtain⟨v,C,t,b,rfl,ty,hk,q⟩:=h;obtain⟨u,uT,rfl,ru,jV⟩:=Hf r;cases jV;exact JR I ru ty hk λtk=>⟨.bl b,H,I.tok tk,Zj,q⟩
end L2
namespace Mk
open PySem L2 MK
structure KIsi (K:FG) (C:Xi):Prop where
 cl:iA K C
 ha:W.findIn K (.ref C) "__class__" = some (some (.builtin "object.__class__"))
 hn:W.specialIn K (.builtin "object.__class__") "__get__" = some (some (.builtin "getset_descriptor.__get__"))
 ht:W.takesIn K (.builtin "object.__class__")=some true
 hm:W.mroIn K C (.type "object")=some true
 nl:W.kitOne K (.type "list") (.ref C)=some false
def KIsi.ty {a dx:Xi}{fs:List (Str×V)} (k:KIsi K C) (e:H a=some (.ins C dx fs)):dY K H (.ref a) (.ref C):=.ins e k.cl k.ha k.hn k.ht k.hm
def Ii (K:FG) (C:Xi):W.kitOne K (.ref C) (.ref C)=some true:=by
 unfold W.kitOne;rw[Zp (by simp)]
section
def Ri:AM ["self", "name"] ["self", "name"] (defScope Cr):=cH
inductive spRest (C:Xi) (vs:Xh) (H:Hp) (Q:VK) (_E:XK):Prop where
 |mk (p:Xi) (due:Aa) (r:Str) (cD:vs=[.ref p]) (cE:aU C H p due r) (cJ:Q (.str r) H)
def U2:AM ["self"] ["self"] (defScope Gh):=cH
def TW {f:Xi} (F:aV K "rest" "Kind.rest" Gh f fd) (T:IZ K C):AZ P w K mg base aL 1 f fd ["self"] (spRest C):=by
 refine F.m U2 λvs H Q E h=>?_;obtain⟨p,due,r,rfl,KA,k⟩:=h;refine⟨Zj,λad A outer s hr=>?_⟩;obtain⟨dx,d1,o1,d2,o2,hp,h1,h2⟩:=KA.ex;refine⟨_,AE (AQ (BH (pv 0) Zj)),?_⟩;exact⟨_,Zj,p,C,dx,_,_,Zj,hp,T.cl,T.nR,Px _ _ _,k⟩
def Asc (due:Aa):Prop:=∀p∈due,p.1.cps.all (· < 128)=true
end
noncomputable def Nj (due:Aa) (e m:Xi):LK:=[(Sum.inr "known", V.int (Av (due.map (·.2)):Nat)),(Sum.inr "firsts", V.ref e),(Sum.inr "marks", V.ref m),(Sum.inr "bits", V.int (Av (BG due):Nat))]
def U3 (a b c d:V):Bo [] [((Sum.inr "known" : Key),a),(Sum.inr "firsts", b),(Sum.inr "marks", c),(Sum.inr "bits", d)]=[((Sum.inr "known" : Key),a),(Sum.inr "firsts", b),(Sum.inr "marks", c),(Sum.inr "bits", d)]:=by kernel_rfl
def DN (due:Aa) (e m:Xi):As (Nj due e m) (Sum.inr "known")=some (V.int (Av (due.map (·.2)):Nat)):=by kernel_rfl
def P8 (due:Aa):(BG due).Pairwise (· < ·):=by
 have h1:=Fz due;have h2:(BW due).Nodup:=(Dh due).nodup_iff.mpr (Pt due);have h3:(BW due).Pairwise (· < ·):=List.Pairwise.imp₂ (λa b h n=>Nat.lt_of_le_of_ne h n) h1 h2;exact h3.filter _
def Ju (due:Aa):((BG due).map λn:Nat=>(n:Int)).sum=((Av (BG due):Nat):Int):=by
 have hs:(BG due).sum=Av (BG due):=Pn (λn hn=>(mem_filter.mp hn).2) (P8 due);rw[←hs];clear hs;generalize BG due=l;induction l with
 |nil=>rfl
 |cons a r ih=>rw[map_cons,sum_cons,sum_cons,ih];push_cast;rfl
def MJ (due:Aa):Av ((Aj due).map (·.1))=Av (due.map (·.2)):=by
 refine Nat.eq_of_testBit_eq λk=>?_;rw[EZ,EZ,Bool.eq_iff_iff,any_eq_true,any_eq_true];constructor
 ·rintro⟨n,hn,hb⟩;obtain⟨q,hq,rfl⟩:=Zr.mp hn;exact⟨q.1,Zr.mpr ⟨_,Jr hq,Zj⟩,hb⟩
 ·rintro⟨n,hn,hb⟩;obtain⟨p,hp,rfl⟩:=Zr.mp hn;exact⟨p.2,Pu hp,hb⟩
section
inductive spTable (vs:Xh) (H:Hp) (Q:VK) (_E:XK):Prop where
 |mk (u:Xi) (bs:List Xi) (due:Aa) (cD:vs=[.ref u]) (cE:H u=some (.lst (bs.map V.ref))) (cJ:aB H bs (FI due)) (cW:due.length<=10) (eJ:(∀p∈due,p.2<2 ^ 20)) (fV:∀t e m ms H',U H H'->H' t=some (.dK (Nj due e m))->H' e=some (.dK (CS (Aj due)))->H' m=some (.lst (ms.map V.ref))->aB H' ms (OW due)->Q (.ref t) H')
noncomputable abbrev U4:Xf:=["_law_due", "_law_known", "_law_firsts", "_law_name", "_law_number", "_law_marks"]
def scTable:AM U4 ["_law_due"] (defScope EH):=cH
def Rj {f:Xi} (F:aV K "_law_table_of" "_law_table_of" EH f fd) (B:Bl mg) (GB:Fn P w K mg base "_law_bits_of" 1 ["_law_number"] spBitsOf):AZ P w K mg base aL 2 f fd ["_law_due"] spTable:=by
 obtain⟨fB,dB,GB,mB,kB,bB⟩:=GB.ex;refine F.m scTable λvs H Q E h=>?_;obtain⟨u,bs,due,rfl,hu0,gJ,f9,hlt,k⟩:=h;refine⟨Zj,λad A outer s hr=>?_⟩;have hu:=Ch hr
 refine⟨_,AG (C2 (hs:=by kernel_rfl) (hw:=by kernel_rfl) (A5 (AA AD (AA FZ AC))) (CQ Zj (Ak (Af (i:=1) scTable.nd Zj (Or.inl Zj)) (Ak (Af (i:=2) scTable.nd Zj (Or.inr Zj)) Bi))))
  (AG (Dw PassesOwn.never rfl (Bj (pv 0)) (CQ rfl (Ak (Af (i:=3) scTable.nd rfl (Or.inl rfl)) (Ak (Af (i:=4) scTable.nd rfl (Or.inl rfl)) Bi)))
   (AG (Ae (i:=1) scTable.nd rfl (Or.inl rfl) (Ac Kz (pv 1) (pv 4)))
   (AE (Ai (GQ (JY hu (pv 4) (pv 2))) (AE (HK hu (pv 2) (pv 4) (pv 3) rfl)) AT))))
  (AG (LF (i:=5) scTable.nd rfl qd ["_law_firsts"] [some 2] qd qb qd rfl (Bj (AX (KH rfl) rfl B.sorted Jo (AA (pv 2) AC)))
   (λ_ _ _ _ _ _=>Fa (AL Ax (AX (BJ K rfl) rfl B.len PySem.boot_len (AA (AN GB hr rfl mB kB bB .nil AR (AA (pv 0) AC)) AC)) AD (AS _)))
   (λ_ _ _ _ _ _=>A5 (AA (BU hu (pv 1) (pv 0) (λ_ _=>rfl)) (AA (pv 0) AC))))
  (AE (AQ (HM (BX AJ (pv 1) (BX AJ (pv 2) (BX AJ (pv 5) (BX AJ (AX (Qo rfl) rfl B.sum RG (AA (Fc [] [] qd qb qd qd rfl (Bj (pv 5)) (λ_ _ _ _ _ _=>Bm) (λ_ _ _ _ _ _=>pv 1)) AC)) HL)))) rfl rfl (by simp) qc))))),?_⟩
 refine λe he=>⟨eV,λq hq=>⟨q,_,Zj,aX.of AB,Zj,_,_,Zj,_,_,Zj,Zj,?_⟩⟩;have s1:=AH (AH (U.refl _) he (o:=HO.dK [])) hq (o:=HO.tup [V.int 0,V.ref e]);have gK:bs.length=due.length:=by rw[gJ.length];unfold FI;rw[AK]
 refine⟨_,Zj,u,Zj,⟨_,aI.of (s1 _ _ hu0)⟩,Cf (K:=K) (a:=u) (xs:=bs.map V.ref) (λi σ H2=>∃v3 v4:Option V,σ=[some (.ref u),some (.int (Av ((due.take i).map (·.2)):Nat)),some (.ref e),v3,v4,none]/\U H H2/\H2 e=some (.dK (CS (Aj (due.take i)))))
  ⟨none,none,rfl,s1,AH (U.refl _) hq _ _ AB⟩ (λi σ H2 _ ⟨_,_,_,s2,_⟩=>aI.of (s2 _ _ hu0)) ?_ ?_⟩
 ·rintro i v σ H2 hi ⟨v3,v4,rfl,s2,ic⟩;obtain⟨bb,p,rfl,_,ak,aj⟩:=CZ (aB.same s2 gJ) hi;have et:due.take (i+1)=due.take i++[p]:=by rw[ZD,ak];rfl
  have ek:(((Av ((due.take (i+1)).map (·.2)):Nat)):Int)=Builtin.bitOr ((Av ((due.take i).map (·.2)):Nat):Int) (p.2:Int):=by
   rw[et,Zu,C6];exact congrArg _ (E4 _ _)
  have hle:(CS (Aj (due.take i))).length<=100:=by
   unfold CS;rw[AK];have:=Dg (due.take i);rw[ZA]at this;omega
  refine⟨bb,_,Zj,aX.of aj,Zj,_,_,Zj,_,_,Zj,Zj,?_⟩;refine⟨_,Zj,_,Zj,_,_,Zj,Zj,?_⟩;by_cases z:p.2∈(Aj (due.take i)).map (·.1)
  ·refine⟨_,Zj,_,Zj,e,_,Zj,.inl ⟨_,Sum.inl (p.2:Int),.inl ic,Zj,(IV z).symm⟩,_,Zj,?_⟩;refine AV ⟨_,_,by rw[ek];rfl,s2,?_⟩;rw[et,Cy,Zp (by simpa using z)];exact ic
  ·refine⟨_,Zj,_,Zj,e,_,Zj,.inl ⟨_,Sum.inl (p.2:Int),.inl ic,Zj,(Gp z).symm⟩,_,Zj,?_⟩;refine Ag ⟨_,Zj,_,Zj,_,Zj,e,_,Zj,DPut.k (k:=Sum.inl (p.2:Int)) ic (AO qe),?_⟩;refine⟨_,_,by rw[ek];rfl,IU s2 he,?_⟩;rw[AB,et,Cy,Zq (by simpa using z),Ly z]
 ·rintro σ H2 ⟨v3,v4,rfl,s2,ic⟩;have e1:due.take (bs.map V.ref).length=due:=by rw[AK,gK,ZB]
  rw[e1]at ic ⊢;have hle:(CS (Aj due)).length<=due.length:=by unfold CS;rw[AK];exact Dg due
  refine⟨_,Zj,e,_,Zj,.inl ic,qe,λkv gj=>?_,λl ns hl bj hsort=>?_⟩
  ·unfold CS at gj;obtain⟨q,_,rfl⟩:=Zr.mp gj;exact⟨_,Zj⟩
  ·have en:=RW bj hsort;subst en;have s3:=AH (U.refl _) hl (o:=HO.lst (((BW due).map λn:Nat=>(n:Int)).map V.int));have exs:((BW due).map λn:Nat=>(n:Int)).map V.int=A3 (BW due):=(HS _).symm
   refine⟨l,Zj,⟨_,aI.of AB⟩,CB (K:=K) (a:=l) (xs:=A3 (BW due))
    (λi ys H3=>∃as,ys=as.map V.ref/\U H2 H3/\H3 l=some (.lst (A3 (BW due)))/\aB H3 as ((((BW due).take i).filter Bp).map λn=>(V.str (Lx (Aj due) n),V.int (n:Int)))) ⟨[],rfl,s3,by rw[AB,exs],.nil⟩
    (λi ys H3 _ ⟨_,_,_,e,_⟩=>aI.of e) (λi ys H3 ⟨as,e,_,_,t⟩=>?_) ?_ ?_⟩
   ·have:=t.length;rw[e,AK,this,AK];have h3:(((BW due).take i).filter Bp).length<=((BW due).take i).length:=ZS _ _;rw[ZA]at h3;have:=Js due;omega
   ·rintro i v ys H3 hi ⟨as,rfl,s4,hl3,ht⟩;obtain⟨n,hn,rfl⟩:=OT hi;have cu:n∈(Aj due).map (·.1):=mem_keysS.mp (ZQ hn);have hn42:n<2 ^ 42:=Nat.lt_trans (OX hlt n cu) qc;have et:((BW due).take (i+1)).filter Bp=((BW due).take i).filter Bp++(if Bp n then [n]else []):=PySem.take_succ_filter Bp _ i n hn;refine⟨_,Zj,n,Zj,λl2 zs H4 s5 hl4 hz=>⟨l2,_,Zj,.inl (aI.of hl4),Zj,_,Zj,?_⟩⟩
    have eb:decide (V.int ((zs.length:Nat):Int)=V.int 1)=Bp n:=by
     rw[←JG hn42,hz];refine decide_eq_decide.mpr ⟨λh=>?_,λh=>by rw[h];rfl⟩;have:=V.int.inj h;omega
    rw[eb];have hl5:=s5 _ _ hl3;refine B6 (λhm=>?_) (λhm=>?_)
    ·refine⟨_,Zj,_,Zj,e,_,Zj,.inl ⟨_,Sum.inl (n:Int),.inl (s5 _ _ (s4 _ _ ic)),Zj,(IV cu).symm⟩,_,Zj,eV,λb hb=>?_⟩;refine⟨as++[b],by rw[Zu];rfl,AH (s4.trans s5) hb,by rw[AF (AI hl5 hb)];exact hl5,?_⟩;rw[et,hm,Zp rfl,Zu];exact Py (AH s5 hb) ht AB
    ·refine⟨as,Zj,s4.trans s5,hl5,?_⟩;rw[et,Zq hm,Zt];exact aB.same s5 ht
   ·rintro ys H3 ⟨as,rfl,s4,_,ht⟩ m hm
    have el:(BW due).take (A3 (BW due)).length=BW due:=by
     have:(A3 (BW due)).length=(BW due).length:=by unfold A3;rw[AK]
     rw[this];exact ZB
    rw[el]at ht;have ht':aB H3 as (OW due):=ht;have s5:=AH (U.refl _) hm (o:=HO.lst (as.map V.ref));have aw:as.length=(BG due).length:=by rw[ht'.length];exact Pz due
    refine λt ht0=>⟨_,Zj,_,Zj,_,Zj,?_⟩;have s6:=AH (U.refl _) ht0 (o:=HO.dK []);have htm:=aB.same (s5.trans s6) ht';have hm6:=s6 _ _ (AB (H:=H3) (a:=m) (o:=HO.lst (as.map V.ref)));refine⟨_,Zj,m,Zj,⟨_,aI.of hm6⟩,CB (K:=K) (a:=m) (xs:=as.map V.ref) (λj ys H7=>ys=A3 ((BG due).take j)/\H7=upd (upd H3 m (.lst (as.map V.ref))) t (.dK [])) ⟨by rfl,Zj⟩ (λj ys H7 _ ⟨_,e⟩=>e ▸ aI.of hm6) (λj ys H7 ⟨e,_⟩=>?_) ?_ ?_⟩
    ·rw[e];unfold A3;rw[AK,ZA];have h3:(BG due).length<=(BW due).length:=ZS _ _;have:=Js due;omega
    ·rintro j v ys H7 hj ⟨rfl,rfl⟩;rw[ZE]at hj
     obtain⟨b,hb,rfl⟩:∃b,as[j]?=some b/\v=V.ref b:=by
      cases q:as[j]? with
      |none=>rw[q]at hj;cases hj
      |some x=>rw[q]at hj;exact⟨x,Zj,(Option.some.inj hj).symm⟩
     obtain⟨pq,iK,aj⟩:=Lz htm hb;unfold OW at iK;rw[ZE]at iK
     obtain⟨n,hn,rfl⟩:∃n,(BG due)[j]?=some n/\pq=(V.str (Lx (Aj due) n),V.int (n:Int)):=by
      cases q:(BG due)[j]? with
      |none=>rw[q]at iK;cases iK
      |some x=>rw[q]at iK;exact⟨x,Zj,(Option.some.inj iK).symm⟩
     refine⟨b,_,Zj,aX.of aj,Zj,_,_,Zj,_,_,Zj,Zj,?_⟩;refine⟨_,Zj,?_,Zj⟩;rw[ZD,hn,Option.toList_some];unfold A3;rw[Zu];rfl
    ·rintro ys H7 ⟨rfl,rfl⟩ l2 ia;have el2:(BG due).take (as.map V.ref).length=BG due:=by rw[AK,aw,ZB]
     rw[el2];have s7:=AH (U.refl _) ia (o:=HO.lst (A3 (BG due)));refine⟨l2,(BG due).map λn:Nat=>(n:Int),Zj,aI.of (by rw[AB,HS]),λn hn=>?_,?_,?_⟩
     ·obtain⟨x,_,rfl⟩:=Zr.mp hn;exact Z1 _
     ·rw[Ju];have:=IG (RY hlt);omega
     ·rw[Ju];refine⟨s7 _ _ AB,[((Sum.inr "known" : Key),V.int (Av (due.map (·.2)):Nat)),(Sum.inr "firsts", .ref e),(Sum.inr "marks", .ref m),(Sum.inr "bits", V.int (Av (BG due):Nat))],Zj,(by show 4<=15;decide),?_⟩;rw[U3];have nt:∀b o,H3 b=some o->b≠t:=λb o ebo=>AI (s5 _ _ ebo) ht0
      have sAll:U (upd H3 m (.lst (as.map V.ref))) (upd (upd (upd (upd H3 m (.lst (as.map V.ref))) t (.dK [])) l2 (.lst (A3 (BG due)))) t (.dK (Nj due e m))):=λb o ebo=>by
       rw[AF (AI ebo ht0)];exact s7 _ _ (s6 _ _ ebo)
      refine k t e m as _ ?_ AB ?_ (sAll _ _ AB) (aB.same (s5.trans sAll) ht')
      ·intro b o ebo;exact sAll _ _ (s5 _ _ (s4 _ _ (s2 _ _ ebo)))
      ·exact sAll _ _ (s5 _ _ (s4 _ _ ic))
end
def EM:∀ {ds:List PyData},(∀d∈ds,PyData.eqv d d=true)->PyData.eqvAll ds ds=true
 | [],_=>by rw[PyData.eqvAll]
 |d::r,h=>by
  rw[PyData.eqvAll,h d ZI,EM λx hx=>h x (ZR _ hx)];rfl
def JH {ds:List PyData} (h:∀d∈ds,PyData.eqv d d=true):PyData.eqv (.list ds) (.list ds)=true:=by
 rw[PyData.eqv];exact EM h
def Di {ds:List PyData} (h:∀d∈ds,PyData.eqv d d=true):PyData.eqv (.tuple ds) (.tuple ds)=true:=by
 rw[PyData.eqv];exact EM h
def Bc (x:Str):PyData.eqv (.str x) (.str x)=true:=by simp[PyData.eqv]
def F2 (n:Int):PyData.eqv (.int n) (.int n)=true:=by simp[PyData.eqv]
def Ed {b:Xi}{x y:Str} (h:H b=some (.tup [.str x,.str y])):CD K H (.tuple [.str x,.str y]) (.ref b):=by
 rw[CD];refine⟨b,_,Zj,aX.of h,?_⟩;rw[BF];refine⟨_,_,Zj,by rw[CD],?_⟩;rw[BF];refine⟨_,_,Zj,by rw[CD],?_⟩;rw[BF]
noncomputable def ML (kp:Xi) (n:Nat):List (Str×V):=BP "bits" (.int (n:Int)) (BP "own_kind" (.ref kp) [])
def TY (kp:Xi) (n:Nat):(ML kp n).lookup ("bits" : Str)=some (.int (n:Int)):=by
 unfold ML;rw[AW,Zp rfl]
def V8 (kp:Xi) (n:Nat) {m:Str} (h1:¬ m = "bits") (h2:¬ m = "own_kind"):(ML kp n).lookup m=none:=by
 unfold ML;rw[AW,Zq h1,AW,Zq h2];rfl
def MM (VC:Xi) (H:Hp) (p kp:Xi) (n:Nat):Prop:=∃dx,H p=some (.ins VC dx (ML kp n))
structure Rk (K:FG) (VC:Xi):Prop where
 cl:iA K VC
 nK:cI K VC "own_kind"
 nB:cI K VC "bits"
noncomputable def kn (due:Aa):Nat:=Av (due.map (·.2))
section
inductive spIsNumber (vs:Xh) (H:Hp) (Q:VK) (_E:XK):Prop where
 |mk (n:Nat) (cD:vs=[.int (n:Int)]) (cE:n<2 ^ 40) (cJ:Q (.bl true) H)
def Nk:AM ["thing"] ["thing"] (defScope Ea):=cH
inductive spRestOf (C:Xi) (vs:Xh) (H:Hp) (Q:VK) (_E:XK):Prop where
 |mk (kp:Xi) (due:Aa) (r:Str) (n:Nat) (cD:vs=[.ref kp,.int (n:Int)]) (cE:aU C H kp due r) (cJ:∀H',U H H'->Q (.int ((n - (n&&&kn due):Nat):Int)) H')
def Rm:AM ["kind", "number"] ["kind", "number"] (defScope Ka):=cH
def P9 {f:Xi} (F:aV K "rest_of" "rest_of" Ka f fd) (T:IZ K C) (GK:Mt P w K mg base C "known" 2 ["self"] (spKnown C)):AZ P w K mg base aL 3 f fd ["kind", "number"] (spRestOf C):=by
 obtain⟨fK,dK,GK,mK,bK⟩:=GK.ex;refine F.m Rm λvs H Q E h=>?_;obtain⟨kp,due,r,n,rfl,KA,k⟩:=h;refine⟨Zj,λad A outer s hr=>?_⟩;obtain⟨dx,d1,d2,hp⟩:=KA.ins;refine⟨_,AE (AQ (Ac DS (pv 1) (Eg QU (Bv (pv 0) T.cl mK GK hr bK .nil AR)))),?_⟩;refine⟨_,Zj,_,Zj,kp,dx,_,Zj,hp,(Ec _ _ _),kp,due,r,Zj,KA,λH1 s1=>?_⟩;refine⟨_,Zj,_,_,Zj,Zj,?_⟩;show Q (V.int (Builtin.bitAnd (n:Int) (Builtin.bitNot ((Av ((Aj due).map (·.1)):Nat):Int)))) H1;rw[IF,MJ];exact k H1 s1
inductive spVInit (C VC:Xi) (vs:Xh) (H:Hp) (Q:VK) (_E:XK):Prop where
 |mk (p dx kp:Xi) (due:Aa) (r:Str) (n:Nat) (cD:vs=[.ref p,.ref kp,.int (n:Int)]) (cE:H p=some (.ins VC dx [])) (cJ:aU C H kp due r) (cW:n<2 ^ 40) (eJ:(r = "keep" \/ n - (n&&&kn due)=0)) (fV:∀H',(∀b o,H b=some o->b≠p->H' b=some o)->MM VC H' p kp n->Q .aO H')
def TZ:AM ["self", "kind", "number"] ["self", "kind", "number"] (defScope E8):=cH
def MO {f:Xi} (F:aV K "__init__" "Value.__init__" E8 f fd) (T:IZ K C) (VT:Rk K VC)
  (GN:Fn P w K mg base "is_number" 2 ["thing"] spIsNumber) (GR:Fn P w K mg base "rest_of" 3 ["kind", "number"] (spRestOf C)) (GRe:Mt P w K mg base C "rest" 1 ["self"] (spRest C)):AZ P w K mg base aL 4 f fd ["self", "kind", "number"] (spVInit C VC):=by
 obtain⟨fN,dN,GN,mN,kN,bN⟩:=GN.ex;obtain⟨fR,dR,GR,mR,kR,bR⟩:=GR.ex;obtain⟨fE,dE,GE,mE,bE⟩:=GRe.ex;refine F.m TZ λvs H Q E h=>?_;obtain⟨p,dx,kp,due,r,n,rfl,hp,KA,hn,hrest,k⟩:=h;refine⟨Zj,λad A outer s hr=>?_⟩;have d5:aE 1 _:=hr.mono qc;have eP:aE 2 _:=hr.mono qc;obtain⟨kr,d1,d2,ah⟩:=KA.ins
 refine⟨_,AG (Ai (BM (Aw (AN GN eP Zj mN kN bN .nil AR (AA (pv 2) AC)))) (AE Am) AT)
  (A1 (Ai (PW.pt (CP (AL FN (Bv (pv 1) T.cl mE GE d5 bE .nil AR) AJ (AS _)) (Bh (AL FN (AN GR hr rfl mR kR bR .nil AR (AA (pv 1) (AA (pv 2) AC))) AD (AS _))))) (AE Am) AT)
  (AG (C4 (pv 0) (pv 1) rfl) (AE (C4 (pv 0) (pv 2) rfl)))),?_⟩
 refine⟨_,Zj,n,Zj,hn,_,Zj,?_⟩;refine AV ?_;refine⟨λσ H1=>σ=[some (.ref p),some (.ref kp),some (.int (n:Int))]/\U H H1,λR hR=>?_,?_⟩
 ·refine⟨_,Zj,kp,kr,_,Zj,ah,(Ec _ _ _),kp,due,r,Zj,KA,Zj,_,Zj,?_⟩;by_cases hk:r = "keep"
  ·rw[ZL (show V.str r=V.str "keep" by rw[hk])];exact AV (AV (hR _ _ ⟨Zj,U.refl _⟩))
  ·rw[ZO (show ¬ V.str r=V.str "keep" from λz=>hk (V.str.inj z))];refine Ag ?_;refine⟨_,Zj,_,Zj,kp,due,r,n,Zj,KA,λH1 s1=>⟨Zj,_,Zj,?_⟩⟩;have h0:=hrest.resolve_left hk;rw[h0];exact AV (hR _ _ ⟨Zj,s1⟩)
 ·rintro σ H1 ⟨rfl,s1⟩;refine⟨_,Zj,_,Zj,p,VC,dx,[],Zj,s1 _ _ hp,VT.cl,VT.nK,(by show 0<1000;decide),?_⟩;refine⟨_,Zj,_,Zj,p,VC,dx,_,Zj,AB,VT.cl,VT.nB,Nat.lt_of_le_of_lt (A7 _ _ _) (by show 1<1000;decide),?_⟩;refine k _ (λb o e hb=>?_) ⟨dx,AB⟩;rw[AF hb,AF hb];exact s1 _ _ e
inductive spVNumber (VC:Xi) (vs:Xh) (H:Hp) (Q:VK) (_E:XK):Prop where
 |mk (p kp:Xi) (n:Nat) (cD:vs=[.ref p]) (cE:MM VC H p kp n) (cJ:Q (.int (n:Int)) H)
def QA:AM ["self"] ["self"] (defScope Db):=cH
def Nm {f:Xi} (F:aV K "number" "Value.number" Db f fd) (VT:Rk K VC):AZ P w K mg base aL 1 f fd ["self"] (spVNumber VC):=by
 refine F.m QA λvs H Q E h=>?_;obtain⟨p,kp,n,rfl,⟨dx,hp⟩,k⟩:=h;refine⟨Zj,λad A outer s hr=>?_⟩;refine⟨_,AE (AQ (BH (pv 0) Zj)),?_⟩;exact⟨_,Zj,p,VC,dx,_,_,Zj,hp,VT.cl,VT.nB,TY _ _,k⟩
structure T7 (P:Program) (w:World) (K:FG) (mg:SV) (base:Heap) (C VC:Xi):Prop where
 VT:Rk K VC
 cls:mg "Value" = some (.ref VC)
 make:∃f fd,Mk K VC f/\AZ P w K mg base aL 4 f fd ["self", "kind", "number"] (spVInit C VC)/\Binds K fd ["self", "kind", "number"] []
def Ij {D kp dx:Xi} (hkp:H kp=none) (ba:H dx=none) (a0:dx≠kp):U H (upd (upd H dx (.own kp)) kp (.ins D dx [])):=by
 refine AH (AH (U.refl _) ba) ?_;rw[AF (Ne.symm a0)];exact hkp
def Jv {Hc:Hp}{kp:Xi} (sN:U H H') (hkp:H kp=none) (sc:∀b o,H' b=some o->b≠kp->Hc b=some o):U H Hc:=λb o e=>sc b o (sN _ _ e) (AI e hkp)
def T8 (h:∀p∈due,p.2<2 ^ 20):kn due<2 ^ 20:=by
 unfold kn;exact IG λn hn=>by obtain⟨p,hp,rfl⟩:=Zr.mp hn;exact h p hp
def U5 (x y:Nat):(x |||y)+(x&&&y)=x+y:=by
 have h:=PyProof.Rows.bitOr_and (x:Int) (y:Int);rw[C6,Bx]at h;omega
end
section
variable {CU:Xi}
inductive spErrInit (K:FG) (vs:Xh) (H:Hp) (Q:VK) (_E:XK):Prop where
 |mk (e C:Xi) (dx:Option Xi) (x:Str) (cD:vs=[.ref e,.str x]) (cE:A4 K C=true) (cJ:H e=some (Ef e C dx)) (cW:Q .aO H)
def QB:AM ["self", "words"] ["self", "words"] (defScope A8):=cH
def FJ {f:Xi} (F:FunD K "__init__" "MarkError.__init__" A8 f fd) (hV:mg "ValueError" = none):AZ P w K mg base aL 1 f fd ["self", "words"] (spErrInit K):=by
 refine F.ok QB (λvs H Q E h=>?_) (λad A outer s H vs Q E hr h=>?_)
 ·obtain⟨e,C,dx,x,rfl,_⟩:=h;rfl
 ·obtain⟨e,C,dx,x,rfl,hC,he,k⟩:=h;refine⟨_,AE (BD (Qw Zj hV (AA (pv 0) (AA (pv 1) AC)))),?_⟩;exact⟨_,Zj,_,Zj,e,C,dx,[.str x],Zj,(by show 1<=1000;decide),hC,he,k⟩
structure Oc (P:Program) (w:World) (K:FG) (mg:SV) (base:Heap) (x:Str) (CU:Xi):Prop where
 cls:mg x=some (.ref CU)
 make:∃f fd,MkX K CU f/\AZ P w K mg base aL 1 f fd ["self", "words"] (spErrInit K)/\Binds K fd ["self", "words"] []
def Uq (H:Hp) (E:XK) (CU:Xi):Prop:=∀e H',U H H'->H e=none->H' e=some (Fe e CU none)->E (.ref CU) none H'
def none_of {x:Xi} (s:U H H') (h:H' x=none):H x=none:=by
 cases e:H x with
 |none=>rfl
 |some u=>rw[s _ _ e]at h;cases h
def Uq.of {E:XK}{CU:Xi} (s:U H H') (h:Uq H E CU):Uq H' E CU:=λe H2 s2 h1 h2=>h e H2 (s.trans s2) (none_of s h1) h2
def Dj {te:XK->TE}{σ:St}{H1:Hp}{E:XK}{D:DQ}{x:Str} (hC:A4 K CU=true) (s1:U H H1) (h:Uq H E CU):KM CU (KL CU (spErrInit K) [] E0 (Ah (tC (.str x)) B9)) E D σ H1:=by
 refine⟨(by show 1<=1000;decide),λa ha=>?_⟩;refine⟨a,CU,none,x,Zj,hC,AB,Zj,a,none,Zj,AB,?_⟩;refine h a _ (s1.trans ?_) (none_of s1 ha) AB;rw[SM];exact AH (U.refl _) ha
end
noncomputable def wds:Xf:=["BadRows", "BadRest", "BadText", "Unled", "BadRule", "BadName", "BadNumber", "Unlike", "BadPairs", "Never", "Nothing"]
noncomputable def wd (j:Nat):Str:=wds.getD j ""
noncomputable def ig (j:Nat):List Bool:=(List.range 11).map λi=>decide (i=j)
noncomputable def b1 (b:Bool):Int:=if b then 1 else 0
noncomputable abbrev zA (j:Nat):Xh:=[V.bl (decide (0=j)),V.bl (decide (1=j)),V.bl (decide (2=j)),V.bl (decide (3=j))]
noncomputable abbrev zB (j:Nat):Xh:=[V.bl (decide (4=j)),V.bl (decide (5=j)),V.bl (decide (6=j))]
noncomputable abbrev zC (j:Nat):Xh:=[V.bl (decide (7=j))]
noncomputable abbrev zD (j:Nat):Xh:=[V.bl (decide (8=j)),V.bl (decide (9=j)),V.bl (decide (10=j))]
noncomputable abbrev yA:Xh:=[V.str "BadRows", V.str "BadRest", V.str "BadText", V.str "Unled", V.str "BadRule", V.str "BadName", V.str "BadNumber"]
noncomputable abbrev yB:Xh:=[V.str "Unlike", V.str "BadPairs"]
def Od:∀j,j<11->((ig j).map b1).sum=1:=by decide +kernel
def U6:∀j,j<11->(ig j)[j]?=some true/\∀m,m<j->(ig j)[m]?=some false:=by decide +kernel
def U7:∀j:Nat,j<11->gU (wds.map V.str) (j:Int)=some (V.str (wd j)):=by decide +kernel
structure QC (mg:SV) (ec:Nat->Xi):Prop where
 e0:mg "BadRows" = some (.ref (ec 0))
 e1:mg "BadRest" = some (.ref (ec 1))
 e2:mg "BadText" = some (.ref (ec 2))
 e3:mg "Unled" = some (.ref (ec 3))
 e4:mg "BadRule" = some (.ref (ec 4))
 e5:mg "BadName" = some (.ref (ec 5))
 e6:mg "BadNumber" = some (.ref (ec 6))
 e7:mg "Unlike" = some (.ref (ec 7))
 e8:mg "BadPairs" = some (.ref (ec 8))
 e9:mg "Never" = some (.ref (ec 9))
 gZ:mg "Nothing" = some (.ref (ec 10))
 ev:mg "ValueError" = none
structure Oe (K:FG) (ec:Nat->Xi) (C:Xi) (j:Nat):Prop where
 hj:j<11
 kx:Sv K C
 kit:∀i,i<11->W.kitOne K (.ref C) (.ref (ec i))=some (decide (i=j))
 val:W.kitOne K (.ref C) (.type "ValueError")=some true
section
variable {ec:Nat->Xi}
def B3 {X:Cx}{a:Expr}{te:TE}{e c:Xi}{oe:Obj}{x:Str}{p p2 pos:Pos} (K:FG) (hK:X.K=K) (pX:ExcP X e oe C) (k:Sv K C) (hg:Gl X "isinstance") (hm:X.mg "isinstance" = none) (hgT:Gl X x) (hmT:X.mg x=some (.ref c)) (he:PE X a te)
  (eM:(x==("__debug__" : Str))=false:=by decide)
  (hs:starEach [a,.Name x p2] X.env=(false,eval a X.env)::starEach [.Name x p2] X.env:=by rfl) (eQ:(backTo pos (starEach [.Name x p2] X.env)).any (·.1)=false:=by rfl) (jF:starEach [.Name x p2] X.env=(false,eval (.Name x p2) X.env)::starEach [] X.env:=by rfl) :
  PE X (.Call (.Name "isinstance" p) [a,.Name x p2] [] pos) (tCB (λxs H Q=>∃v c b,xs=[.ref e,v]/\((∃D,v=.ref D/\c=.ref D)\/∃T,v=.ty T/\c=.type T)/\(oe.dict=none\/∃d u,oe.dict=some d/\H d=some u)/\W.kitOne K (.ref C) c=some b/\Q (.bl b) H) (Ah te (Ah (tC (.ref c)) B9))):=by
 subst hK;exact AX (Ji pX k) hg hm IR (AA he (AA (BL (v:=.ref c) hgT hmT Zj eM) AC jF) hs) qc qc hs eQ
def Dk (K:FG) (ec:Nat->Xi):SpS:=λe oe vs H Q=>vs=[.ref e]/\∃(C:Xi) (j:Nat) (fs:Array Value),oe.cls=.ref C/\oe.data=.fields fs/\fs[2]?=some .none/\(oe.dict=none\/∃d u,oe.dict=some d/\H d=some u)/\Oe K ec C j /\
 ∀p H',U H H'->H' p=some (.tup [.str "refused", .str (wd j)])->Q (.ref p) H'
def scWord:AM ["_law_e", "_law_flags", "_law_words"] ["_law_e"] (defScope EG):=cH
def Ta {f:Xi} (F:aV K "_law_word" "_law_word" EG f fd) (B:Bl mg) (M:QC mg ec):OJ P w K mg base 1 f fd ["_law_e"] (Dk K ec):=by
 refine F.okS scWord (λe oe vs H Q h=>?_) (λad A outer s H vs Q e oe hh hr h=>?_)
 ·obtain⟨rfl,_⟩:=h;rfl
 ·obtain⟨rfl,C,j,fs,hc,hf,h2,hd,EA,k⟩:=h;have hj:=EA.hj
  have hdS:∀H',U H H'->(oe.dict=none\/∃d u,oe.dict=some d/\H' d=some u):=λH' s=>by
   rcases hd with z |⟨d,u,z,y⟩
   ·exact .inl z
   ·exact .inr ⟨d,u,z,s _ _ y⟩
  have kt:=EA.kit;have pX:ExcP (Hw P w K mg base ["_law_e", "_law_flags", "_law_words"] "_law_word" (defScope EG) f ad A outer s H e oe) e oe C:=⟨ZI,hc,⟨fs,hf⟩⟩;have rd:iX (Hw P w K mg base ["_law_e", "_law_flags", "_law_words"] "_law_word" (defScope EG) f ad A outer s H e oe):=Sr hh hf h2
  refine⟨_,AG (Ae (i:=1) scWord.nd Zj (Or.inl Zj) (BA (AA (B3 K Zj pX EA.kx Zj B.fk Zj M.e0 (pv 0)) (AA (B3 K Zj pX EA.kx Zj B.fk Zj M.e1 (pv 0)) (AA (B3 K Zj pX EA.kx Zj B.fk Zj M.e2 (pv 0)) (AA (B3 K Zj pX EA.kx Zj B.fk Zj M.e3 (pv 0)) AC))))))
   (AG (Ae (i:=1) scWord.nd rfl (Or.inl rfl) (Ac Gb (pv 1) (BA (AA (B3 K rfl pX EA.kx rfl B.fk rfl M.e4 (pv 0)) (AA (B3 K rfl pX EA.kx rfl B.fk rfl M.e5 (pv 0)) (AA (B3 K rfl pX EA.kx rfl B.fk rfl M.e6 (pv 0)) AC))))))
   (AG (Ae (i:=1) scWord.nd rfl (Or.inl rfl) (Ac Gb (pv 1) (BA (AA (B3 K rfl pX EA.kx rfl B.fk rfl M.e7 (pv 0)) AC))))
   (AG (Ae (i:=1) scWord.nd rfl (Or.inl rfl) (Ac Gb (pv 1) (BA (AA (B3 K rfl pX EA.kx rfl B.fk rfl M.e8 (pv 0)) (AA (B3 K rfl pX EA.kx rfl B.fk rfl M.e9 (pv 0)) (AA (B3 K rfl pX EA.kx rfl B.fk rfl M.gZ (pv 0)) AC))))))
   (AG (Ae (i:=2) scWord.nd rfl (Or.inl rfl) (BA (AA AJ (AA AJ (AA AJ (AA AJ (AA AJ (AA AJ (AA AJ AC)))))))))
   (AG (Ae (i:=2) scWord.nd rfl (Or.inl rfl) (Ac Gb (pv 2) (BA (AA AJ (AA AJ AC)))))
   (AG (Ai (PW.pt (Dv (AL FN (AX (Jd rd) rfl B.sum RG (AA (PN [] [] qd qb qd rd (Qm (pv 1)) (λ_ _ _ _ _ _=>Bm) (λ_ _ _ _ _ _=>Ba JO rfl B.int IS (AA (pv 0) AC))) AC)) AD (AS _))
     (Cc (BM (Aw (AX (Ji pX EA.kx) rfl B.fk IR (AA (pv 0) (AA (J6 (v:=.ty "ValueError") rfl M.ev OI rfl) AC)))))))) (AE Am) AT)
   (AE (AQ (A5 (AA AJ (AA (BI (Ar K rfl) (Ac Gb (pv 2) (BA (AA AJ (AA AJ AC)))) (Eh PySem.F.plainAttrs_list PySem.F.slot_list_index PySem.F.type_list_index Pe (pv 1) (AA DB AC)) (λ_ _=>rfl)) AC))))))))))),?_⟩
  refine⟨_,Zj,_,_,_,Zj,.inl ⟨_,Zj,Zj⟩,hdS _ (U.refl _),kt 0 qc,_,Zj,_,_,_,Zj,.inl ⟨_,Zj,Zj⟩,hdS _ (U.refl _),kt 1 qc,_,Zj,_,_,_,Zj,.inl ⟨_,Zj,Zj⟩,hdS _ (U.refl _),kt 2 qc,_,Zj,_,_,_,Zj,.inl ⟨_,Zj,Zj⟩,hdS _ (U.refl _),kt 3 qc,sl4,λl1 h1=>?_⟩;have s1:=AH (U.refl H) h1 (o:=.lst (zA j));have a1:=AB (H:=H) (a:=l1) (o:=.lst (zA j));generalize upd H l1 (.lst (zA j))=H1 at s1 a1 ⊢;refine⟨_,Zj,_,Zj,_,_,_,Zj,.inl ⟨_,Zj,Zj⟩,hdS _ s1,kt 4 qc,_,Zj,_,_,_,Zj,.inl ⟨_,Zj,Zj⟩,hdS _ s1,kt 5 qc,_,Zj,_,_,_,Zj,.inl ⟨_,Zj,Zj⟩,hdS _ s1,kt 6 qc,gO,λl2 kj=>?_⟩;refine⟨l1,l2,_,_,Zj,Zj,(AH (U.refl H1) kj) _ _ a1,AB,(by show 4+3<=sizeLine;decide),λl3 h3=>?_⟩;have s3:=s1.trans (AH (AH (U.refl H1) kj (o:=.lst (zB j))) h3 (o:=.lst (zA j++zB j)));generalize e3:upd (upd H1 l2 (.lst (zB j))) l3 (.lst (zA j++zB j))=H3 at s3 ⊢;have a3:H3 l3=some (.lst (zA j++zB j)):=by rw[←e3,AB]
  refine⟨_,Zj,_,Zj,_,_,_,Zj,.inl ⟨_,Zj,Zj⟩,hdS _ s3,kt 7 qc,sl1,λl4 h4=>?_⟩;refine⟨l3,l4,_,_,Zj,Zj,(AH (U.refl H3) h4) _ _ a3,AB,(by show 7+1<=sizeLine;decide),λl5 h5=>?_⟩;have s5:=s3.trans (AH (AH (U.refl H3) h4 (o:=.lst (zC j))) h5 (o:=.lst ((zA j++zB j)++(zC j))));generalize e5:upd (upd H3 l4 (.lst (zC j))) l5 (.lst ((zA j++zB j)++(zC j)))=H5 at s5 ⊢;have a5:H5 l5=some (.lst ((zA j++zB j)++(zC j))):=by rw[←e5,AB]
  refine⟨_,Zj,_,Zj,_,_,_,Zj,.inl ⟨_,Zj,Zj⟩,hdS _ s5,kt 8 qc,_,Zj,_,_,_,Zj,.inl ⟨_,Zj,Zj⟩,hdS _ s5,kt 9 qc,_,Zj,_,_,_,Zj,.inl ⟨_,Zj,Zj⟩,hdS _ s5,kt 10 qc,gO,λl6 h6=>?_⟩;refine⟨l5,l6,_,_,Zj,Zj,(AH (U.refl H5) h6) _ _ a5,AB,(by show 8+3<=sizeLine;decide),λl7 h7=>?_⟩;have s7:=s5.trans (AH (AH (U.refl H5) h6 (o:=.lst (zD j))) h7 (o:=.lst (((zA j++zB j)++(zC j))++(zD j))));generalize e7:upd (upd H5 l6 (.lst (zD j))) l7 (.lst (((zA j++zB j)++(zC j))++(zD j)))=H7 at s7 ⊢;have a7:H7 l7=some (.lst ((ig j).map V.bl)):=by rw[←e7];exact AB
  refine⟨sl7,λl8 h8=>?_⟩;refine⟨_,Zj,eV,λl9 h9=>?_⟩;refine⟨l8,l9,_,_,Zj,Zj,(AH (U.refl _) h9) _ _ AB,AB,(by show 7+2<=sizeLine;decide),λl10 f9=>?_⟩;have iH:=AH (AH (AH (U.refl H7) h8 (o:=.lst yA)) h9 (o:=.lst yB)) f9 (o:=.lst (yA++yB));generalize gZ:upd (upd (upd H7 l8 (.lst yA)) l9 (.lst yB)) l10 (.lst (yA++yB))=H10 at iH ⊢;have a10:H10 l10=some (.lst (yA++yB)):=by rw[←gZ];exact AB
  have b7:=iH _ _ a7;refine⟨_,Zj,l7,Zj,⟨_,aI.of b7⟩,CB (K:=K) (a:=l7) (xs:=(ig j).map V.bl) (λi ys H2=>ys=((ig j).take i).map (λb=>V.int (b1 b))/\H2=H10) ⟨Zj,Zj⟩ (λi ys H2 _ ⟨_,e⟩=>e ▸ aI.of b7) (λi ys H2 ⟨e,_⟩=>?_) ?_ ?_⟩
  ·rw[e,AK,ZA];have:(ig j).length=11:=rfl;omega
  ·rintro i v ys H2 hi ⟨rfl,rfl⟩;rw[ZE]at hi;obtain⟨b,hb,rfl⟩:=Z6.mp hi;refine⟨_,Zj,.inr ⟨b,Zj,?_,Zj⟩⟩;rw[ZD,hb,Option.toList_some,Zu];rfl
  ·rintro ys H2 ⟨rfl,rfl⟩ p hp;have el:(ig j).take ((ig j).map V.bl).length=ig j:=by rw[AK];exact ZB
   rw[el];have em:(ig j).map (λb=>V.int (b1 b))=((ig j).map b1).map V.int:=by rw[map_map];rfl
   rw[em];have jz:=AH (U.refl H2) hp (o:=.lst (((ig j).map b1).map V.int));refine⟨p,(ig j).map b1,Zj,aI.of AB,λn hn=>?_,(by rw[Od j hj];decide),Zj,_,Zj,?_⟩
   ·obtain⟨b,_,rfl⟩:=Zr.mp hn;unfold b1;split <;> decide
   rw[Od j hj];refine AV ?_;refine⟨_,Zj,_,_,true,Zj,.inr ⟨_,Zj,Zj⟩,hdS _ (s7.trans (iH.trans jz)),EA.val,_,Zj,?_⟩;refine AV ?_;refine⟨_,Zj,eV,λl11 jg=>?_⟩;have i8:=AH jz jg (o:=.lst [V.str "Never", V.str "Nothing"]);refine⟨l10,l11,_,_,Zj,Zj,i8 _ _ a10,AB,(by show 9+2<=sizeLine;decide),λl12 iU=>?_⟩;have jj:=AH i8 iU (o:=.lst ((yA++yB)++[V.str "Never", V.str "Nothing"]));have c7:=jj _ _ b7;obtain⟨f1,f2⟩:=U6 j hj;refine⟨_,Zj,.inl ⟨Zj,_,aI.of c7⟩,l7,ig j,j,Zj,Zj,c7,f1,f2,l12,_,(j:Int),_,Zj,Zj,aI.of AB,U7 j hj,eV,λq hq=>?_⟩;exact k q _ (s7.trans (iH.trans (AH jj hq))) AB
end
structure Jw (K:FG) (ec:Nat->Xi) (cM C:Xi) (j:Nat):Prop where
 ea:Oe K ec C j
 cx:A4 K C=true
 n0:(Ds K C).contains (.ref (ec 0))=false
 n1:(Ds K C).contains (.ref (ec 1))=false
 n2:(Ds K C).contains (.ref (ec 2))=false
 n3:(Ds K C).contains (.ref (ec 3))=false
 m:(Ds K C).contains (.ref cM)=true
noncomputable def JI (j:Nat):Str:=(["at", "bits", "at", "name"]:Xf).getD j ""
structure Ik (K:FG) (ec:Nat->Xi) (C:Xi) (j:Nat):Prop where
 ea:Oe K ec C j
 cx:A4 K C=true
 j4:j<4
 no:∀i,i<j->(Ds K C).contains (.ref (ec i))=false
 m:(Ds K C).contains (.ref (ec j))=true
 g:V3 K C (JI j)
structure Ro (K:FG) (mg:SV) (ec:Nat->Xi) (cM:Xi):Prop where
 m:mg "MarkError" = some (.ref cM)
 xm:A4 K cM=true
 x0:A4 K (ec 0)=true
 x1:A4 K (ec 1)=true
 x2:A4 K (ec 2)=true
 x3:A4 K (ec 3)=true
structure FnS (P:Program) (w:World) (K:FG) (mg:SV) (base:Heap) (x:Str) (k:Nat) (ps:Xf) (sp:SpS):Prop where
 ex:∃f fd,OJ P w K mg base k f fd ps sp/\mg x=some (.ref f)/\W.keepIn K (.ref f)=true/\Binds K fd ps []
def Rp (K:FG) (ec:Nat->Xi) (cM C:Xi) (dx:Option Xi) (e:Xi):TS:=λD σ H=>σ.length=2 /\
 ((∃j,Jw K ec cM C j/\dx=none/\∀p H',U H H'->H' p=some (.tup [.str "refused", .str (wd j)])->D.rt (.ref p) H') \/
  ∃j d v,Ik K ec C j/\dx=some d/\H d=some (.xd [(JI j,v)])/\∀p H',U H H'->H' p=some (.tup [.str "refused", .str (wd j),v])->D.rt (.ref p) H')
def Il (K:FG) (ec:Nat->Xi) (cM:Xi) (Q:VK):XK:=λCv dx H2=>∃C,Cv=.ref C/\∀e,H2 e=some (Fe e C dx) ->
 ((∃j,Jw K ec cM C j/\dx=none/\∀p H',U (del H2 e) H'->H' p=some (.tup [.str "refused", .str (wd j)])->Q (.ref p) H') \/
  ∃j d v,Ik K ec C j/\dx=some d/\(del H2 e) d=some (.xd [(JI j,v)])/\∀p H',U (del H2 e) H'->H' p=some (.tup [.str "refused", .str (wd j),v])->Q (.ref p) H')
def scTold:AM ["_law_deed", "_law_e"] ["_law_deed"] (defScope Aq):=cH
section
variable {ec:Nat->Xi}{cM:Xi}
def Rq {X:Cx} (K:FG) (hK:X.K=K):cS X (binaryOp .Add) (N8 K):=hK ▸ Sa
def Tb {k:Nat}{f lf c':Xi} (F:aV K "_law_told" "_law_told" Aq f fd) (M:QC mg ec) (EX:Ro K mg ec cM) (GW:FnS P w K mg base "_law_word" 1 ["_law_e"] (Dk K ec))
  {A:Around}{outer:List Env}{s:Xj}{H:Hp}{args:Args}{Nl:Xf}{scope:Scope}{cl:List (Str×Xi)}{i0:St}{name qual:Str}{params:Arguments}{body:Expr}{pm eF:Value}{tl:XK->TE}{Q:VK}
  (hr:aE (k+2) A) (e0:ff P w K mg base A outer s H) (hb:BindsTo s fd args ((["_law_deed"]:Xf).zip [Value.ref lf])) (C:Hy Nl scope cl i0 H s.heap) (iw:∀x c,cl.lookup x=some c->c∉ du outer)
  (h1:H lf=some (jQ lf (W.kla_obj name qual params body scope cl pm c' eF))) (h2:H c'=some (Fg c' qual))
  (bx:bindArgs (W.kla_fn name qual params body scope cl pm (.ref c') eF) ⟨[],[]⟩=pure [])
  (hco:scope.isCoroutine=false) (cc:scope.isGenerator=false) (hk:scope.kind=.function) (bo:∀x∈scope.names,x.2≠ .cell)
  (dj:∀(A':Around) (ef:List Env) (s':Xj) (H':Hp) (E:XK),aE k (A'.deeper (W.envX qual scope s'.heap.objs.size lf (.ref c') cl))->PE (Ek P w K mg base Nl qual scope lf (.ref c') cl A' ef s' H' E) body (tl E))
  (h:tl (Il K ec cM Q) i0 H Q):codeAny (model P w) A (.call (.ref f) args) (CR aL outer P w H s Q E0) s:=by
 obtain⟨fW,dW,GW,mW,kW,bW⟩:=GW.ex;refine F.at (N:=["_law_deed", "_law_e"]) scTold (vs:=[.ref lf]) Zj (k:=k+1) hr e0 hb (.cons Zj .nil) λad d5=>?_;have own:=Ug (CX:=aL) (P:=P) (w:=w) (K:=K) (mg:=mg) (base:=base) (N:=["_law_deed", "_law_e"]) (qual := "_law_told") (scope:=defScope Aq) (f:=f) (cd:=ad) (A:=A) (outer:=outer) (s:=s) (H:=H) (E:=E0)
 have hrm:∀e:Xi,RoomS 1 ((A.deeper (PyProof.Rows.envOfC "_law_told" (defScope Aq) s.heap.objs.size f ad)).mark (some (.ref e))):=λe=>by
  have q:=d5.mono (show 1<=k+1 by omega);exact⟨q.dp,q.un⟩
 refine⟨_,AE (Uj (tb:=λE=>QN (Lc 0 lf c' qual (W.kla_obj name qual params body scope cl pm c' eF) i0 (tl E))) (th:=Rp K ec cM) own (λP0 xe E hx=>?_) (λCC dx=>?_)),?_⟩
 ·exact AE (AQ (NI (X:=Ff (BB aL P w K mg base ["_law_deed", "_law_e"] "_law_told" (defScope Aq) f ad A outer s H E0) P0 xe) (i:=0) (k:=k+1) Zj (Or.inl Zj) d5 C iw Zj hx bx hco cc hk bo (λs' H'=>dj _ _ s' H' E (d5.deeper _))))
 ·intro aa s1 σ H1 D e oe T oT c I h;obtain⟨hl,⟨j,EP,rfl,kq⟩ |⟨j,d,v,EF,rfl,hxd,kq⟩⟩:=h
  ·refine(?hp:PH (BB aL P w K mg base ["_law_deed", "_law_e"] "_law_told" (defScope Aq) f ad A outer s H E0) CC none _ (λe=>OK 1 (λD σ H=>σ[1]?=some (some (.ref e))/\∀p H',U H H'->H' p=some (.tup [.str "refused", .str (wd j)])->D.rt (.ref p) H') e)) aa s1 σ H1 D e oe T oT c I ?_
   ·refine CL (Dn:=ec 0) EP.cx EX.x0 Zj M.e0 EP.n0 ?_;refine CL (Dn:=ec 1) EP.cx EX.x1 Zj M.e1 EP.n1 ?_;refine CL (Dn:=ec 2) EP.cx EX.x2 Zj M.e2 EP.n2 ?_;refine CL (Dn:=ec 3) EP.cx EX.x3 Zj M.e3 EP.n3 ?_;refine OL (Dn:=cM) (i:=1) (tb:=λ(e:Xi) (D:DQ) (σ:St) (H:Hp)=>σ[1]?=some (some (V.ref e))/\∀p H',U H H'->H' p=some (.tup [.str "refused", .str (wd j)])->D.rt (.ref p) H') scTold.nd Zj Zj EP.cx EX.xm Zj EX.m EP.m (λe oe T oT c=>?_);refine λaa s2 cC H2 D2 I2 h2=>?_;obtain⟨fs,hd,hf1,hf2⟩:=c.fld;refine(?hb2:eN (BY (BB aL P w K mg base ["_law_deed", "_law_e"] "_law_told" (defScope Aq) f ad A outer s H E0) e oe T oT) _ (QN (KP (Dk K ec) e oe (Ah (DR 1) B9)))) aa s2 cC H2 D2 I2 ⟨_,h2.1,Zj,CC,j,fs,c.cls,hd,hf2,.inl c.dict,EP.ea,h2.2⟩;exact AE (AQ (La (X:=BY (BB aL P w K mg base ["_law_deed", "_law_e"] "_law_told" (defScope Aq) f ad A outer s H E0) e oe T oT) (e:=e) (oe:=oe) GW (hrm e) Zj (by simp[BY]) Zj mW kW bW (AA (pv 1) AC)))
   ·exact⟨by rw[List.getElem?_set_self qe],kq⟩
  ·have hj4:=EF.j4;refine(?hq:PH (BB aL P w K mg base ["_law_deed", "_law_e"] "_law_told" (defScope Aq) f ad A outer s H E0) CC (some d) _ (λe=>OK 1 (λD σ H=>σ[1]?=some (some (.ref e))/\H d=some (.xd [(JI j,v)])/\∀p H',U H H'->H' p=some (.tup [.str "refused", .str (wd j),v])->D.rt (.ref p) H') e)) aa s1 σ H1 D e oe T oT c I ?_
   ·have take:∀ {x:Str}{b₀:Stmt}{np pos:Pos}{hs:List ExceptHandler} (Dn:Xi),A4 K Dn=true->(hg:Gl (BB aL P w K mg base ["_law_deed", "_law_e"] "_law_told" (defScope Aq) f ad A outer s H E0) x)->mg x=some (.ref Dn)->(Ds K CC).contains (.ref Dn)=true->(x==("__debug__" : Str))=false ->
      (∀e oe T oT,Cgt CC (some d) e oe T oT->eN (BY (BB aL P w K mg base ["_law_deed", "_law_e"] "_law_told" (defScope Aq) f ad A outer s H E0) e oe T oT) [b₀] (QN (iG (N8 K) (KP (Dk K ec) e oe (Ah (DR 1) B9)) (UX (Ah (Q6 e oe (JI j) (DR 1)) B9))))) ->
      PH (BB aL P w K mg base ["_law_deed", "_law_e"] "_law_told" (defScope Aq) f ad A outer s H E0) CC (some d) (.ExceptHandler (some (.Name x np)) (some "_law_e") [b₀] pos::hs) (λe=>OK 1 (λD σ H=>σ[1]?=some (some (.ref e))/\H d=some (.xd [(JI j,v)])/\∀p H',U H H'->H' p=some (.tup [.str "refused", .str (wd j),v])->D.rt (.ref p) H') e):=λ{x b₀ np pos hs} Dn hD hg hm hc eM hbod =>
     OL (Dn:=Dn) (i:=1) (tb:=λ(e:Xi) (D:DQ) (σ:St) (H:Hp)=>σ[1]?=some (some (V.ref e))/\H d=some (.xd [(JI j,v)])/\∀p H',U H H'->H' p=some (.tup [.str "refused", .str (wd j),v])->D.rt (.ref p) H') scTold.nd rfl rfl EF.cx hD hg hm hc (λe oe T oT c=>by
      refine λaa s2 cC H2 D2 I2 h2=>?_;obtain⟨fs,hd,hf1,hf2⟩:=c.fld;obtain⟨g1,g2,g3⟩:=h2;refine hbod e oe T oT c aa s2 cC H2 D2 I2 ⟨_,g1,rfl,CC,j,fs,c.cls,hd,hf2,.inr ⟨d,_,c.dict,g2⟩,EF.ea,λp H' sp hp=>?_⟩;refine⟨_,g1,d,_,v,rfl,c.dict,sp _ _ g2,(by simp),sl1,λq hq=>?_⟩;have sq:=AH (U.refl H') hq (o:=.tup [v]);refine⟨p,q,_,_,rfl,rfl,aX.of (sq _ _ hp),aX.of AB,(by simp),(by show 2+1<=sizeLine;decide),(λz=>nomatch z),λ_ r hr=>?_⟩
      exact g3 r _ (sp.trans (AH sq hr)) AB) eM
    have pX:∀e oe T oT,Cgt CC (some d) e oe T oT->ExcP (BY (BB aL P w K mg base ["_law_deed", "_law_e"] "_law_told" (defScope Aq) f ad A outer s H E0) e oe T oT) e oe CC:=λe oe T oT c=>by
     obtain⟨fs,hd,_⟩:=c.fld;exact⟨by simp[BY],c.cls,⟨fs,hd⟩⟩
    have bod:∀ {fl:Str}{p1 p2 p3 p4 p5 p6 p7:Pos}{kt:Nat},JI j=fl->∀e oe T oT,Cgt CC (some d) e oe T oT->eN (BY (BB aL P w K mg base ["_law_deed", "_law_e"] "_law_told" (defScope Aq) f ad A outer s H E0) e oe T oT) [.Return (some (.BinOp (.Call (.Name "_law_word" p1) [.Name "_law_e" p2] [] p3) .Add (.Tuple [.Attribute (.Name "_law_e" p4) fl p5] kt p6) p7)) p7] (QN (iG (N8 K) (KP (Dk K ec) e oe (Ah (DR 1) B9)) (UX (Ah (Q6 e oe (JI j) (DR 1)) B9)))):=λae e oe T oT c=>by
     subst ae;exact AE (AQ (Ac (Rq K Zj) (La (X:=BY (BB aL P w K mg base ["_law_deed", "_law_e"] "_law_told" (defScope Aq) f ad A outer s H E0) e oe T oT) (e:=e) (oe:=oe) GW (hrm e) Zj (by simp[BY]) Zj mW kW bW (AA (pv 1) AC)) (A5 (AA (S4 (pX e oe T oT c) EF.g (pv 1) Zj) AC))))
    rcases (show j=0\/j=1\/j=2\/j=3 by omega)with z |z |z |z
    ·subst z;exact take (ec 0) EX.x0 Zj M.e0 EF.m qc (bod Zj)
    ·subst z;refine CL (Dn:=ec 0) EF.cx EX.x0 Zj M.e0 (EF.no 0 qc) ?_;exact take (ec 1) EX.x1 Zj M.e1 EF.m qc (bod Zj)
    ·subst z;refine CL (Dn:=ec 0) EF.cx EX.x0 Zj M.e0 (EF.no 0 qc) ?_;refine CL (Dn:=ec 1) EF.cx EX.x1 Zj M.e1 (EF.no 1 qc) ?_;exact take (ec 2) EX.x2 Zj M.e2 EF.m qc (bod Zj)
    ·subst z;refine CL (Dn:=ec 0) EF.cx EX.x0 Zj M.e0 (EF.no 0 qc) ?_;refine CL (Dn:=ec 1) EF.cx EX.x1 Zj M.e1 (EF.no 1 qc) ?_;refine CL (Dn:=ec 2) EF.cx EX.x2 Zj M.e2 (EF.no 2 qc) ?_;exact take (ec 3) EX.x3 Zj M.e3 EF.m qc (bod Zj)
   ·exact⟨by rw[List.getElem?_set_self qe],hxd,kq⟩
 ·refine⟨Zj,h1,h2,?_⟩
  have e:Su (BB aL P w K mg base ["_law_deed", "_law_e"] "_law_told" (defScope Aq) f ad A outer s H E0).N.length (Rp K ec cM) { nx:=λ_ H'=>Q .aO H',rt:=Q }=Il K ec cM Q:=by
   funext Cv dx H2;unfold Su Il Rp;simp[BB]
  rw[←e]at h;exact h
end
end Mk
end
section
namespace L2
open PySem PySem.Spec PyProof.Rows
noncomputable def Tc (ix:List Nat) (σ:St):St:=ix.map λj=>(σ[j]?).getD none
structure LamN (X:Cx) (Nl:Xf) (ix:List Nat) (scope:Scope) (bZ:List (Str×Xi)):Prop where
 len:ix.length=Nl.length
 nm:∀(i:Nat) (x:Str),Nl[i]?=some x->∃j:Nat,ix[i]?=some j/\X.N[j]?=some x/\X.env.scope.names.lookup x=some .cell/\scope.names.lookup x=some .free
 cl:∀x c,bZ.lookup x=some c->X.env.cells.lookup x=some c
 has:∀x,(scope.names.lookup x=some .cell\/scope.names.lookup x=some .free)->∃c,bZ.lookup x=some c
 fn:∀x,X.fn x=true
section
variable {X:Cx}{aa:LO}{σ:St}{s:Xj}{Nl:Xf}{ix:List Nat}{scope:Scope}{bZ:List (Str×Xi)}
def LamN.cells (L:LamN X Nl ix scope bZ) (I:Inv X aa σ H s):Hy Nl scope bZ (Tc ix σ) H s.heap:=by
 refine⟨λx y c h1 h2=>I.ok.inj x y c (L.cl x c h1) (L.cl y c h2),L.has,λx c h=>⟨I.cell x c (L.cl x c h),I.cG x c (L.cl x c h)⟩,λi x v h1 h2=>?_,?_⟩
 ·obtain⟨j,hj,hN,hk,hf⟩:=L.nm i x h1;refine⟨hf,?_⟩;unfold Tc at h2;rw[ZE,hj]at h2
  have hv:σ[j]?=some (some v):=by
   simp only[Option.map_some,Option.some.injEq]at h2;cases e:σ[j]? with
   |none=>rw[e]at h2;cases h2
   |some o=>rw[e]at h2;simp only[Option.getD_some]at h2;rw[h2]
  obtain⟨m,_,hl⟩:=I.loc;obtain⟨u,r,l⟩:=hl j x v hN hv (.inr (.inl hk));rcases l with⟨l,_⟩ |⟨_,c,e,z⟩
  ·rw[show X.env.kindOf x=X.env.scope.names.lookup x from rfl,hk]at l;cases l
  ·obtain⟨c2,e2⟩:=L.has x (.inr hf);have e3:=L.cl x c2 e2;rw[e]at e3;cases e3;exact⟨u,c,r,e2,z⟩
 ·unfold Tc;rw[AK];exact L.len
def LamN.far (L:LamN X Nl ix scope bZ) (I:Inv X aa σ H s):∀x c,bZ.lookup x=some c->c∉ du X.stack:=λx c h z=>by
 have hc:=L.cl x c h;rcases mem_cons.mp (I.d9 c z)with z |z
 ·exact I.jO x c hc z
 ·obtain⟨_,o,ho,_⟩:=I.ok.dr.mem z;exact absurd (Z2 (lt_size ho) (I.ok.ji x c (L.fn x) hc)) (ZF _)
end
end L2
namespace Mk
open PySem L2 MK
section
variable {X:Cx}{ec:Nat->Xi}{cM c P0:Xi}{ls:List Pos}{cQ:Pos}
def Jx (K:FG) (ec:Nat->Xi) (cM P0:Xi) (qual:Str) (ls:List Pos) (ix:List Nat) (tl:XK->TE):TE:=λσ H Q=>aW H P0 qual ls/\∀H',Jk P0 H H'->aW H' P0 qual ls->tl (Il K ec cM Q) (Tc ix σ) H' Q
def F3 {k:Nat}{f:Xi} (F:aV X.K "_law_told" "_law_told" Aq f fd) (M:QC X.mg ec) (EX:Ro X.K X.mg ec cM) (GW:FnS X.prog X.w X.K X.mg X.base "_law_word" 1 ["_law_e"] (Dk X.K ec))
  (hr:aE (k+2) X.A) (hg:Gl X "_law_told") (hm:X.mg "_law_told" = some (.ref f)) (hkp:W.keepIn X.K (.ref f)=true) (hB:Binds X.K fd ["_law_deed"] [])
  {Nl:Xf}{ix:List Nat}{scope:Scope}{bZ:List (Str×Xi)}{params:Arguments}{body:Expr}{tl:XK->TE}{p pos:Pos}
  (L:Sx X c P0) (hls:cQ∈ls) (a0:∀q∈ls,q=cQ\/(q.line==cQ.line&&q.col==cQ.col)=false) (af:closureFor scope X.env=pure bZ) (di:defaultsOf params X.env=([],[])) (LN:LamN X Nl ix scope bZ)
  (bx:∀pm c' eF,bindArgs (W.kla_fn "<lambda>" (X.env.qual ++ "<lambda>") params body scope bZ pm (.ref c') eF) ⟨[],[]⟩=pure [])
  (hco:scope.isCoroutine=false) (cc:scope.isGenerator=false) (hk:scope.kind=.function) (bo:∀x∈scope.names,x.2≠ .cell)
  (dj:∀(lf c':Xi) (A':Around) (ef:List Env) (s':Xj) (H':Hp) (E:XK),aE k (A'.deeper (W.envX (X.env.qual ++ "<lambda>") scope s'.heap.objs.size lf (.ref c') bZ))->PE (Ek X.prog X.w X.K X.mg X.base Nl (X.env.qual ++ "<lambda>") scope lf (.ref c') bZ A' ef s' H' E) body (tl E))
  (he:starEach [.Lambda params body scope cQ] X.env=(false,eval (.Lambda params body scope cQ) X.env)::starEach [] X.env:=by rfl) (eQ:(backTo pos (starEach [] X.env)).any (·.1)=false:=by rfl) :
  PE X (.Call (.Name "_law_told" p) [.Lambda params body scope cQ] [] pos) (Jx X.K ec cM P0 (X.env.qual ++ "<lambda>") ls ix tl):=by
 intro aa s σ H Q I ⟨hT,h⟩;refine Z3 (Bu I hg hm ?_ qc);have ha:PA X [.Lambda params body scope cQ] (Ah (V0 P0 (X.env.qual ++ "<lambda>") ls (λc' eF=>W.kla_obj "<lambda>" (X.env.qual ++ "<lambda>") params body scope bZ ((X.mg "__name__").getD .none) c' eF)) B9):=AA (Uk L hls a0 af di) AC he;refine W.callWith_K (h₀:=X.base) I.ok.mod.kin hkp (aG (ha pos aa s σ H (λvs H1=>∃lf c' eF,vs=[.ref lf]/\Jk P0 H H1/\aW H1 P0 (X.env.qual ++ "<lambda>") ls/\H1 lf=some (jQ lf (W.kla_obj "<lambda>" (X.env.qual ++ "<lambda>") params body scope bZ ((X.mg "__name__").getD .none) c' eF))/\H1 c'=some (Fg c' (X.env.qual ++ "<lambda>"))) I ⟨hT,λlf c' eF H' _ hs ht h1 h2=>⟨lf,c',eF,rfl,hs,ht,h1,h2⟩⟩) λus s1 ⟨vs,H1,I1,r,lf,c',eF,ev,hs,ht,h1,h2⟩=>⟨I1.cV,?_⟩) he eQ;subst ev;obtain⟨u,eu,ru⟩:=Br r;subst eu;obtain rfl:u=Value.ref lf:=ru;have bb:=hB s1 [.ref lf] I1.cV rfl;rw[Zt]at bb;refine wpAny_call (codeAny_mono (Tb (k:=k) F M EX GW hr I1.env0 bb (LN.cells I1) (LN.far I1) h1 h2 (bx _ _ _) hco cc hk bo (dj lf c') (h H1 hs ht)) λr s' hq=>?_);cases r with
 |error e=>exact False.elim hq
 |ok fl =>
  cases fl with
  |ret u=>exact I1.after hq
  |next=>exact False.elim hq
  |brk=>exact False.elim hq
  |cont=>exact False.elim hq
end
section
variable {cM cR:Xi}
structure U8 (P:Program) (w:World) (K:FG) (mg:SV) (base:Heap) (cM:Xi):Prop where
 cls:mg "MarkError" = some (.ref cM)
 ga:W.specialIn K (.ref cM) "__getattribute__" = some (some (.builtin "type.__getattribute__"))
 rd:W.readsIn K cM (.type "type")=true
 fn:∃f fd,W.findCls K (.ref cM) (.type "type") "__init__" = some (.val (.ref f))/\AZ P w K mg base aL 1 f fd ["self", "words"] (spErrInit K)/\W.keepIn K (.ref f)=true/\Binds K fd ["self", "words"] []
inductive spRestInit (K:FG) (cM:Xi) (vs:Xh) (H:Hp) (Q:VK) (_E:XK):Prop where
 |mk (e C:Xi) (n:Int) (cD:vs=[.ref e,.int n]) (cE:n.natAbs.log2<1920) (cJ:A4 K C=true) (cW:H e=some (Ef e C none)) (eJ:Ld K C cM "bits") (fV:∀d,H d=none->d≠e->Q .aO (upd (upd H e (Ef e C (some d))) d (.xd [("bits", .int n)])))
def Nn:AM ["self", "bits"] ["self", "bits"] (defScope DX):=cH
def MP {f:Xi} (F:aV K "__init__" "BadRest.__init__" DX f fd) (ME:U8 P w K mg base cM):AZ P w K mg base aL 2 f fd ["self", "bits"] (spRestInit K cM):=by
 obtain⟨fI,dI,hf,GI,kI,bI⟩:=ME.fn;have mM:=ME.cls;refine F.m Nn λvs H Q E h=>?_;obtain⟨e,C,n,rfl,hn,hC,he,S,k⟩:=h;refine⟨Zj,λad A outer s hr=>?_⟩;refine⟨_,AG (BD (Hz Zj mM ME.ga ME.rd hf GI hr kI bI .nil AR (AA (pv 0) (AA (ON qb (pv 1)) AC)))) (AE (OM (M:=cM) (pv 0) (pv 1) Zj)),?_⟩;refine⟨_,Zj,_,Zj,.inl ⟨n,Zj,hn⟩,λz=>⟨e,C,none,z,Zj,hC,he,?_⟩⟩;exact⟨_,Zj,_,Zj,e,C,Zj,he,S,k⟩
def UqR (H:Hp) (E:XK) (cR:Xi) (n:Int):Prop:=∀e d H',U H H'->H e=none->H d=none->d≠e->H' e=some (Fe e cR (some d))->H' d=some (.xd [("bits", .int n)])->E (.ref cR) (some d) H'
structure Rr (P:Program) (w:World) (K:FG) (mg:SV) (base:Heap) (cM cR:Xi):Prop where
 cls:mg "BadRest" = some (.ref cR)
 make:∃f fd,MkX K cR f/\AZ P w K mg base aL 2 f fd ["self", "bits"] (spRestInit K cM)/\Binds K fd ["self", "bits"] []
 st:Ld K cR cM "bits"
def QD {σ:St}{H1:Hp}{E:XK}{D:DQ}{n:Int}{te:TE} (hC:A4 K cR=true) (S:Ld K cR cM "bits") (hn:n.natAbs.log2<1920) (s1:U H H1) (h:UqR H E cR n) (ht:te σ H1=λQ=>Q (.int n) H1) :
  KM cR (KL cR (spRestInit K cM) [] E0 (Ah te B9)) E D σ H1:=by
 show te σ H1 _;rw[ht];refine⟨(by show 1<=1000;decide),λa ha=>?_⟩;refine⟨a,cR,n,Zj,hn,hC,AB,S,λd hd a0=>⟨Zj,a,some d,Zj,?_,?_⟩⟩
 ·rw[AF (Ne.symm a0),AB]
 ·have eT:H1 d=none:=by rw[AF a0]at hd;exact hd
  refine h a d _ (λb u e=>?_) (none_of s1 ha) (none_of s1 eT) a0 AB ?_
  ·have e1:=s1 _ _ e;have nb:b≠a:=AI e1 ha;have nd:b≠d:=AI e1 eT;rw[AF nb,AF nd,AF nb,AF nb];exact e1
  ·rw[AF a0,AB]
end
noncomputable def plain (i:Int):Nat:=if 0<=i then i.toNat else (-i - 1).toNat
noncomputable def AU (due:Aa) (i:Int):Nat:=plain i - (plain i&&&kn due)
def Gs (i:Int):(plain i:Int)=if 0<=i then i else -i - 1:=by
 unfold plain;split <;> omega
def Rs {i:Int} (h1:-1099511627776<=i) (h2:i<1099511627776):plain i<2 ^ 40:=by
 have e:(2:Nat) ^ 40=1099511627776:=by decide
 unfold plain;split <;> omega
def Im (x m:Nat):(x&&&m) - ((x&&&m)&&&m)=0:=by
 have h:(x&&&m)&&&m=x&&&m:=by
  refine Nat.eq_of_testBit_eq λk=>?_;simp only[Nat.testBit_and];cases x.testBit k <;> cases m.testBit k <;> rfl
 omega
def Gu {n:Nat} (h:n<2 ^ 40):((n:Int)).natAbs.log2<1920:=by
 rw[Int.natAbs_natCast];rcases Nat.eq_zero_or_pos n with z |z
 ·subst z;decide
 ·have:=(Nat.log2_lt qe).mpr h;omega
section
variable {cM cR:Xi}
inductive spMade (C VC cR:Xi) (vs:Xh) (H:Hp) (Q:VK) (E:XK):Prop where
 |mk (kp:Xi) (due:Aa) (r:Str) (i:Int) (cD:vs=[.ref kp,.int i]) (cE:aU C H kp due r) (cJ:kn due<2 ^ 20) (cW:0<=i) (eJ:i<1099511627776) (fV:((AU due i≠0/\r = "bar" /\ UqR H E cR (AU due i:Nat)) \/    (¬ (AU due i≠0/\r = "bar")/\AU due i≠0/\r = "leave" /\ ∀H',U H H'->Q (.int i) H') \/    (¬ (AU due i≠0/\r = "bar")/\¬ (AU due i≠0/\r = "leave")/\∀q H',U H H'->MM VC H' q kp (if r = "keep" then plain i else plain i - AU due i)->Q (.ref q) H')))
def scMade:AM ["kind", "number", "bits", "rest"] ["kind", "number"] (defScope OS):=cH
def Td {f:Xi}{tL:Tok} (F:aV K "made" "made" OS f fd) (hL:mg "LIMIT" = some (.int 1099511627776 tL)) (T:IZ K C) (VO:T7 P w K mg base C VC) (RO:Rr P w K mg base cM cR)
  (GW:Fn P w K mg base "is_whole" 1 ["thing"] spIsWhole) (GR:Fn P w K mg base "rest_of" 3 ["kind", "number"] (spRestOf C)) (GRe:Mt P w K mg base C "rest" 1 ["self"] (spRest C)) :
  AZ P w K mg base (eX P w) 6 f fd ["kind", "number"] (spMade C VC cR):=by
 obtain⟨fW,dW,GW,mW,kW,bW⟩:=GW.ex;obtain⟨fR,dR,GR,mR,kR,bR⟩:=GR.ex;obtain⟨fE,dE,GE,mE,bE⟩:=GRe.ex;obtain⟨fI,dI,MI,GI,bI⟩:=VO.make;obtain⟨fX,dX,MX,GX,bX⟩:=RO.make;have mV:=VO.cls;have mB:=RO.cls;refine F.n scMade λvs H Q E h=>?_;obtain⟨kp,due,r,i,rfl,KA,hk20,hi1,iT,h⟩:=h;refine⟨Zj,λad A outer s hr=>?_⟩;have d5:aE 1 _:=hr.mono qc;have eP:aE 2 _:=hr.mono qc;have iJ:aE 3 _:=hr.mono qc;have rz:=HQ (P:=P) (w:=w) (K:=K) (mg:=mg) (base:=base) (N:=["kind", "number", "bits", "rest"]) (qual := "made") (scope:=defScope OS) (f:=f) (cd:=ad) (A:=A) (outer:=outer) (s:=s) (H:=H) (E:=E);obtain⟨kr,d1,d2,ah⟩:=KA.ins
 refine⟨_,AG (Ai (PW.pt (Dv (BM (Aw (AN GW d5 Zj mW kW bW .nil AR (AA (pv 1) AC)))) (Cc (BM (FQ FO Gz (Eg Dx (BL (v:=.int 1099511627776) Zj hL ⟨tL,Zj⟩)) (pv 1) (BL (v:=.int 1099511627776) Zj hL ⟨tL,Zj⟩)))))) (AE Am) AT)
  (A1 (Ae (i:=2) scMade.nd rfl (Or.inl rfl) (Bf (AL K0 (pv 1) AD (AS _)) (pv 1) (Ac Cg (Eg Dx (pv 1)) AD)))
  (AG (Ae (i:=3) scMade.nd rfl (Or.inl rfl) (AN GR iJ rfl mR kR bR .nil AR (AA (pv 0) (AA (pv 2) AC))))
  (A1 (Ai (PW.pt (CP (AL FN (pv 3) AD (AS _)) (Bh (AL Ax (Bv (pv 0) T.cl mE GE d5 bE .nil AR) AJ (AS _))))) (AE (D8 rz rfl MX.cls (D7 MX GX iJ rfl mB bX .nil AR (AA (pv 3) AC)))) AT)
  (AG (Ai (AL Gz (pv 1) AD (AS _)) (AE Am) AT)
  (A1 (Ai (PW.pt (CP (AL FN (pv 3) AD (AS _)) (Bh (AL Ax (Bv (pv 0) T.cl mE GE d5 bE .nil AR) AJ (AS _))))) (AE (AQ (pv 1))) AT)
  (AE (AQ (SZ MI GI hr rfl mV bI .nil AR (AA (pv 0) (AA (Bf (AL Ax (Bv (pv 0) T.cl mE GE d5 bE .nil AR) AJ (AS _)) (pv 2) (Ac Cg (pv 2) (pv 3))) AC)))))))))),?_⟩
 have noR:(IW d1 d2 r).lookup ("rest" : Str)=none:=(Ec _ _ _);refine⟨_,Zj,i,Zj,_,Zj,?_⟩;refine AV ?_;refine⟨_,Zj,_,Zj,_,_,Zj,Zj,_,Zj,?_⟩;rw[ZL (show -1099511627776<=i by omega)];refine Ag ?_;refine⟨_,_,Zj,Zj,_,Zj,?_⟩;rw[ZL (show i<1099511627776 from iT)];refine AV ?_;refine⟨λσ H1=>σ=[some (.ref kp),some (.int i),some (.int (plain i:Nat)),none]/\H1=H,λR hR=>?_,?_⟩
 ·refine⟨_,Zj,_,_,Zj,Zj,_,Zj,?_⟩;have e:=Gs i;rw[Zp hi1]at e;rw[ZL (show 0<=i from hi1)];refine Ag ⟨_,Zj,hR _ _ ⟨?_,Zj⟩⟩;rw[e];rfl
 rintro σ H0 ⟨rfl,rfl⟩;refine⟨_,Zj,_,Zj,kp,due,r,plain i,Zj,KA,λH1 s1=>?_⟩;have hb40:=Rs (show -1099511627776<=i by omega) iT;have hs40:AU due i<2 ^ 40:=Nat.lt_of_le_of_lt (Nat.sub_le _ _) hb40;have KA1:=KA.same s1;have c8:=s1 _ _ ah;have eS:∀n:Nat,decide (V.int (n:Int)=V.int 0)=decide (n=0):=λn=>decide_eq_decide.mpr ⟨λz=>by have:=V.int.inj z;omega,λz=>by rw[z];rfl⟩;refine⟨λσ H2=>¬ (AU due i≠0/\r = "bar")/\σ=[some (.ref kp),some (.int i),some (.int (plain i:Nat)),some (.int (AU due i:Nat))]/\H2=H1,λR hR=>?_,?_⟩
 ·refine⟨_,Zj,Zj,_,Zj,?_⟩;show if (!decide (V.int ((AU due i:Nat):Int)=V.int 0))=true then _ else _
  rw[eS];by_cases hz:AU due i=0
  ·rw[ZL hz];exact AV (AV (hR _ _ ⟨λz=>z.1 hz,Zj,Zj⟩))
  ·rw[ZO hz];refine Ag ?_;refine⟨_,Zj,kp,kr,_,Zj,c8,noR,kp,due,r,Zj,KA1,Zj,_,Zj,?_⟩;by_cases bq:r = "bar"
   ·rw[ZL (show V.str r=V.str "bar" by rw[bq])];refine Ag ?_;rcases h with⟨_,_,hU⟩ |⟨hn,_⟩ |⟨hn,_⟩
    ·exact QD (te:=DR 3) MX.cls RO.st (Gu hs40) s1 hU (by funext Q';exact propext ⟨λ⟨v,e,q⟩=>by cases e;exact q,λq=>⟨_,Zj,q⟩⟩)
    ·exact absurd ⟨hz,bq⟩ hn
    ·exact absurd ⟨hz,bq⟩ hn
   ·rw[ZO (show ¬ V.str r=V.str "bar" from λz=>bq (V.str.inj z))];exact AV (hR _ _ ⟨λz=>bq z.2,Zj,Zj⟩)
 rintro σ H2 ⟨hnb,rfl,rfl⟩;refine⟨_,rfl,_,_,rfl,rfl,_,rfl,?_⟩;rcases h with⟨z1,z2,_⟩ |⟨_,hs0,hlv,k⟩ |⟨_,hnl,k⟩
 ·exact absurd ⟨z1,z2⟩ hnb
 ·rw[ZO (show ¬ i<0 by omega)];refine AV ?_;refine⟨λ_ _=>False,λR hR=>?_,λ_ _ z=>z.elim⟩;refine⟨_,Zj,Zj,_,Zj,?_⟩;show if (!decide (V.int ((AU due i:Nat):Int)=V.int 0))=true then _ else _
  rw[eS,ZO hs0];refine Ag ?_;refine⟨_,Zj,kp,kr,_,Zj,c8,noR,kp,due,r,Zj,KA1,Zj,_,Zj,?_⟩;rw[ZL (show V.str r=V.str "leave" by rw[hlv])];exact Ag ⟨_,Zj,k _ s1⟩
 ·rw[ZO (show ¬ i<0 by omega)];refine AV ?_;refine⟨λσ H3=>σ=[some (.ref kp),some (.int i),some (.int (plain i:Nat)),some (.int (AU due i:Nat))]/\H3=H2,λR hR=>?_,?_⟩
  ·refine⟨_,Zj,Zj,_,Zj,?_⟩;show if (!decide (V.int ((AU due i:Nat):Int)=V.int 0))=true then _ else _
   rw[eS];by_cases hz:AU due i=0
   ·rw[ZL hz];exact AV (AV (hR _ _ ⟨Zj,Zj⟩))
   ·rw[ZO hz];refine Ag ?_;refine⟨_,Zj,kp,kr,_,Zj,c8,noR,kp,due,r,Zj,KA1,Zj,_,Zj,?_⟩;rw[ZO (show ¬ V.str r=V.str "leave" from λz=>hnl ⟨hz,V.str.inj z⟩)];exact AV (hR _ _ ⟨Zj,Zj⟩)
  rintro σ H3 ⟨rfl,rfl⟩;refine⟨_,Zj,_,Zj,kp,kr,_,Zj,c8,noR,kp,due,r,Zj,KA1,Zj,_,Zj,?_⟩
  have fin:∀n:Nat,n=(if r = "keep" then plain i else plain i - AU due i)->n<2 ^ 40->(r = "keep" \/ n - (n&&&kn due)=0)->∀q dq,H3 q=none->H3 dq=none->dq≠q->spVInit C VC [.ref q,.ref kp,.int (n:Int)] (upd (upd H3 dq (.own q)) q (.ins VC dq [])) (λv H4=>v=.aO/\Q (.ref q) H4) E0:=λn en hn hk q dq hq hdq a0=>by
   have sN:=Ij (D:=VC) hq hdq a0;exact⟨q,dq,kp,due,r,n,Zj,AB,KA1.same sN,hn,hk,λH4 s4 hV=>⟨Zj,k q H4 (s1.trans (Jv sN hq s4)) (en ▸ hV)⟩⟩
  by_cases bt:r = "keep"
  ·rw[ZL (show V.str r=V.str "keep" by rw[bt])];refine Ag ⟨_,Zj,?_⟩;exact fin (plain i) (by rw[Zp bt]) hb40 (.inl bt)
  ·rw[ZO (show ¬ V.str r=V.str "keep" from λz=>bt (V.str.inj z))];refine AV ⟨_,Zj,_,Zj,_,_,Zj,Zj,?_⟩;have hle:AU due i<=plain i:=Nat.sub_le _ _;have es:((plain i:Nat):Int) - ((AU due i:Nat):Int)=((plain i - AU due i:Nat):Int):=by omega
   have ek:plain i - AU due i=plain i&&&kn due:=by
    unfold AU;have:=Nat.and_le_left (n:=plain i) (m:=kn due);omega
   intro q dq hq hdq a0;have:=fin (plain i - AU due i) (by rw[Zq bt]) qe (.inr (by rw[ek];exact Im _ _)) q dq hq hdq a0;rw[←es]at this;exact this
end
section
def Au {d:Xi}{x y x' y':Int} (h:H d=some (.lst [.int x,.int y])):aH d H (upd H d (.lst [.int x',.int y'])):=⟨λb o e hb=>by rw[AF hb];exact e,⟨x',y',AB⟩⟩
inductive spLMade (vs:Xh) (H:Hp) (Q:VK) (_E:XK):Prop where
 |mk (t e m:Xi) (due:Aa) (r:Str) (i:Int) (cD:vs=[.ref t,.str r,.int i]) (cE:H t=some (.dK (Nj due e m))) (cJ:0<=i) (cW:((AU due i≠0/\r = "bar" /\ ∀p,H p=none->Q (.ref p) (upd H p (.tup [.str "refused", .str "BadRest", .int (AU due i:Nat)]))) \/    (¬ (AU due i≠0/\r = "bar")/\AU due i≠0/\r = "leave" /\ ∀p,H p=none->Q (.ref p) (upd H p (.tup [.str "left", .int i]))) \/    (¬ (AU due i≠0/\r = "bar")/\¬ (AU due i≠0/\r = "leave")/\Q (.int ((if r = "keep" then plain i else plain i - AU due i:Nat):Int)) H)))
def scLMade:AM ["_law_table", "_law_way", "_law_number", "_law_plain", "_law_strange"] ["_law_table", "_law_way", "_law_number"] (defScope IN):=cH
def Rt {f:Xi} (F:aV K "_law_made" "_law_made" IN f fd):AZ P w K mg base aL 1 f fd ["_law_table", "_law_way", "_law_number"] spLMade:=by
 refine F.m scLMade λvs H Q E h=>?_;obtain⟨t,e,m,due,r,i,rfl,ht,jG,h⟩:=h;refine⟨Zj,λad A outer s hr=>?_⟩;have hu:=Ch hr
 refine⟨_,A1 (Ae (i:=3) scLMade.nd Zj (Or.inl Zj) (Bf (AL K0 (pv 2) AD (AS _)) (pv 2) (Ac Cg (Ac Cg AD (pv 2)) AD)))
  (AG (Ae (i:=4) scLMade.nd rfl (Or.inl rfl) (Ac Cg (pv 3) (Ac DS (pv 3) (BU hu (pv 0) AJ (λ_ _=>rfl)))))
  (A1 (Ai (PW.pt (CP (AL G3 (pv 4) AD (AS _)) (Bh (AL Ax (pv 1) AJ (AS _))))) (AE (AQ (A5 (AA AJ (AA AJ (AA (pv 4) AC)))))) AT)
  (AG (Ai (AL Gz (pv 2) AD (AS _)) (AE Am) AT)
  (A1 (Ai (PW.pt (CP (AL G3 (pv 4) AD (AS _)) (Bh (AL Ax (pv 1) AJ (AS _))))) (AE (AQ (A5 (AA AJ (AA (pv 2) AC))))) AT)
  (AE (AQ (Bf (AL Ax (pv 1) AJ (AS _)) (pv 2) (Ac DS (pv 2) (BU hu (pv 0) AJ (λ_ _=>rfl)))))))))),?_⟩
 refine⟨λσ H1=>σ=[some (.ref t),some (.str r),some (.int i),some (.int (plain i:Nat)),none]/\H1=H,λR hR=>?_,?_⟩
 ·refine⟨_,Zj,_,_,Zj,Zj,_,Zj,?_⟩;have e:=Gs i;rw[Zp jG]at e;rw[ZL (show 0<=i from jG)];refine Ag ⟨_,Zj,hR _ _ ⟨?_,Zj⟩⟩;rw[e];rfl
 rintro σ H0 ⟨rfl,rfl⟩;refine⟨_,Zj,_,Zj,_,Zj,t,_,Zj,.inl ⟨_,Sum.inr "known", .inl ht,Zj,(DN _ _ _).symm⟩,_,_,Zj,Zj,_,_,Zj,Zj,?_⟩
 have es:(λi j=>V.int (i - j)) ((plain i:Nat):Int) (Builtin.bitAnd ((plain i:Nat):Int) ((Av (due.map (·.2)):Nat):Int))=V.int ((AU due i:Nat):Int):=by
  show V.int (((plain i:Nat):Int) - Builtin.bitAnd ((plain i:Nat):Int) ((Av (due.map (·.2)):Nat):Int))=_;rw[Bx];have:=Nat.and_le_left (n:=plain i) (m:=kn due);unfold AU;congr 1;show((plain i:Nat):Int) - ((plain i&&&kn due:Nat):Int)=_;omega
 have eG:∀n:Nat,decide ((0:Int)<(n:Int))=!decide (n=0):=λn=>by
  by_cases z:n=0
  ·subst z;rfl
  ·rw[ZL (show(0:Int)<(n:Int) by omega),ZO z];rfl
 refine⟨λσ H2=>¬ (AU due i≠0/\r = "bar")/\σ=[some (.ref t),some (.str r),some (.int i),some (.int (plain i:Nat)),some (.int (AU due i:Nat))]/\H2=H0,λR hR=>?_,?_⟩
 ·refine⟨_,congrArg (λz=>some (some z)) es,_,_,Zj,Zj,_,Zj,?_⟩;rw[eG];by_cases hz:AU due i=0
  ·rw[ZL hz];refine AV (AV (hR _ _ ⟨λz=>z.1 hz,?_,Zj⟩));rw[←es];rfl
  ·rw[ZO hz];refine Ag ?_;refine⟨_,Zj,Zj,_,Zj,?_⟩;by_cases bq:r = "bar"
   ·rw[ZL (show V.str r=V.str "bar" by rw[bq])];refine Ag ?_;rcases h with⟨_,_,k⟩ |⟨hn,_⟩ |⟨hn,_⟩
    ·exact⟨_,congrArg (λz=>some (some z)) es,gO,k⟩
    ·exact absurd ⟨hz,bq⟩ hn
    ·exact absurd ⟨hz,bq⟩ hn
   ·rw[ZO (show ¬ V.str r=V.str "bar" from λz=>bq (V.str.inj z))];refine AV (hR _ _ ⟨λz=>bq z.2,?_,Zj⟩);rw[←es];rfl
 rintro σ H2 ⟨hnb,rfl,rfl⟩;refine⟨_,rfl,_,_,rfl,rfl,_,rfl,?_⟩;rcases h with⟨z1,z2,_⟩ |⟨_,hs0,hlv,k⟩ |⟨_,hnl,k⟩
 ·exact absurd ⟨z1,z2⟩ hnb
 ·rw[ZO (show ¬ i<0 by omega)];refine AV ?_;refine⟨λ_ _=>False,λR hR=>?_,λ_ _ z=>z.elim⟩;refine⟨_,Zj,_,_,Zj,Zj,_,Zj,?_⟩;rw[eG,ZO hs0];refine Ag ?_;refine⟨_,Zj,Zj,_,Zj,?_⟩;rw[ZL (show V.str r=V.str "leave" by rw[hlv])];exact Ag ⟨_,Zj,eV,k⟩
 ·rw[ZO (show ¬ i<0 by omega)];refine AV ?_;refine⟨λσ H3=>σ=[some (.ref t),some (.str r),some (.int i),some (.int (plain i:Nat)),some (.int (AU due i:Nat))]/\H3=H2,λR hR=>?_,?_⟩
  ·refine⟨_,Zj,_,_,Zj,Zj,_,Zj,?_⟩;rw[eG];by_cases hz:AU due i=0
   ·rw[ZL hz];exact AV (AV (hR _ _ ⟨Zj,Zj⟩))
   ·rw[ZO hz];refine Ag ?_;refine⟨_,Zj,Zj,_,Zj,?_⟩;rw[ZO (show ¬ V.str r=V.str "leave" from λz=>hnl ⟨hz,V.str.inj z⟩)];exact AV (hR _ _ ⟨Zj,Zj⟩)
  rintro σ H3 ⟨rfl,rfl⟩;have ep:=Gs i;rw[Zp jG]at ep;refine⟨_,Zj,Zj,_,Zj,?_⟩;by_cases bt:r = "keep"
  ·rw[ZL (show V.str r=V.str "keep" by rw[bt])];rw[Zp bt,ep]at k;exact Ag ⟨_,Zj,k⟩
  ·rw[ZO (show ¬ V.str r=V.str "keep" from λz=>bt (V.str.inj z))];refine AV ⟨_,Zj,_,Zj,t,_,Zj,.inl ⟨_,Sum.inr "known", .inl ht,Zj,(DN _ _ _).symm⟩,_,_,Zj,Zj,?_⟩
   have ek:(λi j=>V.int (Builtin.bitAnd i j)) i ((Av (due.map (·.2)):Nat):Int)=V.int ((plain i - AU due i:Nat):Int):=by
    show V.int (Builtin.bitAnd i ((Av (due.map (·.2)):Nat):Int))=_;have ei:Builtin.bitAnd i ((Av (due.map (·.2)):Nat):Int)=Builtin.bitAnd ((plain i:Nat):Int) ((Av (due.map (·.2)):Nat):Int):=by rw[ep]
    rw[ei,Bx];have:=Nat.and_le_left (n:=plain i) (m:=kn due);unfold AU;congr 1;show((plain i&&&kn due:Nat):Int)=_;omega
   rw[Zq bt,←ek]at k;exact k
def Ki (VC:Xi):Sp:=λvs H Q _=>(∃(p kp:Xi) (n:Nat),vs=[.ref p]/\MM VC H p kp n/\Q (.int (n:Int)) H)\/(∃(p:Xi) (xs:Xh),vs=[.ref p]/\H p=some (.tup xs)/\Q (.ref p) H) \/
 ∃i:Int,vs=[.int i]/\∀p,H p=none->Q (.ref p) (upd H p (.tup [.str "left", .int i]))
def Te:AM ["_law_thing"] ["_law_thing"] (defScope Gk):=cH
def Ru {f:Xi} (F:aV K "_law_shown" "_law_shown" Gk f fd) (B:Bl mg) (VT:Rk K VC) (VI:KIsi K VC) (mV:mg "Value" = some (.ref VC)) (hI:W.kitOne K (.type "int") (.ref VC)=some false) (hT:W.kitOne K (.type "tuple") (.ref VC)=some false)
  (GVN:Mt P w K mg base VC "number" 1 ["self"] (spVNumber VC)):AZ P w K mg base aL 2 f fd ["_law_thing"] (Ki VC):=by
 obtain⟨fVN,dVN,GVN,mVN,bVN⟩:=GVN.ex;refine F.ok Te (λvs H Q E h=>?_) (λad A outer s H vs Q E hr h=>?_)
 ·rcases h with⟨p,kp,n,rfl,_⟩ |⟨p,xs,rfl,_⟩ |⟨i,rfl,_⟩ <;> rfl
 ·refine⟨_,AG (Ai (Aw (AX (P7 K Zj) Zj B.fk IR (AA (pv 0) (AA (BL (v:=.ref VC) Zj mV Zj) AC)))) (AE (AQ (Bv (pv 0) VT.cl mVN GVN hr bVN .nil AR))) AT)
   (AE (AQ (Bf (Aw (B2 K rfl rfl B.fk rfl B.tuple Fx (pv 0))) (pv 0) (A5 (AA AJ (AA (pv 0) AC)))))),?_⟩
  rcases h with⟨p,kp,n,rfl,⟨dx,hp⟩,k⟩ |⟨p,xs,rfl,hp,k⟩ |⟨i,rfl,k⟩
  ·refine⟨_,Zj,_,VC,_,true,Zj,VI.ty hp,Ii K VC,_,Zj,?_⟩;refine Ag ?_;exact⟨_,Zj,p,dx,_,Zj,hp,V8 _ _ qb qb,p,kp,n,Zj,⟨dx,hp⟩,k⟩
  ·refine⟨_,Zj,_,VC,_,false,Zj,.tup hp,hT,_,Zj,?_⟩;refine AV ?_;refine⟨_,Zj,_,_,_,true,Zj,.tup hp,Zj,_,Zj,?_⟩;exact Ag ⟨_,Zj,k⟩
  ·refine⟨_,Zj,_,VC,_,false,Zj,.int i,hI,_,Zj,?_⟩;refine AV ?_;refine⟨_,Zj,_,_,_,false,Zj,.int i,Zj,_,Zj,?_⟩;exact AV ⟨_,Zj,eV,k⟩
end
def AtV (v:V):Prop:=v=.aO\/∃n:Int,v=.int n/\n.natAbs.log2<1920
def eR (K:FG) (T:String) (H:Hp) (v:V):Prop:=(∃t,(∀H,dY K H v t)/\W.kitOne K t (.type T)=some false)\/(∃a xs,v=.ref a/\H a=some (.tup xs)/\W.kitOne K (.type "tuple") (.type T)=some false) \/
 ∃a xs,v=.ref a/\H a=some (.lst xs)/\(∀x y:Int,xs≠ [.int x,.int y])/\W.kitOne K (.type "list") (.type T)=some false
def eR.ty {T:String}{v:V} (h:eR K T H v):∃t,dY K H v t/\W.kitOne K t (.type T)=some false:=by
 rcases h with⟨t,h,k⟩ |⟨a,xs,rfl,h,k⟩ |⟨a,xs,rfl,h,_,k⟩
 ·exact⟨t,h H,k⟩
 ·exact⟨_,.tup h,k⟩
 ·exact⟨_,.lst h,k⟩
def eR.same {T:String}{v:V} (s:U H H') (h:eR K T H v):eR K T H' v:=by
 rcases h with h |⟨a,xs,e,h,k⟩ |⟨a,xs,e,h,n,k⟩
 ·exact .inl h
 ·exact .inr (.inl ⟨a,xs,e,s _ _ h,k⟩)
 ·exact .inr (.inr ⟨a,xs,e,s _ _ h,n,k⟩)
section
variable {cM cR:Xi}
def Rv {T:String} (h:W.kitOne K (.type "NoneType") (.type T)=some false):eR K T H .aO:=.inl ⟨_,λ_=>.aO,h⟩
def U9 {T:String}{i:Int} (h:W.kitOne K (.type "int") (.type T)=some false):eR K T H (.int i):=.inl ⟨_,λ_=>.int i,h⟩
def VA {T:String}{x:Str} (h:W.kitOne K (.type "str") (.type T)=some false):eR K T H (.str x):=.inl ⟨_,λ_=>.str x,h⟩
inductive spTextInit (K:FG) (cM:Xi) (vs:Xh) (H:Hp) (Q:VK) (_E:XK):Prop where
 |mk (e C:Xi) (v:V) (cD:vs=[.ref e,v]) (cE:AtV v) (cJ:A4 K C=true) (cW:H e=some (Ef e C none)) (eJ:Ld K C cM "at") (fV:∀d,H d=none->d≠e->Q .aO (upd (upd H e (Ef e C (some d))) d (.xd [("at", v)])))
def No:AM ["self", "at"] ["self", "at"] (defScope DY):=cH
def MQ {f:Xi} (F:aV K "__init__" "BadText.__init__" DY f fd) (ME:U8 P w K mg base cM):AZ P w K mg base aL 2 f fd ["self", "at"] (spTextInit K cM):=by
 obtain⟨fI,dI,hf,GI,kI,bI⟩:=ME.fn;have mM:=ME.cls;refine F.m No λvs H Q E h=>?_;obtain⟨e,C,v,rfl,hn,hC,he,S,k⟩:=h;refine⟨Zj,λad A outer s hr=>?_⟩;refine⟨_,AG (BD (Hz Zj mM ME.ga ME.rd hf GI hr kI bI .nil AR (AA (pv 0) (AA (ON qb (pv 1)) AC)))) (AE (OM (M:=cM) (pv 0) (pv 1) Zj)),?_⟩;refine⟨_,Zj,_,Zj,hn.elim (λz=>.inr (.inr z)) .inl,λz=>⟨e,C,none,z,Zj,hC,he,?_⟩⟩;exact⟨_,Zj,_,Zj,e,C,Zj,he,S,k⟩
def UqA (H:Hp) (E:XK) (cR:Xi) (v:V):Prop:=∀e d H',U H H'->H e=none->H d=none->d≠e->H' e=some (Fe e cR (some d))->H' d=some (.xd [("at", v)])->E (.ref cR) (some d) H'
structure Of (P:Program) (w:World) (K:FG) (mg:SV) (base:Heap) (cM cR:Xi):Prop where
 cls:mg "BadText" = some (.ref cR)
 make:∃f fd,MkX K cR f/\AZ P w K mg base aL 2 f fd ["self", "at"] (spTextInit K cM)/\Binds K fd ["self", "at"] []
 st:Ld K cR cM "at"
def QE {σ:St}{H1:Hp}{E:XK}{D:DQ}{v:V}{te:TE} (hC:A4 K cR=true) (S:Ld K cR cM "at") (hn:AtV v) (s1:U H H1) (h:UqA H E cR v) (ht:∀Q:VK,Q v H1->te σ H1 Q) :
  KM cR (KL cR (spTextInit K cM) [] E0 (Ah te B9)) E D σ H1:=by
 refine ht _ ?_;refine⟨(by show 1<=1000;decide),λa ha=>?_⟩;refine⟨a,cR,v,Zj,hn,hC,AB,S,λd hd a0=>⟨Zj,a,some d,Zj,?_,?_⟩⟩
 ·rw[AF (Ne.symm a0),AB]
 ·have eT:H1 d=none:=by rw[AF a0]at hd;exact hd
  refine h a d _ (λb u e=>?_) (none_of s1 ha) (none_of s1 eT) a0 AB ?_
  ·have e1:=s1 _ _ e;have nb:b≠a:=AI e1 ha;have nd:b≠d:=AI e1 eT;rw[AF nb,AF nd,AF nb,AF nb];exact e1
  ·rw[AF a0,AB]
def V9 (K:FG) (H:Hp) (v:V):Prop:=v=.bl true\/eR K "int" H v
def EO (K:FG):Sp:=λvs H Q _=>(∃i:Int,vs=[.int i]/\Q (.bl true) H)\/∃v,vs=[v]/\V9 K H v/\Q (.bl false) H
def Gv {f:Xi} (F:aV K "is_whole" "is_whole" Fs f fd) (B:Bl mg):AZ P w K mg base aL 1 f fd ["thing"] (EO K):=by
 refine F.ok Pr (λvs H Q E h=>?_) (λad A outer s H vs Q E hr h=>?_)
 ·rcases h with⟨i,rfl,_⟩ |⟨v,rfl,_⟩ <;> rfl
 ·refine⟨_,AE (AQ (C1 (B2 K rfl rfl B.fk rfl B.int IS (pv 0)) (C0 (QM (B2 K rfl rfl B.fk rfl B.bool TH (pv 0)))))),?_⟩;rcases h with⟨n,rfl,k⟩ |⟨v,rfl,hv,k⟩
  ·refine⟨_,Zj,_,_,_,true,Zj,.int n,Zj,_,Zj,?_⟩;exact⟨_,Zj,_,_,_,false,Zj,.int n,qd,_,Zj,k⟩
  ·rcases hv with rfl |hv
   ·refine⟨_,Zj,_,_,_,true,Zj,.bl true,qd,_,Zj,?_⟩;exact⟨_,Zj,_,_,_,true,Zj,.bl true,Zj,_,Zj,k⟩
   ·obtain⟨t,ht,hk⟩:=hv.ty;exact⟨_,Zj,_,_,_,false,Zj,ht,hk,_,Zj,AV k⟩
noncomputable def okN (i:Int):Bool:=decide (0<=i)&&decide (i<1099511627776)
def Kj (K:FG):Sp:=λvs H Q _=>(∃i:Int,vs=[.int i]/\Q (.bl (okN i)) H)\/∃v,vs=[v]/\V9 K H v/\Q (.bl false) H
def Og {f:Xi}{tL:Tok} (F:aV K "is_number" "is_number" Ea f fd) (hL:mg "LIMIT" = some (.int 1099511627776 tL)) (GW:Fn P w K mg base "is_whole" 1 ["thing"] (EO K)):AZ P w K mg base aL 2 f fd ["thing"] (Kj K):=by
 obtain⟨fW,dW,GW,mW,kW,bW⟩:=GW.ex;refine F.ok Nk (λvs H Q E h=>?_) (λad A outer s H vs Q E hr h=>?_)
 ·rcases h with⟨i,rfl,_⟩ |⟨v,rfl,_⟩ <;> rfl
 ·refine⟨_,AE (AQ (C1 (AN GW hr rfl mW kW bW .nil AR (AA (pv 0) AC)) (C0 (FP FO Gz AD (pv 0) (BL (v:=.int 1099511627776) rfl hL ⟨tL,rfl⟩))))),?_⟩;rcases h with⟨i,rfl,k⟩ |⟨v,rfl,hv,k⟩
  ·refine⟨_,Zj,.inl ⟨i,Zj,_,Zj,Ag ⟨_,Zj,_,_,Zj,Zj,_,Zj,?_⟩⟩⟩;unfold okN at k;by_cases h0:0<=i
   ·rw[ZL h0]at k ⊢;exact Ag ⟨_,_,Zj,Zj,k⟩
   ·rw[ZO h0]at k ⊢;exact AV k
  ·exact⟨_,Zj,.inr ⟨v,Zj,hv,_,Zj,AV k⟩⟩
def MR {f:Xi} (F:aV K "is_whole" "is_whole" Fs f fd) (B:Bl mg):AZ P w K mg base aL 1 f fd ["thing"] spIsWhole:=Ra (Gv F B) λvs H Q E h=>by obtain⟨i,e,q⟩:=h;exact .inl ⟨i,e,q⟩
def Kk {f:Xi}{tL:Tok} (F:aV K "is_number" "is_number" Ea f fd) (hL:mg "LIMIT" = some (.int 1099511627776 tL)) (GW:Fn P w K mg base "is_whole" 1 ["thing"] (EO K)):AZ P w K mg base aL 2 f fd ["thing"] spIsNumber:=Ra (Og F hL GW) λvs H Q E h=>by
 obtain⟨n,e,hn,q⟩:=h;refine .inl ⟨(n:Int),e,?_⟩;have e40:(2:Nat) ^ 40=1099511627776:=by decide
 unfold okN;rw[ZL (show(0:Int)<=(n:Int) by omega),ZL (show(n:Int)<1099511627776 by omega)];exact q
end
end Mk
end
section
namespace Mk
open PySem L2 MK PySem.NumText
noncomputable def CV (c:Nat):Bool:=decide (48<=c)&&decide (c<=57)
noncomputable def Co (c:Nat):Bool:=decide (97<=c)&&decide (c<=122)
def Jy (lo hi:Nat) (x y:Str) (hx:x.cps.toList=[lo]) (hy:y.cps.toList=[hi]) (c:Nat):(if (!decide ((⟨#[c]⟩:Str).cps.toList<x.cps.toList))=true then (!decide (y.cps.toList<(⟨#[c]⟩:Str).cps.toList))else false)=(decide (lo<=c)&&decide (c<=hi)):=by
 rw[hx,hy];show(if (!decide ([c]<[lo]))=true then !decide ([hi]<[c])else false)=_
 have e1:decide ([c]<[lo])=decide (c<lo):=by
  rw[Bool.eq_iff_iff,decide_eq_true_eq,decide_eq_true_eq,cons_lt_cons_iff];simp
 have e2:decide ([hi]<[c])=decide (hi<c):=by
  rw[Bool.eq_iff_iff,decide_eq_true_eq,decide_eq_true_eq,cons_lt_cons_iff];simp
 rw[e1,e2];by_cases h1:c<lo <;> by_cases h2:hi<c <;> simp[h1,h2] <;> omega
noncomputable def Kl (x:Str):Bool:=x.cps.toList.all CV&&(decide (x = "0")||(!decide (x.cps.toList.head?=some 48)&&decide (digitsVal x.cps.toList<1099511627776)))
noncomputable def A9 (x:Str):Bool:=match x.cps.toList with | [c]=>Co c |_=>false
section
inductive spFig (vs:Xh) (H:Hp) (Q:VK) (_E:XK):Prop where
 |mk (x:Str) (cD:vs=[.str x]) (cE:x.cps.all (· < 128)=true) (cJ:0<x.length) (cW:x.length<=200) (eJ:∀H',U H H'->Q (.bl (Kl x)) H')
def WA:AM ["text"] ["text"] (defScope E9):=cH
def VB {f:Xi} (F:aV K "is_figures" "is_figures" E9 f fd) (B:Bl mg) (GN:Fn P w K mg base "is_number" 2 ["thing"] (Kj K)):AZ P w K mg base aL 3 f fd ["text"] spFig:=by
 obtain⟨fN,dN,GN,mN,kN,bN⟩:=GN.ex;refine F.m WA λvs H Q E h=>?_;obtain⟨x,rfl,ha,h0,h60,k⟩:=h;refine⟨Zj,λad A outer s hr=>?_⟩
 refine⟨_,AG (Ai (PW.pt (Dv (AL Ax (AX BE Zj B.len PySem.boot_len (AA (pv 0) AC)) AD (AS _)) (Cc (BM (Aw (AX (D3 Zj) Zj B.all IQ (AA (Bw [] [] qd qb qd Zj (Mz (pv 0)) (λ_ _ _ _ _ _=>Bm) (λ_ _ _ _ _ _=>FP CY CY AJ (pv 0) AJ)) AC))))))) (AE (AQ DB)) AT)
  (AG (Ai (AL Ax (BI Hi (pv 0) AD (λ_ _=>rfl)) AJ (AS _)) (AE (AQ (ES Ax (pv 0) AJ (AS _)))) AT)
  (AE (AQ (AN GN hr rfl mN kN bN .nil AR (AA (Ba El rfl B.int IS (AA (pv 0) AC)) AC))))),?_⟩
 refine⟨_,Zj,x,Zj,Nat.le_of_lt (AO qe),Zj,_,Zj,?_⟩;rw[ZO (show ¬ V.int (x.length:Int)=V.int 0 from λz=>by have:=V.int.inj z;omega)];refine AV ?_;have jb:x.cps.toList.length=x.length:=by rw[Array.length_toList];rfl
 refine⟨_,Zj,x,Zj,ha,IP (x:=x) (λi ys H2=>H2=H/\ys=(x.cps.toList.take i).map λc=>V.bl (CV c)) ⟨Zj,Zj⟩ (λi ys H2 ⟨_,e⟩=>?_) ?_ ?_⟩
 ·rw[e,AK,ZA];omega
 ·rintro i c ys H2 hc ⟨rfl,rfl⟩;refine⟨_,Zj,_,_,Zj,Zj,_,Zj,?_⟩
  have fin:∀b,b=CV c->(H2=H2/\(x.cps.toList.take i).map (λc=>V.bl (CV c))++[V.bl b]=(x.cps.toList.take (i+1)).map λc=>V.bl (CV c)):=λb hb=>by
   refine⟨Zj,?_⟩;have iM:x.cps.toList[i]?=some c:=by rw[Array.getElem?_toList];exact hc
   rw[ZD,iM,Zu,hb];rfl
  have hu:=Jy 48 57 "0" "9" qb qb c;refine B6 (λh3=>?_) (λh3=>?_)
  ·rw[Zp h3]at hu;exact⟨_,_,Zj,Zj,fin _ hu⟩
  ·rw[Zq h3]at hu;exact fin _ hu
 rintro ys H2 ⟨rfl,rfl⟩ p hp;have el:x.cps.toList.take x.cps.size=x.cps.toList:=take_of_length_le (by rw[Array.length_toList];exact Zy _);have sp:=AH (U.refl _) hp (o:=HO.lst ((x.cps.toList.take x.cps.size).map λc=>V.bl (CV c)));refine⟨p,x.cps.toList.map CV,Zj,aI.of (by rw[AB,el,map_map];rfl),_,Zj,?_⟩;rw[show(x.cps.toList.map CV).all id=x.cps.toList.all CV by rw[all_map];rfl];have kk:=k _ sp;unfold Kl at kk;by_cases bi:x.cps.toList.all CV=true
 ·rw[bi]at kk ⊢;rw[Bool.true_and]at kk;refine AV ?_
  obtain⟨c,cs,ec⟩:∃c cs,x.cps.toList=c::cs:=by
   cases e:x.cps.toList with
   |nil=>rw[e]at jb;simp at jb;omega
   |cons c cs=>exact⟨c,cs,rfl⟩
  refine⟨_,Zj,x,0,c,Zj,Zj,Nat.le_of_lt (AO qe),(show gU _ ((0:Nat):Int)=_ from BS (by rw[ec];rfl)),Zj,_,Zj,?_⟩;have e0:("0" : Str).cps.toList=[48]:=by decide +kernel
  by_cases h48:c=48
  ·subst h48;rw[ZL (show V.str ⟨#[48]⟩=V.str "0" by decide +kernel)];rw[ZL (show x.cps.toList.head?=some 48 by rw[ec];rfl),Bool.not_true,Bool.false_and,Bool.or_false]at kk;refine Ag ⟨_,Zj,Zj,?_⟩;have e1:decide (V.str x=V.str "0")=decide (x = "0"):=decide_eq_decide.mpr ⟨λz=>V.str.inj z,λz=>by rw[z]⟩;rw[e1];exact kk
  ·have a0:¬ x = "0" := λz=>h48 (by rw[z,e0]at ec;injection ec with a b;exact a.symm)
   rw[ZO (show ¬ V.str ⟨#[c]⟩=V.str "0" from λz=>h48 (by
    have:=V.str.inj z;have e1:=congrArg (λz:Str=>z.cps.toList) this;rw[e0]at e1
    injection e1))]
   rw[ZO a0,Bool.false_or,ZO (show ¬ x.cps.toList.head?=some 48 by rw[ec];exact λz=>h48 (Option.some.inj z)),Bool.not_false,Bool.true_and]at kk;refine AV ?_
   have hd:AllDigits x.cps.toList:=λc hc=>by
    have:=List.all_eq_true.mp bi c hc;unfold CV at this;rw[Bool.and_eq_true,decide_eq_true_eq,decide_eq_true_eq]at this;exact this
   refine⟨_,Zj,x,_,Zj,qe,intText_digits hd (by rw[ec];simp) qe,.inl ⟨(digitsVal x.cps.toList:Nat),Zj,?_⟩⟩
   have eo:okN ((digitsVal x.cps.toList:Nat):Int)=decide (digitsVal x.cps.toList<1099511627776):=by
    unfold okN;rw[ZL (show(0:Int)<=((digitsVal x.cps.toList:Nat):Int) by omega),Bool.true_and];exact decide_eq_decide.mpr qe
   rw[eo];exact kk
 ·have hno:x.cps.toList.all CV=false:=by
   cases e:x.cps.toList.all CV with
   |true=>exact absurd e bi
   |false=>rfl
  rw[hno]at kk ⊢;exact Ag kk
inductive spLet (K:FG) (vs:Xh) (H:Hp) (Q:VK) (_E:XK):Prop where
 |txt (x:Str) (cD:vs=[.str x]) (cE:x.length<=200) (cJ:Q (.bl (A9 x)) H)
 |aO (v:V) (cD:vs=[v]) (cE:eR K "str" H v) (cJ:Q (.bl false) H)
def WB:AM ["thing"] ["thing"] (defScope Gi):=cH
def VD {f:Xi} (F:aV K "is_letter" "is_letter" Gi f fd) (B:Bl mg):AZ P w K mg base aL 1 f fd ["thing"] (spLet K):=by
 refine F.ok WB (λvs H Q E h=>?_) (λad A outer s H vs Q E hr h=>?_)
 ·cases h with
  |txt x e _ _=>subst e;rfl
  |aO v e _ _=>subst e;rfl
 ·refine⟨_,AE (AQ (C1 (B2 K rfl rfl B.fk rfl B.str Gm (pv 0)) (C1 (ES Ax (AX BE rfl B.len PySem.boot_len (AA (pv 0) AC)) AD (AS _)) (C0 (FP CY CY AJ (pv 0) AJ))))),?_⟩;cases h with
  |aO v e hv k =>
   subst e;obtain⟨t,ht,hk⟩:=hv.ty;exact⟨_,Zj,_,_,_,false,Zj,ht,hk,_,Zj,AV k⟩
  |txt x e h60 k =>
   subst e;refine⟨_,Zj,_,_,_,true,Zj,.str x,Zj,_,Zj,Ag ?_⟩;refine⟨_,Zj,x,Zj,Nat.le_of_lt (AO qe),Zj,_,Zj,?_⟩;have jb:x.cps.toList.length=x.length:=by rw[Array.length_toList];rfl
   unfold A9 at k;refine B6 (λh1=>?_) (λh1=>?_)
   ·obtain⟨c,ec⟩:∃c,x.cps.toList=[c]:=by
     have e1:x.length=1:=by have:=V.int.inj (ZV h1);omega
     rw[e1]at jb;exact List.length_eq_one_iff.mp jb
    rw[ec]at k;refine⟨_,Zj,_,_,Zj,Zj,_,Zj,?_⟩;have hu:=Jy 97 122 "a" "z" qb qb c;have ex:(⟨#[c]⟩:Str).cps.toList=x.cps.toList:=by rw[ec]
    rw[ex]at hu;change _=Co c at hu;change Q (V.bl (Co c)) H at k;rw[←hu]at k;refine B6 (λh3=>?_) (λh3=>?_)
    ·rw[Zp h3]at k;exact⟨_,_,Zj,Zj,k⟩
    ·rw[Zq h3]at k;exact k
   ·have hn:x.length≠1:=λz=>h1 (ZL (by rw[z];rfl))
    have e2:(match x.cps.toList with | [c]=>Co c |_=>false)=false:=by
     cases e:x.cps.toList with
     |nil=>rfl
     |cons a r =>
      cases r with
      |nil=>rw[e]at jb;exact absurd jb.symm hn
      |cons b r=>rfl
    rw[e2]at k;exact k
end
def At (x:Str):x.cps.toList.length=x.length:=by rw[Array.length_toList];rfl
def F4 (z:Str) {a b:Nat} (ie:a<=b) (hb:b<=z.length):(Txt.slice z (some (a:Int)) (some (b:Int))).cps.toList=(z.cps.toList.drop a).take (b - a):=by
 unfold Txt.slice;split
 ·rename_i h;rw[StrLaws.strSliceIndices_plain ie hb,AK,List.length_range]at h
  have e:b - a=z.length:=by
   simp only[beq_self_eq_true,Bool.true_and,beq_iff_eq]at h;exact h
  have ea:a=0:=by omega
  subst ea;rw[List.drop_zero,take_of_length_le (by rw[At];omega)]
 ·show(List.filterMap _ _).toArray.toList=_;rw[List.toList_toArray,StrLaws.sliced_plain z ie hb]
noncomputable def JJ (lt:Bool) (x:Str):Bool:=B0 x||(Kl x||(lt&&A9 x))
section
inductive spPart (vs:Xh) (H:Hp) (Q:VK) (_E:XK):Prop where
 |mk (x:Str) (lt:Bool) (cD:vs=[.str x,.bl lt]) (cE:x.cps.all (· < 128)=true) (cJ:0<x.length) (cW:x.length<=200) (eJ:∀H',U H H'->Q (.bl (JJ lt x)) H')
def VE:AM ["text", "lettered"] ["text", "lettered"] (defScope Kb):=cH
def Tf {f:Xi} (F:aV K "is_part" "is_part" Kb f fd) (GN:Fn P w K mg base "is_name" 1 ["thing"] spIsName) (GF:Fn P w K mg base "is_figures" 3 ["text"] spFig) (GL:Fn P w K mg base "is_letter" 1 ["thing"] (spLet K)):AZ P w K mg base aL 4 f fd ["text", "lettered"] spPart:=by
 obtain⟨fN,dN,GN,mN,kN,bN⟩:=GN.ex;obtain⟨fF,dF,GF,mF,kF,bF⟩:=GF.ex;obtain⟨fL,dL,GL,mL,kL,bL⟩:=GL.ex;refine F.m VE λvs H Q E h=>?_;obtain⟨x,lt,rfl,ha,h0,h60,k⟩:=h;refine⟨rfl,λad A outer s hr=>?_⟩;have d5:aE 1 _:=hr.mono qc;refine⟨_,AE (AQ (Ts (AN GN d5 rfl mN kN bN .nil AR (AA (pv 0) AC)) (Ts (AN GF hr rfl mF kF bF .nil AR (AA (pv 0) AC)) (C0 (C1 (pv 1) (C0 (AN GL d5 rfl mL kL bL .nil AR (AA (pv 0) AC)))))))),?_⟩;refine⟨_,rfl,x,rfl,ha,qe,λH1 s1=>⟨_,rfl,?_⟩⟩;unfold JJ at k;cases hn:B0 x with
 |true =>
  rw[hn,Bool.true_or]at k;exact Ag (k _ s1)
 |false =>
  rw[hn,Bool.false_or]at k;refine AV ⟨_,rfl,x,rfl,ha,h0,h60,λH2 s2=>⟨_,rfl,?_⟩⟩;cases hf:Kl x with
  |true =>
   rw[hf,Bool.true_or]at k;exact Ag (k _ (s1.trans s2))
  |false =>
   rw[hf,Bool.false_or]at k;refine AV ⟨_,rfl,_,rfl,?_⟩;cases lt with
   |true=>exact Ag ⟨_,rfl,.txt x rfl h60 (k _ (s1.trans s2))⟩
   |false=>exact AV (k _ (s1.trans s2))
structure QF (lt:Bool) (z:Str) (a n:Nat):Prop where
 le:a+n<=z.length
 ok:∀k,0<k->k<=n->JJ lt (Txt.slice z (some (a:Int)) (some ((a+k:Nat):Int)))=true
 no:a+n<z.length->JJ lt (Txt.slice z (some (a:Int)) (some ((a+n+1:Nat):Int)))=false
def QG {z:Str}{a b:Nat} (ie:a<=b) (hb:b<=z.length) (h:z.cps.all (· < 128)=true):(Txt.slice z (some (a:Int)) (some (b:Int))).cps.all (· < 128)=true:=by
 rw[←Array.all_toList]at h ⊢;rw[F4 z ie hb];exact List.all_eq_true.mpr λc hc=>List.all_eq_true.mp h c (List.mem_of_mem_drop (mem_of_mem_take hc))
def QH {z:Str}{a b:Nat} (ie:a<=b) (hb:b<=z.length):(Txt.slice z (some (a:Int)) (some (b:Int))).length=b - a:=by
 rw[←At,F4 z ie hb,ZA,List.length_drop,At];omega
inductive spPE (vs:Xh) (H:Hp) (Q:VK) (_E:XK):Prop where
 |mk (z:Str) (a n:Nat) (lt:Bool) (cD:vs=[.str z,.int (a:Int),.bl lt]) (cE:z.cps.all (· < 128)=true) (cJ:z.length<=200) (cW:QF lt z a n) (eJ:∀H',U H H'->Q (.int ((a+n:Nat):Int)) H')
def scPE:AM ["text", "at", "lettered", "end"] ["text", "at", "lettered"] (defScope IK):=cH
def Tg {f:Xi} (F:aV K "part_end" "part_end" IK f fd) (B:Bl mg) (GP:Fn P w K mg base "is_part" 4 ["text", "lettered"] spPart):AZ P w K mg base aL 5 f fd ["text", "at", "lettered"] spPE:=by
 obtain⟨fP,dP,GP,mP,kP,bP⟩:=GP.ex;refine F.m scPE λvs H Q E h=>?_;obtain⟨z,a,n,lt,rfl,ha,h60,PA,q⟩:=h;refine⟨Zj,λad A outer s hr=>?_⟩
 refine⟨_,AG (Ae (i:=3) scPE.nd Zj (Or.inl Zj) (pv 1))
  (AG (FM PassesOwn.never (PW.pt (CP (AL Gz (pv 3) (AX BE rfl B.len PySem.boot_len (AA (pv 0) AC)) (AS _)) (Bh (Aw (AN GP hr rfl mP kP bP .nil AR (AA (K4 Q7 (pv 0) (HJ (pv 1)) (HJ (Ac C3 (pv 3) AD))) (AA (pv 2) AC))))))) (AE (Mg (i:=3) scPE.nd rfl (Or.inl rfl) AD (N1:cS _ _ _))))
  (AE (AQ (pv 3)))),?_⟩
 refine⟨_,Zj,λm σ H2=>∃k:Nat,σ=[some (.str z),some (.int (a:Int)),some (.bl lt),some (.int ((a+k:Nat):Int))]/\U H H2/\k<=n/\m=n - k,⟨n,0,Zj,U.refl _,Nat.zero_le _,Zj⟩,?_⟩;rintro m σ H2 ⟨k,rfl,s2,hk,rfl⟩;have hle:=PA.le;refine⟨_,Zj,_,Zj,z,Zj,Nat.le_of_lt (AO qe),_,_,Zj,Zj,_,Zj,?_⟩;by_cases hz:a+k<z.length
 ·rw[ZL (show((a+k:Nat):Int)<(z.length:Int) by omega)];refine Ag ?_;have e1:((a+k:Nat):Int)+1=((a+k+1:Nat):Int):=by omega
  refine⟨_,Zj,_,Zj,(a:Int),Zj,_,Zj,_,_,Zj,Zj,((a+k+1:Nat):Int),congrArg V.int e1,z,Zj,Nat.le_of_lt (AO qe),_,Zj,?_⟩;have hl:=QH (z:=z) (a:=a) (b:=a+k+1) qe qe;have hs:=QG (z:=z) (a:=a) (b:=a+k+1) qe qe ha;refine⟨_,lt,Zj,hs,qe,qe,λH3 s3=>⟨_,Zj,?_⟩⟩;by_cases hkn:k<n
  ·have ok:=PA.ok (k+1) qe qe;rw[show a+(k+1)=a+k+1 by omega]at ok;rw[ok];refine Ag ⟨λσ H4=>σ=[some (.str z),some (.int (a:Int)),some (.bl lt),some (.int ((a+(k+1):Nat):Int))]/\U H H4,λaJ H' ⟨e,s'⟩=>⟨n - (k+1),qe,k+1,e,s',qe,Zj⟩,?_⟩;refine⟨_,Zj,_,_,Zj,Zj,?_,s2.trans s3⟩;show [some (V.str z),some (V.int (a:Int)),some (V.bl lt),some (V.int (((a+k:Nat):Int)+1))]=_;rw[e1];rfl
  ·have e:k=n:=by omega
   subst e;rw[PA.no hz];exact AV ⟨_,Zj,q _ (s2.trans s3)⟩
 ·rw[ZO (show ¬ ((a+k:Nat):Int)<(z.length:Int) by omega)];have e:k=n:=by omega
  subst e;exact AV (AV ⟨_,Zj,q _ s2⟩)
end
structure JK (K:FG) (DC:Xi):Prop where
 cl:iA K DC
 nS:cI K DC "steps"
 nW:cI K DC "waiting"
 nP:cI K DC "wants_part"
def T9:¬ (("steps" : Str) = "wants_part"):=by decide +kernel
def UA:¬ (("waiting" : Str) = "wants_part"):=by decide +kernel
def UB:¬ (("waiting" : Str) = "steps"):=by decide +kernel
noncomputable def gW (ls lw:Xi) (wp:Bool):List (Str×V):=BP "wants_part" (.bl wp) (BP "waiting" (.ref lw) (BP "steps" (.ref ls) []))
def Rw (ls lw:Xi) (wp:Bool):(gW ls lw wp).lookup ("steps" : Str)=some (.ref ls):=by
 unfold gW;rw[AW,Zq T9,AW,Zq (Ne.symm UB),AW,Zp rfl]
def Em (ls lw:Xi) (wp:Bool):(gW ls lw wp).lookup ("waiting" : Str)=some (.ref lw):=by
 unfold gW;rw[AW,Zq UA,AW,Zp rfl]
def Io (ls lw:Xi) (wp:Bool):(gW ls lw wp).lookup ("wants_part" : Str)=some (.bl wp):=by
 unfold gW;rw[AW,Zp rfl]
def Ck (ls lw:Xi) (wp:Bool) {m:Str} (h1:¬ m = "steps" := by decide +kernel) (h2:¬ m = "waiting" := by decide +kernel) (h3:¬ m = "wants_part" := by decide +kernel):(gW ls lw wp).lookup m=none:=by
 unfold gW;rw[AW,Zq h3,AW,Zq h2,AW,Zq h1];rfl
def Oh (ls lw:Xi) (wp b:Bool):BP "wants_part" (.bl b) (gW ls lw wp)=gW ls lw b:=by
 unfold gW;simp[BP,T9,UA,Ne.symm UB]
structure aZ (DC:Xi) (H:Hp) (p ls lw:Xi) (ss ws:Xf) (wp:Bool):Prop where
 ex:∃dx,H p=some (.ins DC dx (gW ls lw wp))
 hs:H ls=some (.lst (ss.map V.str))
 hw:H lw=some (.lst (ws.map V.str))
 ne:ls≠lw
def g6 (p ls lw:Xi) (H H':Hp):Prop:=∀b o,H b=some o->b≠p->b≠ls->b≠lw->H' b=some o
def g6.refl (p ls lw:Xi) (H:Hp):g6 p ls lw H H:=λ_ _ e _ _ _=>e
def aZ.np {DC:Xi}{p ls lw:Xi}{ss ws:Xf}{wp:Bool} (h:aZ DC H p ls lw ss ws wp):ls≠p/\lw≠p:=by
 obtain⟨dx,hp⟩:=h.ex;have h1:=h.hs;have h2:=h.hw;exact⟨λz=>(by rw[z,hp]at h1;cases h1),λz=>(by rw[z,hp]at h2;cases h2)⟩
def aZ.steps {DC:Xi}{p ls lw:Xi}{ss ws:Xf}{wp:Bool} (ss':Xf) (h:aZ DC H p ls lw ss ws wp):aZ DC (upd H ls (.lst (ss'.map V.str))) p ls lw ss' ws wp:=by
 obtain⟨dx,hp⟩:=h.ex;exact⟨⟨dx,by rw[AF (Ne.symm h.np.1)];exact hp⟩,AB,by rw[AF (Ne.symm h.ne)];exact h.hw,h.ne⟩
def aZ.waits {DC:Xi}{p ls lw:Xi}{ss ws:Xf}{wp:Bool} (ws':Xf) (h:aZ DC H p ls lw ss ws wp):aZ DC (upd H lw (.lst (ws'.map V.str))) p ls lw ss ws' wp:=by
 obtain⟨dx,hp⟩:=h.ex;exact⟨⟨dx,by rw[AF (Ne.symm h.np.2)];exact hp⟩,by rw[AF h.ne];exact h.hs,AB,h.ne⟩
def aZ.wants {DC:Xi}{p ls lw dx:Xi}{ss ws:Xf}{wp:Bool} (b:Bool) (h:aZ DC H p ls lw ss ws wp):aZ DC (upd H p (.ins DC dx (gW ls lw b))) p ls lw ss ws b :=
 ⟨⟨dx,AB⟩,by rw[AF h.np.1];exact h.hs,by rw[AF h.np.2];exact h.hw,h.ne⟩
def Oi (ls lw:Xi) (wp:Bool):(gW ls lw wp).length<1000:=by
 have h1:=A7 "wants_part" (.bl wp) (BP "waiting" (.ref lw) (BP "steps" (.ref ls) []));have h2:=A7 "waiting" (.ref lw) (BP "steps" (.ref ls) []);have h3:=A7 "steps" (.ref ls) [];have h4:([]:List (Str×V)).length=0:=rfl;unfold gW;omega
section
variable {DC bd:Xi}
inductive spTP (DC:Xi) (vs:Xh) (H:Hp) (Q:VK) (_E:XK):Prop where
 |mk (p ls lw:Xi) (ss ws:Xf) (wp:Bool) (x:Str) (cD:vs=[.ref p,.str x]) (cE:aZ DC H p ls lw ss ws wp) (cJ:ss.length<=400) (cW:∀H',g6 p ls lw H H'->aZ DC H' p ls lw (ss++[x]) ws false->Q .aO H')
def XN:AM ["self", "part"] ["self", "part"] (defScope CH):=cH
def WC {f:Xi} (F:aV K "take_part" "Reading.take_part" CH f fd) (DT:JK K DC):AZ P w K mg base aL 1 f fd ["self", "part"] (spTP DC):=by
 refine F.m XN λvs H Q E h=>?_;obtain⟨p,ls,lw,ss,ws,wp,x,rfl,R,h100,q⟩:=h;refine⟨Zj,λad A outer s hr=>?_⟩;obtain⟨dx,hp⟩:=id R.ex;refine⟨_,AG (BD (Eh PySem.F.plainAttrs_list PySem.F.slot_list_append PySem.F.type_list_append CA (BH (pv 0) Zj) (AA (pv 1) AC))) (AE (C4 (pv 0) DB Zj)),?_⟩;refine⟨_,Zj,p,DC,dx,_,_,Zj,hp,DT.cl,DT.nS,Rw _ _ _,.inl ⟨Zj,_,aI.of R.hs⟩,_,Zj,ls,_,_,Zj,Zj,R.hs,AO (by rw[AK];omega),?_⟩;have R1:=R.steps (ss++[x]);rw[Zu]at R1;have e1:(upd H ls (.lst (ss.map V.str++[x].map V.str))) p=some (.ins DC dx (gW ls lw wp)):=by rw[AF (Ne.symm R.np.1)];exact hp
 refine⟨_,Zj,p,DC,dx,_,Zj,e1,DT.cl,DT.nP,Oi _ _ _,?_⟩;rw[Oh];exact q _ (λb o e n1 n2 n3=>by rw[AF n1,AF n2];exact e) (R1.wants false)
inductive spRd0 (DC:Xi) (vs:Xh) (H:Hp) (Q:VK) (_E:XK):Prop where
 |mk (p dx:Xi) (cD:vs=[.ref p]) (cE:H p=some (.ins DC dx [])) (cJ:∀ls lw H',(∀b o,H b=some o->b≠p->H' b=some o)->H ls=none->H lw=none->aZ DC H' p ls lw [] [] true->Q .aO H')
def WD:AM ["self"] ["self"] (defScope Dc):=cH
def VF {f:Xi} (F:aV K "__init__" "Reading.__init__" Dc f fd) (DT:JK K DC):AZ P w K mg base aL 1 f fd ["self"] (spRd0 DC):=by
 refine F.m WD λvs H Q E h=>?_;obtain⟨p,dx,rfl,hp,q⟩:=h;refine⟨Zj,λad A outer s hr=>?_⟩;refine⟨_,AG (C4 (pv 0) (BA AC) Zj) (AG (C4 (pv 0) (BA AC) Zj) (AE (C4 (pv 0) DB Zj))),?_⟩;refine⟨(by show 0<=sizeLine;decide),λls hls=>?_⟩;have nls:p≠ls:=AI hp hls;refine⟨_,Zj,p,DC,dx,_,Zj,by rw[AF nls];exact hp,DT.cl,DT.nS,(by show 0<1000;decide),?_⟩;refine⟨(by show 0<=sizeLine;decide),λlw hlw=>?_⟩;have nlp:p≠lw:=λz=>by rw[←z,AB]at hlw;cases hlw
 have c9:(upd H ls (.lst [])) lw=none:=by rw[AF (Ne.symm nlp)]at hlw;exact hlw
 have nll:ls≠lw:=λz=>by rw[←z,AB]at c9;cases c9
 have db:H lw=none:=by rw[AF (Ne.symm nll)]at c9;exact c9
 refine⟨_,Zj,p,DC,dx,_,Zj,by rw[AF nlp,AB],DT.cl,DT.nW,Nat.lt_of_le_of_lt (A7 _ _ _) (by show 0+1<1000;decide),?_⟩;refine⟨_,Zj,p,DC,dx,_,Zj,AB,DT.cl,DT.nP,Nat.lt_of_le_of_lt (Nat.le_trans (A7 _ _ _) (Nat.succ_le_succ (A7 _ _ _))) (by show 0+1+1<1000;decide),?_⟩;refine q ls lw _ (λb o e hb=>?_) hls db ⟨⟨dx,AB⟩,?_,?_,nll⟩
 ·rw[AF hb,AF hb,AF (AI e db),AF hb,AF (AI e hls)];exact e
 ·rw[AF (Ne.symm nls),AF (Ne.symm nls),AF nll,AF (Ne.symm nls),AB];rfl
 ·rw[AF (Ne.symm nlp),AF (Ne.symm nlp),AB];rfl
end
noncomputable abbrev sl (z:Str) (a b:Nat):Str:=Txt.slice z (some (a:Int)) (some (b:Int))
inductive Sg |br |or |xo |an |no
deriving DecidableEq
noncomputable def Sg.s:Sg->Str | .br => "(" | .or => "|" | .xo => "^" | .an => "&" | .no => "~"
noncomputable def Sg.b:Sg->Nat | .br=>0 | .or=>1 | .xo=>2 | .an=>3 | .no=>4
noncomputable def Sg.c:Sg->Nat | .br=>40 | .or=>124 | .xo=>94 | .an=>38 | .no=>126
def Sg.d4:Sg->Prop | .or=>True | .xo=>True | .an=>True |_=>False
noncomputable abbrev bY (W:List Sg):Xf:=W.map Sg.s
noncomputable def MS (W:List Sg):Nat:=match W.getLast? with |some s=>s.b |none=>0
inductive Out
 |ok (T:Xf)
 |bad (e:Nat)
inductive Rn (lt:Bool) (z:Str) (o:Out):Nat->Xf->List Sg->Bool->Prop
 |done (S:Xf) (Q:List Sg) (h:∀q∈Q,1<=q.b) (e:o=.ok (S++(bY Q).reverse)):Rn lt z o z.length S Q false
 |blank (a:Nat) (S:Xf) (W:List Sg) (wp:Bool) (h:z.cps.toList[a]?=some 32) (r:Rn lt z o (a+1) S W wp):Rn lt z o a S W wp
 |part (a n:Nat) (S:Xf) (W:List Sg) (h:QF lt z a n) (hn:0<n) (r:Rn lt z o (a+n) (S++[sl z a (a+n)]) W false):Rn lt z o a S W true
 |ahead (a:Nat) (S:Xf) (W:List Sg) (g:Sg) (hg:g=.no\/g=.br) (h:z.cps.toList[a]?=some g.c) (r:Rn lt z o (a+1) S (W++[g]) true):Rn lt z o a S W true
 |join (a:Nat) (S:Xf) (W Q:List Sg) (g:Sg) (hg:g.d4) (h:z.cps.toList[a]?=some g.c) (hq:∀q∈Q,g.b<=q.b) (hw:MS W<g.b) (r:Rn lt z o (a+1) (S++(bY Q).reverse) (W++[g]) true):Rn lt z o a S (W++Q) false
 |close (a:Nat) (S:Xf) (W Q:List Sg) (h:z.cps.toList[a]?=some 41) (hq:∀q∈Q,1<=q.b) (r:Rn lt z o (a+1) (S++(bY Q).reverse) W false):Rn lt z o a S ((W++[.br])++Q) false
 |ends (S:Xf) (W:List Sg) (wp:Bool) (hw:wp=true\/∃W1 W2,W=(W1++[.br])++W2/\∀q∈W2,1<=q.b) (e:o=.bad z.length):Rn lt z o z.length S W wp
inductive Tr
 |wd (x:Str)
 |ng (t:Tr)
 |bn (g:Sg) (a b:Tr)
noncomputable def Tr.post:Tr->Xf
 | .wd x=>[x]
 | .ng t=>t.post++[("~" : Str)]
 | .bn g a b=>a.post++b.post++[g.s]
abbrev Bk (u:List Nat):Prop:=u=[]\/u=[32]
structure js (lt:Bool) (w:List Nat):Prop where
 ne:0<w.length
 ok:∀k,0<k->k<=w.length->∀x:Str,x.cps.toList=w.take k->JJ lt x=true
inductive Wr (lt:Bool):Tr->Nat->List Nat->Prop
 |wd (x:Str) (r:Nat) (bl:List Nat) (hb:Bk bl) (h:js lt x.cps.toList):Wr lt (.wd x) r (bl++x.cps.toList)
 |ng (t:Tr) (r:Nat) (u:List Nat) (hr:r<=3) (h:Wr lt t 3 u):Wr lt (.ng t) r (126::u)
 |bn (g:Sg) (a b:Tr) (r:Nat) (u v bl:List Nat) (hg:g.d4) (hr:r+1<=g.b) (hb:Bk bl) (ha:Wr lt a (g.b - 1) u) (hv:Wr lt b g.b v):Wr lt (.bn g a b) r (u++(bl++(g.c::v)))
 |br (t:Tr) (r:Nat) (u bl:List Nat) (hb:Bk bl) (h:Wr lt t 0 u):Wr lt t r (bl++(40::(u++[41])))
def Sep (u:List Nat):Prop:=∀c,u.head?=some c->Cn c=false/\CV c=false
def Rx {lt:Bool}{w:List Nat}{c:Nat}{x:Str} (hc:Cn c=false/\CV c=false) (h:x.cps.toList=w++[c]) (hw:w≠ []\/Co c=false):JJ lt x=false:=by
 have h1:B0 x=false:=by
  unfold B0
  have:x.cps.toList.all Cn=false:=by
   rw[h,all_append];simp[hc.1]
  rw[this,Bool.and_false]
 have h2:Kl x=false:=by
  unfold Kl
  have:x.cps.toList.all CV=false:=by
   rw[h,all_append];simp[hc.2]
  rw[this,Bool.false_and]
 have h3:A9 x=false:=by
  unfold A9;rw[h];cases w with
  |nil=>rcases hw with z |z
        ·exact absurd Zj z
        ·exact z
  |cons a r=>cases r <;> rfl
 unfold JJ;rw[h1,h2,h3];cases lt <;> rfl
def Km {x y:Str} (h:x.cps.toList=y.cps.toList):x=y:=by
 cases x with
 |mk a=>cases y with
  |mk b =>
   have:a=b:=by
    have:=congrArg List.toArray h;simpa using this
   rw[this]
def WE {lt:Bool}{z:Str}{pre w post:List Nat} (hz:z.cps.toList=pre++(w++post)) (hw:js lt w) (hp:Sep post):QF lt z pre.length w.length/\sl z pre.length (pre.length+w.length)=⟨w.toArray⟩:=by
 have be:z.length=pre.length+(w.length+post.length):=by rw[←At,hz,ZH,ZH]
 have hs:∀k,k<=w.length+post.length->(sl z pre.length (pre.length+k)).cps.toList=(w++post).take k:=λk hk=>by
  rw[F4 z qe qe,hz,List.drop_left,Nat.add_sub_cancel_left]
 refine⟨⟨qe,λk h0 hk=>?_,λhlt=>?_⟩,?_⟩
 ·refine hw.ok k h0 hk _ ?_;rw[hs k qe,List.take_append_of_le_length hk]
 ·cases post with
  |nil=>simp at be;omega
  |cons c r =>
   refine Rx (w:=w) (c:=c) (hp c Zj) ?_ (.inl λz=>by have:=hw.ne;rw[z]at this;exact absurd this qc);have:=hs (w.length+1) (by simp);rw[show pre.length+w.length+1=pre.length+(w.length+1) by omega,this,List.take_append];simp;exact take_of_length_le qe
 ·refine Km ?_;rw[hs w.length qe,List.take_left]
def Gw {z:Str}{pre post:List Nat}{c:Nat} (hz:z.cps.toList=pre++c::post):z.cps.toList[pre.length]?=some c:=by
 rw[hz,getElem?_append_right (Zy _),Nat.sub_self];rfl
def DP (W:List Sg) (g:Sg):MS (W++[g])=g.b:=by
 unfold MS;rw[List.getLast?_append];rfl
def Ry {lt:Bool}{z:Str}{o:Out}{bl pre post:List Nat}{S:Xf}{W:List Sg}{wp:Bool} (hb:Bk bl) (hz:z.cps.toList=pre++(bl++post)) (r:Rn lt z o (pre++bl).length S W wp):Rn lt z o pre.length S W wp:=by
 rcases hb with rfl |rfl
 ·rwa[Zt]at r
 ·exact .blank _ _ _ _ (Gw hz) (by simpa using r)
def Sep.of {c:Nat}{r:List Nat} (h:Cn c=false/\CV c=false):Sep (c::r):=λd hd=>by cases hd;exact h
def Sep.bk {bl u:List Nat} (hb:Bk bl) (h:Sep u):Sep (bl++u):=by
 rcases hb with rfl |rfl
 ·exact h
 ·exact Sep.of ⟨Zj,Zj⟩
def Sep.sg {g:Sg}{r:List Nat}:Sep (g.c::r):=Sep.of (by cases g <;> exact⟨rfl,rfl⟩)
def Rz {lt:Bool}{z:Str}{o:Out}{t:Tr}{r:Nat}{u:List Nat} (hW:Wr lt t r u):∀ {pre gg:List Nat}{S:Xf}{W:List Sg},z.cps.toList=pre++(u++gg)->Sep gg->(r<3->MS W<=r) ->
  (∀(S':Xf) (Q:List Sg),(∀q∈Q,r+1<=q.b)->S'++(bY Q).reverse=S++t.post->Rn lt z o (pre++u).length S' (W++Q) false)->Rn lt z o pre.length S W true:=by
 induction hW with
 |wd x r bl hb h =>
  intro pre gg S W hz hs hw k;rw[List.append_assoc]at hz;refine Ry hb hz ?_;obtain⟨p1,p2⟩:=WE (z:=z) (pre:=pre++bl) (w:=x.cps.toList) (post:=gg) (by rw[hz,List.append_assoc]) h hs;refine .part _ _ _ _ p1 h.ne ?_;rw[p2,show(⟨x.cps.toList.toArray⟩:Str)=x from rfl];have:=k (S++[x]) [] (λq hq=>nomatch hq) (by show S++[x]++[]=S++[x];rw[Zt]);rw[Zt]at this;rw[←List.append_assoc,ZH]at this;exact this
 |ng t r u hr h ih =>
  intro pre gg S W hz hs hw k;refine .ahead _ _ _ .no (.inl Zj) (Gw (post:=u++gg) (by rw[hz];rfl)) ?_;have:=ih (pre:=pre++[126]) (gg:=gg) (S:=S) (W:=W++[.no]) (by rw[hz];simp) hs (λh=>absurd h qc) (λS' Q hq e=>?_)
  ·simpa using this
  ·have:=k S' (.no::Q) (λq fv=>by
    rcases mem_cons.mp fv with rfl |h
    ·show r+1<=4;omega
    ·have:=hq q h;omega) (by
    show S'++(Sg.no.s::bY Q).reverse=S++(t.post++[("~" : Str)]);rw[List.reverse_cons,←List.append_assoc,e,List.append_assoc]
    rfl)
   rw[show W++[Sg.no]++Q=W++(.no::Q) by simp];simpa using this
 |bn g a b r u v bl hg hr hb ha hv iha ihb =>
  intro pre gg S W hz hs hw k;have hg1:1<=g.b:=by cases g <;> first |exact hg.elim |decide
  have hg3:g.b<=3:=by cases g <;> first |exact hg.elim |decide
  have hw':=hw qe;refine iha (gg:=bl++(g.c::(v++gg))) (by rw[hz];simp) (Sep.bk hb Sep.sg) (λ_=>qe) λS1 Q1 h1 e1=>?_;refine Ry (pre:=pre++u) (post:=g.c::(v++gg)) hb (by rw[hz];simp) ?_;refine .join _ _ _ _ g hg (Gw (post:=v++gg) (by rw[hz];simp)) (λq hq=>by have:=h1 q hq;omega) qe ?_;rw[e1];have:=ihb (pre:=pre++u++bl++[g.c]) (gg:=gg) (S:=S++a.post) (W:=W++[g]) (by rw[hz];simp) hs (λ_=>by rw[DP];exact Zy _) λS2 Q2 h2 e2=>?_
  ·have el:(pre++u++bl++[g.c]).length=(pre++u++bl).length+1:=by simp;omega
   rw[el]at this;exact this
  ·have:=k S2 (g::Q2) (λq fv=>by
    rcases mem_cons.mp fv with rfl |h
    ·exact hr
    ·have:=h2 q h;omega) (by
    show S2++(g.s::bY Q2).reverse=S++(a.post++b.post++[g.s]);rw[List.reverse_cons,←List.append_assoc,e2]
    simp)
   rw[show W++[g]++Q2=W++(g::Q2) by simp];have el:(pre++u++bl++[g.c]++v).length=(pre++(u++(bl++g.c::v))).length:=by simp
   rw[el];exact this
 |br t r u bl hb h ih =>
  intro pre gg S W hz hs hw k;rw[List.append_assoc]at hz;refine Ry hb hz ?_;refine .ahead _ _ _ .br (.inr Zj) (Gw (post:=u++41::gg) (by rw[hz];simp[Sg.c])) ?_;have:=ih (pre:=pre++bl++[40]) (gg:=41::gg) (S:=S) (W:=W++[.br]) (by rw[hz];simp) (Sep.of ⟨rfl,rfl⟩) (λ_=>by rw[DP];exact Zy _) (λS' Q hq e=>?_)
  ·have el:(pre++bl++[40]).length=(pre++bl).length+1:=by simp;omega
   rw[el]at this;exact this
  ·refine .close _ _ _ _ (Gw (post:=gg) (by rw[hz];simp)) (λq h=>by have:=hq q h;omega) ?_;rw[e];have:=k (S++t.post) [] (λq hq=>nomatch hq) (by show _++[]=_;rw[Zt]);rw[Zt]at this;have el:(pre++(bl++40::(u++[41]))).length=(pre++bl++[40]++u).length+1:=by simp;omega
   rw[el]at this;exact this
def EQ {lt:Bool}{z:Str}{t:Tr} (h:Wr lt t 0 z.cps.toList):Rn lt z (.ok t.post) 0 [] [] true:=by
 refine Rz h (pre:=[]) (gg:=[]) (by simp) (λc hc=>nomatch hc) (λ_=>qc) λS' Q hq e=>?_;have el:([]++z.cps.toList:List Nat).length=z.length:=by rw[nil_append,At]
 rw[el,nil_append];exact .done _ _ (λq h=>hq q h) (by rw[e];rfl)
def VG {lt:Bool}{z:Str}{t:Tr}{u:List Nat} (h:Wr lt t 0 u) (hz:z.cps.toList=u++[124]):Rn lt z (.bad z.length) 0 [] [] true:=by
 refine Rz h (pre:=[]) (gg:=[124]) (by simpa using hz) (Sep.of ⟨Zj,Zj⟩) (λ_=>qc) λS' Q hq e=>?_;rw[nil_append];refine .join _ _ [] Q .or True.intro (Gw (post:=[]) hz) (λq h=>hq q h) qc ?_;have el:u.length+1=z.length:=by rw[←At,hz,ZH];rfl
 rw[nil_append,el];exact .ends _ _ _ (.inl Zj) rfl
noncomputable def CO:LK:=[((Sum.inr "(" : Key),.int 0),(Sum.inr "|", .int 1),(Sum.inr "^", .int 2),(Sum.inr "&", .int 3),(Sum.inr "~", .int 4)]
def Oj (g:Sg):As CO (Sum.inr g.s:Key)=some (.int (g.b:Int)):=by cases g <;> decide +kernel
def WF {DC p ls lw bd:Xi}{ss ws:Xf}{wp:Bool}{kvs:LK} (R:aZ DC H p ls lw ss ws wp) (s:g6 p ls lw H H') (h:Rd H bd (.dK kvs)):Rd H' bd (.dK kvs):=by
 obtain⟨dx,hp⟩:=R.ex
 have ne:∀ {o:HO},H bd=some o->(∀xs,o≠ .lst xs)->(∀a b c,o≠ .ins a b c)->bd≠p/\bd≠ls/\bd≠lw:=λ{o} e h1 h2=>by
  refine⟨λz=>?_,λz=>?_,λz=>?_⟩
  ·rw[z,hp]at e;cases e;exact h2 _ _ _ rfl
  ·rw[z,R.hs]at e;cases e;exact h1 _ rfl
  ·rw[z,R.hw]at e;cases e;exact h1 _ rfl
 rcases h with h |⟨o,h⟩
 ·obtain⟨a,b,c⟩:=ne h (λ_ z=>nomatch z) (λ_ _ _ z=>nomatch z);exact .inl (s _ _ h a b c)
 ·obtain⟨a,b,c⟩:=ne h (λ_ z=>nomatch z) (λ_ _ _ z=>nomatch z);exact .inr ⟨o,s _ _ h a b c⟩
def MU (L:List Sg) (g:Sg):gU ((bY (L++[g])).map V.str) (-1)=some (V.str g.s)/\((bY (L++[g])).map V.str)[((bY (L++[g])).map V.str).length - 1]?=some (V.str g.s)/\((bY (L++[g])).map V.str).dropLast=(bY L).map V.str:=by
 have e:(bY (L++[g])).map V.str=(bY L).map V.str++[V.str g.s]:=by simp[bY]
 rw[e];refine⟨?_,?_,?_⟩
 ·unfold gU
  have e2:g9 ((bY L).map V.str++[V.str g.s]).length (-1)=some ((bY L).map V.str).length:=by
   rw[ZH,length_singleton];unfold g9;simp;omega
  rw[e2];show((bY L).map V.str++[V.str g.s])[((bY L).map V.str).length]?=_;rw[getElem?_append_right (Zy _),Nat.sub_self];rfl
 ·rw[ZH,length_singleton,Nat.add_sub_cancel,getElem?_append_right (Zy _),Nat.sub_self];rfl
 ·exact List.dropLast_concat
section
variable {DC bd:Xi}
inductive spSet (DC bd:Xi) (vs:Xh) (H:Hp) (Q:VK) (_E:XK):Prop where
 |mk (p ls lw:Xi) (ss:Xf) (W G:List Sg) (b:Nat) (wp:Bool) (cD:vs=[.ref p,.int (b:Int)]) (cE:aZ DC H p ls lw ss (bY (W++G)) wp) (cJ:ss.length+(W.length+G.length)<=400) (cW:Rd H bd (.dK CO))
  (eJ:∀q∈G,b<=q.b) (fV:W=[]\/MS W<b) (jS:∀H',g6 p ls lw H H'->aZ DC H' p ls lw (ss++(bY G).reverse) (bY W) wp->Q .aO H')
def WG:AM ["self", "binding"] ["self", "binding"] (defScope Cj):=cH
def VH {f:Xi} (F:aV K "settle" "Reading.settle" Cj f fd) (B:Bl mg) (DT:JK K DC) (mB:mg "BINDING" = some (.ref bd)):AZ P w K mg base aL 1 f fd ["self", "binding"] (spSet DC bd):=by
 refine F.m WG λvs H Q E h=>?_;obtain⟨p,ls,lw,ss,W,G,b,wp,rfl,R,h400,hB,hG,hW,q⟩:=h;refine⟨Zj,λad A outer s hr=>?_⟩;have hu:=Ch hr
 refine⟨_,AE (FM PassesOwn.never (PW.pt (CP (AL G3 (AX (BJ K Zj) Zj B.len PySem.boot_len (AA (BH (pv 0) Zj) AC)) AD (AS _)) (Bh (AL K0 (BU hu (BL (v:=.ref bd) Zj mB Zj) (BI (Ar K Zj) (BH (pv 0) Zj) (Eg Dx AD) (λ_ _=>rfl)) (λ_ _=>rfl)) (pv 1) (AS _)))))
  (AE (BD (Eh PySem.F.plainAttrs_list PySem.F.slot_list_append PySem.F.type_list_append CA (BH (pv 0) rfl) (AA (Hj PySem.F.plainAttrs_list PySem.F.slot_list_pop PySem.F.type_list_pop KF (BH (pv 0) rfl)) AC))))),?_⟩
 refine⟨λm σ H2=>σ=[some (.ref p),some (.int (b:Int))]/\∃G1 G2,G=G1++G2/\G1.length=m/\g6 p ls lw H H2/\aZ DC H2 p ls lw (ss++(bY G2).reverse) (bY (W++G1)) wp,⟨G.length,Zj,G,[],(Zt _).symm,Zj,g6.refl _ _ _ _,by simpa using R⟩,?_⟩;rintro m σ H2 ⟨rfl,G1,G2,eG,em,s2,R2⟩;obtain⟨dx,hp⟩:=id R2.ex;refine⟨_,Zj,p,DC,dx,_,_,Zj,hp,DT.cl,DT.nW,Em _ _ _,lw,_,Zj,.inl (aI.of R2.hw),_,_,Zj,Zj,_,Zj,?_⟩;have be:((bY (W++G1)).map V.str).length=(W++G1).length:=by simp[bY]
 rw[be];rcases List.eq_nil_or_concat (W++G1)with e |⟨L,g,e⟩
 ·have e1:=List.append_eq_nil_iff.mp e;rw[e,ZO (show ¬ (([]:List Sg).length:Int)>0 by simp)];refine AV (AV (q _ s2 ?_));rw[e1.2]at eG R2;rw[eG];simpa[e1.1]using R2
 ·rw[List.concat_eq_append]at e;rw[ZL (show((W++G1).length:Int)>0 by rw[e,ZH,length_singleton];omega)];refine Ag ?_;have hsl:=MU L g;rw[←e]at hsl;obtain⟨hat,dm,dn⟩:=hsl;refine⟨_,rfl,p,DC,dx,_,_,rfl,hp,DT.cl,DT.nW,Em _ _ _,_,rfl,lw,_,-1,.str g.s,rfl,rfl,aI.of R2.hw,hat,bd,.int (g.b:Int),rfl,.inl ⟨_,Sum.inr g.s,WF R s2 hB,rfl,(Oj g).symm⟩,_,rfl,_,_,rfl,rfl,_,rfl,?_⟩;rcases List.eq_nil_or_concat G1 with e1 |⟨G0,g',e1⟩
  ·-- all are settled
   subst e1;rw[Zt]at e
   have hb:¬ ((g.b:Int) ≥ (b:Int)):=by
    rcases hW with z |z
    ·rw[z]at e;have:=congrArg List.length e;simp at this
    ·rw[e,DP]at z;omega
   rw[ZO hb];refine AV (q _ s2 ?_);rw[eG];simpa using R2
  ·rw[List.concat_eq_append]at e1;subst e1;have e3:W++(G0++[g'])=L++[g]:=e;rw[←List.append_assoc]at e3;obtain⟨eL,eg⟩:=List.append_inj' e3 rfl;have eg':g'=g:=by simpa using eg
   subst eg'
   have hb:(g'.b:Int) ≥ (b:Int):=by
    have:=hG g' (by rw[eG];simp);omega
   rw[ZL hb];refine Ag ⟨λσ H3=>σ=[some (.ref p),some (.int (b:Int))]/\g6 p ls lw H H3/\aZ DC H3 p ls lw (ss++(bY ([g']++G2)).reverse) (bY (W++G0)) wp,λaJ H' ⟨e,s',R'⟩=>⟨G0.length,by rw[←em,ZH];exact Nat.lt_succ_self _,e,G0,[g']++G2,by rw[eG,List.append_assoc],Zj,s',R'⟩,?_⟩;refine⟨_,Zj,p,DC,dx,_,_,Zj,hp,DT.cl,DT.nS,Rw _ _ _,.inl ⟨Zj,_,aI.of R2.hs⟩,_,Zj,p,DC,dx,_,_,Zj,hp,DT.cl,DT.nW,Em _ _ _,.inl ⟨Zj,_,aI.of R2.hw⟩,lw,_,.str g'.s,Zj,Zj,R2.hw,dm,?_⟩;rw[dn,←eL];have es:ss++(bY G2).reverse++[g'.s]=ss++(bY ([g']++G2)).reverse:=by simp[bY]
   have R3:=R2.waits (bY (W++G0));have R4:=R3.steps (ss++(bY ([g']++G2)).reverse);refine⟨ls,_,_,Zj,Zj,R3.hs,AO ?_,Zj,λb o e n1 n2 n3=>?_,?_⟩
   ·have h1:=congrArg List.length eG;simp only[ZH,length_singleton]at h1;simp only[AK,ZH,List.length_reverse];omega
   ·rw[AF n2,AF n3];exact s2 b o e n1 n2 n3
   ·rw[←es,Zu]at R4;rw[←es];exact R4
inductive SgStep:Str->Xf->List Sg->Bool->Xf->List Sg->Bool->Prop
 |blank (S:Xf) (W:List Sg) (wp:Bool):SgStep " " S W wp S W wp
 |ahead (S:Xf) (W:List Sg) (g:Sg) (hg:g=.no\/g=.br):SgStep g.s S W true S (W++[g]) true
 |join (S:Xf) (W G:List Sg) (g:Sg) (hg:g.d4) (hq:∀q∈G,g.b<=q.b) (hw:MS W<g.b):SgStep g.s S (W++G) false (S++(bY G).reverse) (W++[g]) true
 |close (S:Xf) (W G:List Sg) (hq:∀q∈G,1<=q.b):SgStep ")" S ((W++[.br])++G) false (S++(bY G).reverse) W false
inductive spTB (DC bd:Xi) (vs:Xh) (H:Hp) (Q:VK) (_E:XK):Prop where
 |mk (p ls lw:Xi) (ss:Xf) (W G:List Sg) (g:Sg) (cD:vs=[.ref p,.str g.s]) (cE:g.d4) (cJ:aZ DC H p ls lw ss (bY (W++G)) false) (cW:ss.length+(W.length+G.length)<=390) (eJ:Rd H bd (.dK CO))
  (fV:∀q∈G,g.b<=q.b) (jS:MS W<g.b) (z_7:∀H',g6 p ls lw H H'->aZ DC H' p ls lw (ss++(bY G).reverse) (bY (W++[g])) true->Q (.bl true) H')
def XO:AM ["self", "sign"] ["self", "sign"] (defScope Be):=cH
def Ti {g:Sg} (h:g.d4):(if true=true then !eK (V.str g.s) [V.str "&", V.str "^", V.str "|"]else eK (V.str g.s) [V.str "&", V.str "^", V.str "|"])=false:=by
 cases g <;> first |exact h.elim |decide +kernel
def WH {f jn:Xi} (F:aV K "take_between" "Reading.take_between" Be f fd) (DT:JK K DC) (mB:mg "BINDING" = some (.ref bd)) (mJ:mg "JOINING" = some (.ref jn)) (hJ:∀H,aX K H jn [.str "&", .str "^", .str "|"]) (GS:Mt P w K mg base DC "settle" 1 ["self", "binding"] (spSet DC bd)) :
  AZ P w K mg base aL 2 f fd ["self", "sign"] (spTB DC bd):=by
 obtain⟨fS,dS,GS,mS,bS⟩:=GS.ex;refine F.m XO λvs H Q E h=>?_;obtain⟨p,ls,lw,ss,W,G,g,rfl,hg,R,h390,hB,hq,hw,q⟩:=h;refine⟨Zj,λad A outer s hr=>?_⟩;have hu:=Ch hr;obtain⟨dx,hp⟩:=id R.ex
 refine⟨_,AG (Ai (AL KD (pv 1) (BL (v:=.ref jn) Zj mJ Zj) Zj) (AE Am) AT)
  (AG (BD (Cp (pv 0) DT.cl mS GS hr bS .nil AR (AA (BU hu (BL (v:=.ref bd) rfl mB rfl) (pv 1) (λ_ _=>rfl)) AC)))
  (AG (BD (Eh PySem.F.plainAttrs_list PySem.F.slot_list_append PySem.F.type_list_append CA (BH (pv 0) rfl) (AA (pv 1) AC)))
  (AG (C4 (pv 0) DB rfl)
  (AE (AQ DB))))),?_⟩
 refine⟨_,Zj,jn,_,Zj,.inr (hJ H),Zj,Zj,_,Zj,?_⟩;rw[Ti hg];refine AV ?_;refine⟨_,Zj,p,dx,_,Zj,hp,Ck _ _ _,_,Zj,bd,.int (g.b:Int),Zj,.inl ⟨_,Sum.inr g.s,hB,Zj,(Oj g).symm⟩,p,ls,lw,ss,W,G,g.b,false,Zj,R,qe,hB,hq,.inr hw,λH1 s1 R1=>?_⟩;obtain⟨jh,ak⟩:=id R1.ex;refine⟨_,Zj,p,DC,jh,_,_,Zj,ak,DT.cl,DT.nW,Em _ _ _,.inl ⟨Zj,_,aI.of R1.hw⟩,_,Zj,lw,_,_,Zj,Zj,R1.hw,AO (by simp only[AK];omega),?_⟩;have ew:(bY W).map V.str++[V.str g.s]=(bY (W++[g])).map V.str:=by simp[bY]
 have R2:aZ DC (upd H1 lw (.lst ((bY (W++[g])).map V.str))) p ls lw (ss++(bY G).reverse) (bY (W++[g])) false:=R1.waits (bY (W++[g]));rw[ew];refine⟨_,Zj,p,DC,jh,_,Zj,by rw[AF (Ne.symm R1.np.2)];exact ak,DT.cl,DT.nP,Oi _ _ _,?_⟩;rw[Oh];exact q _ (λb o e n1 n2 n3=>by rw[AF n1,AF n3];exact s1 b o e n1 n2 n3) (R2.wants true)
inductive spTA (DC:Xi) (vs:Xh) (H:Hp) (Q:VK) (_E:XK):Prop where
 |mk (p ls lw:Xi) (ss:Xf) (W:List Sg) (g:Sg) (wp:Bool) (cD:vs=[.ref p,.str g.s]) (cE:g=.no\/g=.br) (cJ:aZ DC H p ls lw ss (bY W) wp) (cW:W.length<=390)
  (eJ:∀H',g6 p ls lw H H'->aZ DC H' p ls lw ss (bY (W++[g])) wp->Q (.bl true) H')
def XQ:AM ["self", "sign"] ["self", "sign"] (defScope By):=cH
def WI {f:Xi} (F:aV K "take_ahead" "Reading.take_ahead" By f fd) (DT:JK K DC):AZ P w K mg base aL 1 f fd ["self", "sign"] (spTA DC):=by
 refine F.m XQ λvs H Q E h=>?_;obtain⟨p,ls,lw,ss,W,g,wp,rfl,hg,R,h390,q⟩:=h;refine⟨Zj,λad A outer s hr=>?_⟩;obtain⟨dx,hp⟩:=id R.ex
 refine⟨_,AG (Ai (PW.pt (CP (AL FN (pv 1) AJ (AS _)) (Bh (AL FN (pv 1) AJ (AS _))))) (AE Am) AT)
  (AG (BD (Eh PySem.F.plainAttrs_list PySem.F.slot_list_append PySem.F.type_list_append CA (BH (pv 0) rfl) (AA (pv 1) AC)))
  (AE (AQ DB))),?_⟩
 have fin:∀ {R':Prop},R'->(∀b:Bool,b=false->if b=true then False else R'):=λh b hb=>by subst hb;exact h
 refine⟨_,Zj,Zj,_,Zj,?_⟩;have ew:(bY W).map V.str++[V.str g.s]=(bY (W++[g])).map V.str:=by simp[bY]
 have R2:aZ DC (upd H lw (.lst ((bY (W++[g])).map V.str))) p ls lw ss (bY (W++[g])) wp:=R.waits (bY (W++[g]));rcases hg with rfl |rfl
 ·rw[show decide (V.str Sg.no.s=V.str "~")=true by decide +kernel];refine AV (AV ?_);refine⟨_,Zj,p,DC,dx,_,_,Zj,hp,DT.cl,DT.nW,Em _ _ _,.inl ⟨Zj,_,aI.of R.hw⟩,_,Zj,lw,_,_,Zj,Zj,R.hw,AO (by simp only[AK];omega),?_⟩;rw[ew];exact q _ (λb o e n1 n2 n3=>by rw[AF n3];exact e) R2
 ·rw[show decide (V.str Sg.br.s=V.str "~")=false by decide +kernel];refine Ag ⟨_,Zj,Zj,_,Zj,?_⟩;rw[show decide (V.str Sg.br.s=V.str "(")=true by decide +kernel];refine AV ?_;refine⟨_,rfl,p,DC,dx,_,_,rfl,hp,DT.cl,DT.nW,Em _ _ _,.inl ⟨rfl,_,aI.of R.hw⟩,_,rfl,lw,_,_,rfl,rfl,R.hw,AO (by simp only[AK];omega),?_⟩;rw[ew];exact q _ (λb o e n1 n2 n3=>by rw[AF n3];exact e) R2
inductive spTC (DC bd:Xi) (vs:Xh) (H:Hp) (Q:VK) (_E:XK):Prop where
 |mk (p ls lw:Xi) (ss:Xf) (W G:List Sg) (wp:Bool) (cD:vs=[.ref p]) (cJ:aZ DC H p ls lw ss (bY ((W++[.br])++G)) wp) (cW:ss.length+(W.length+G.length)<=390) (eJ:Rd H bd (.dK CO))
  (fV:∀q∈G,1<=q.b) (z_7:∀H',g6 p ls lw H H'->aZ DC H' p ls lw (ss++(bY G).reverse) (bY W) wp->Q (.bl true) H')
def XR:AM ["self"] ["self"] (defScope Bz):=cH
def WJ {f:Xi}{tB:Tok} (F:aV K "take_close" "Reading.take_close" Bz f fd) (B:Bl mg) (DT:JK K DC) (mL:mg "LEAST_BINDING" = some (.int 1 tB)) (GS:Mt P w K mg base DC "settle" 1 ["self", "binding"] (spSet DC bd)):AZ P w K mg base aL 2 f fd ["self"] (spTC DC bd):=by
 obtain⟨fS,dS,GS,mS,bS⟩:=GS.ex;refine F.m XR λvs H Q E h=>?_;obtain⟨p,ls,lw,ss,W,G,wp,rfl,R,h390,hB,hq,q⟩:=h;refine⟨Zj,λad A outer s hr=>?_⟩;obtain⟨dx,hp⟩:=id R.ex
 refine⟨_,AG (BD (Cp (pv 0) DT.cl mS GS hr bS .nil AR (AA (BL (v:=.int 1) Zj mL ⟨tB,Zj⟩) AC)))
  (AG (Ai (AL Ax (AX (BJ K rfl) rfl B.len PySem.boot_len (AA (BH (pv 0) rfl) AC)) AD (AS _)) (AE Am) AT)
  (AG (BD (Hj PySem.F.plainAttrs_list PySem.F.slot_list_pop PySem.F.type_list_pop KF (BH (pv 0) rfl)))
  (AE (AQ DB)))),?_⟩
 refine⟨_,Zj,p,dx,_,Zj,hp,Ck _ _ _,p,ls,lw,ss,W++[.br],G,1,wp,Zj,R,by rw[ZH,length_singleton];omega,hB,hq,.inr (by rw[DP];decide),λH1 s1 R1=>?_⟩;obtain⟨jh,ak⟩:=id R1.ex;obtain⟨hat,dm,dn⟩:=MU W .br;refine⟨_,Zj,p,DC,jh,_,_,Zj,ak,DT.cl,DT.nW,Em _ _ _,lw,_,Zj,.inl (aI.of R1.hw),Zj,_,Zj,?_⟩
 rw[ZO (λz=>by
  have:=V.int.inj z;simp only[AK,ZH,length_singleton]at this
  omega)]
 refine AV ?_;refine⟨_,Zj,p,DC,jh,_,_,Zj,ak,DT.cl,DT.nW,Em _ _ _,.inl ⟨Zj,_,aI.of R1.hw⟩,lw,_,.str Sg.br.s,Zj,Zj,R1.hw,dm,?_⟩;rw[dn];exact q _ (λb o e n1 n2 n3=>by rw[AF n3];exact s1 b o e n1 n2 n3) (R1.waits (bY W))
inductive spTS (DC bd:Xi) (vs:Xh) (H:Hp) (Q:VK) (_E:XK):Prop where
 |mk (p ls lw:Xi) (x:Str) (S S':Xf) (W W':List Sg) (wp jw:Bool) (cD:vs=[.ref p,.str x]) (cE:aZ DC H p ls lw S (bY W) wp) (cJ:SgStep x S W wp S' W' jw) (cW:S.length+W.length<=380) (eJ:Rd H bd (.dK CO))
  (fV:∀H',g6 p ls lw H H'->aZ DC H' p ls lw S' (bY W') jw->Q (.bl true) H')
def XS:AM ["self", "sign"] ["self", "sign"] (defScope CI):=cH
def Ip (g:Sg):decide (V.str g.s=V.str " ")=false/\decide (V.str g.s=V.str ")")=false:=by cases g <;> decide +kernel
def WK {f:Xi} (F:aV K "take_sign" "Reading.take_sign" CI f fd) (DT:JK K DC) (GB:Mt P w K mg base DC "take_between" 2 ["self", "sign"] (spTB DC bd)) (GA:Mt P w K mg base DC "take_ahead" 1 ["self", "sign"] (spTA DC)) (GC:Mt P w K mg base DC "take_close" 2 ["self"] (spTC DC bd)):AZ P w K mg base aL 3 f fd ["self", "sign"] (spTS DC bd):=by
 obtain⟨fB,dB,GB,mB,bB⟩:=GB.ex;obtain⟨fA,dA,GA,mA,bA⟩:=GA.ex;obtain⟨fC,dC,GC,mC,bC⟩:=GC.ex;refine F.m XS λvs H Q E h=>?_;obtain⟨p,ls,lw,x,S,S',W,W',wp,jw,rfl,R,st,h380,hB,q⟩:=h;refine⟨Zj,λad A outer s hr=>?_⟩;obtain⟨dx,hp⟩:=id R.ex;have d5:aE 1 _:=hr.mono qc
 refine⟨_,AG (Ai (AL Ax (pv 1) AJ (AS _)) (AE (AQ DB)) AT)
  (AG (Ai (Aw (BH (pv 0) rfl)) (AE (AQ (Cp (pv 0) DT.cl mA GA d5 bA .nil AR (AA (pv 1) AC)))) AT)
  (AE (AQ (Bf (AL Ax (pv 1) AJ (AS _)) (Bv (pv 0) DT.cl mC GC hr bC .nil AR) (Cp (pv 0) DT.cl mB GB hr bB .nil AR (AA (pv 1) AC)))))),?_⟩
 refine⟨_,rfl,rfl,_,rfl,?_⟩;cases st with
 |blank =>
  rw[show decide (V.str " " = V.str " ")=true by decide +kernel];exact Ag (q _ (g6.refl _ _ _ _) R)
 |ahead _ _ g hg =>
  rw[(Ip g).1];refine AV ⟨_,Zj,p,DC,dx,_,_,Zj,hp,DT.cl,DT.nP,Io _ _ _,_,Zj,Ag ?_⟩;exact⟨_,Zj,p,dx,_,Zj,hp,Ck _ _ _,_,Zj,p,ls,lw,S,W,g,true,Zj,hg,R,qe,q⟩
 |join _ W0 G g hg hq hw =>
  rw[(Ip g).1];rw[ZH]at h380;refine AV ⟨_,Zj,p,DC,dx,_,_,Zj,hp,DT.cl,DT.nP,Io _ _ _,_,Zj,AV ?_⟩;refine⟨_,Zj,Zj,_,Zj,?_⟩;rw[(Ip g).2];exact AV ⟨_,Zj,p,dx,_,Zj,hp,Ck _ _ _,_,Zj,p,ls,lw,S,W0,G,g,Zj,hg,R,qe,hB,hq,hw,q⟩
 |close _ _ G hq =>
  rw[show decide (V.str ")" = V.str " ")=false by decide +kernel];rw[ZH,ZH]at h380;refine AV ⟨_,rfl,p,DC,dx,_,_,rfl,hp,DT.cl,DT.nP,Io _ _ _,_,rfl,AV ?_⟩;refine⟨_,rfl,rfl,_,rfl,?_⟩;rw[show decide (V.str ")" = V.str ")")=true by decide +kernel];exact Ag ⟨_,rfl,p,dx,_,rfl,hp,Ck _ _ _,p,ls,lw,S,W',G,false,rfl,R,qe,hB,hq,q⟩
inductive spEnds (DC bd:Xi) (vs:Xh) (H:Hp) (Q:VK) (_E:XK):Prop where
 |mk (p ls lw:Xi) (ss:Xf) (G:List Sg) (cD:vs=[.ref p]) (cE:aZ DC H p ls lw ss (bY G) false) (cJ:ss.length+G.length<=390) (cW:∀q∈G,1<=q.b) (eJ:Rd H bd (.dK CO))
  (fV:∀H',g6 p ls lw H H'->aZ DC H' p ls lw (ss++(bY G).reverse) [] false->Q (.bl true) H')
 |no (p ls lw:Xi) (ss:Xf) (W:List Sg) (wp:Bool) (cD:vs=[.ref p]) (cE:aZ DC H p ls lw ss (bY W) wp) (cJ:ss.length+W.length<=390) (cW:wp=true\/∃W1 W2,W=(W1++[.br])++W2/\∀q∈W2,1<=q.b) (eJ:Rd H bd (.dK CO)) (fV:∀H',g6 p ls lw H H'->Q (.bl false) H')
def MV:∀W:List Sg,(∀q∈W,1<=q.b)\/∃W1 W2,W=(W1++[.br])++W2/\∀q∈W2,1<=q.b
 | []=>.inl λq h=>nomatch h
 |g::W=>by
  rcases MV W with h |⟨W1,W2,e,h⟩
  ·by_cases hg:1<=g.b
   ·exact .inl λq hq=>by rcases mem_cons.mp hq with rfl |z;exact hg;exact h q z
   ·have:g=.br:=by cases g <;> first |rfl |exact absurd qc hg
    subst this;exact .inr ⟨[],W,Zj,h⟩
  ·exact .inr ⟨g::W1,W2,by rw[e];rfl,h⟩
def VJ:AM ["self"] ["self"] (defScope Dd):=cH
def Tj {f:Xi}{tB:Tok} (F:aV K "ends" "Reading.ends" Dd f fd) (B:Bl mg) (DT:JK K DC) (mL:mg "LEAST_BINDING" = some (.int 1 tB)) (GS:Mt P w K mg base DC "settle" 1 ["self", "binding"] (spSet DC bd)):AZ P w K mg base aL 2 f fd ["self"] (spEnds DC bd):=by
 obtain⟨fS,dS,GS,mS,bS⟩:=GS.ex;refine F.ok VJ (λvs H Q E h=>?_) (λad A outer s H vs Q E hr h=>?_)
 ·cases h with
  |mk p ls lw ss G e=>subst e;rfl
  |no p ls lw ss W wp e=>subst e;rfl
 ·
  refine⟨_,AG (BD (Cp (pv 0) DT.cl mS GS hr bS .nil AR (AA (BL (v:=.int 1) Zj mL ⟨tB,Zj⟩) AC)))
   (AE (AQ (C1 (QM (BH (pv 0) rfl)) (C0 (ES Ax (AX (BJ K rfl) rfl B.len PySem.boot_len (AA (BH (pv 0) rfl) AC)) AD (AS _)))))),?_⟩
  cases h with
  |no p ls lw ss W wp e R h390 hw hB q =>
   subst e;obtain⟨dx,hp⟩:=id R.ex
   obtain⟨W0,G,eW,hG,h0,hn⟩:∃W0 G,W=W0++G/\(∀q∈G,1<=q.b)/\(W0=[]\/MS W0<1)/\(wp=true\/W0≠ []):=by
    rcases MV W with h |⟨W1,W2,e,h⟩
    ·refine⟨[],W,rfl,h,.inl rfl,?_⟩;rcases hw with z |⟨W1,W2,e,_⟩
     ·exact .inl z
     ·have:=h .br (by rw[e];simp);exact absurd this qc
    ·exact⟨W1++[.br],W2,e,h,.inr (by rw[DP];decide),.inr (by simp)⟩
   subst eW;rw[ZH]at h390;refine⟨_,rfl,p,dx,_,rfl,hp,Ck _ _ _,p,ls,lw,ss,W0,G,1,wp,rfl,R,qe,hB,hG,h0,λH1 s1 R1=>?_⟩;obtain⟨jh,ak⟩:=id R1.ex;refine⟨_,rfl,p,DC,jh,_,_,rfl,ak,DT.cl,DT.nP,Io _ _ _,_,rfl,_,rfl,?_⟩;cases wp with
   |true=>exact AV (q _ s1)
   |false =>
    refine Ag ⟨_,Zj,p,DC,jh,_,_,Zj,ak,DT.cl,DT.nW,Em _ _ _,lw,_,Zj,.inl (aI.of R1.hw),Zj,?_⟩;have hn0:W0≠ []:=hn.resolve_left qc
    rw[ZO (λz=>by
     have:=V.int.inj z;simp only[AK]at this
     exact hn0 (List.length_eq_zero_iff.mp qe))]
    exact q _ s1
  |mk p ls lw ss G e R h390 hq hB q =>
  subst e;obtain⟨dx,hp⟩:=id R.ex;refine⟨_,Zj,p,dx,_,Zj,hp,Ck _ _ _,p,ls,lw,ss,[],G,1,false,Zj,R,by show _+(0+_)<=400;omega,hB,hq,.inl Zj,λH1 s1 R1=>?_⟩;obtain⟨jh,ak⟩:=id R1.ex;refine⟨_,Zj,p,DC,jh,_,_,Zj,ak,DT.cl,DT.nP,Io _ _ _,_,Zj,_,Zj,Ag ?_⟩;exact⟨_,Zj,p,DC,jh,_,_,Zj,ak,DT.cl,DT.nW,Em _ _ _,lw,_,Zj,.inl (aI.of R1.hw),Zj,q _ s1 R1⟩
end
def Tk {a:Xi}{o:HO} (s:U H H') (h:Rd H a o):Rd H' a o:=by
 rcases h with h |⟨o,h⟩
 ·exact .inl (s _ _ h)
 ·exact .inr ⟨o,s _ _ h⟩
def aZ.same {DC:Xi}{p ls lw:Xi}{ss ws:Xf}{wp:Bool} (s:U H H') (h:aZ DC H p ls lw ss ws wp):aZ DC H' p ls lw ss ws wp:=by
 obtain⟨dx,hp⟩:=h.ex;exact⟨⟨dx,s _ _ hp⟩,s _ _ h.hs,s _ _ h.hw,h.ne⟩
def Kn (g:Sg):(⟨#[g.c]⟩:Str)=g.s:=by cases g <;> decide +kernel
def UC (g:Sg):Cn g.c=false/\CV g.c=false:=by cases g <;> exact⟨rfl,rfl⟩
inductive RnN (lt:Bool) (z:Str) (o:Out) (a:Nat) (S:Xf) (W:List Sg) (wp:Bool):Prop
 |done (ea:a=z.length) (ew:wp=false) (h:∀q∈W,1<=q.b) (e:o=.ok (S++(bY W).reverse))
 |part (ew:wp=true) (n:Nat) (h:QF lt z a n) (hn:0<n) (r:Rn lt z o (a+n) (S++[sl z a (a+n)]) W false)
 |sign (c:Nat) (S':Xf) (W':List Sg) (jw:Bool) (hc:z.cps.toList[a]?=some c) (no:QF lt z a 0) (st:SgStep ⟨#[c]⟩ S W wp S' W' jw) (r:Rn lt z o (a+1) S' W' jw) (l:S'.length+W'.length<=S.length+W.length+1)
 |ends (ea:a=z.length) (hw:wp=true\/∃W1 W2,W=(W1++[.br])++W2/\∀q∈W2,1<=q.b) (e:o=.bad z.length)
def Ko {lt:Bool}{z:Str}{a c:Nat} (hc:z.cps.toList[a]?=some c) (no:Cn c=false/\CV c=false) (sm:Co c=false):QF lt z a 0:=by
 obtain⟨hlt,ec⟩:=Z8.mp hc;rw[At]at hlt;refine⟨qe,λk h0 hk=>absurd hk qe,λ_=>Rx (w:=[]) no ?_ (.inr sm)⟩;rw[F4 z qe qe];rw[show a+0+1 - a=1 by omega,nil_append];rw[List.drop_eq_getElem_cons (by rw[At];exact hlt),ec];rfl
def Rn.next {lt:Bool}{z:Str}{o:Out}{a:Nat}{S:Xf}{W:List Sg}{wp:Bool} (h:Rn lt z o a S W wp):RnN lt z o a S W wp:=by
 cases h with
 |done _ _ h e=>exact .done rfl rfl h e
 |blank _ _ _ _ h r=>exact .sign 32 _ _ _ h (Ko h ⟨rfl,rfl⟩ rfl) (by rw[show(⟨#[32]⟩:Str) = " " by decide +kernel];exact .blank _ _ _) r qe
 |part _ n _ _ h hn r=>exact .part rfl n h hn r
 |ahead _ _ _ g hg h r=>exact .sign g.c _ _ _ h (Ko h (UC g) (by cases g <;> rfl)) (by rw[Kn];exact .ahead _ _ g hg) r (by simp;omega)
 |join _ _ W Q g hg h hq hw r=>exact .sign g.c _ _ _ h (Ko h (UC g) (by cases g <;> rfl)) (by rw[Kn];exact .join _ W Q g hg hq hw) r (by simp;omega)
 |close _ _ W Q h hq r=>exact .sign 41 _ _ _ h (Ko h ⟨rfl,rfl⟩ rfl) (by rw[show(⟨#[41]⟩:Str) = ")" by decide +kernel];exact .close _ W Q hq) r (by simp;omega)
 |ends _ _ _ hw e=>exact .ends rfl hw e
structure WL (P:Program) (w:World) (K:FG) (mg:SV) (base:Heap) (DC bd:Xi):Prop where
 T:JK K DC
 cls:mg "Reading" = some (.ref DC)
 make:∃f fd,Mk K DC f/\AZ P w K mg base aL 1 f fd ["self"] (spRd0 DC)/\Binds K fd ["self"] []
 tp:Mt P w K mg base DC "take_part" 1 ["self", "part"] (spTP DC)
 ts:Mt P w K mg base DC "take_sign" 3 ["self", "sign"] (spTS DC bd)
 en:Mt P w K mg base DC "ends" 2 ["self"] (spEnds DC bd)
def XT (H:Hp) (Q:VK) (E:XK) (cT:Xi):Out->Prop
 | .ok T=>∀l H',U H H'->H' l=some (.lst (T.map V.str))->Q (.ref l) H'
 | .bad e=>UqA H E cT (.int (e:Int))
inductive spSt (K:FG) (DC bd cT:Xi) (vs:Xh) (H:Hp) (Q:VK) (E:XK):Prop where
 |mk (z:Str) (lt:Bool) (o:Out) (cD:vs=[.str z,.bl lt]) (cE:z.cps.all (· < 128)=true) (cJ:z.length<=100) (cW:Rn lt z o 0 [] [] true) (eJ:Rd H bd (.dK CO)) (fV:XT H Q E cT o)
noncomputable abbrev NSt:Xf:=["text", "lettered", "reading", "at", "end"]
def scSt:AM NSt ["text", "lettered"] (defScope CM):=cH
inductive StA (lt:Bool) (DC:Xi) (z:Str) (o:Out) (p ls lw:Xi) (H:Hp) (a:Nat):Prop
 |mk (S:Xf) (W:List Sg) (wp:Bool) (R:aZ DC H p ls lw S (bY W) wp) (t:Rn lt z o a S W wp) (l:S.length+W.length<=a) (h:a<=z.length)
section
variable {DC bd cM cT:Xi}
def R5 {n:Nat} (h:n<=1000):AtV (.int (n:Int)):=.inr ⟨_,rfl,Gu (Nat.lt_of_le_of_lt h qc)⟩
def WM {f:Xi} (F:aV K "steps_of" "steps_of" CM f fd) (B:Bl mg) (RO:WL P w K mg base DC bd) (TX:Of P w K mg base cM cT) (GE:Fn P w K mg base "part_end" 5 ["text", "at", "lettered"] spPE):AZ P w K mg base (eX P w) 6 f fd ["text", "lettered"] (spSt K DC bd cT):=by
 obtain⟨fE,dE,GE,mE,kE,bE⟩:=GE.ex;obtain⟨fI,dI,MI,GI,bI⟩:=RO.make;obtain⟨fT,dT,GT,mT,bT⟩:=RO.tp.ex;obtain⟨fS,dS,GS,mS,bS⟩:=RO.ts.ex;obtain⟨fN,dN,GN,mN,bN⟩:=RO.en.ex;have mC:=RO.cls;have DT:=RO.T;obtain⟨fX,dX,MX,GX,bX⟩:=TX.make;have mX:=TX.cls;refine F.okX scSt (λvs H Q E h=>?_) (λad A outer s H vs Q E hr h=>?_)
 ·cases h with
  |mk z lt o e=>subst e;rfl
 ·have rz:=HQ (P:=P) (w:=w) (K:=K) (mg:=mg) (base:=base) (N:=NSt) (qual := "steps_of") (scope:=defScope CM) (f:=f) (cd:=ad) (A:=A) (outer:=outer) (s:=s) (H:=H) (E:=E);have d5:aE 1 _:=hr.mono qc;have eP:aE 2 _:=hr.mono qc;have iJ:aE 3 _:=hr.mono qc;have nd:=scSt.nd
  refine⟨_,AG (Ai (BM (Aw (B2 K Zj Zj B.fk Zj B.str Gm (pv 0)))) (AE Am) AT)
   (AG (Ae (i:=2) nd rfl (Or.inl rfl) (Qb MI GI eP rfl mC bI .nil AR))
   (AG (Ae (i:=3) nd rfl (Or.inl rfl) AD)
   (A1 (FM PassesOwn.leaving (AL Gz (pv 3) (AX BE rfl B.len PySem.boot_len (AA (pv 0) AC)) (AS _))
    (A1 (Ae (i:=4) nd rfl (Or.inl rfl) (Bf (Aw (BH (pv 2) rfl)) (AN GE hr rfl mE kE bE .nil AR (AA (pv 0) (AA (pv 3) (AA (pv 1) AC)))) (pv 3)))
    (AE (Ai (AL G3 (pv 4) (pv 3) (AS _))
     (AG (BD (Cp (pv 2) DT.cl mT GT d5 bT .nil AR (AA (K4 Q7 (pv 0) (HJ (pv 3)) (HJ (pv 4))) AC))) (AE (Ae (i:=3) nd rfl (Or.inl rfl) (pv 4))))
     (AE (Ai (Aw (Cp (pv 2) DT.cl mS GS iJ bS .nil AR (AA (BI Hi (pv 0) (pv 3) (λ_ _=>rfl)) AC))) (AE (Mg (i:=3) nd rfl (Or.inl rfl) AD (N1:cS _ _ _))) (AE Am)))))))
   (AG (Ai (BM (Aw (Bv (pv 2) DT.cl mN GN eP bN .nil AR))) (AE (D8 rz rfl MX.cls (D7 MX GX iJ rfl mX bX .nil AR (AA (AX BE rfl B.len PySem.boot_len (AA (pv 0) AC)) AC)))) AT)
   (AE (AQ (BH (pv 2) rfl))))))),?_⟩
  cases h with
  |mk z lt o e ha h40 RN hB q =>
  subst e;refine⟨_,Zj,_,_,_,true,Zj,.str z,Zj,_,Zj,AV ?_⟩;intro p dx hp ba a0;have sN:=Ij (D:=DC) hp ba a0;refine⟨p,dx,Zj,AB,λls lw H1 s1 hls hlw R1=>⟨Zj,?_⟩⟩;have S1:U H H1:=λb o e=>s1 b o (sN _ _ e) (AI e hp);have hls0:H ls=none:=none_of sN hls;have db:H lw=none:=none_of sN hlw;have old:∀ {H2 H3:Hp},U H H2->g6 p ls lw H2 H3->U H H3:=λ{H2 H3} a b c o e=>b c o (a c o e) (AI e hp) (AI e hls0) (AI e db);have rdS:∀ {H2:Hp},U H H2->Rd H2 bd (.dK CO):=λ{H2} a=>Tk a hB;refine⟨λσ H'=>(∃v4,σ=[some (.str z),some (.bl lt),some (.ref p),some (.int (z.length:Int)),v4])/\U H H'/\∃S W wp,aZ DC H' p ls lw S (bY W) wp/\S.length+W.length<=300/\((wp=false/\(∀q∈W,1<=q.b)/\o=.ok (S++(bY W).reverse))\/((wp=true\/∃W1 W2,W=(W1++[.br])++W2/\∀q∈W2,1<=q.b)/\o=.bad z.length)),λR hR=>?_,?_⟩
  ·refine⟨λm σ H2=>∃a v4,σ=[some (.str z),some (.bl lt),some (.ref p),some (.int ((a:Nat):Int)),v4]/\m=z.length - a/\U H H2/\StA lt DC z o p ls lw H2 a,⟨z.length,0,none,rfl,rfl,S1,.mk [] [] true R1 RN (Nat.zero_le _) (Nat.zero_le _)⟩,?_⟩;rintro m σ H2 ⟨a,v4,rfl,rfl,S2,S,W,wp,R2,t,l,aw⟩;refine⟨_,rfl,_,rfl,z,rfl,Nat.le_of_lt (AO qe),_,_,rfl,rfl,_,rfl,?_⟩;obtain⟨dx2,am⟩:=id R2.ex;cases t.next with
   |done ea ew h e =>
    subst ea ew;rw[ZO (show ¬ ((z.length:Nat):Int)<(z.length:Int) by omega)];exact AV (hR _ _ ⟨⟨_,Zj⟩,S2,S,W,false,R2,qe,.inl ⟨Zj,h,e⟩⟩)
   |ends ea hw e =>
    subst ea;rw[ZO (show ¬ ((z.length:Nat):Int)<(z.length:Int) by omega)];exact AV (hR _ _ ⟨⟨_,Zj⟩,S2,S,W,wp,R2,qe,.inr ⟨hw,e⟩⟩)
   |part ew n pt hn r =>
    subst ew;have hle:=pt.le;rw[ZL (show((a:Nat):Int)<(z.length:Int) by omega)];refine Ag ⟨λσ H3=>∃b v4,σ=[some (.str z),some (.bl lt),some (.ref p),some (.int ((b:Nat):Int)),v4]/\z.length - b<z.length - a/\U H H3/\StA lt DC z o p ls lw H3 b,λaJ H' ⟨b,v,e1,e2,e3,e4⟩=>⟨z.length - b,e2,b,v,e1,Zj,e3,e4⟩,?_⟩;refine⟨λσ H3=>σ=[some (.str z),some (.bl lt),some (.ref p),some (.int ((a:Nat):Int)),some (.int ((a+n:Nat):Int))]/\U H H3/\aZ DC H3 p ls lw S (bY W) true,λR hR=>?_,?_⟩
    ·refine⟨_,Zj,p,DC,dx2,_,_,Zj,am,DT.cl,DT.nP,Io _ _ _,_,Zj,Ag ?_⟩;exact⟨_,Zj,_,Zj,_,Zj,z,a,n,lt,Zj,ha,qe,pt,λH3 s3=>hR _ _ ⟨Zj,S2.trans s3,R2.same s3⟩⟩
    ·rintro σ H3 ⟨rfl,S3,R3⟩;obtain⟨dx3,iL⟩:=id R3.ex;refine⟨_,Zj,_,Zj,_,_,Zj,Zj,_,Zj,?_⟩;rw[ZL (show((a+n:Nat):Int)>((a:Nat):Int) by omega)];refine Ag ?_;refine⟨_,Zj,p,dx3,_,Zj,iL,Ck _ _ _,_,Zj,_,Zj,_,Zj,_,Zj,_,Zj,z,Zj,Nat.le_of_lt (AO qe),p,ls,lw,S,bY W,true,_,Zj,R3,qe,λH4 s4 R4=>?_⟩;exact⟨_,Zj,a+n,_,Zj,qe,old S3 s4,.mk _ W false R4 r (by rw[ZH,length_singleton];omega) hle⟩
   |sign c S' W' jw hc no st r jH =>
    have hlt:a<z.length:=by
     have:=(Z8.mp hc).1;rw[At]at this;exact this
    rw[ZL (show((a:Nat):Int)<(z.length:Int) by omega)];refine Ag ⟨λσ H3=>∃b v4,σ=[some (.str z),some (.bl lt),some (.ref p),some (.int ((b:Nat):Int)),v4]/\z.length - b<z.length - a/\U H H3/\StA lt DC z o p ls lw H3 b,λaJ H' ⟨b,v,e1,e2,e3,e4⟩=>⟨z.length - b,e2,b,v,e1,Zj,e3,e4⟩,?_⟩;refine⟨λσ H3=>σ=[some (.str z),some (.bl lt),some (.ref p),some (.int ((a:Nat):Int)),some (.int ((a:Nat):Int))]/\U H H3/\aZ DC H3 p ls lw S (bY W) wp,λR hR=>?_,?_⟩
    ·refine⟨_,rfl,p,DC,dx2,_,_,rfl,am,DT.cl,DT.nP,Io _ _ _,_,rfl,?_⟩;cases wp with
     |false=>exact AV ⟨_,rfl,hR _ _ ⟨rfl,S2,R2⟩⟩
     |true=>exact Ag ⟨_,rfl,_,rfl,_,rfl,z,a,0,lt,rfl,ha,qe,no,λH3 s3=>hR _ _ ⟨rfl,S2.trans s3,R2.same s3⟩⟩
    ·rintro σ H3 ⟨rfl,S3,R3⟩;obtain⟨dx3,iL⟩:=id R3.ex;refine⟨_,Zj,_,Zj,_,_,Zj,Zj,_,Zj,?_⟩;rw[ZO (show ¬ ((a:Nat):Int)>((a:Nat):Int) by omega)];refine AV ?_;refine⟨_,Zj,p,dx3,_,Zj,iL,Ck _ _ _,_,Zj,_,Zj,z,(a:Int),c,Zj,Zj,Nat.le_of_lt (AO qe),BS hc,p,ls,lw,⟨#[c]⟩,S,S',W,W',wp,jw,Zj,R3,st,qe,rdS S3,λH4 s4 R4=>⟨_,Zj,Ag ?_⟩⟩;refine⟨_,Zj,_,_,Zj,Zj,a+1,some (.int ((a:Nat):Int)),?_,qe,old S3 s4,.mk S' W' jw R4 r qe qe⟩;show [some (V.str z),some (V.bl lt),some (V.ref p),some (V.int (((a:Nat):Int)+1)),some (V.int ((a:Nat):Int))]=_;rfl
  rintro σ H2 ⟨⟨v4,rfl⟩,S2,S,W,wp,R2,l80,hend⟩;obtain⟨dx2,am⟩:=id R2.ex;rcases hend with⟨rfl,hq,rfl⟩ |⟨hw,rfl⟩
  ·refine⟨_,Zj,p,dx2,_,Zj,am,Ck _ _ _,.mk p ls lw S W Zj R2 qe hq (rdS S2) λH3 s3 R3=>⟨_,Zj,AV ?_⟩⟩;obtain⟨dx3,iL⟩:=id R3.ex;exact⟨_,Zj,p,DC,dx3,_,_,Zj,iL,DT.cl,DT.nS,Rw _ _ _,q ls H3 (old S2 s3) R3.hs⟩
  ·refine⟨_,Zj,p,dx2,_,Zj,am,Ck _ _ _,.no p ls lw S W wp Zj R2 qe hw (rdS S2) λH3 s3=>⟨_,Zj,Ag ?_⟩⟩;exact QE MX.cls TX.st (R5 qe) (old S2 s3) q (λ_ k=>⟨_,Zj,z,Zj,Nat.le_of_lt (AO qe),k⟩)
end
def Ol (a b:Nat):Builtin.bitXor (a:Int) (b:Int)=((a ^^^ b:Nat):Int):=by
 have h1:(a ^^^ b)|||(a&&&b)=a |||b:=by
  refine Nat.eq_of_testBit_eq λk=>?_;simp only[Nat.testBit_and,Nat.testBit_xor,Nat.testBit_or];cases a.testBit k <;> cases b.testBit k <;> rfl
 have h2:(a ^^^ b)&&&(a&&&b)=0:=by
  refine Nat.eq_of_testBit_eq λk=>?_;simp only[Nat.testBit_and,Nat.testBit_xor,Nat.zero_testBit];cases a.testBit k <;> cases b.testBit k <;> rfl
 have h3:=U5 (a ^^^ b) (a&&&b);rw[h1,h2]at h3;have h4:Builtin.bitXor (a:Int) (b:Int)=Builtin.bitOr (a:Int) (b:Int) - Builtin.bitAnd (a:Int) (b:Int):=rfl;rw[h4,C6,Bx];omega
structure Nv where
 due:Aa
 kvs:LK
 tb:Str->Nat
noncomputable def wv (n:Nv) (x:Str):Nat:=if A9 x then n.tb x else if B0 x then look n.due x else digitsVal x.cps.toList
structure WdOk (n:Nv) (x:Str):Prop where
 as:x.cps.all (· < 128)=true
 l0:0<x.length
 l6:x.length<=200
 or:(A9 x=true/\As n.kvs (Sum.inr x)=some (.int (n.tb x:Nat)))\/(A9 x=false/\B0 x=true/\x∈n.due.map (·.1))\/(A9 x=false/\B0 x=false/\AllDigits x.cps.toList)
def WdOk.nb {n:Nv}{x:Str} (h:WdOk n x):x≠ "|" /\ x≠ "&" /\ x≠ "^" /\ x≠ "~" := by
 have key:∀y:Str,A9 y=false->B0 y=false->(∃c∈y.cps.toList,¬ (48<=c/\c<=57))->x≠y:=λy h0 h1 ⟨c,hc,h2⟩ z=>by
  subst z;rcases h.or with⟨a,_⟩ |⟨_,a,_⟩ |⟨_,_,b⟩
  ·rw[h0]at a;cases a
  ·rw[h1]at a;cases a
  ·exact h2 (b c hc)
 exact⟨key _ qb qb ⟨124,qb,qc⟩,key _ qb qb ⟨38,qb,qc⟩,key _ qb qb ⟨94,qb,qc⟩,key _ qb qb ⟨126,qb,qc⟩⟩
structure NmNo (n:Nv) (x:Str):Prop where
 as:x.cps.all (· < 128)=true
 l6:x.length<=200
 lt:A9 x=false
 nm:B0 x=true
 no:x∉ n.due.map (·.1)
def NmNo.nb {n:Nv}{x:Str} (h:NmNo n x):x≠ "|" /\ x≠ "&" /\ x≠ "^" /\ x≠ "~" := by
 have key:∀y:Str,B0 y=false->x≠y:=λy h1 z=>by
  subst z;have:=h.nm;rw[h1]at this;cases this
 exact⟨key _ qb,key _ qb,key _ qb,key _ qb⟩
noncomputable def Sg.f:Sg->Nat->Nat->Nat | .an,a,b=>a&&&b | .xo,a,b=>a ^^^ b |_,a,b=>a |||b
inductive EvS (n:Nv):List Nat->Str->List Nat->Prop
 |ng (h:List Nat) (v:Nat):EvS n (h++[v]) "~" (h++[kn n.due - (kn n.due&&&v)])
 |bn (g:Sg) (hg:g.d4) (h:List Nat) (a b:Nat):EvS n (h++[a]++[b]) g.s (h++[g.f a b])
 |wd (x:Str) (W:WdOk n x) (h:List Nat):EvS n h x (h++[wv n x])
inductive Ev (n:Nv) (o:Option Nat):List Nat->Xf->Prop
 |nil (v:Nat) (e:o=some v):Ev n o [v] []
 |cons (h h':List Nat) (x:Str) (S:Xf) (a:EvS n h x h') (b:Ev n o h' S):Ev n o h (x::S)
 |no (h:List Nat) (x:Str) (S:Xf) (a:NmNo n x) (e:o=none):Ev n o h (x::S)
noncomputable def Tr.dz (n:Nv):Tr->Nat
 | .wd x=>wv n x
 | .ng t=>kn n.due - (kn n.due&&&t.dz n)
 | .bn g a b=>g.f (a.dz n) (b.dz n)
def Tr.Ok (n:Nv):Tr->Prop
 | .wd x=>WdOk n x
 | .ng t=>t.Ok n
 | .bn g a b=>g.d4/\a.Ok n/\b.Ok n
def HU {n:Nv}{o:Option Nat}:∀(t:Tr),t.Ok n->∀(h:List Nat) (S:Xf),Ev n o (h++[t.dz n]) S->Ev n o h (t.post++S)
 | .wd x,k,h,S,r=>.cons _ _ _ _ (.wd x k h) r
 | .ng t,k,h,S,r=>by
  show Ev n o h ((t.post++[("~" : Str)])++S);rw[List.append_assoc];exact HU t k h _ (.cons _ _ _ _ (.ng h _) r)
 | .bn g a b,k,h,S,r=>by
  show Ev n o h ((a.post++b.post++[g.s])++S);rw[List.append_assoc,List.append_assoc];exact HU a k.2.1 h _ (HU b k.2.2 _ _ (.cons _ _ _ _ (.bn g k.1 h _ _) r))
def R6 {n:Nv}{t:Tr} (k:t.Ok n):Ev n (some (t.dz n)) [] t.post:=by
 have:=HU (o:=some (t.dz n)) t k [] [] (.nil _ rfl)
 rwa[Zt]at this
def EvS.len {n:Nv}{h h':List Nat}{x:Str} (e:EvS n h x h'):h'.length<=h.length+1:=by
 cases e <;> simp <;> omega
section
variable {DC bd jn cB:Xi}
inductive spJn (vs:Xh) (H:Hp) (Q:VK) (_E:XK):Prop where
 |mk (g:Sg) (a b:Nat) (cD:vs=[.str g.s,.int (a:Int),.int (b:Int)]) (cE:g.d4) (cJ:Q (.int ((g.f a b:Nat):Int)) H)
def XU:AM ["sign", "one", "other"] ["sign", "one", "other"] (defScope Kc):=cH
def WN {f:Xi} (F:aV K "joined" "joined" Kc f fd):AZ P w K mg base aL 1 f fd ["sign", "one", "other"] spJn:=by
 refine F.m XU λvs H Q E h=>?_;obtain⟨g,a,b,rfl,hg,q⟩:=h;refine⟨rfl,λad A outer s hr=>?_⟩;refine⟨_,AG (Ai (AL Ax (pv 0) AJ (AS _)) (AE (AQ (Ac DS (pv 1) (pv 2)))) AT) (AG (Ai (AL Ax (pv 0) AJ (AS _)) (AE (AQ (Ac QT (pv 1) (pv 2)))) AT) (AE (AQ (Ac Kz (pv 1) (pv 2))))),?_⟩;refine⟨_,rfl,rfl,_,rfl,?_⟩;cases g with
 |br=>exact hg.elim
 |no=>exact hg.elim
 |an =>
  rw[show decide (V.str Sg.an.s=V.str "&")=true by decide +kernel];refine Ag ⟨_,Zj,_,Zj,_,_,Zj,Zj,?_⟩;show Q (V.int (Builtin.bitAnd _ _)) H;rw[Bx];exact q
 |xo =>
  rw[show decide (V.str Sg.xo.s=V.str "&")=false by decide +kernel];refine AV ⟨_,Zj,Zj,_,Zj,?_⟩;rw[show decide (V.str Sg.xo.s=V.str "^")=true by decide +kernel];refine Ag ⟨_,Zj,_,Zj,_,_,Zj,Zj,?_⟩;show Q (V.int (Builtin.bitXor _ _)) H;rw[Ol];exact q
 |or =>
  rw[show decide (V.str Sg.or.s=V.str "&")=false by decide +kernel];refine AV ⟨_,Zj,Zj,_,Zj,?_⟩;rw[show decide (V.str Sg.or.s=V.str "^")=false by decide +kernel];refine AV ⟨_,Zj,_,Zj,_,_,Zj,Zj,?_⟩;show Q (V.int (Builtin.bitOr _ _)) H;rw[C6];exact q
inductive spKN (C cB:Xi) (vs:Xh) (H:Hp) (Q:VK) (E:XK):Prop where
 |mk (p:Xi) (due:Aa) (r:Str) (x:Str) (cD:vs=[.ref p,.str x]) (cE:aU C H p due r) (cJ:x∈due.map (·.1)) (cW:Q (.int (look due x:Nat)) H)
 |no (p:Xi) (due:Aa) (r:Str) (x:Str) (cD:vs=[.ref p,.str x]) (cE:aU C H p due r) (cJ:x∉ due.map (·.1)) (cW:Uq H E cB)
def WO {f:Xi} (F:aV K "number" "Kind.number" Cr f fd) (T:IZ K C) (EB:Oc P w K mg base "BadName" cB) (GO:Fn P w K mg base "is_one_of" 1 ["thing", "names"] (DI K)):AZ P w K mg base (eX P w) 3 f fd ["self", "name"] (spKN C cB):=by
 obtain⟨fO,dO,GO,mO,kO,bO⟩:=GO.ex;obtain⟨fX,dX,MX,GX,bX⟩:=EB.make;have mX:=EB.cls;refine F.okX Ri (λvs H Q E h=>?_) (λad A outer s H vs Q E hr h=>?_)
 ·cases h with
  |mk p due r x e=>subst e;rfl
  |no p due r x e=>subst e;rfl
 ·have hu:=Ch hr;have d5:aE 1 _:=hr.mono qc;have rz:=HQ (P:=P) (w:=w) (K:=K) (mg:=mg) (base:=base) (N:=["self", "name"]) (qual := "Kind.number") (scope:=defScope Cr) (f:=f) (cd:=ad) (A:=A) (outer:=outer) (s:=s) (H:=H) (E:=E)
  refine⟨_,AG (Ai (BM (Aw (AN GO d5 Zj mO kO bO .nil AR (AA (pv 1) (AA (BH (pv 0) Zj) AC))))) (AE (D8 rz Zj MX.cls (D7 MX GX hr Zj mX bX .nil AR (AA AJ AC)))) AT)
   (AE (AQ (BU hu (BH (pv 0) rfl) (pv 1) (λ_ _=>rfl)))),?_⟩
  cases h with
  |mk p due r x e KA hx k =>
   subst e;obtain⟨dx,d1,o1,d2,o2,hp,h1,h2⟩:=KA.ex;refine⟨_,Zj,_,Zj,p,C,dx,_,_,Zj,hp,T.cl,T.nN,IY _ _ _,?_⟩;refine .inl ⟨x,d1,Az due,Zj,.inr ⟨o1,h1⟩,_,Zj,?_⟩;rw[CN hx];refine AV ?_;exact⟨_,Zj,p,C,dx,_,_,Zj,hp,T.cl,T.nN,IY _ _ _,_,Zj,d1,_,Zj,.inl ⟨_,Sum.inr x,.inr ⟨o1,h1⟩,Zj,(CN hx).symm⟩,k⟩
  |no p due r x e KA hx hU =>
   subst e;obtain⟨dx,d1,o1,d2,o2,hp,h1,h2⟩:=KA.ex;refine⟨_,Zj,_,Zj,p,C,dx,_,_,Zj,hp,T.cl,T.nN,IY _ _ _,?_⟩;refine .inl ⟨x,d1,Az due,Zj,.inr ⟨o1,h1⟩,_,Zj,?_⟩;rw[Df hx];refine Ag ?_;exact Dj (te:=λ_=>tC (.str "")) MX.cls (U.refl _) hU
structure WP (P:Program) (w:World) (K:FG) (mg:SV) (base:Heap) (C:Xi) (m:Str) (k:Nat) (ps:Xf) (sp:Sp):Prop where
 ex:∃f fd,AZ P w K mg base (eX P w) k f fd ps sp/\QZ K C m f/\Binds K fd ps []
structure ju (P:Program) (w:World) (K:FG) (mg:SV) (base:Heap) (x:Str) (k:Nat) (ps:Xf) (sp:Sp):Prop where
 ex:∃f fd,AZ P w K mg base (eX P w) k f fd ps sp/\mg x=some (.ref f)/\W.keepIn K (.ref f)=true/\Binds K fd ps []
inductive spPN (C cB:Xi) (vs:Xh) (H:Hp) (Q:VK) (E:XK):Prop where
 |mk (k t:Xi) (x:Str) (n:Nv) (r:Str) (cD:vs=[.ref k,.str x,.ref t]) (cE:aU C H k n.due r) (z_t:Rd H t (.dK n.kvs)) (cJ:WdOk n x) (cW:∀H',U H H'->Q (.int (wv n x:Nat)) H')
 |no (k t:Xi) (x:Str) (n:Nv) (r:Str) (cD:vs=[.ref k,.str x,.ref t]) (cE:aU C H k n.due r) (cJ:NmNo n x) (cW:Uq H E cB)
def XV:AM ["kind", "part", "table"] ["kind", "part", "table"] (defScope Ct):=cH
def WQ {f:Xi} (F:aV K "part_number" "part_number" Ct f fd) (B:Bl mg) (T:IZ K C) (GL:Fn P w K mg base "is_letter" 1 ["thing"] (spLet K)) (GN:Fn P w K mg base "is_name" 1 ["thing"] spIsName) (GK:WP P w K mg base C "number" 3 ["self", "name"] (spKN C cB)):AZ P w K mg base (eX P w) 4 f fd ["kind", "part", "table"] (spPN C cB):=by
 obtain⟨fL,dL,GL,mL,kL,bL⟩:=GL.ex;obtain⟨fN,dN,GN,mN,kN,bN⟩:=GN.ex;obtain⟨fK,dK,GK,mK,bK⟩:=GK.ex;refine F.okX XV (λvs H Q E h=>?_) (λad A outer s H vs Q E hr h=>?_)
 ·cases h with
  |mk k t x n r e=>subst e;rfl
  |no k t x n r e=>subst e;rfl
 ·have hu:=Ch hr;have d5:aE 1 _:=hr.mono qc;have ps:=OH (P:=P) (w:=w) (K:=K) (mg:=mg) (base:=base) (N:=["kind", "part", "table"]) (qual := "part_number") (scope:=defScope Ct) (f:=f) (cd:=ad) (A:=A) (outer:=outer) (s:=s) (H:=H) (E:=E)
  refine⟨_,AG (Ai (Aw (AN GL d5 Zj mL kL bL .nil AR (AA (pv 1) AC))) (AE (AQ (BU hu (pv 2) (pv 1) (λ_ _=>rfl)))) AT)
   (AG (Ai (Aw (AN GN d5 rfl mN kN bN .nil AR (AA (pv 1) AC))) (AE (AQ (Cp (pv 0) T.cl mK GK hr bK .nil ps (AA (pv 1) AC)))) AT)
   (AE (AQ (Ba El rfl B.int IS (AA (pv 1) AC))))),?_⟩
  cases h with
  |no k t x n r e KA W hU =>
   subst e;obtain⟨dk,e1,e2,hk⟩:=KA.ins;have l6:=W.l6;refine⟨_,Zj,.txt x Zj W.l6 ⟨_,Zj,?_⟩⟩;rw[W.lt];refine AV ⟨_,Zj,x,Zj,W.as,qe,λH1 s1=>⟨_,Zj,?_⟩⟩;rw[W.nm];exact Ag ⟨_,Zj,k,dk,_,Zj,s1 _ _ hk,(Ec _ _ _),_,Zj,.no k n.due r x Zj (KA.same s1) W.no (hU.of s1)⟩
  |mk k t x n r e KA ht W q =>
   subst e;obtain⟨dk,e1,e2,hk⟩:=KA.ins;have l6:=W.l6;refine⟨_,rfl,.txt x rfl W.l6 ⟨_,rfl,?_⟩⟩;rcases W.or with⟨hl,hv⟩ |⟨hl,hn,hx⟩ |⟨hl,hn,hd⟩
   ·have qq:=q H (U.refl _);unfold wv at qq;rw[hl,Zp rfl]at qq;rw[hl];exact Ag ⟨_,Zj,_,Zj,t,_,Zj,.inl ⟨_,Sum.inr x,ht,Zj,hv.symm⟩,qq⟩
   ·rw[hl];refine AV ⟨_,Zj,x,Zj,W.as,qe,λH1 s1=>⟨_,Zj,?_⟩⟩;have qq:=q H1 s1;unfold wv at qq;rw[hl,Zq qc,hn,Zp rfl]at qq;rw[hn];exact Ag ⟨_,Zj,k,dk,_,Zj,s1 _ _ hk,(Ec _ _ _),_,Zj,.mk k n.due r x Zj (KA.same s1) hx qq⟩
   ·rw[hl];refine AV ⟨_,Zj,x,Zj,W.as,qe,λH1 s1=>⟨_,Zj,?_⟩⟩;have qq:=q H1 s1;unfold wv at qq;rw[hl,Zq qc,hn,Zq qc]at qq;rw[hn];have l0:=W.l0;exact AV ⟨_,Zj,x,_,Zj,qe,intText_digits hd (λz=>by have:=At x;rw[z]at this;simp at this;omega) qe,qq⟩
def NoK (H:Hp) (Q:VK) (E:XK) (cB:Xi):Option Nat->Prop
 |some v=>∀H',U H H'->Q (.int ((v:Nat):Int)) H'
 |none=>Uq H E cB
inductive spNo (C cB:Xi) (vs:Xh) (H:Hp) (Q:VK) (E:XK):Prop where
 |mk (k l t:Xi) (S:Xf) (o:Option Nat) (n:Nv) (r:Str) (cD:vs=[.ref k,.ref l,.ref t]) (cE:aU C H k n.due r) (z_t:Rd H t (.dK n.kvs)) (cJ:H l=some (.lst (S.map V.str))) (cW:S.length<=400) (eJ:Ev n o [] S) (fV:NoK H Q E cB o)
noncomputable abbrev NNo:Xf:=["kind", "steps", "table", "held", "step", "last"]
def scNo:AM NNo ["kind", "steps", "table"] (defScope Eb):=cH
def Ee (h:List Nat) (v:Nat):gU (A3 (h++[v])) (-1)=some (V.int (v:Int))/\(A3 (h++[v]))[(A3 (h++[v])).length - 1]?=some (V.int (v:Int))/\(A3 (h++[v])).dropLast=A3 h/\g9 (A3 (h++[v])).length (-1)=some h.length/\∀u:V,(A3 (h++[v])).set h.length u=A3 h++[u]:=by
 have e:A3 (h++[v])=A3 h++[V.int (v:Int)]:=by unfold A3;rw[Zu];rfl
 have el:(A3 h).length=h.length:=AK _;rw[e]
 have e2:g9 (A3 h++[V.int (v:Int)]).length (-1)=some h.length:=by
  rw[ZH,length_singleton,el];unfold g9;simp;omega
 refine⟨?_,?_,List.dropLast_concat,e2,λu=>?_⟩
 ·unfold gU;rw[e2];show(A3 h++[V.int (v:Int)])[h.length]?=_;rw[getElem?_append_right qe,el,Nat.sub_self];rfl
 ·rw[ZH,length_singleton,Nat.add_sub_cancel,getElem?_append_right (Zy _),Nat.sub_self];rfl
 ·rw[List.set_append_right _ _ qe,el,Nat.sub_self];rfl
def R7 {g:Sg} (h:g.d4):(if false=true then !eK (V.str g.s) [V.str "&", V.str "^", V.str "|"]else eK (V.str g.s) [V.str "&", V.str "^", V.str "|"])=true:=by
 cases g <;> first |exact h.elim |decide +kernel
def WR {f:Xi} (F:aV K "number_of" "number_of" Eb f fd) (T:IZ K C) (mJ:mg "JOINING" = some (.ref jn)) (hJ:∀H,aX K H jn [.str "&", .str "^", .str "|"]) (GK:Mt P w K mg base C "known" 2 ["self"] (spKnown C)) (GJ:Fn P w K mg base "joined" 1 ["sign", "one", "other"] spJn) (GP:ju P w K mg base "part_number" 4 ["kind", "part", "table"] (spPN C cB)):AZ P w K mg base (eX P w) 5 f fd ["kind", "steps", "table"] (spNo C cB):=by
 obtain⟨fJ,dJ,GJ,mJn,kJ,bJ⟩:=GJ.ex;obtain⟨fP,dP,GP,mP,kP,bP⟩:=GP.ex;obtain⟨fK,dK,GK,mK,bK⟩:=GK.ex;refine F.n scNo λvs H Q E h=>?_;obtain⟨k,l,t,S,o,n,r,rfl,KA,hT,hl,h400,G,q⟩:=h;refine⟨Zj,λad A outer s hr=>?_⟩;have ps:=OH (P:=P) (w:=w) (K:=K) (mg:=mg) (base:=base) (N:=NNo) (qual := "number_of") (scope:=defScope Eb) (f:=f) (cd:=ad) (A:=A) (outer:=outer) (s:=s) (H:=H) (E:=E);have d5:aE 1 _:=hr.mono qc;have eP:aE 2 _:=hr.mono qc;have nd:=scNo.nd
 refine⟨_,AG (Ae (i:=3) nd Zj (Or.inl Zj) (BA AC))
  (AG (Dw PassesOwn.leaving rfl (Bj (pv 1)) (Af (i:=4) nd rfl (Or.inl rfl))
   (AE (Ai (AL Ax (pv 4) AJ (AS _))
    (AE (C2 (Ac DS (Bv (pv 0) T.cl mK GK eP bK .nil AR) (Eg QU (BI (Ar K rfl) (pv 3) (Eg Dx AD) (λ_ _=>rfl)))) (J7 (pv 3) (Eg Dx AD) FR)))
    (AE (Ai (AL EU (pv 4) (BL (v:=.ref jn) rfl mJ rfl) rfl)
     (AG (Ae (i:=5) nd rfl (Or.inl rfl) (Hj PySem.F.plainAttrs_list PySem.F.slot_list_pop PySem.F.type_list_pop KF (pv 3)))
     (AE (C2 (AN GJ d5 rfl mJn kJ bJ .nil AR (AA (pv 4) (AA (BI (Ar K rfl) (pv 3) (Eg Dx AD) (λ_ _=>rfl)) (AA (pv 5) AC)))) (J7 (pv 3) (Eg Dx AD) FR))))
     (AE (BD (Eh PySem.F.plainAttrs_list PySem.F.slot_list_append PySem.F.type_list_append CA (pv 3) (AA (AN GP hr rfl mP kP bP .nil ps (AA (pv 0) (AA (pv 4) (AA (pv 2) AC)))) AC)))))))))
  (AE (AQ (Hj PySem.F.plainAttrs_list PySem.F.slot_list_pop PySem.F.type_list_pop KF (pv 3))))),?_⟩
 refine⟨(by show 0<=sizeLine;decide),λhd hhd=>?_⟩;have s1:=AH (U.refl _) hhd (o:=HO.lst []);have h1:=AB (H:=H) (a:=hd) (o:=HO.lst []);generalize upd H hd (HO.lst [])=H1 at s1 h1 ⊢;have nl:l≠hd:=AI hl hhd;refine⟨_,Zj,l,Zj,⟨_,aI.of (s1 _ _ hl)⟩,Cf (K:=K) (a:=l) (xs:=S.map V.str) (λi σ H2=>(∃v4 v5,σ=[some (.ref k),some (.ref l),some (.ref t),some (.ref hd),v4,v5])/\U H H2/\∃h,H2 hd=some (.lst (A3 h))/\Ev n o h (S.drop i)/\h.length<=i) ⟨⟨_,_,Zj⟩,s1,[],h1,G,Nat.zero_le _⟩ (λi σ H2 _ e=>aI.of (e.2.1 _ _ hl)) ?_ ?_⟩
 ·rintro i x σ H2 hi ⟨⟨v4,v5,rfl⟩,s2,h,h2,ev,hle⟩;rw[ZE]at hi;obtain⟨y,hy,rfl⟩:=Z6.mp hi;obtain⟨iT,ey⟩:=Z8.mp hy;rw[List.drop_eq_getElem_cons iT,ey]at ev;have keep:∀ {H3:Hp} (o:HO),U H H3->U H (upd H3 hd o):=λ{H3} o a b u e=>by rw[AF (AI e hhd)];exact a b u e
  refine⟨_,rfl,rfl,_,rfl,?_⟩;cases ev with
  |no _ _ _ W e =>
   subst e;obtain⟨n1,n2,n3,n4⟩:=W.nb;rw[ZO (show ¬ V.str y=V.str "~" from λz=>n4 (V.str.inj z))];refine AV ⟨_,Zj,jn,_,Zj,.inr (hJ _),Zj,Zj,_,Zj,?_⟩
   have ein:(if false=true then !eK (V.str y) [V.str "&", V.str "^", V.str "|"]else eK (V.str y) [V.str "&", V.str "^", V.str "|"])=false:=by
    rw[Zq qc];unfold eK;simp[jq,n1,n2,n3,Ne.symm n1,Ne.symm n2,Ne.symm n3]
   rw[ein];exact AV ⟨_,Zj,.inl ⟨Zj,_,aI.of h2⟩,_,Zj,_,Zj,_,Zj,.no k t y n r Zj (KA.same s2) W (Uq.of s2 q)⟩
  |cons _ h' _ _ es er =>
   have be:=es.len;cases es with
   |ng h0 a =>
    obtain⟨l1,l2,l3,l4,l5⟩:=Ee h0 a;rw[show decide (V.str "~" = V.str "~")=true by decide +kernel];have KA2:=KA.same s2;obtain⟨kr,e1,e2,ah⟩:=KA2.ins;refine Ag ⟨_,Zj,k,kr,_,Zj,ah,(Ec _ _ _),k,n.due,r,Zj,KA2,λH3 s3=>?_⟩;refine⟨_,Zj,_,Zj,hd,_,-1,.int (a:Int),Zj,Zj,aI.of (s3 _ _ h2),l1,_,Zj,_,_,Zj,Zj,?_⟩;refine⟨_,Zj,_,Zj,hd,_,-1,h0.length,Zj,Zj,s3 _ _ h2,l4,⟨_,_,Zj⟩,keep _ (s2.trans s3),h0++[kn n.due - (kn n.due&&&a)],?_,er,qe⟩;rw[AB,l5];show some (HO.lst (A3 h0++[V.int (Builtin.bitAnd ((Av ((Aj n.due).map (·.1)):Nat):Int) (Builtin.bitNot (a:Int)))]))=_;rw[MJ,IF];unfold A3;rw[Zu];rfl
   |bn g hg h0 a b =>
    obtain⟨l1,l2,l3,l4,l5⟩:=Ee (h0++[a]) b;obtain⟨m1,m2,m3,m4,m5⟩:=Ee h0 a;rw[show decide (V.str g.s=V.str "~")=false by cases g <;> first |exact hg.elim |decide +kernel];refine AV ⟨_,Zj,jn,_,Zj,.inr (hJ _),Zj,Zj,_,Zj,?_⟩;rw[R7 hg];refine Ag ?_;refine⟨_,Zj,.inl ⟨Zj,_,aI.of h2⟩,hd,_,.int (b:Int),Zj,Zj,h2,l2,?_⟩;rw[l3];have h3:=AB (H:=H2) (a:=hd) (o:=HO.lst (A3 (h0++[a])));refine⟨_,Zj,_,Zj,_,Zj,hd,_,-1,.int (a:Int),Zj,Zj,aI.of h3,m1,_,Zj,g,a,b,Zj,hg,_,Zj,_,Zj,hd,_,-1,h0.length,Zj,Zj,h3,m4,⟨_,_,Zj⟩,keep _ (keep _ s2),h0++[g.f a b],?_,er,qe⟩;rw[AB,m5];unfold A3;rw[Zu];rfl
   |wd _ W _ =>
    obtain⟨n1,n2,n3,n4⟩:=W.nb;rw[ZO (show ¬ V.str y=V.str "~" from λz=>n4 (V.str.inj z))];refine AV ⟨_,Zj,jn,_,Zj,.inr (hJ _),Zj,Zj,_,Zj,?_⟩
    have ein:(if false=true then !eK (V.str y) [V.str "&", V.str "^", V.str "|"]else eK (V.str y) [V.str "&", V.str "^", V.str "|"])=false:=by
     rw[Zq qc];unfold eK;simp[jq,n1,n2,n3,Ne.symm n1,Ne.symm n2,Ne.symm n3]
    rw[ein];refine AV ⟨_,Zj,.inl ⟨Zj,_,aI.of h2⟩,_,Zj,_,Zj,_,Zj,.mk k t y n r Zj (KA.same s2) (U.rd s2 hT) W λH3 s3=>?_⟩;refine⟨hd,_,_,Zj,Zj,s3 _ _ h2,AO (by unfold A3;rw[AK];omega),⟨_,_,Zj⟩,keep _ (s2.trans s3),h++[wv n y],?_,er,qe⟩;rw[AB];unfold A3;rw[Zu];rfl
 ·rintro σ H2 ⟨⟨v4,v5,rfl⟩,s2,h,h2,ev,_⟩;rw[AK,List.drop_length]at ev;cases ev with
  |nil v e =>
   subst e;obtain⟨l1,l2,l3,l4,l5⟩:=Ee [] v;refine⟨_,Zj,.inl ⟨Zj,_,aI.of h2⟩,hd,_,.int (v:Int),Zj,Zj,h2,Zj,q _ λb u e=>?_⟩;rw[AF (AI e hhd)];exact s2 b u e
end
end Mk
end
section
namespace L2
open PySem
def Np {a:Xi}{xs:Xh}{g:TG}{tt:TT}{te:TE}{ix:List (Option Nat)}{R:List Key->Hp->Prop}{σ:St}{H1:Hp} (Pv:Nat->List Key->Hp->Prop) (h0:Pv 0 [] H1) (hl:∀i ys H,i<=xs.length->Pv i ys H->aI K H a xs) (hz:∀i ys H,Pv i ys H->ys.length<=1000)
  (hs:∀i x ys H,xs[i]?=some x->Pv i ys H->g x (B7 ix σ) H λcC H2=>tt cC H2 λb H3=>if b=true then te cC H3 λy H4=>∃k,y=kV k/\Pv (i+1) (IB ys k) H4 else Pv (i+1) ys H3) (hd:∀ys H,Pv xs.length ys H->R ys H) :
  ∃W:Nat->Nat->List Key->Hp->Prop,(∃m,W 0 m [] H1)/\∀i m ys H,W i m ys H ->
   ((iY K a).stop i H/\ys.length<=1000/\R ys H) \/
   ((iY K a).go i H/\∃N:List Key->Hp->Prop,(∀cP H',N cP H'->cP.length<=1000/\∃m',m'<m/\W (i+1) m' cP H') /\
    ∀x H',(iY K a).g8 i H x H'->g x (B7 ix σ) H' λcC H2=>tt cC H2 λb H3=>if b=true then te cC H3 λy H4=>∃k,y=kV k/\N (IB ys k) H4 else N ys H3):=by
 refine⟨λi m ys H=>m=xs.length - i/\i<=xs.length/\Pv i ys H,⟨_,Zj,Nat.zero_le _,h0⟩,?_⟩;rintro i m ys H ⟨rfl,hi,hp⟩;by_cases hlt:i<xs.length
 ·have hx:xs[i]?=some xs[i]:=Z7 hlt;refine .inr ⟨⟨xs,xs[i],hl i ys H hi hp,hx⟩,Pv (i+1),λcP H' q=>⟨hz _ cP H' q,xs.length - (i+1),qe,Zj,hlt,q⟩,?_⟩;rintro x H' ⟨rfl,hy⟩
  have ex:x=xs[i]:=by
   have:=hy xs (hl i ys H' hi hp);rw[hx]at this;exact(Option.some.inj this).symm
  subst ex;exact hs i xs[i] ys H' hx hp
 ·have e:i=xs.length:=by omega
  subst e;exact .inl ⟨⟨xs,hl _ ys H hi hp,Zy _⟩,hz _ ys H hp,hd ys H hp⟩
end L2
namespace Mk
open PySem L2 MK PySem.NumText
structure LtL (ns S:Xf):Prop where
 nd:ns.Nodup
 so:PyProof.Rows.sortedS ns=true
 mem:∀x,x∈ns ↔ (x∈S/\A9 x=true)
section
variable {DC bd cM cR cT cB cN:Xi}
inductive spLi (vs:Xh) (H:Hp) (Q:VK) (_E:XK):Prop where
 |mk (l:Xi) (S:Xf) (cD:vs=[.ref l]) (cE:H l=some (.lst (S.map V.str))) (cJ:S.length<=400) (cW:(S.filter A9).length<64) (eJ:∀x∈S,x.length<=200) (fV:∀p ns H',U H H'->H' p=some (.lst (ns.map V.str))->LtL ns S->Q (.ref p) H')
def XW:AM ["steps"] ["steps"] (defScope FA):=cH
def WS {f:Xi} (F:aV K "letters_in" "letters_in" FA f fd) (B:Bl mg) (GL:Fn P w K mg base "is_letter" 1 ["thing"] (spLet K)):AZ P w K mg base aL 2 f fd ["steps"] spLi:=by
 obtain⟨fL,dL,GL,mL,kL,bL⟩:=GL.ex;refine F.m XW λvs H Q E h=>?_;obtain⟨l,S,rfl,hl,h400,h64,h200,q⟩:=h;refine⟨Zj,λad A outer s hr=>?_⟩;refine⟨_,AE (AQ (AX (KY Zj) Zj B.sorted Jo (AA (Pm [] [] qd qb qd Zj (Bj (pv 0)) (λ_ _ _ _ _ _=>Fa (Aw (AN GL hr Zj mL kL bL .nil AR (AA (pv 0) AC)))) (λ_ _ _ _ _ _=>pv 0)) AC))),?_⟩;refine⟨_,Zj,l,Zj,⟨_,aI.of hl⟩,Np (K:=K) (a:=l) (xs:=S.map V.str) (λi ys H2=>H2=H/\∃ms:Xf,ys=ms.map Sum.inr/\ms.Nodup/\(∀x,x∈ms ↔ x∈(S.take i).filter A9)/\ms.length<=((S.take i).filter A9).length) ⟨Zj,[],Zj,nodup_nil,λx=>by simp,Nat.zero_le _⟩ (λi ys H2 _ ⟨e,_⟩=>e ▸ aI.of hl) (λi ys H2 ⟨_,ms,e,_,_,be⟩=>?_) ?_ ?_⟩
 ·rw[e,AK];have h1:=ZS A9 (S.take i);rw[ZA]at h1;omega
 ·rintro i v ys H2 hi ⟨rfl,ms,rfl,nd,hm,be⟩;rw[ZE]at hi;obtain⟨y,hy,rfl⟩:=Z6.mp hi;have e1:(S.take (i+1)).filter A9=(S.take i).filter A9++[y].filter A9:=by rw[ZD,hy,Option.toList_some,filter_append]
  refine⟨_,rfl,.txt y rfl (h200 y (ZQ hy)) ⟨_,rfl,?_⟩⟩;cases hlt:A9 y with
  |false =>
   have e2:[y].filter A9=[]:=by simp[hlt]
   rw[e2,Zt]at e1;exact AV ⟨Zj,ms,Zj,nd,by rw[e1];exact hm,by rw[e1];exact be⟩
  |true =>
   have e2:[y].filter A9=[y]:=by simp[hlt]
   rw[e2]at e1;refine Ag ⟨_,Zj,Sum.inr y,Zj,Zj,?_⟩;unfold IB;by_cases gQ:(Sum.inr y:Key)∈ms.map Sum.inr
   ·rw[Zp gQ]
    have hy2:y∈ms:=by
     obtain⟨z,hz,e⟩:=Zr.mp gQ;cases e;exact hz
    refine⟨ms,Zj,nd,λx=>?_,?_⟩
    ·rw[e1,mem_append,ZG,hm x];exact⟨.inl,λz=>z.elim id λz=>z ▸ (hm y).mp hy2⟩
    ·rw[e1,ZH];omega
   ·rw[Zq gQ];have hy2:y∉ ms:=λz=>gQ (Zr.mpr ⟨_,z,rfl⟩);refine⟨y::ms,Zj,Zs.mpr ⟨hy2,nd⟩,λx=>?_,?_⟩
    ·rw[e1,mem_append,ZG,mem_cons,hm x];exact Or.comm
    ·rw[e1,ZH,length_cons,length_singleton];omega
 ·rintro ys H2 ⟨rfl,ms,rfl,nd,hm,be⟩ p hp;rw[AK,ZB]at hm be;refine⟨p,ms,Zj,AB,qe,λl2 ns ia bj hso=>?_⟩;have sp:=AH (U.refl _) hp (o:=KR P w p (ms.map Sum.inr));refine q l2 ns _ (AH sp ia) AB ⟨bj.nodup_iff.mpr nd,hso,λx=>?_⟩;rw[bj.mem_iff,hm x,mem_filter]
noncomputable def XX:Key->Bool |Sum.inr x=>A9 x |Sum.inl _=>false
noncomputable def R8:V->Bool | .int i=>okN i |_=>false
noncomputable def gL (kv:Key×V):Bool:=XX kv.1&&R8 kv.2
structure Iq (kvs:LK):Prop where
 len:kvs.length<=1000
 key:∀kv∈kvs,∀x,kv.1=Sum.inr x->x.length<=200
 val:∀kv∈kvs,(∃i:Int,kv.2=.int i)\/kv.2=.bl true\/kv.2=.aO
inductive spTab (K:FG) (vs:Xh) (H:Hp) (Q:VK) (_E:XK):Prop where
 |mk (a:Xi) (o:Obj) (kvs:LK) (cD:vs=[.ref a]) (cE:H a=some (.bG o (.dK kvs))) (cJ:Iq kvs) (cW:∀H',U H H'->Q (.bl (kvs.all gL)) H')
 |aO (v:V) (cD:vs=[v]) (cE:eR K "dict" H v) (cJ:Q (.bl false) H)
def WT:AM ["thing"] ["thing"] (defScope IL):=cH
def Nq {X:Cx} (K:FG) (hK:X.K=K):aS X (.builtin "isinstance") (λxs H Q=>(∃v T t b,xs=[v,.ty T]/\dY K H v t/\W.kitOne K t (.type T)=some b/\Q (.bl b) H)\/∃a o kvs,xs=[.ref a,.ty "dict"]/\H a=some (.bG o (.dK kvs))/\Q (.bl true) H):=hK ▸ aS.or LI Pg
def Om:bootBuiltins "dict" = some (.type "dict"):=by decide +kernel
def VL {f:Xi} (F:aV K "is_table" "is_table" IL f fd) (B:Bl mg) (mD:mg "dict" = none) (GL:Fn P w K mg base "is_letter" 1 ["thing"] (spLet K)) (GN:Fn P w K mg base "is_number" 2 ["thing"] (Kj K)):AZ P w K mg base aL 3 f fd ["thing"] (spTab K):=by
 obtain⟨fL,dL,GL,mL,kL,bL⟩:=GL.ex;obtain⟨fN,dN,GN,mN,kN,bN⟩:=GN.ex;refine F.ok WT (λvs H Q E h=>?_) (λad A outer s H vs Q E hr h=>?_)
 ·cases h with
  |mk a o kvs e=>subst e;rfl
  |aO v e=>subst e;rfl
 ·have d5:aE 1 _:=hr.mono qc
  refine⟨_,AG (Ai (BM (Aw (AX (Nq K Zj) Zj B.fk IR (AA (pv 0) (AA (J6 (v:=.ty "dict") Zj mD Om Zj) AC))))) (AE (AQ DB)) AT)
   (AE (AQ (AX (D3 rfl) rfl B.all IQ (AA (Fc [] [] qd qb qd qd rfl (LH (pv 0)) (λ_ _ _ _ _ _=>Bm) (λ_ _ _ _ _ _=>C1 (AN GL d5 rfl mL kL bL .nil AR (AA (pv 0) AC)) (C0 (AN GN hr rfl mN kN bN .nil AR (AA (pv 1) AC))))) AC)))),?_⟩
  cases h with
  |aO v e hv k =>
   subst e;obtain⟨t,ht,hk⟩:=hv.ty;exact⟨_,Zj,.inl ⟨_,_,_,false,Zj,ht,hk,_,Zj,Ag k⟩⟩
  |mk a o kvs e ha TB k =>
   subst e;refine⟨_,Zj,.inr ⟨a,o,kvs,Zj,ha,_,Zj,AV ?_⟩⟩;refine⟨_,Zj,a,o,kvs,Zj,ha,Ng (a:=a) (o:=o) (kvs:=kvs) (λi ys H2=>U H H2/\ys=((kvs.take i).map gL).map V.bl) ⟨U.refl _,Zj⟩ (λi ys H2 ⟨s2,_⟩=>s2 _ _ ha) (λi ys H2 ⟨_,e⟩=>?_) ?_ ?_⟩
   ·have:=TB.len;rw[e,AK,AK,ZA];omega
   ·rintro i kv ys H2 p gj ⟨s2,rfl⟩ hp;have s3:=AH (U.refl _) hp (o:=HO.tup [kV kv.1,kv.2]);have s23:=s2.trans s3;have cu:=ZQ gj;refine⟨p,_,Zj,aX.of AB,Zj,_,_,Zj,_,_,Zj,Zj,?_⟩
    have fin:∀b,b=gL kv->U H (upd H2 p (.tup [kV kv.1,kv.2]))/\((kvs.take i).map gL).map V.bl++[V.bl b]=((kvs.take (i+1)).map gL).map V.bl:=λb hb=>by
     refine⟨s23,?_⟩;rw[ZD,gj,Option.toList_some,Zu,Zu,hb];rfl
    obtain⟨key,val⟩:=kv;cases key with
    |inl n =>
     refine⟨_,Zj,.aO (.int n) Zj (U9 qd) ⟨_,Zj,AV (fin _ Zj)⟩⟩
    |inr x =>
     refine⟨_,rfl,.txt x rfl (TB.key _ cu x rfl) ⟨_,rfl,?_⟩⟩;cases hx:A9 x with
     |false =>
      refine AV (fin _ ?_);show false=(A9 x&&R8 val);rw[hx];rfl
     |true =>
      have tb:gL (Sum.inr x,val)=R8 val:=by
       show(A9 x&&R8 val)=R8 val;rw[hx];rfl
      refine Ag ⟨_,rfl,?_⟩;rcases TB.val _ cu with⟨n,e⟩ |e |e
      ·change val=_ at e;subst e;exact .inl ⟨n,Zj,fin _ tb.symm⟩
      ·change val=_ at e;subst e;exact .inr ⟨_,Zj,.inl Zj,fin _ tb.symm⟩
      ·change val=_ at e;subst e;exact .inr ⟨_,Zj,.inr (Rv qd),fin _ tb.symm⟩
   ·rintro ys H2 ⟨s2,rfl⟩ p hp;rw[ZB];have s3:=AH (U.refl _) hp (o:=HO.lst ((kvs.map gL).map V.bl));refine⟨p,kvs.map gL,Zj,aI.of AB,?_⟩;rw[all_map];exact k _ (s2.trans s3)
structure VM (P:Program) (w:World) (K:FG) (mg:SV) (base:Heap) (DC bd cT:Xi):Prop where
 ex:∃f fd,AZ P w K mg base (eX P w) 6 f fd ["text", "lettered"] (spSt K DC bd cT)/\mg "steps_of" = some (.ref f)/\W.keepIn K (.ref f)=true/\∃ds,Binds K fd ["text", "lettered"] ds/\Vals [.bl true] ds
structure On (T:Xf):Prop where
 l4:T.length<=400
 l64:(T.filter A9).length<64
 sh:∀x∈T,x.length<=200
inductive spLs (K:FG) (bd cT:Xi) (vs:Xh) (H:Hp) (Q:VK) (E:XK):Prop where
 |mk (z:Str) (T:Xf) (cD:vs=[.str z]) (cE:z.cps.all (· < 128)=true) (cJ:z.length<=100) (cW:Rn true z (.ok T) 0 [] [] true) (eJ:On T) (fV:Rd H bd (.dK CO)) (jS:∀p ns H',U H H'->H' p=some (.lst (ns.map V.str))->LtL ns T->Q (.ref p) H')
def XY:AM ["text"] ["text"] (defScope Ft):=cH
def WU {f:Xi} (F:aV K "letters" "letters" Ft f fd) (SO:VM P w K mg base DC bd cT) (GI:Fn P w K mg base "letters_in" 2 ["steps"] spLi):AZ P w K mg base (eX P w) 7 f fd ["text"] (spLs K bd cT):=by
 obtain⟨fS,dS,GS,mS,kS,ds,bS,vS⟩:=SO.ex;obtain⟨fI,dI,GI,mI,kI,bI⟩:=GI.ex;refine F.okX XY (λvs H Q E h=>?_) (λad A outer s H vs Q E hr h=>?_)
 ·obtain⟨z,T,rfl,_⟩:=h;rfl
 ·have eP:aE 2 _:=hr.mono qc;have ps:=OH (P:=P) (w:=w) (K:=K) (mg:=mg) (base:=base) (N:=["text"]) (qual := "letters") (scope:=defScope Ft) (f:=f) (cd:=ad) (A:=A) (outer:=outer) (s:=s) (H:=H) (E:=E);refine⟨_,AE (AQ (AN GI eP Zj mI kI bI .nil AR (AA (AN GS hr Zj mS kS bS vS ps (AA (pv 0) AC)) AC))),?_⟩;obtain⟨z,T,rfl,ha,h100,RN,SP,hB,q⟩:=h;exact⟨_,Zj,.mk z true (.ok T) Zj ha h100 RN hB λl H1 s1 hl=>⟨l,T,Zj,hl,SP.l4,SP.l64,SP.sh,λp ns H2 s2 hp L=>q p ns H2 (s1.trans s2) hp L⟩⟩
inductive RkG (C VC cR cB cN:Xi) (T:Xf) (kp:Xi) (n:Nv) (H:Hp) (Q:VK) (E:XK):Prop where
 |lack (x:Str) (hx:x∈T) (hl:A9 x=true) (hn:As n.kvs (Sum.inr x)=none) (q:Uq H E cN)
 |go (o:Option Nat) (hs:∀x∈T,A9 x=true->As n.kvs (Sum.inr x)≠none) (ev:Ev n o [] T) (q:match o with |none=>Uq H E cB |some v=>∀H1,U H H1->spMade C VC cR [.ref kp,.int (v:Int)] H1 Q E)
inductive RkK (K:FG) (C VC cR cB cN:Xi) (T:Xf) (kp:Xi) (n:Nv) (tv:V) (H:Hp) (Q:VK) (E:XK):Prop where
 |tab (h:(eR K "dict" H tv)\/∃a o kvs,tv=.ref a/\H a=some (.bG o (.dK kvs))/\Iq kvs/\kvs.all gL=false) (q:Uq H E cN)
 |is (a:Xi) (o:Obj) (e:tv=.ref a) (h:H a=some (.bG o (.dK n.kvs))) (t:Iq n.kvs) (al:n.kvs.all gL=true) (g:RkG C VC cR cB cN T kp n H Q E)
inductive gE (K:FG) (C VC cR cB cN bd cT:Xi) (vs:Xh) (H:Hp) (Q:VK) (E:XK):Prop where
 |mk (kp:Xi) (z:Str) (T:Xf) (tv:V) (n:Nv) (r:Str) (cD:vs=[.ref kp,.str z,tv]) (cE:aU C H kp n.due r) (cJ:z.cps.all (· < 128)=true) (cW:z.length<=100) (eJ:Rn true z (.ok T) 0 [] [] true) (fV:On T) (jS:Rd H bd (.dK CO)) (z_7:RkK K C VC cR cB cN T kp n tv H Q E)
 |bad (kp z e tv) (cD:vs=[.ref kp,.str z,tv]) (cE:z.cps.all (· < 128)=true) (cJ:z.length<=100) (cW:Rn true z (.bad e) 0 [] [] true) (fV:Rd H bd (.dK CO)) (jS:UqA H E cT (.int (e:Int)))
noncomputable abbrev NRk:Xf:=["kind", "text", "table", "steps"]
def scRk:AM NRk ["kind", "text", "table"] (defScope DH):=cH
def RkG.same {T:Xf}{kp:Xi}{n:Nv}{Q:VK}{E:XK} (s:U H H') (h:RkG C VC cR cB cN T kp n H Q E):RkG C VC cR cB cN T kp n H' Q E:=by
 cases h with
 |lack x hx hl hn q=>exact .lack x hx hl hn (q.of s)
 |go o hs ev q =>
  refine .go o hs ev ?_;cases o with
  |none=>exact Uq.of s q
  |some v=>exact λH1 s1=>q H1 (s.trans s1)
def WV {f:Xi} (F:aV K "reckoned" "reckoned" DH f fd) (B:Bl mg) (EN:Oc P w K mg base "BadNumber" cN) (SO:VM P w K mg base DC bd cT) (GI:Fn P w K mg base "letters_in" 2 ["steps"] spLi) (GT:Fn P w K mg base "is_table" 3 ["thing"] (spTab K)) (GN:ju P w K mg base "number_of" 5 ["kind", "steps", "table"] (spNo C cB)) (GM:ju P w K mg base "made" 6 ["kind", "number"] (spMade C VC cR)):AZ P w K mg base (eX P w) 7 f fd ["kind", "text", "table"] (gE K C VC cR cB cN bd cT):=by
 obtain⟨fS,dS,GS,mS,kS,ds,bS,vS⟩:=SO.ex;obtain⟨fI,dI,GI,mI,kI,bI⟩:=GI.ex;obtain⟨fT,dT,GT,mT,kT,bT⟩:=GT.ex;obtain⟨fN,dN,GN,mN,kN,bN⟩:=GN.ex;obtain⟨fM,dM,GM,mM,kM,bM⟩:=GM.ex;obtain⟨fX,dX,MX,GX,bX⟩:=EN.make;have mX:=EN.cls;refine F.okX scRk (λvs H Q E h=>?_) (λad A outer s H vs Q E hr h=>?_)
 ·cases h with
  |mk kp z T tv n r e=>subst e;rfl
  |bad kp z a tv e=>subst e;rfl
 ·have hu:=Ch hr;have eP:aE 2 _:=hr.mono qc;have iJ:aE 3 _:=hr.mono qc;have hr5:aE 5 _:=hr.mono qc;have nd:=scRk.nd;have rz:=HQ (P:=P) (w:=w) (K:=K) (mg:=mg) (base:=base) (N:=NRk) (qual := "reckoned") (scope:=defScope DH) (f:=f) (cd:=ad) (A:=A) (outer:=outer) (s:=s) (H:=H) (E:=E);have ps:=OH (P:=P) (w:=w) (K:=K) (mg:=mg) (base:=base) (N:=NRk) (qual := "reckoned") (scope:=defScope DH) (f:=f) (cd:=ad) (A:=A) (outer:=outer) (s:=s) (H:=H) (E:=E)
  refine⟨_,AG (Ae (i:=3) nd Zj (Or.inl Zj) (AN GS hr Zj mS kS bS vS ps (AA (pv 1) AC)))
   (A1 (Ai (BM (Aw (AN GT iJ rfl mT kT bT .nil AR (AA (pv 2) AC)))) (AE (D8 rz rfl MX.cls (D7 MX GX eP rfl mX bX .nil AR (AA AJ AC)))) AT)
   (A1 (Ai (BM (Aw (AX (D3 rfl) rfl B.all IQ (AA (Bw ["table"] [some 2] qd qb qd rfl (Bj (AN GI eP rfl mI kI bI .nil AR (AA (pv 3) AC))) (λ_ _ _ _ _ _=>Bm) (λ_ _ _ _ _ _=>QL (Mw hu (pv 0) (pv 1)))) AC)))) (AE (D8 rz rfl MX.cls (D7 MX GX eP rfl mX bX .nil AR (AA AJ AC)))) AT)
   (AE (AQ (AN GM hr rfl mM kM bM .nil ps (AA (pv 0) (AA (AN GN hr5 rfl mN kN bN .nil ps (AA (pv 0) (AA (pv 3) (AA (pv 2) AC)))) AC))))))),?_⟩
  cases h with
  |bad kp z a tv e ha h100 RN hB q =>
   subst e;exact⟨_,Zj,.mk z true (.bad a) Zj ha h100 RN hB q⟩
  |mk kp z T tv n r e KA ha h100 RN SP hB RK =>
   subst e;refine⟨_,Zj,.mk z true (.ok T) Zj ha h100 RN hB λl H1 s1 hl=>?_⟩;have KA1:=KA.same s1;refine⟨λσ H2=>∃a o,σ=[some (.ref kp),some (.str z),some (.ref a),some (.ref l)]/\U H1 H2/\H2 a=some (.bG o (.dK n.kvs))/\RkG C VC cR cB cN T kp n H2 Q E,λR hR=>?_,?_⟩
   ·cases RK with
    |tab h q =>
     rcases h with h |⟨a,o,kvs,e,h,t,al⟩
     ·exact⟨_,Zj,.aO tv Zj (h.same s1) ⟨_,Zj,Ag (Dj (te:=λ_=>tC (.str "")) MX.cls s1 q)⟩⟩
     ·subst e;refine⟨_,Zj,.mk a o kvs Zj (s1 _ _ h) t λH2 s2=>⟨_,Zj,?_⟩⟩;rw[al];exact Ag (Dj (te:=λ_=>tC (.str "")) MX.cls (s1.trans s2) q)
    |is a o e h t al g =>
     subst e;refine⟨_,Zj,.mk a o n.kvs Zj (s1 _ _ h) t λH2 s2=>⟨_,Zj,?_⟩⟩;rw[al];exact AV (hR _ _ ⟨a,o,Zj,s2,s2 _ _ (s1 _ _ h),g.same (s1.trans s2)⟩)
   rintro σ H2 ⟨a,o,rfl,s2,ha2,RK2⟩;have ia:=s2 _ _ hl;refine⟨λσ H3=>σ=[some (.ref kp),some (.str z),some (.ref a),some (.ref l)]/\U H2 H3/\RkG C VC cR cB cN T kp n H3 Q E/\(∀x∈T,A9 x=true->As n.kvs (Sum.inr x)≠none),λR hR=>?_,?_⟩
   ·refine⟨_,Zj,l,T,Zj,ia,SP.l4,SP.l64,SP.sh,λp ns H3 s3 hp L=>?_⟩
    have be:ns.length<=1000:=by
     have h1:(ns.map V.str).length<=1000:=by
      rcases Nat.lt_or_ge 1000 (ns.map V.str).length with z |z
      ·exfalso;have h4:=SP.l4
       have hn:ns.length<=T.length:=by
        have:∀(l:Xf),l.Nodup->∀m:Xf,(∀x∈l,x∈m)->l.length<=m.length:=by
         intro l;induction l with
         |nil=>intro _ m _;exact Nat.zero_le _
         |cons y l ih =>
          intro nd m hm;obtain⟨n1,n2⟩:=Zs.mp nd;have hy:=hm y (ZI ..);have:=ih n2 (m.erase y) λx hx=>(List.mem_erase_of_ne (λe=>n1 (by rw[←e];exact hx))).mpr (hm x (ZR _ hx));rw[List.length_erase_of_mem hy]at this;have:0<m.length:=List.length_pos_of_mem hy;rw[length_cons];omega
        exact this ns L.nd T λx hx=>((L.mem x).mp hx).1
       rw[AK]at z;omega
      ·exact z
     rwa[AK]at h1
    refine⟨p,Zj,⟨_,aI.of hp⟩,CB (K:=K) (a:=p) (xs:=ns.map V.str) (λi ys H4=>H4=H3/\ys=((ns.take i).map λx=>(As n.kvs (Sum.inr x)).isSome).map V.bl) ⟨Zj,Zj⟩ (λi ys H4 _ ⟨e,_⟩=>e ▸ aI.of hp) (λi ys H4 ⟨_,e⟩=>?_) ?_ ?_⟩
    ·rw[e,AK,AK,ZA];omega
    ·rintro i v ys H4 hi ⟨rfl,rfl⟩;rw[ZE]at hi;obtain⟨y,hy,rfl⟩:=Z6.mp hi;refine⟨_,Zj,_,Zj,a,_,Zj,.inl ⟨_,Sum.inr y,.inr ⟨o,s3 _ _ ha2⟩,Zj,Zj⟩,Zj,?_⟩;rw[ZD,hy,Option.toList_some,Zu,Zu];rfl
    ·rintro ys H4 ⟨rfl,rfl⟩ p2 am;rw[AK,ZB];have s4:=AH (U.refl _) am (o:=HO.lst ((ns.map λx=>(As n.kvs (Sum.inr x)).isSome).map V.bl));have s24:=s3.trans s4;refine⟨p2,ns.map λx=>(As n.kvs (Sum.inr x)).isSome,Zj,aI.of AB,_,Zj,?_⟩
     have good:(∀x∈T,A9 x=true->As n.kvs (Sum.inr x)≠none)->(ns.map λx=>(As n.kvs (Sum.inr x)).isSome).all id=true:=λh=>by
      rw[all_map];refine List.all_eq_true.mpr λx hx=>?_;obtain⟨h1,h2⟩:=(L.mem x).mp hx;exact Option.isSome_iff_ne_none.mpr (h x h1 h2)
     cases id RK2 with
     |lack x hx jb hn q =>
      have:(ns.map λx=>(As n.kvs (Sum.inr x)).isSome).all id=false:=by
       rw[all_map,List.all_eq_false];refine⟨x,(L.mem x).mpr ⟨hx,jb⟩,?_⟩;show ¬ (As n.kvs (Sum.inr x)).isSome=true;rw[hn];decide
      rw[this];exact Ag (Dj (te:=λ_=>tC (.str "")) MX.cls s24 q)
     |go o' hs ev q =>
      rw[good hs];exact AV (hR _ _ ⟨Zj,s24,RK2.same s24,hs⟩)
   rintro σ H3 ⟨rfl,s3,RK3,hs⟩;have jj:=s2.trans s3;have ha3:=s3 _ _ ha2;cases RK3 with
   |lack x hx jb hn q=>exact absurd hn (hs x hx jb)
   |go o' hs ev q =>
    refine⟨_,rfl,_,rfl,_,rfl,_,rfl,.mk kp l a T o' n r rfl (KA1.same jj) (.inr ⟨o,ha3⟩) (jj _ _ hl) SP.l4 ev ?_⟩;cases o' with
    |none=>exact q
    |some v=>exact q
end
def Oo {lt:Bool}{w:List Nat} (h0:0<w.length) (h6:w.length<=6) (hu:w.all Cn=true):js lt w:=by
 refine⟨h0,λk hk hkw x hx=>?_⟩
 suffices h:B0 x=true by unfold JJ;rw[h];rfl
 have hl:x.length=k:=by rw[←At,hx,ZA];omega
 unfold B0;rw[hl,hx,ZL (show 1<=k by omega),ZL (show k<=6 by omega)];refine List.all_eq_true.mpr λc hc=>List.all_eq_true.mp hu c (mem_of_mem_take hc)
noncomputable abbrev dg (m:Nat):List Nat:=(Nat.toDigits 10 m).map Char.toNat
def Op {m:Nat} (h:¬ m<10):dg m=dg (m / 10)++dg (m % 10):=by
 have hm:m % 10<10:=Nat.mod_lt m qc;have t:Nat.toDigits 10 (m / 10)++Nat.toDigits 10 (m % 10)=Nat.toDigits 10 (10*(m / 10)+m % 10):=Nat.toDigits_append_toDigits qc qe hm;rw[Nat.div_add_mod]at t;show(Nat.toDigits 10 m).map Char.toNat=_;rw[←t,Zu]
def Ir {m:Nat} (h:m<10):dg m=[m+48]:=by
 show(Nat.toDigits 10 m).map Char.toNat=_;rw[Nat.toDigits_of_lt_base h];have:∀d:Nat,d<10->[(Nat.digitChar d)].map Char.toNat=[d+48]:=by decide
 exact this m h
def Oq (m:Nat) (h:0<m):∃c r,dg m=c::r/\c≠48:=by
 induction m using Nat.strongRecOn with
 |_ m ih =>
  by_cases h1:m<10
  ·exact⟨m+48,[],Ir h1,qe⟩
  ·obtain⟨c,r,e,hc⟩:=ih (m / 10) qe qe;exact⟨c,r++dg (m % 10),by rw[Op h1,e];rfl,hc⟩
def Nr (m:Nat):(dg m).all CV=true:=by
 induction m using Nat.strongRecOn with
 |_ m ih =>
  by_cases h1:m<10
  ·rw[Ir h1];simp[CV];omega
  ·rw[Op h1,all_append,ih (m / 10) qe,ih (m % 10) qe];rfl
def R9 (l:List Nat) (k:Nat):digitsVal (l.take k)<=digitsVal l:=by
 have key:∀(r:List Nat) (a b:Nat),a<=b->a<=r.foldl (λacc c=>acc*10+(c - 48)) b:=λr=>by
  induction r with
  |nil=>exact λa b h=>h
  |cons c r ih=>exact λa b h=>ih a _ (by show a<=b*10+(c - 48);omega)
 unfold digitsVal
 conv=>rhs;rw[←List.take_append_drop k l,foldl_append]
 exact key _ _ _ (Zy _)
def VN {lt:Bool}{n:Nat} (h:n<1099511627776):js lt (dg n):=by
 have a0:0<(dg n).length:=by
  by_cases h1:n<10
  ·rw[Ir h1];simp
  ·obtain⟨c,r,e,_⟩:=Oq n qe;rw[e];simp
 refine⟨a0,λk hk hkw x hx=>?_⟩;have bi:x.cps.toList.all CV=true:=by rw[hx];exact List.all_eq_true.mpr λc hc=>List.all_eq_true.mp (Nr n) c (mem_of_mem_take hc)
 suffices h:Kl x=true by unfold JJ;rw[h];cases B0 x <;> rfl
 unfold Kl;rw[bi,Bool.true_and,Bool.or_eq_true,decide_eq_true_eq,Bool.and_eq_true,decide_eq_true_eq,Bool.not_eq_true',decide_eq_false_iff_not];rcases Nat.eq_zero_or_pos n with rfl |hp
 ·refine .inl (Km ?_);rw[hx,Ir qc];have:k=1:=by rw[Ir qc]at hkw;simp at hkw;omega
  subst this;decide +kernel
 ·obtain⟨c,r,e,hc⟩:=Oq n hp;refine .inr ⟨?_,?_⟩
  ·rw[hx,e];cases k with
   |zero=>omega
   |succ k=>simpa using hc
  ·rw[hx];exact Nat.lt_of_le_of_lt (R9 _ _) (by rw[show digitsVal (dg n)=n from W.KIN.val_back n];exact h)
structure Wd (n:Nv) (x:Str) (v:Nat):Prop where
 ok:WdOk n x
 pw:∀lt,A9 x=false\/lt=true->js lt x.cps.toList
 v:wv n x=v
 len:x.length<=13
def Os {x:Str} (h:∀c∈x.cps.toList,c<97):A9 x=false:=by
 unfold A9;cases e:x.cps.toList with
 |nil=>rfl
 |cons a r =>
  cases r with
  |cons b r=>rfl
  |nil =>
   have:=h a (by rw[e];exact ZG.mpr rfl);show Co a=false;unfold Co;rw[ZO qe];rfl
def Ot {n:Nv} (D:EJ n.due) {p:Str×Nat} (hp:p∈n.due):Wd n p.1 p.2/\p.1.length<=6/\A9 p.1=false:=by
 obtain⟨h1,h2,_⟩:=D.nm p hp;have h3:=h1;unfold B0 at h3;simp only[Bool.and_eq_true,decide_eq_true_eq]at h3;obtain⟨⟨l1,l6⟩,up⟩:=h3;have sl:=At p.1
 have hl:A9 p.1=false:=Os λc hc=>by
  have:=List.all_eq_true.mp up c hc;simp[Cn]at this;omega
 refine⟨⟨⟨h2,qe,qe,.inr (.inl ⟨hl,h1,Zr.mpr ⟨_,hp,Zj⟩⟩)⟩,λlt _=>Oo qe qe up,?_,qe⟩,l6,hl⟩;unfold wv;rw[hl,Zq qc,Zp h1];exact DL D.nd hp
noncomputable abbrev FK (n:Nat):Str:=Str.ofString (toString ((n:Nat):Int))
def Ou (n:Nat):(FK n).cps.toList=dg n:=by
 show(Str.ofString (toString (Int.ofNat n))).cps.toList=_;rw[PyProof.Rows.text_ofNat]
def Kp {n:Nv}{v:Nat} (h:v<2 ^ 40):Wd n (FK v) v/\A9 (FK v)=false:=by
 have e:=Ou v;have hd:=Nr v
 have pw:∀lt,js lt (dg v):=λlt=>VN (n:=v) (by have e40:(2:Nat) ^ 40=1099511627776:=by decide
                                              omega)
 have sl:=At (FK v)
 have hl:(dg v).length<=13:=by
  rw[AK];exact toDigits_len_pow qc qc (Nat.lt_trans h qc)
 rw[e]at sl;have a0:=(pw true).ne
 have kh:∀c∈(FK v).cps.toList,48<=c/\c<=57:=λc hc=>by
  rw[e]at hc;have:=List.all_eq_true.mp hd c hc;simpa[CV]using this
 have hnl:A9 (FK v)=false:=Os λc hc=>by have:=kh c hc;omega
 have hnm:B0 (FK v)=false:=by
  unfold B0
  have:(FK v).cps.toList.all Cn=false:=by
   cases e2:(FK v).cps.toList with
   |nil=>rw[e2]at e;rw[←e]at a0;simp at a0
   |cons c r =>
    have:=kh c (by rw[e2];exact ZI ..);simp[Cn];omega
  rw[this,Bool.and_false]
 refine⟨⟨⟨?_,qe,qe,.inr (.inr ⟨hnl,hnm,kh⟩)⟩,λlt _=>by rw[e];exact pw lt,?_,qe⟩,hnl⟩
 ·rw[←Array.all_toList,List.all_eq_true];exact λc hc=>ZL (by have:=kh c hc;omega)
 ·unfold wv;rw[hnl,Zq qc,hnm,Zq qc,e];exact W.KIN.val_back v
def Iu {n:Nv}{c:Nat} (hc:Co c=true) (h:As n.kvs (Sum.inr ⟨#[c]⟩)=some (.int (n.tb ⟨#[c]⟩:Nat))):Wd n ⟨#[c]⟩ (n.tb ⟨#[c]⟩):=by
 have hl:A9 ⟨#[c]⟩=true:=hc;have h2:97<=c/\c<=122:=by simpa[Co]using hc
 refine⟨⟨?_,(by show 0<1;decide),(by show 1<=200;decide),.inl ⟨hl,h⟩⟩,λlt hlt=>?_,?_,(by show 1<=13;decide)⟩
 ·rw[←Array.all_toList,List.all_eq_true];intro d hd;have:d=c:=by simpa using hd
  exact ZL qe
 ·rcases hlt with z |rfl
  ·rw[hl]at z;cases z
  ·refine⟨(by show 0<1;decide),λk hk hkw x hx=>?_⟩
   have:k=1:=by
    have:k<=1:=hkw;omega
   subst this
   have:A9 x=true:=by
    unfold A9;rw[hx];exact hc
   unfold JJ;rw[this];cases B0 x <;> cases Kl x <;> rfl
 ·unfold wv;rw[hl,Zp rfl]
inductive LT
 |nm (x:Str)
 |no (n:Nat)
 |le (c:Nat)
 |ng (t:LT)
 |bn (g:Sg) (a b:LT)
noncomputable def LT.tr:LT->Tr
 | .nm x=>.wd x
 | .no n=>.wd (FK n)
 | .le c=>.wd ⟨#[c]⟩
 | .ng t=>.ng t.tr
 | .bn g a b=>.bn g a.tr b.tr
noncomputable def LT.ht:LT->Nat
 | .nm _=>0
 | .no _=>0
 | .le _=>0
 | .ng t=>t.ht+1
 | .bn _ a b=>max a.ht b.ht+1
def LT.Ok (ws:Xf) (sg:List Nat):LT->Prop
 | .nm x=>x∈ws
 | .no n=>n<2 ^ 20
 | .le c=>c∈sg
 | .ng t=>t.Ok ws sg
 | .bn g a b=>g.d4/\a.Ok ws sg/\b.Ok ws sg
def eA (H:Hp):V->LT->Prop
 |v,.nm x=>∃p,v=.ref p/\H p=some (.tup [.str "name", .str x])
 |v,.no n=>∃p,v=.ref p/\H p=some (.tup [.str "number", .int (n:Int)])
 |v,.le c=>∃p,v=.ref p/\H p=some (.tup [.str "letter", .str ⟨#[c]⟩])
 |v,.ng t=>∃p u,v=.ref p/\H p=some (.tup [.str "~", u])/\eA H u t
 |v,.bn g a b=>∃p u1 u2,v=.ref p/\H p=some (.tup [.str g.s,u1,u2])/\eA H u1 a/\eA H u2 b
def eA.aN (s:aK H H'):∀ {t:LT}{v:V},eA H v t->eA H' v t
 | .nm x,v,h=>by
  obtain⟨p,e,h⟩:=h;exact⟨p,e,s _ _ h⟩
 | .no n,v,h=>by
  obtain⟨p,e,h⟩:=h;exact⟨p,e,s _ _ h⟩
 | .le c,v,h=>by
  obtain⟨p,e,h⟩:=h;exact⟨p,e,s _ _ h⟩
 | .ng t,v,h=>by
  obtain⟨p,u,e,h,a⟩:=h;exact⟨p,u,e,s _ _ h,a.aN s⟩
 | .bn g a b,v,h=>by
  obtain⟨p,u1,u2,e,h,x,y⟩:=h;exact⟨p,u1,u2,e,s _ _ h,x.aN s,y.aN s⟩
def aH.tt {d:Xi}{x y:Int} (hd:H d=some (.lst [.int x,.int y])) (s:aH d H H'):aK H H':=λb xs e=>s.old _ _ e (FL e hd λz=>nomatch z)
def F5 {d wl:Xi}{x y:Int}{ws:Xf} (hd:H d=some (.lst [.int x,.int y])) (hw:H wl=some (.lst (ws.map V.str))) (h0:0<ws.length):wl≠d:=FL hw hd λz=>by
 cases ws with
 |nil=>exact absurd h0 qc
 |cons a r=>cases HO.lst.inj z
section
noncomputable abbrev Iv:Xf:=["_law_dice", "_law_words", "_law_signs", "_law_deep"]
inductive spTree (D:Nat) (vs:Xh) (H:Hp) (Q:VK) (_E:XK):Prop where
 |mk (d wl:Xi) (a b:Int) (ws:Xf) (sg:Str) (cD:vs=[.ref d,.ref wl,.str sg,.int (D:Int)]) (cE:H d=some (.lst [.int a,.int b])) (cJ:H wl=some (.lst (ws.map V.str))) (cW:0<ws.length) (eJ:ws.length<=10) (z_s:sg.length<=10)
  (fV:∀v t H',aH d H H'->eA H' v t->t.Ok ws sg.cps.toList->t.ht<=D->Q v H')
inductive tNum (D:DQ) (σ:St) (H:Hp):Prop where
 |mk (d:Xi) (x y:Int) (e:σ[0]?=some (some (.ref d))) (hd:H d=some (.lst [.int x,.int y])) (k:∀(n:Nat) p H',aH d H H'->H' p=some (.tup [.str "number", .int (n:Int)])->n<2 ^ 20->D.rt (.ref p) H')
def UD:Nat->Sp
 |0=>λ_ _ _ _=>False
 |D+1=>spTree D
noncomputable abbrev WW:Xf:=["_law_dice", "_law_words", "_law_signs", "_law_deep", "_law_kind", "_law_one"]
def scTree:AM WW Iv (defScope Fv):=cH
def WX {X:Cx}{st:Stmt}{t t':TS} (h:PS X st t) (hw:∀D σ H,t' D σ H->t D σ H):PS X st t':=λaa s σ H D I k=>h aa s σ H D I (hw D σ H k)
def MW {f:Xi} (F:aV K "_law_tree" "_law_tree" Fv f fd) (B:Bl mg) (GR:Fn P w K mg base "_law_roll" 2 ["_law_dice", "_law_many"] dH) (D:Nat) (G:Fn P w K mg base "_law_tree" (2+D) Iv (UD D)):AZ P w K mg base aL (3+D) f fd Iv (spTree D):=by
 obtain⟨fR,dR,GR,mR,kR,bR⟩:=GR.ex;obtain⟨fT,dT,GT,mT,kT,bT⟩:=G.ex;have e3:3+D=2+D+1:=by omega
 rw[e3];refine F.m scTree λvs H Q E h=>?_;obtain⟨d,wl,a,b,ws,sg,rfl,hd,hw,h0,f9,hsg,q⟩:=h;refine⟨Zj,λad A outer s hr=>?_⟩;have eP:aE 2 _:=hr.mono qe;have nd:=scTree.nd
 refine⟨_,A1 (Ae (i:=4) nd Zj (Or.inl Zj) (Bf (AL G3 (pv 3) AD (AS _)) (AN GR eP Zj mR kR bR .nil AR (AA (pv 0) (AA AD AC))) (AN GR eP Zj mR kR bR .nil AR (AA (pv 0) (AA AD AC)))))
  (AG (Ai (AL Gz (pv 4) AD (AS _)) (AE (AQ (A5 (AA AJ (AA (BI (Ar K rfl) (pv 1) (AN GR eP rfl mR kR bR .nil AR (AA (pv 0) (AA (AX (BJ K rfl) rfl B.len PySem.boot_len (AA (pv 1) AC)) AC))) (λ_ _=>rfl)) AC))))) AT)
  (A1 (Ai (PW.pt (Dv (AL Ax (pv 4) AD (AS _)) (Cc (PW.pt (CP (AL Ax (pv 4) AD (AS _)) (Bh (AL Ax (pv 2) AJ (AS _)))))))) (AE (WX (t':=tNum) (AQ (A5 (AA AJ (AA (BI (Ar K rfl) (BA (AA (AN GR eP rfl mR kR bR .nil AR (AA (pv 0) (AA AD AC))) (AA (AN GR eP rfl mR kR bR .nil AR (AA (pv 0) (AA (Ac Er AD AD) AC))) (AA (AN GR eP rfl mR kR bR .nil AR (AA (pv 0) (AA AD AC))) AC)))) (AN GR eP rfl mR kR bR .nil AR (AA (pv 0) (AA AD AC))) (λ_ _=>rfl)) AC)))) ?numH)) AT)
  (AG (Ai (AL Ax (pv 4) AD (AS _)) (AE (AQ (A5 (AA AJ (AA (BI Hi (pv 2) (AN GR eP rfl mR kR bR .nil AR (AA (pv 0) (AA (AX BE rfl B.len PySem.boot_len (AA (pv 2) AC)) AC))) (λ_ _=>rfl)) AC))))) AT)
  (AG (Ai (AL Ax (pv 4) AD (AS _)) (AE (AQ (A5 (AA AJ (AA (AN GT hr rfl mT kT bT .nil AR (AA (pv 0) (AA (pv 1) (AA (pv 2) (AA (Ac Cg (pv 3) AD) AC))))) AC))))) AT)
  (AG (Ae (i:=5) nd rfl (Or.inl rfl) (AN GT hr rfl mT kT bT .nil AR (AA (pv 0) (AA (pv 1) (AA (pv 2) (AA (Ac Cg (pv 3) AD) AC))))))
  (AE (AQ (A5 (AA (BI Hi AJ (Ac Cg (pv 4) AD) (λ_ _=>rfl)) (AA (pv 5) (AA (AN GT hr rfl mT kT bT .nil AR (AA (pv 0) (AA (pv 1) (AA (pv 2) (AA (Ac Cg (pv 3) AD) AC))))) AC))))))))))),?_⟩
 case numH =>
  rintro D σ H1 ⟨d,x1,y1,e0,eT,k⟩;refine⟨_,e0,d,x1,y1,9,Zj,eT,qc,qc,λn1 a2 b2 n10 n11=>?_⟩;have sA:=Au (x':=a2) (y':=b2) eT;refine⟨_,e0,_,_,Zj,Zj,⟨qc,qc,qc⟩,d,a2,b2,_,Zj,AB,qc,qc,λn2 a3 b3 n20 n21=>?_⟩;have sB:=Au (x':=a3) (y':=b3) (AB (H:=H1) (a:=d) (o:=.lst [.int a2,.int b2]));refine⟨_,e0,d,a3,b3,64,Zj,AB,qc,qc,λn3 a4 b4 n30 n31=>?_⟩;have sC:=Au (x':=a4) (y':=b4) (AB (H:=upd H1 d (.lst [.int a2,.int b2])) (a:=d) (o:=.lst [.int a3,.int b3]));have s4:=(sA.trans sB).trans sC;have ki:=AB (H:=upd (upd H1 d (.lst [.int a2,.int b2])) d (.lst [.int a3,.int b3])) (a:=d) (o:=.lst [.int a4,.int b4]);generalize upd (upd (upd H1 d (.lst [.int a2,.int b2])) d (.lst [.int a3,.int b3])) d (.lst [.int a4,.int b4])=H4 at s4 ki ⊢;refine⟨gO,λp hp=>?_⟩;have hpd:p≠d:=Ne.symm (AI ki hp);have s5:=s4.step (AH (U.refl _) hp (o:=HO.lst [V.int n1,V.int n2,V.int n3]));have hd5:(upd H4 p (.lst [V.int n1,V.int n2,V.int n3])) d=some (.lst [.int a4,.int b4]):=by rw[AF (Ne.symm hpd)];exact ki
  have hp5:=AB (H:=H4) (a:=p) (o:=HO.lst [V.int n1,V.int n2,V.int n3]);generalize upd H4 p (.lst [V.int n1,V.int n2,V.int n3])=H5 at s5 hd5 hp5 ⊢;refine⟨_,e0,d,a4,b4,3,Zj,hd5,qc,qc,λix a5 b5 ix0 ix1=>?_⟩;have sD:=Au (x':=a5) (y':=b5) hd5;have hp6:=sD.old _ _ hp5 hpd;obtain⟨v,hv,eE⟩:=Gr (xs:=[V.int n1,V.int n2,V.int n3]) ix0 ix1;have e20:(2:Int) ^ (20:Int).toNat=1048576:=by decide
  have n21':n2<1048576:=e20 ▸ n21
  obtain⟨n,rfl,hn⟩:∃n:Nat,v=V.int (n:Int)/\n<2 ^ 20:=by
   have hm:=ZQ eE;simp only[mem_cons,not_mem_nil,or_false]at hm;have p20:(2:Nat) ^ 20=1048576:=by decide
   rcases hm with rfl |rfl |rfl
   ·exact⟨n1.toNat,by rw[Int.toNat_of_nonneg n10],qe⟩
   ·exact⟨n2.toNat,by rw[Int.toNat_of_nonneg n20],qe⟩
   ·exact⟨n3.toNat,by rw[Int.toNat_of_nonneg n30],qe⟩
  refine⟨p,_,ix,_,Zj,Zj,aI.of hp6,hv,eV,λp2 am=>?_⟩;exact k n p2 _ ((s5.trans sD).step (AH (U.refl _) am)) AB hn
 refine⟨λσ H'=>∃kd:Int,σ=[some (.ref d),some (.ref wl),some (.str sg),some (.int (D:Int)),some (.int kd),none]/\0<=kd/\kd<8/\(D=0->kd<4)/\aH d H H',λR hR=>?_,?_⟩
 ·refine⟨_,Zj,_,_,Zj,Zj,_,Zj,?_⟩;refine B6 (λhp=>?_) (λhp=>?_)
  ·have hD:(0:Int)<(D:Int):=ZV hp;exact⟨_,Zj,d,a,b,8,Zj,hd,qc,qc,λkd a1 b1 k0 k1=>hR _ _ ⟨kd,Zj,k0,k1,λz=>absurd hD qe,Au hd⟩⟩
  ·exact⟨_,Zj,d,a,b,4,Zj,hd,qc,qc,λkd a1 b1 k0 k1=>hR _ _ ⟨kd,Zj,k0,qe,λ_=>k1,Au hd⟩⟩
 rintro σ H1 ⟨kd,rfl,k0,k8,kD,s1⟩;have hw1:=s1.old _ _ hw (F5 hd hw h0);obtain⟨x1,y1,eT⟩:=s1.bH;have hwl:(ws.map V.str).length=ws.length:=AK _;refine⟨_,Zj,_,_,Zj,Zj,_,Zj,?_⟩;refine B6 (λ_=>?_) (λh2=>?_)
 ·-- a name
  refine⟨_,Zj,_,Zj,_,Zj,wl,_,Zj,.inl (aI.of hw1),d,x1,y1,_,Zj,eT,qe,qe,λr2 a2 b2 r20 r21=>?_⟩;have sx:=Au (x':=a2) (y':=b2) eT;have hw2:=sx.old _ _ hw1 (F5 eT hw1 h0);obtain⟨v,hv,eE⟩:=Gr (xs:=ws.map V.str) r20 (by exact r21);rw[ZE]at eE;obtain⟨y,hy,rfl⟩:=Z6.mp eE;refine⟨wl,_,r2,_,Zj,Zj,aI.of hw2,hv,eV,λp hp=>?_⟩;exact q (.ref p) (.nm y) _ ((s1.trans sx).step (AH (U.refl _) hp)) ⟨p,Zj,AB⟩ (ZQ hy) (Nat.zero_le _)
 have hk2:¬ kd<2:=λz=>h2 (ZL z);refine⟨λσ H'=>σ=[some (.ref d),some (.ref wl),some (.str sg),some (.int (D:Int)),some (.int kd),none]/\H'=H1/\kd≠2/\(kd=3->sg≠ ""),λR hR=>?_,?_⟩
 ·have num:tNum { nx:=R,rt:=Q } [some (.ref d),some (.ref wl),some (.str sg),some (.int (D:Int)),some (.int kd),none] H1:=⟨d,x1,y1,rfl,eT,λn p H' sx hp hn=>q (.ref p) (.no n) _ (s1.trans sx) ⟨p,rfl,hp⟩ hn (Nat.zero_le _)⟩;refine⟨_,Zj,Zj,_,Zj,?_⟩;by_cases e2:kd=2
  ·rw[ZL (show V.int kd=V.int 2 by rw[e2])];exact Ag (Ag num)
  rw[ZO (show ¬ V.int kd=V.int 2 from λz=>e2 (V.int.inj z))];refine AV ⟨_,Zj,Zj,_,Zj,?_⟩;by_cases e3:kd=3
  ·rw[ZL (show V.int kd=V.int 3 by rw[e3])];refine Ag ⟨_,Zj,Zj,_,Zj,?_⟩;by_cases es:sg = ""
   ·rw[ZL (show V.str sg=V.str "" by rw[es])];exact Ag num
   ·rw[ZO (show ¬ V.str sg=V.str "" from λz=>es (V.str.inj z))];exact AV (hR _ _ ⟨Zj,Zj,e2,λ_=>es⟩)
  ·rw[ZO (show ¬ V.int kd=V.int 3 from λz=>e3 (V.int.inj z))];exact AV (AV (hR _ _ ⟨Zj,Zj,e2,λz=>absurd z e3⟩))
 rintro σ H1' ⟨rfl,rfl,e2,hs3⟩;refine⟨_,Zj,Zj,_,Zj,?_⟩;by_cases e3:kd=3
 ·-- a letter
  rw[ZL (show V.int kd=V.int 3 by rw[e3])]
  have a0:0<sg.length:=by
   rcases Nat.eq_zero_or_pos sg.length with z |z
   ·exfalso;refine hs3 e3 (Km ?_);have:=At sg;rw[z]at this;rw[List.length_eq_zero_iff.mp this];decide +kernel
   ·exact z
  refine Ag ⟨_,Zj,_,Zj,_,Zj,sg,Zj,Nat.le_of_lt (AO qe),d,x1,y1,_,Zj,eT,qe,qe,λr2 a2 b2 r20 r21=>?_⟩;have sx:=Au (x':=a2) (y':=b2) eT;obtain⟨j,rfl⟩:∃j:Nat,r2=(j:Int):=⟨r2.toNat,qe⟩;have hj:j<sg.cps.toList.length:=by rw[At];omega
  obtain⟨c,eE⟩:∃c,sg.cps.toList[j]?=some c:=⟨_,Z7 hj⟩;have hv:=BS eE;refine⟨sg,(j:Int),c,Zj,Zj,Nat.le_of_lt (AO qe),hv,eV,λp hp=>?_⟩;exact q (.ref p) (.le c) _ ((s1.trans sx).step (AH (U.refl _) hp)) ⟨p,Zj,AB⟩ (ZQ eE) (Nat.zero_le _)
 rw[ZO (show ¬ V.int kd=V.int 3 from λz=>e3 (V.int.inj z))];refine AV ?_
 obtain⟨D',rfl⟩:∃D',D=D'+1:=by
  cases D with
  |zero=>have:=kD rfl;omega
  |succ D'=>exact⟨D',rfl⟩
 have eD:((D'+1:Nat):Int) - 1=(D':Int):=by omega
 have step:∀ {H2:Hp}{vs:Xh}{Q:VK}{E:XK},aH d H H2->vs=[.ref d,.ref wl,.str sg,.int (((D'+1:Nat):Int) - 1)]->(∀v t H',aH d H2 H'->eA H' v t->t.Ok ws sg.cps.toList->t.ht<=D'->Q v H')->UD (D'+1) vs H2 Q E:=λ{H2 vs Q E} sx e k=>by
  obtain⟨x2,y2,hd2⟩:=sx.bH;exact⟨d,wl,x2,y2,ws,sg,by rw[e,eD],hd2,sx.old _ _ hw (F5 hd hw h0),h0,f9,hsg,k⟩
 refine⟨_,Zj,Zj,_,Zj,?_⟩;by_cases e4:kd=4
 ·rw[ZL (show V.int kd=V.int 4 by rw[e4])];refine Ag ⟨_,Zj,_,Zj,_,Zj,_,Zj,_,_,Zj,Zj,step s1 Zj λv t H2 s2 lt ok ht=>⟨eV,λp hp=>?_⟩⟩;have sp:=AH (U.refl _) hp (o:=HO.tup [V.str "~", v]);exact q (.ref p) (.ng t) _ ((s1.trans s2).step sp) ⟨p,v,Zj,AB,lt.aN (aK.of sp)⟩ ok (Nat.succ_le_succ ht)
 rw[ZO (show ¬ V.int kd=V.int 4 from λz=>e4 (V.int.inj z))];refine AV ⟨_,Zj,_,Zj,_,Zj,_,Zj,_,_,Zj,Zj,step s1 Zj λv1 t1 H2 s2 i9 ok1 ht1=>?_⟩
 obtain⟨g,hg,hat⟩:∃g:Sg,g.d4/\gU ("|^&" : Str).cps.toList (kd - 5)=some g.c:=by
  have:kd=5\/kd=6\/kd=7:=by omega
  rcases this with rfl |rfl |rfl
  ·exact⟨.or,True.intro,qb⟩
  ·exact⟨.xo,True.intro,qb⟩
  ·exact⟨.an,True.intro,qb⟩
 refine⟨_,Zj,_,_,Zj,Zj, "|^&", kd - 5,g.c,Zj,Zj,gO,hat,_,Zj,_,Zj,_,Zj,_,Zj,_,Zj,_,_,Zj,Zj,step (s1.trans s2) Zj λv2 t2 H3 s3 lt2 ok2 ht2=>⟨gO,λp hp=>?_⟩⟩;obtain⟨x2,y2,hd2⟩:=s2.bH;rw[Kn];have sp:=AH (U.refl _) hp (o:=HO.tup [V.str g.s,v1,v2]);exact q (.ref p) (.bn g t1 t2) _ (((s1.trans s2).trans s3).step sp) ⟨p,v1,v2,Zj,AB,(i9.aN (aH.tt hd2 s3)).aN (aK.of sp),lt2.aN (aK.of sp)⟩ ⟨hg,ok1,ok2⟩ (by show max t1.ht t2.ht+1<=D'+1;omega)
def Ov {f:Xi} (F:aV K "_law_tree" "_law_tree" Fv f fd) (B:Bl mg) (m:mg "_law_tree" = some (.ref f)) (b:Binds K fd Iv []) (GR:Fn P w K mg base "_law_roll" 2 ["_law_dice", "_law_many"] dH):∀D:Nat,AZ P w K mg base aL (3+D) f fd Iv (spTree D)
 |0=>MW F B GR 0 ⟨⟨f,fd,F.ok (k:=1) scTree (λvs H Q E h=>h.elim) (λad A outer s H vs Q E hr h=>h.elim),m,F.kp,b⟩⟩
 |D+1=>MW F B GR (D+1) ⟨⟨f,fd,by have:=Ov F B m b GR D;rw[show 3+D=2+(D+1) by omega]at this;exact this,m,F.kp,b⟩⟩
end
end Mk
end
section
namespace L2
open PySem
def B4 {X:Cx}{st:Stmt}{rest:List Stmt}{t u:TS} (h1:PSw X st t) (h2:eI X rest u):eI X (st::rest) (V7 t u):=⟨A1 h1.h h2.h⟩
end L2
namespace Mk
open PySem L2 MK PySem.NumText
structure NW (x:Str):Prop where
 pw:js true x.cps.toList
 as:x.cps.all (· < 128)=true
 l6:x.length<=6
 sm:∀c∈x.cps.toList,c<97
noncomputable def lb:Nat->Nat
 |0=>14
 |h+1=>2*lb h+5
def UE:∀D,D<=5->lb D<=603:=by decide
def SA:∀D,14<=lb D
 |0=>Zy _
 |h+1=>by have:=SA h;show 14<=2*lb h+5;omega
def B5 (x y:Str):(x++y).cps.toList=x.cps.toList++y.cps.toList:=by
 show(x.cps++y.cps).toList=_;exact Array.toList_append
def BO (x y:Str):(x++y).length=x.length+y.length:=by rw[←At,B5,ZH,At,At]
def CW {x y:Str} (h:x.cps.all (· < 128)=true) (h':y.cps.all (· < 128)=true):(x++y).cps.all (· < 128)=true:=by
 rw[←Array.all_toList]at h h' ⊢;rw[B5,all_append,h,h'];rfl
structure BlS (x:Str):Prop where
 bk:Bk x.cps.toList
 as:x.cps.all (· < 128)=true
 l1:x.length<=1
def XZ:BlS "" := ⟨.inl qb,qb,qb⟩
def Xa:BlS " " := ⟨.inr qb,qb,qb⟩
def NoL:LT->Prop
 | .nm _=>False
 | .no _=>False
 | .le _=>False
 |_=>True
noncomputable def SB:LT->Nat
 | .ng _=>3
 | .bn g _ _=>g.b - 1
 |_=>0
section
noncomputable abbrev Nt:Xf:=["_law_dice", "_law_tree_here", "_law_rank"]
inductive spWrt (D:Nat) (vs:Xh) (H:Hp) (Q:VK) (_E:XK):Prop where
 |mk (d:Xi) (a b:Int) (v:V) (t:LT) (ws:Xf) (sg:List Nat) (r:Nat) (cD:vs=[.ref d,v,.int (r:Int)]) (cE:H d=some (.lst [.int a,.int b])) (cJ:eA H v t) (cW:t.Ok ws sg) (eJ:t.ht<=D) (fV:r<=3) (jS:D<=5) (z_7:∀x∈ws,NW x) (z_s:∀c∈sg,Co c=true)
  (z_8:∀z H',aH d H H'->Wr true t.tr r z.cps.toList->z.cps.all (· < 128)=true->z.length<=lb D->Q (.str z) H')
def VP:Nat->Sp
 |0=>λ_ _ _ _=>False
 |D+1=>spWrt D
noncomputable abbrev Xb:Xf:=["_law_dice", "_law_tree_here", "_law_rank", "_law_blank", "_law_own", "_law_found"]
def scWrt:AM Xb Nt (defScope Cu):=cH
noncomputable abbrev Tl:LK:=[((Sum.inr "|" : Key),.int 0),(Sum.inr "^", .int 1),(Sum.inr "&", .int 2),(Sum.inr "~", .int 3)]
def VQ {g:Sg} (h:g.d4):As (Bo [] Tl) (Sum.inr g.s:Key)=some (.int ((g.b - 1:Nat):Int)):=by cases g <;> first |exact h.elim |decide +kernel
def own_no:As (Bo [] Tl) (Sum.inr "~" : Key)=some (.int ((3:Nat):Int)):=by decide +kernel
def Ow {f:Xi} (F:aV K "_law_written" "_law_written" Cu f fd) (B:Bl mg) (GR:Fn P w K mg base "_law_roll" 2 ["_law_dice", "_law_many"] dH) (D:Nat) (G:Fn P w K mg base "_law_written" (2+D) Nt (VP D)):AZ P w K mg base aL (3+D) f fd Nt (spWrt D):=by
 obtain⟨fR,dR,GR,mR,kR,bR⟩:=GR.ex;obtain⟨fT,dT,GT,mT,kT,bT⟩:=G.ex;have e3:3+D=2+D+1:=by omega
 rw[e3];refine F.m scWrt λvs H Q E h=>?_;obtain⟨d,a,b,v,t,ws,sg,r,rfl,hd,lt,ok,ht,iJ,hD5,hW,hSg,q⟩:=h;refine⟨Zj,λad A outer s hr=>?_⟩;have hu:=Ch hr;have eP:aE 2 _:=hr.mono qe;have nd:=scWrt.nd;have hlb:=UE D hD5
 refine⟨_,eI.h (B4 (Do (i:=3) nd Zj (Or.inl Zj) (C5 S6 (.mk AJ) (.mk (Ba JO Zj B.int IS (AA (ES Ax (cK.h (BC GR eP Zj mR kR bR .nil AR (Ab (.mk (pv 0)) (Ab (.mk AD) BV)))) AD (AS _)) AC)))))
  (B4 (Fh (.mk (AL EU (cK.h (DF (Ay K rfl) (.mk (pv 1)) (.mk AD) (λ_ _=>rfl))) (A5 (AA AJ (AA AJ (AA AJ AC)))) rfl)) (Bd (.mk (AQ (cK.h (C5 BN (.mk (pv 3)) (.mk (Ba (aS.or J9 KQ) rfl B.str Gm (AA (cK.h (DF (Ay K rfl) (.mk (pv 1)) (.mk AD) (λ_ _=>rfl))) AC)))))))) CG)
  (B4 (Do (i:=4) nd rfl (Or.inl rfl) (.mk (BU hu (HM (BX AJ AD (BX AJ AD (BX AJ AD (BX AJ AD HL)))) rfl rfl qc qc) (cK.h (DF (Ay K rfl) (.mk (pv 1)) (.mk AD) (λ_ _=>rfl))) (λ_ _=>rfl))))
  (B4 (Fh (.mk (AL Ax (cK.h (DF (Ay K rfl) (.mk (pv 1)) (.mk AD) (λ_ _=>rfl))) AJ (AS _)))
   (Bd (Do (i:=5) nd rfl (Or.inl rfl) (C5 BN (.mk AJ) (BC GT hr rfl mT kT bT .nil AR (Ab (.mk (pv 0)) (Ab (DF (Ay K rfl) (.mk (pv 1)) (.mk AD) (λ_ _=>rfl)) (Ab (.mk AD) BV)))))))
   (Bd (Do (i:=5) nd rfl (Or.inl rfl) (C5 BN (C5 BN (C5 BN (BC GT hr rfl mT kT bT .nil AR (Ab (.mk (pv 0)) (Ab (DF (Ay K rfl) (.mk (pv 1)) (.mk AD) (λ_ _=>rfl)) (Ab (.mk (pv 4)) BV)))) (.mk (pv 3))) (DF (Ay K rfl) (.mk (pv 1)) (.mk AD) (λ_ _=>rfl))) (BC GT hr rfl mT kT bT .nil AR (Ab (.mk (pv 0)) (Ab (DF (Ay K rfl) (.mk (pv 1)) (.mk AD) (λ_ _=>rfl)) (Ab (C5 C3 (.mk (pv 4)) (.mk AD)) BV))))))))
  (Bd (.mk (AQ (cK.h (T4 (.mk (PW.pt (Dv (AL Gz (pv 4) (pv 2) (AS _)) (Cc (AL Ax (cK.h (BC GR eP rfl mR kR bR .nil AR (Ab (.mk (pv 0)) (Ab (.mk AD) BV)))) AD (AS _)))))) (C5 BN (C5 BN (C5 BN (.mk (pv 3)) (.mk AJ)) (.mk (pv 5))) (.mk AJ)) (.mk (pv 5))))))))))),?_⟩
 refine⟨λσ H'=>∃bl:Str,σ=[some (.ref d),some v,some (.int (r:Int)),some (.str bl),none,none]/\BlS bl/\aH d H H',λR hR=>?_,?_⟩
 ·refine⟨_,Zj,d,a,b,6,Zj,hd,qc,qc,λk a1 b1 k0 k1=>⟨Zj,?_⟩⟩;refine .inr ⟨_,Zj, " ", _,Zj,Zj,?_⟩;cases decide (V.int k=V.int 0)with
  |true=>exact .inr ⟨rfl,hR _ _ ⟨" ", rfl,Xa,Au hd⟩⟩
  |false=>exact .inl ⟨rfl,hR _ _ ⟨"", rfl,XZ,Au hd⟩⟩
 rintro σ H1 ⟨bl,rfl,gK,s1⟩;have i9:=lt.aN (aH.tt hd s1);obtain⟨x1,y1,eT⟩:=s1.bH
 have leaf:∀ {x:Str}{H2:Hp},aH d H H2->js true x.cps.toList->x.cps.all (· < 128)=true->x.length<=13->(t.tr=.wd x)->bl.length+x.length<=sizeLine/\Q (.str (bl++x)) H2:=λ{x H2} s2 pw as l13 e=>by
  have l1:=gK.l1;have:=SA D;refine⟨Nat.le_of_lt (AO qe),q _ _ s2 ?_ (CW gK.as as) (by rw[BO];omega)⟩;rw[e,B5];exact .wd x r _ gK.bk pw
 refine⟨λσ H'=>σ=[some (.ref d),some v,some (.int (r:Int)),some (.str bl),none,none]/\NoL t/\aH d H H',λR hR=>?_,?_⟩
 ·have sa:∀ {tp},H1 tp=none->U H1 (upd H1 tp (.tup [V.str "name", V.str "number", V.str "letter"])):=λgX=>AH (U.refl _) gX;cases t with
  |nm x =>
   obtain⟨p,rfl,hp⟩:=i9;have nw:=hW x ok;have l6:=nw.l6;refine⟨_,Zj,p,_,0,.str "name", Zj,Zj,aX.of hp,Zj,gO,λtp gX=>⟨tp,_,Zj,.inr (aX.of AB),Zj,Zj,_,Zj,?_⟩⟩;rw[show(if false=true then !eK (V.str "name") [V.str "name", V.str "number", V.str "letter"]else eK (V.str "name") [V.str "name", V.str "number", V.str "letter"])=true by decide +kernel];refine Ag ⟨_,Zj,_,Zj,p,_,1,.str x,Zj,Zj,aX.of (sa gX _ _ hp),Zj,.inr ⟨x,Zj,?_⟩⟩;obtain⟨h1,h2⟩:=leaf (s1.step (sa gX)) nw.pw nw.as qe rfl;exact⟨bl,x,Zj,Zj,h1,h2⟩
  |no n =>
   obtain⟨p,rfl,hp⟩:=i9;have n40:n<2 ^ 40:=Nat.lt_trans ok qc;have fw:=(Kp (n:=⟨[],[],λ_=>0⟩) n40).1;refine⟨_,Zj,p,_,0,.str "number", Zj,Zj,aX.of hp,Zj,gO,λtp gX=>⟨tp,_,Zj,.inr (aX.of AB),Zj,Zj,_,Zj,?_⟩⟩;rw[show(if false=true then !eK (V.str "number") [V.str "name", V.str "number", V.str "letter"]else eK (V.str "number") [V.str "name", V.str "number", V.str "letter"])=true by decide +kernel];refine Ag ⟨_,Zj,_,Zj,p,_,1,.int (n:Int),Zj,Zj,aX.of (sa gX _ _ hp),Zj,.inl ⟨(n:Int),Zj,Gu n40,?_⟩⟩;obtain⟨h1,h2⟩:=leaf (x:=FK n) (s1.step (sa gX)) (fw.pw true (.inr rfl)) fw.ok.as fw.len rfl;exact⟨bl,FK n,Zj,Zj,h1,h2⟩
  |le c =>
   obtain⟨p,rfl,hp⟩:=i9;have lw:=Iu (n:=⟨[],[(Sum.inr ⟨#[c]⟩,.int ((0:Nat):Int))],λ_=>0⟩) (hSg c ok) (by simp[As]);refine⟨_,Zj,p,_,0,.str "letter", Zj,Zj,aX.of hp,Zj,gO,λtp gX=>⟨tp,_,Zj,.inr (aX.of AB),Zj,Zj,_,Zj,?_⟩⟩;rw[show(if false=true then !eK (V.str "letter") [V.str "name", V.str "number", V.str "letter"]else eK (V.str "letter") [V.str "name", V.str "number", V.str "letter"])=true by decide +kernel];refine Ag ⟨_,Zj,_,Zj,p,_,1,.str ⟨#[c]⟩,Zj,Zj,aX.of (sa gX _ _ hp),Zj,.inr ⟨⟨#[c]⟩,Zj,?_⟩⟩;obtain⟨h1,h2⟩:=leaf (x:=⟨#[c]⟩) (s1.step (sa gX)) (lw.pw true (.inr rfl)) lw.ok.as lw.len rfl;exact⟨bl,⟨#[c]⟩,Zj,Zj,h1,h2⟩
  |ng t' =>
   obtain⟨p,u,rfl,hp,lu⟩:=i9;refine⟨_,Zj,p,_,0,.str "~", Zj,Zj,aX.of hp,Zj,gO,λtp gX=>⟨tp,_,Zj,.inr (aX.of AB),Zj,Zj,_,Zj,?_⟩⟩;rw[show(if false=true then !eK (V.str "~") [V.str "name", V.str "number", V.str "letter"]else eK (V.str "~") [V.str "name", V.str "number", V.str "letter"])=false by decide +kernel];exact AV (hR _ _ ⟨Zj,True.intro,s1.step (sa gX)⟩)
  |bn g t1 t2 =>
   obtain⟨p,u1,u2,rfl,hp,lu1,lu2⟩:=i9;refine⟨_,Zj,p,_,0,.str g.s,Zj,Zj,aX.of hp,Zj,gO,λtp gX=>⟨tp,_,Zj,.inr (aX.of AB),Zj,Zj,_,Zj,?_⟩⟩;rw[show(if false=true then !eK (V.str g.s) [V.str "name", V.str "number", V.str "letter"]else eK (V.str g.s) [V.str "name", V.str "number", V.str "letter"])=false by cases g <;> decide +kernel];exact AV (hR _ _ ⟨Zj,True.intro,s1.step (sa gX)⟩)
 rintro σ H2 ⟨rfl,jC,s2⟩;have lt2:=lt.aN (aH.tt hd s2);clear leaf i9 eT;refine⟨λσ H'=>σ=[some (.ref d),some v,some (.int (r:Int)),some (.str bl),some (.int (SB t:Int)),none]/\aH d H H',λR hR=>?_,?_⟩
 ·intro dp hdp;have sb:U H2 (upd (upd H2 dp (.dK [])) dp (.dK (Bo [] Tl))):=λb o e=>by rw[AF (AI e hdp),AF (AI e hdp)];exact e
  refine⟨AB,Tl,rfl,qc,?_⟩;cases t with
  |nm x=>exact jC.elim
  |no n=>exact jC.elim
  |le c=>exact jC.elim
  |ng t' =>
   obtain⟨p,u,rfl,hp,lu⟩:=lt2;exact⟨_,Zj,p,_,0,.str "~", Zj,Zj,aX.of (sb _ _ hp),Zj,dp,.int ((3:Nat):Int),Zj,.inl ⟨_,Sum.inr "~", .inl AB,Zj,own_no.symm⟩,hR _ _ ⟨Zj,s2.step sb⟩⟩
  |bn g t1 t2 =>
   obtain⟨p,u1,u2,rfl,hp,lu1,lu2⟩:=lt2;exact⟨_,Zj,p,_,0,.str g.s,Zj,Zj,aX.of (sb _ _ hp),Zj,dp,.int ((g.b - 1:Nat):Int),Zj,.inl ⟨_,Sum.inr g.s,.inl AB,Zj,(VQ ok.1).symm⟩,hR _ _ ⟨Zj,s2.step sb⟩⟩
 rintro σ H3 ⟨rfl,s3⟩;have lt3:=lt.aN (aH.tt hd s3);obtain⟨x3,y3,jJ⟩:=s3.bH;clear lt2 s2 s1;refine⟨λσ H'=>∃fz:Str,σ=[some (.ref d),some v,some (.int (r:Int)),some (.str bl),some (.int (SB t:Int)),some (.str fz)]/\aH d H H'/\(∀r',r'<=SB t->Wr true t.tr r' fz.cps.toList)/\fz.cps.all (· < 128)=true/\fz.length+3<=lb D,λR hR=>?_,?_⟩
 ·obtain⟨D',rfl⟩:∃D',D=D'+1:=by
   cases D with
   |zero=>cases t with
    |nm x=>exact jC.elim
    |no n=>exact jC.elim
    |le c=>exact jC.elim
    |ng t'=>exact absurd ht (by show ¬ t'.ht+1<=0;omega)
    |bn g t1 t2=>exact absurd ht (by show ¬ max t1.ht t2.ht+1<=0;omega)
   |succ D'=>exact⟨D',rfl⟩
  have hlb':=UE D' qe;have elb:lb (D'+1)=2*lb D'+5:=rfl;have l1:=gK.l1;cases t with
  |nm x=>exact jC.elim
  |no n=>exact jC.elim
  |le c=>exact jC.elim
  |ng t' =>
   obtain⟨p,u,rfl,hp,lu⟩:=lt3;refine⟨_,Zj,p,_,0,.str "~", Zj,Zj,aX.of hp,Zj,Zj,_,Zj,?_⟩;rw[show decide (V.str "~" = V.str "~")=true by decide +kernel];refine Ag ⟨_,Zj,_,Zj,p,_,1,u,Zj,Zj,aX.of hp,Zj,d,x3,y3,u,t',ws,sg,3,Zj,jJ,lu,ok,Nat.le_of_succ_le_succ ht,qc,qe,hW,hSg,λz H4 s4 wz az lz=>?_⟩;refine⟨"~", z,Zj,Zj,Nat.le_of_lt (AO (by rw[show("~" : Str).length=1 by decide +kernel];omega)),hR _ _ ⟨"~" ++ z,Zj,s3.trans s4,λr' jZ=>?_,CW qb az,?_⟩⟩
   ·rw[B5,show("~" : Str).cps.toList=[126] by decide +kernel];exact .ng _ r' _ jZ wz
   ·rw[BO,show("~" : Str).length=1 by decide +kernel];omega
  |bn g t1 t2 =>
   obtain⟨p,u1,u2,rfl,hp,lu1,lu2⟩:=lt3;have hg1:1<=g.b:=by have:=ok.1;cases g <;> first |exact this.elim |decide
   have hg3:g.b<=3:=by have:=ok.1;cases g <;> first |exact this.elim |decide
   have hm:t1.ht<=D'/\t2.ht<=D':=by
    have:max t1.ht t2.ht+1<=D'+1:=ht;omega
   refine⟨_,Zj,p,_,0,.str g.s,Zj,Zj,aX.of hp,Zj,Zj,_,Zj,?_⟩;rw[show decide (V.str g.s=V.str "~")=false by have:=ok.1;cases g <;> first |exact this.elim |decide +kernel];refine AV ⟨_,Zj,_,Zj,p,_,1,u1,Zj,Zj,aX.of hp,Zj,_,Zj,d,x3,y3,u1,t1,ws,sg,g.b - 1,Zj,jJ,lu1,ok.2.1,hm.1,qe,qe,hW,hSg,λz1 H4 s4 wz1 az1 lz1=>?_⟩;have hp4:H4 p=_:=(aH.tt jJ s4) _ _ hp;have lu24:=lu2.aN (aH.tt jJ s4);obtain⟨x4,y4,ki⟩:=s4.bH;have lg:g.s.length=1:=by cases g <;> decide +kernel
   have ag:g.s.cps.all (· < 128)=true:=by cases g <;> decide +kernel
   have cg:g.s.cps.toList=[g.c]:=by cases g <;> decide +kernel
   refine⟨_,Zj,z1,bl,Zj,Zj,Nat.le_of_lt (AO qe),_,Zj,p,_,0,.str g.s,Zj,Zj,aX.of hp4,Zj,z1++bl,g.s,Zj,Zj,Nat.le_of_lt (AO (by rw[BO];omega)),?_⟩;refine⟨_,Zj,_,Zj,p,_,2,u2,Zj,Zj,aX.of hp4,Zj,_,Zj,_,_,Zj,Zj,d,x4,y4,u2,t2,ws,sg,g.b,?_,ki,lu24,ok.2.2,hm.2,qe,qe,hW,hSg,λz2 H5 s5 wz2 az2 lz2=>?_⟩
   ·show [V.ref d,u2,V.int (((g.b - 1:Nat):Int)+1)]=[V.ref d,u2,V.int (g.b:Int)];rw[show((g.b - 1:Nat):Int)+1=(g.b:Int) by omega]
   refine⟨z1++bl++g.s,z2,Zj,Zj,Nat.le_of_lt (AO (by rw[BO,BO];omega)),hR _ _ ⟨_,Zj,(s3.trans s4).trans s5,λr' jZ=>?_,CW (CW (CW az1 gK.as) ag) az2,by rw[BO,BO,BO];omega⟩⟩
   have e:(z1++bl++g.s++z2).cps.toList=z1.cps.toList++(bl.cps.toList++(g.c::z2.cps.toList)):=by
    rw[B5,B5,B5,cg];simp
   rw[e];have hr2':r'<=g.b - 1:=jZ;exact .bn g t1.tr t2.tr r' _ _ _ ok.1 qe gK.bk wz1 wz2
 rintro σ H4 ⟨fz,rfl,s4,wz,az,lz⟩;obtain⟨x4,y4,ki⟩:=s4.bH;have l1:=gK.l1
 have brk:∀ {H5:Hp},aH d H H5->∃i j,V.str bl=.str i/\V.str "(" = .str j/\i.length+j.length<=sizeLine/\∃i2 j2,V.str (i++j)=.str i2/\V.str fz=.str j2/\i2.length+j2.length<=sizeLine/\∃i3 j3,V.str (i2++j2)=.str i3/\V.str ")" = .str j3/\i3.length+j3.length<=sizeLine/\Q (.str (i3++j3)) H5:=λ{H5} s5=>by
  have o1:("(" : Str).length=1:=by decide +kernel
  have c1:(")" : Str).length=1:=by decide +kernel
  refine⟨bl, "(", Zj,Zj,Nat.le_of_lt (AO qe),bl ++ "(", fz,Zj,Zj,Nat.le_of_lt (AO (by rw[BO];omega)),bl ++ "(" ++ fz, ")", Zj,Zj,Nat.le_of_lt (AO (by rw[BO,BO];omega)),q _ _ s5 ?_ (CW (CW (CW gK.as qb) az) qb) (by rw[BO,BO,BO];omega)⟩
  have e:(bl ++ "(" ++ fz ++ ")" : Str).cps.toList=bl.cps.toList++(40::(fz.cps.toList++[41])):=by
   rw[B5,B5,B5,show("(" : Str).cps.toList=[40] by decide +kernel,show(")" : Str).cps.toList=[41] by decide +kernel];simp
  rw[e];exact .br _ r _ _ gK.bk (wz 0 (Nat.zero_le _))
 refine⟨_,Zj,_,Zj,_,_,Zj,Zj,_,Zj,?_⟩;refine B6 (λ_=>?_) (λh=>?_)
 ·refine Ag ?_;obtain⟨i,j,e1,e2,e3,i2,j2,e4,e5,e6,i3,j3,e7,e8,e9,gZ⟩:=brk s4;exact⟨_,Zj,i,j,e1,e2,e3,_,Zj,i2,j2,e4,e5,e6,i3,j3,e7,e8,e9,gZ⟩
 ·refine⟨_,Zj,d,x4,y4,6,Zj,ki,qc,qc,λk a1 b1 k0 k1=>⟨Zj,_,Zj,?_⟩⟩;have s5:=s4.trans (Au (x':=a1) (y':=b1) ki);refine B6 (λ_=>?_) (λ_=>?_)
  ·obtain⟨i,j,e1,e2,e3,i2,j2,e4,e5,e6,i3,j3,e7,e8,e9,gZ⟩:=brk s5;exact⟨_,Zj,i,j,e1,e2,e3,_,Zj,i2,j2,e4,e5,e6,i3,j3,e7,e8,e9,gZ⟩
  ·have jZ:r<=SB t:=by
    have:¬ ((SB t:Int)<(r:Int)):=λz=>h (ZL z);omega
   exact⟨_,Zj,q _ _ s5 (wz r jZ) az qe⟩
def SC {f:Xi} (F:aV K "_law_written" "_law_written" Cu f fd) (B:Bl mg) (m:mg "_law_written" = some (.ref f)) (b:Binds K fd Nt []) (GR:Fn P w K mg base "_law_roll" 2 ["_law_dice", "_law_many"] dH):∀D:Nat,AZ P w K mg base aL (3+D) f fd Nt (spWrt D)
 |0=>Ow F B GR 0 ⟨⟨f,fd,F.ok (k:=1) scWrt (λvs H Q E h=>h.elim) (λad A outer s H vs Q E hr h=>h.elim),m,F.kp,b⟩⟩
 |D+1=>Ow F B GR (D+1) ⟨⟨f,fd,by have:=SC F B m b GR D;rw[show 3+D=2+(D+1) by omega]at this;exact this,m,F.kp,b⟩⟩
end
section
noncomputable abbrev Ox:Xf:=["_law_dice", "_law_words", "_law_signs"]
inductive spForm (vs:Xh) (H:Hp) (Q:VK) (_E:XK):Prop where
 |mk (d wl:Xi) (a b:Int) (ws:Xf) (sg:Str) (cD:vs=[.ref d,.ref wl,.str sg]) (cE:H d=some (.lst [.int a,.int b])) (cJ:H wl=some (.lst (ws.map V.str))) (cW:0<ws.length) (eJ:ws.length<=10) (fV:∀x∈ws,NW x) (z_s:sg.length<=10) (z_s2:∀c∈sg.cps.toList,Co c=true)
  (jS:∀q z v t H',aH d H H'->H' q=some (.tup [.str z,v])->eA H' v t->t.Ok ws sg.cps.toList->t.ht<=3->Wr true t.tr 0 z.cps.toList->z.cps.all (· < 128)=true->z.length<=56->Q (.ref q) H')
noncomputable abbrev WY:Xf:=["_law_dice", "_law_words", "_law_signs", "_law_tree_here", "_law_text"]
def scForm:AM WY Ox (defScope EI):=cH
def Tm {f:Xi} (F:aV K "_law_formula" "_law_formula" EI f fd) (B:Bl mg) (GT:Fn P w K mg base "_law_tree" 6 Iv (spTree 3)) (GW:Fn P w K mg base "_law_written" 6 Nt (spWrt 3)):AZ P w K mg base aL 7 f fd Ox spForm:=by
 obtain⟨fT,dT,GT,mT,kT,bT⟩:=GT.ex;obtain⟨fW,dW,GW,mW,kW,bW⟩:=GW.ex;refine F.m scForm λvs H Q E h=>?_;obtain⟨d,wl,a,b,ws,sg,rfl,hd,hw,h0,f9,hW,hsg,hSg,q⟩:=h;refine⟨Zj,λad A outer s hr=>?_⟩;have nd:=scForm.nd
 refine⟨_,AG (Ae (i:=3) nd Zj (Or.inl Zj) (AN GT hr Zj mT kT bT .nil AR (AA (pv 0) (AA (pv 1) (AA (pv 2) (AA AD AC))))))
  (AG (Ae (i:=4) nd rfl (Or.inl rfl) (AN GW hr rfl mW kW bW .nil AR (AA (pv 0) (AA (pv 3) (AA AD AC)))))
  (A1 (Ai (AL G3 (AX BE rfl B.len PySem.boot_len (AA (pv 4) AC)) AD (AS _))
   (AG (Ae (i:=3) nd rfl (Or.inl rfl) (A5 (AA AJ (AA (BI (Ar K rfl) (pv 1) AD (λ_ _=>rfl)) AC))))
   (AE (Ae (i:=4) nd rfl (Or.inl rfl) (BI (Ar K rfl) (pv 1) AD (λ_ _=>rfl))))) AT)
  (AE (AQ (A5 (AA (pv 4) (AA (pv 3) AC))))))),?_⟩
 refine⟨_,Zj,_,Zj,_,Zj,d,wl,a,b,ws,sg,Zj,hd,hw,h0,f9,hsg,λv t H1 s1 i9 ok1 ht1=>?_⟩;obtain⟨x1,y1,eT⟩:=s1.bH;refine⟨_,Zj,_,Zj,d,x1,y1,v,t,ws,sg.cps.toList,0,Zj,eT,i9,ok1,ht1,qc,qc,hW,hSg,λz H2 s2 wz az lz=>?_⟩;have lt2:=i9.aN (aH.tt eT s2);have i8:=s1.trans s2;have hw2:=i8.old _ _ hw (F5 hd hw h0);have hl3:lb 3=147:=by decide
 refine⟨λσ H'=>∃(z:Str) (v:V) (t:LT),σ=[some (.ref d),some (.ref wl),some (.str sg),some v,some (.str z)]/\aH d H H'/\eA H' v t/\t.Ok ws sg.cps.toList/\t.ht<=3/\Wr true t.tr 0 z.cps.toList/\z.cps.all (· < 128)=true/\z.length<=56,λR hR=>?_,?_⟩
 ·refine⟨_,Zj,z,Zj,Nat.le_of_lt (AO qe),_,_,Zj,Zj,_,Zj,?_⟩;refine B6 (λ_=>?_) (λh=>?_)
  ·cases ws with
   |nil=>exact absurd h0 qc
   |cons x r =>
    have nw:=hW x (ZI ..);have l6:=nw.l6;refine⟨_,Zj,wl,_,0,.str x,Zj,Zj,aI.of hw2,BS (j:=0) Zj,eV,λp hp=>?_⟩;have sp:=AH (U.refl _) hp (o:=HO.tup [V.str "name", V.str x]);refine⟨_,Zj,wl,_,0,.str x,Zj,Zj,aI.of (sp _ _ hw2),BS (j:=0) Zj,hR _ _ ⟨x,.ref p,.nm x,Zj,i8.step sp,⟨p,Zj,AB⟩,ZI ..,Nat.zero_le _,?_,nw.as,qe⟩⟩;have:=Wr.wd x 0 [] (.inl rfl) nw.pw;exact this
  ·exact hR _ _ ⟨z,v,t,Zj,i8,lt2,ok1,ht1,wz,az,by
    have:¬ ((z.length:Int)>56):=λy=>h (ZL y)
    omega⟩
 rintro σ H3 ⟨z,v,t,rfl,s3,lt,ok,ht,wz,az,lz⟩;refine⟨_,Zj,_,Zj,eV,λp hp=>?_⟩;have sp:=AH (U.refl _) hp (o:=HO.tup [V.str z,v]);exact q p z v t _ (s3.step sp) AB (lt.aN (aK.of sp)) ok ht wz az lz
noncomputable abbrev Ix:Xf:=["_law_tree_here", "_law_numbers", "_law_known", "_law_letters_to"]
inductive spCome (D:Nat) (vs:Xh) (H:Hp) (Q:VK) (_E:XK):Prop where
 |mk (v:V) (nu le:Xi) (t:LT) (n:Nv) (sg:List Nat) (cD:vs=[v,.ref nu,.int (kn n.due:Int),.ref le]) (cE:eA H v t) (cJ:t.Ok (n.due.map (·.1)) sg) (z_l:Rd H le (.dK n.kvs)) (z_l2:∀c∈sg,Co c=true/\As n.kvs (Sum.inr ⟨#[c]⟩)=some (.int (n.tb ⟨#[c]⟩:Nat))) (cW:t.ht<=D) (eJ:H nu=some (.dK (Az n.due))) (fV:EJ n.due)
  (jS:Q (.int (t.tr.dz n:Nat)) H)
def SD:Nat->Sp
 |0=>λ_ _ _ _=>False
 |D+1=>spCome D
noncomputable abbrev WZ:Xf:=["_law_tree_here", "_law_numbers", "_law_known", "_law_letters_to", "_law_one", "_law_other"]
def scCome:AM WZ Ix (defScope Fw):=cH
def Oy {n:Nv} (DO:EJ n.due) {x:Str} (h:x∈n.due.map (·.1)):wv n x=look n.due x:=by
 obtain⟨p,hp,rfl⟩:=Zr.mp h;rw[(Ot DO hp).1.v];exact(DL DO.nd hp).symm
def SE {n:Nv}{v:Nat} (h:v<2 ^ 20):wv n (FK v)=v:=(Kp (n:=n) (Nat.lt_trans h qc)).1.v
def C9 {s y:Str}{p:Xi}{xs:Xh}{σ:St}{D:DQ}{ta tb:TS} (h0:σ[0]?=some (some (.ref p))) (hp:H p=some (.tup (.str s::xs))) (a0:decide (V.str s=V.str y)=false) (k:tb D σ H):UQ (QW (iG rEq (iG (UY K) (DR 0) (tC (.int 0))) (tC (.str y)))) ta tb D σ H:=by
 refine⟨_,h0,p,_,0,.str s,Zj,Zj,aX.of hp,BS (j:=0) Zj,Zj,_,Zj,?_⟩;rw[a0];exact AV k
def MY {f:Xi} (F:aV K "_law_come" "_law_come" Fw f fd) (D:Nat) (G:Fn P w K mg base "_law_come" (1+D) Ix (SD D)):AZ P w K mg base aL (2+D) f fd Ix (spCome D):=by
 obtain⟨fT,dT,GT,mT,kT,bT⟩:=G.ex;have e3:2+D=1+D+1:=by omega
 rw[e3];refine F.m scCome λvs H Q E h=>?_;obtain⟨v,nu,le,t,n,sg,rfl,lt,ok,hle,hsg,ht,hn,DO,q⟩:=h;refine⟨Zj,λad A outer s hr=>?_⟩;have hu:=Ch hr;have nd:=scCome.nd
 refine⟨_,eI.h (Ci (Fh (.mk (AL Ax (cK.h (DF (Ay K Zj) (.mk (pv 0)) (.mk AD) (λ_ _=>rfl))) AJ (AS _))) (Bd (.mk (AQ (BU hu (pv 1) (cK.h (DF (Ay K Zj) (.mk (pv 0)) (.mk AD) (λ_ _=>rfl))) (λ_ _=>rfl))))) CG)
  (Ci (Fh (.mk (AL Ax (cK.h (DF (Ay K rfl) (.mk (pv 0)) (.mk AD) (λ_ _=>rfl))) AJ (AS _))) (Bd (.mk (AQ (cK.h (DF (Ay K rfl) (.mk (pv 0)) (.mk AD) (λ_ _=>rfl)))))) CG)
  (Ci (Fh (.mk (AL Ax (cK.h (DF (Ay K rfl) (.mk (pv 0)) (.mk AD) (λ_ _=>rfl))) AJ (AS _))) (Bd (.mk (AQ (BU hu (pv 3) (cK.h (DF (Ay K rfl) (.mk (pv 0)) (.mk AD) (λ_ _=>rfl))) (λ_ _=>rfl))))) CG)
  (Ci (Do (i:=4) nd rfl (Or.inl rfl) (BC GT hr rfl mT kT bT .nil AR (Ab (DF (Ay K rfl) (.mk (pv 0)) (.mk AD) (λ_ _=>rfl)) (Ab (.mk (pv 1)) (Ab (.mk (pv 2)) (Ab (.mk (pv 3)) BV))))))
  (Ci (Fh (.mk (AL Ax (cK.h (DF (Ay K rfl) (.mk (pv 0)) (.mk AD) (λ_ _=>rfl))) AJ (AS _))) (Bd (.mk (AQ (cK.h (C5 Cg (.mk (pv 2)) (C5 DS (.mk (pv 2)) (.mk (pv 4)))))))) CG)
  (Ci (Do (i:=5) nd rfl (Or.inl rfl) (BC GT hr rfl mT kT bT .nil AR (Ab (DF (Ay K rfl) (.mk (pv 0)) (.mk AD) (λ_ _=>rfl)) (Ab (.mk (pv 1)) (Ab (.mk (pv 2)) (Ab (.mk (pv 3)) BV))))))
  (Ci (Fh (.mk (AL Ax (cK.h (DF (Ay K rfl) (.mk (pv 0)) (.mk AD) (λ_ _=>rfl))) AJ (AS _))) (Bd (.mk (AQ (cK.h (C5 DS (.mk (pv 4)) (.mk (pv 5))))))) CG)
  (Bd (.mk (AQ (cK.h (T4 (.mk (AL Ax (cK.h (DF (Ay K rfl) (.mk (pv 0)) (.mk AD) (λ_ _=>rfl))) AJ (AS _))) (C5 Kz (.mk (pv 4)) (.mk (pv 5))) (C5 QT (.mk (pv 4)) (.mk (pv 5))))))))))))))),?_⟩
 have rec_:∀ {t':LT}{u:V}{Q':VK},eA H u t'->t'.Ok (n.due.map (·.1)) sg->t'.ht+1<=D->Q' (.int (t'.tr.dz n:Nat)) H->SD D [u,.ref nu,.int (kn n.due:Int),.ref le] H Q' E0:=λ{t' u Q'} l o h q'=>by
  cases D with
  |zero=>exact absurd h qe
  |succ D'=>exact⟨u,nu,le,t',n,sg,rfl,l,o,hle,hsg,qe,hn,DO,q'⟩
 cases t with
 |nm x =>
  obtain⟨p,rfl,hp⟩:=lt;refine⟨_,Zj,p,_,0,.str "name", Zj,Zj,aX.of hp,Zj,Zj,_,Zj,?_⟩;rw[show decide (V.str "name" = V.str "name")=true by decide +kernel];refine Ag ⟨_,Zj,_,Zj,p,_,1,.str x,Zj,Zj,aX.of hp,Zj,nu,_,Zj,.inl ⟨_,Sum.inr x,.inl hn,Zj,(CN ok).symm⟩,?_⟩;have:(LT.nm x).tr.dz n=look n.due x:=Oy DO ok;rw[this]at q;exact q
 |le c =>
  obtain⟨p,rfl,hp⟩:=lt;obtain⟨h1,h2⟩:=hsg c ok;refine C9 Zj hp qb ?_;refine C9 Zj hp qb ?_;refine⟨_,Zj,p,_,0,.str "letter", Zj,Zj,aX.of hp,Zj,Zj,_,Zj,?_⟩;rw[show decide (V.str "letter" = V.str "letter")=true by decide +kernel];have e:(LT.le c).tr.dz n=n.tb ⟨#[c]⟩:=(Iu h1 h2).v;rw[e]at q;exact Ag ⟨_,Zj,_,Zj,p,_,1,.str ⟨#[c]⟩,Zj,Zj,aX.of hp,Zj,le,_,Zj,.inl ⟨_,Sum.inr ⟨#[c]⟩,hle,Zj,h2.symm⟩,q⟩
 |no m =>
  obtain⟨p,rfl,hp⟩:=lt;refine C9 Zj hp qb ?_;refine⟨_,Zj,p,_,0,.str "number", Zj,Zj,aX.of hp,Zj,Zj,_,Zj,?_⟩;rw[show decide (V.str "number" = V.str "number")=true by decide +kernel];have:(LT.no m).tr.dz n=m:=SE ok;rw[this]at q;exact Ag ⟨_,Zj,p,_,1,.int (m:Int),Zj,Zj,aX.of hp,Zj,q⟩
 |ng t' =>
  obtain⟨p,u,rfl,hp,lu⟩:=lt;refine C9 Zj hp qb ?_;refine C9 Zj hp qb ?_;refine C9 Zj hp qb ?_;refine⟨_,Zj,p,_,1,u,Zj,Zj,aX.of hp,Zj,_,Zj,_,Zj,_,Zj,rec_ lu ok ht ?_⟩;refine⟨_,Zj,p,_,0,.str "~", Zj,Zj,aX.of hp,Zj,Zj,_,Zj,?_⟩;rw[show decide (V.str "~" = V.str "~")=true by decide +kernel];refine Ag ⟨_,Zj,_,Zj,_,Zj,_,_,Zj,Zj,_,_,Zj,Zj,?_⟩
  have e:((kn n.due:Nat):Int) - Builtin.bitAnd ((kn n.due:Nat):Int) ((t'.tr.dz n:Nat):Int)=(((LT.ng t').tr.dz n:Nat):Int):=by
   rw[Bx];show _=((kn n.due - (kn n.due&&&t'.tr.dz n):Nat):Int);have:=Nat.and_le_left (n:=kn n.due) (m:=t'.tr.dz n);omega
  show Q (V.int (((kn n.due:Nat):Int) - Builtin.bitAnd ((kn n.due:Nat):Int) ((t'.tr.dz n:Nat):Int))) H;rw[e];exact q
 |bn g t1 t2 =>
  obtain⟨p,u1,u2,rfl,hp,lu1,lu2⟩:=lt;obtain⟨hg,ok1,ok2⟩:=ok
  have hm:t1.ht+1<=D/\t2.ht+1<=D:=by
   have:max t1.ht t2.ht+1<=D:=ht;omega
  have ne:∀y:Str,y = "name" \/ y = "number" \/ y = "letter" \/ y = "~" -> decide (V.str g.s=V.str y)=false:=λy hy=>by
   rcases hy with rfl |rfl |rfl |rfl <;> cases g <;> first |exact hg.elim |decide +kernel
  refine C9 rfl hp (ne _ (.inl rfl)) ?_;refine C9 rfl hp (ne _ (.inr (.inl rfl))) ?_;refine C9 rfl hp (ne _ (.inr (.inr (.inl rfl)))) ?_;refine⟨_,rfl,p,_,1,u1,rfl,rfl,aX.of hp,rfl,_,rfl,_,rfl,_,rfl,rec_ lu1 ok1 hm.1 ?_⟩;refine C9 rfl hp (ne _ (.inr (.inr (.inr rfl)))) ?_;refine⟨_,rfl,p,_,2,u2,rfl,rfl,aX.of hp,rfl,_,rfl,_,rfl,_,rfl,rec_ lu2 ok2 hm.2 ?_⟩;refine⟨_,rfl,p,_,0,.str g.s,rfl,rfl,aX.of hp,rfl,rfl,_,rfl,?_⟩;cases g with
  |br=>exact hg.elim
  |no=>exact hg.elim
  |an =>
   rw[show decide (V.str Sg.an.s=V.str "&")=true by decide +kernel];refine Ag ⟨_,Zj,_,Zj,_,_,Zj,Zj,?_⟩;show Q (V.int (Builtin.bitAnd _ _)) H;rw[Bx];exact q
  |or =>
   rw[show decide (V.str Sg.or.s=V.str "&")=false by decide +kernel];refine AV ⟨_,Zj,p,_,0,.str Sg.or.s,Zj,Zj,aX.of hp,Zj,Zj,_,Zj,?_⟩;rw[show decide (V.str Sg.or.s=V.str "|")=true by decide +kernel];refine Ag ⟨_,Zj,_,Zj,_,_,Zj,Zj,?_⟩;show Q (V.int (Builtin.bitOr _ _)) H;rw[C6];exact q
  |xo =>
   rw[show decide (V.str Sg.xo.s=V.str "&")=false by decide +kernel];refine AV ⟨_,Zj,p,_,0,.str Sg.xo.s,Zj,Zj,aX.of hp,Zj,Zj,_,Zj,?_⟩;rw[show decide (V.str Sg.xo.s=V.str "|")=false by decide +kernel];refine AV ⟨_,Zj,_,Zj,_,_,Zj,Zj,?_⟩;show Q (V.int (Builtin.bitXor _ _)) H;rw[Ol];exact q
def Oz {f:Xi} (F:aV K "_law_come" "_law_come" Fw f fd) (m:mg "_law_come" = some (.ref f)) (b:Binds K fd Ix []):∀D:Nat,AZ P w K mg base aL (2+D) f fd Ix (spCome D)
 |0=>MY F 0 ⟨⟨f,fd,F.ok (k:=0) scCome (λvs H Q E h=>h.elim) (λad A outer s H vs Q E hr h=>h.elim),m,F.kp,b⟩⟩
 |D+1=>MY F (D+1) ⟨⟨f,fd,by have:=Oz F m b D;rw[show 2+D=1+(D+1) by omega]at this;exact this,m,F.kp,b⟩⟩
end
end Mk
end
section
namespace Mk
open PySem L2 MK
section
inductive spNumberIn (vs:Xh) (H:Hp) (Q:VK) (_E:XK):Prop where
 |mk (d:Xi) (a b:Int) (m:Nat) (r:Str) (cD:vs=[.ref d,.int (m:Int),.str r]) (cE:H d=some (.lst [.int a,.int b])) (cJ:∀(n:Nat) H',n<2 ^ 40->(r = "keep" \/ n - (n&&&m)=0)->aH d H H'->Q (.int (n:Int)) H')
def scNumberIn:AM ["_law_dice", "_law_known", "_law_way", "_law_number"] ["_law_dice", "_law_known", "_law_way"] (defScope De):=cH
def MZ {f:Xi} (F:aV K "_law_number_in" "_law_number_in" De f fd) (GR:Fn P w K mg base "_law_roll" 2 ["_law_dice", "_law_many"] dH):AZ P w K mg base aL 3 f fd ["_law_dice", "_law_known", "_law_way"] spNumberIn:=by
 obtain⟨fR,dR,GR,mR,kR,bR⟩:=GR.ex;refine F.m scNumberIn λvs H Q E h=>?_;obtain⟨d,a,b,m,r,rfl,hd,k⟩:=h;refine⟨Zj,λad A outer s hr=>?_⟩
 refine⟨_,AG (Ae (i:=3) scNumberIn.nd Zj (Or.inl Zj) (Ac DS (AN GR hr Zj mR kR bR .nil AR (AA (pv 0) (AA (Ac Er AD AD) AC))) (pv 1)))
  (A1 (Ai (PW.pt (CP (AL Ax (pv 2) AJ (AS _)) (Bh (AL Ax (AN GR hr rfl mR kR bR .nil AR (AA (pv 0) (AA AD AC))) AD (AS _)))))
    (AE (Ae (i:=3) scNumberIn.nd rfl (Or.inl rfl) (Ac Kz (pv 3) (AN GR hr rfl mR kR bR .nil AR (AA (pv 0) (AA AD AC)))))) AT)
  (AE (AQ (pv 3)))),?_⟩
 refine⟨_,Zj,_,_,Zj,Zj,⟨qc,qc,qc⟩,d,a,b,_,Zj,hd,qc,qc,λx a1 b1 hx0 hx1=>?_⟩;refine⟨_,Zj,_,_,Zj,Zj,?_⟩;obtain⟨x,rfl⟩:∃x':Nat,x=(x':Int):=⟨x.toNat,qe⟩
 have hx1':x<2 ^ 21:=by
  have:(x:Int)<2 ^ (21:Int).toNat:=hx1;have e:(2:Int) ^ (21:Int).toNat=2097152:=by decide
  rw[e]at this;have e2:(2:Nat) ^ 21=2097152:=by decide
  omega
 have s1:aH d H (upd H d (.lst [.int a1,.int b1])):=Au hd;have ea:(λi j=>V.int (Builtin.bitAnd i j)) (x:Int) (m:Int)=V.int ((x&&&m:Nat):Int):=congrArg V.int (Bx _ _);rw[ea];have hle:x&&&m<=x:=Nat.and_le_left;refine⟨λσ H1=>∃n:Nat,σ=[some (.ref d),some (.int (m:Int)),some (.str r),some (.int (n:Int))]/\n<2 ^ 40/\(r = "keep" \/ n - (n&&&m)=0)/\aH d H H1,λR hR=>?_,?_⟩
 ·have g1:x&&&m<2 ^ 40:=by
   have:(2:Nat) ^ 21<2 ^ 40:=by decide
   omega
  have stop:∀H1,aH d H H1->R [some (.ref d),some (.int (m:Int)),some (.str r),some (.int ((x&&&m:Nat):Int))] H1:=λH1 sx=>hR _ _ ⟨_,rfl,g1,.inr (Im x m),sx⟩;refine⟨_,Zj,Zj,_,Zj,?_⟩;by_cases hk:r = "keep"
  ·rw[ZL (show V.str r=V.str "keep" by rw[hk])];refine Ag ?_;refine⟨_,Zj,d,a1,b1,3,Zj,AB,qc,qc,λy a2 b2 hy0 hy1=>?_⟩;have s2:=s1.trans (Au (x':=a2) (y':=b2) AB);refine⟨Zj,_,Zj,?_⟩;refine B6 (λhc=>?_) (λhc=>stop _ s2);refine⟨_,Zj,_,Zj,d,a2,b2,256,Zj,AB,qc,qc,λz a3 b3 hz0 hz1=>?_⟩;obtain⟨z,rfl⟩:∃z':Nat,z=(z':Int):=⟨z.toNat,qe⟩;refine⟨_,_,Zj,Zj,?_⟩;have eo:(λi j=>V.int (Builtin.bitOr i j)) ((x&&&m:Nat):Int) (z:Int)=V.int (((x&&&m) |||z:Nat):Int):=congrArg V.int (C6 _ _);refine hR _ _ ⟨(x&&&m) |||z,?_,?_,.inl hk,s2.trans (Au AB)⟩
   ·show [some (V.ref d),some (V.int (m:Int)),some (V.str r),some ((λi j=>V.int (Builtin.bitOr i j)) ((x&&&m:Nat):Int) (z:Int))]=_;rw[eo]
   ·refine Nat.or_lt_two_pow g1 ?_;have:(256:Nat)<2 ^ 40:=by decide
    omega
  ·rw[ZO (show ¬ V.str r=V.str "keep" from λz=>hk (V.str.inj z))];exact AV (AV (stop _ s1))
 ·rintro σ H1 ⟨n,rfl,h1,h2,sx⟩;exact⟨_,Zj,k n H1 h1 h2 sx⟩
end
end Mk
end
section
namespace Mk
open PySem L2 MK PySem.NumText
structure FunC (K:FG) (x qual:Str) (st:Stmt) (f:Xi) (fd:FuncData) (c:Xi):Prop where
 ex:∃(oc:Value) (od:Option Xi) (kV doc pm:Value) (an:Option Xi) (ct:Value) (gF:Array (Option Value)),
  fd=W.fnOf x qual (defArgs st) (defBody st) (defScope st) .none kV doc pm an (.ref c) ct/\K.lookup f=some ⟨oc,od,.func fd,gF⟩/\W.codeIn K (.ref c) qual=true
def FunC.ok {x qual:Str}{st:Stmt}{f c:Xi}{N ps:Xf}{k:Nat}{sp:Sp} (F:FunC K x qual st f fd c) (S:AM N ps (defScope st)) (len:∀vs H Q E,sp vs H Q E->vs.length=ps.length)
  (bh:∀(A:Around) (outer:List Env) (s:Xj) (H:Hp) (vs:Xh) (Q:VK) (E:XK),aE k (A.deeper (PyProof.Rows.envOfC qual (defScope st) s.heap.objs.size f (.ref c)))->sp vs H Q E ->
   ∃t,eN (BB aL P w K mg base N qual (defScope st) f (.ref c) A outer s H E).gi (defBody st) t/\t { nx:=λ_ H'=>Q .aO H',rt:=Q } (Bs N vs) H):AZ P w K mg base aL (k+1) f fd ps sp:=by
 obtain⟨oc,od,kV,doc,pm,an,ct,gF,rfl,lk,fm⟩:=F.ex;refine N7 lk fm S len λA outer s H vs Q E hr gP=>?_;obtain⟨t,h,q⟩:=bh A outer s H vs Q E hr gP;exact⟨t,h.gi,q⟩
def Wa {X:Cx}:BR (eX P w) X E0:=λ_ _ _ _ _ _ _ ⟨_,_,_,_,_,_,q⟩=>q.elim
noncomputable def Kq:Stmt->List Stmt | .For _ _ b _ _=>b |_=>[]
noncomputable def BK (i:Nat):Expr->Expr | .Call _ es _ _=>es.getD i (.Name "" ⟨0,0,0,0⟩) |e=>e
noncomputable def SG:Stmt->Expr | .If (.Compare l _ _ _) _ _ _=>l |_=>.Name "" ⟨0,0,0,0⟩
noncomputable def Kr (l:List Stmt) (i:Nat):Stmt:=l.getD i (.Pass ⟨0,0,0,0⟩)
noncomputable def O0:List Stmt:=Kq (Kr (defBody Cm) 0)
noncomputable def VR:Stmt->List Stmt | .If _ b _ _=>b |_=>[]
noncomputable def UF:List Stmt:=Kq (Kr O0 4)
noncomputable def Jz:Expr:=BK 0 (SG (Kr UF 4))
noncomputable def J0:Expr:=SG (Kr (VR (Kr UF 9)) 0)
noncomputable def J1:Expr:=SG (Kr (Kq (Kr O0 7)) 0)
noncomputable def J3:Expr:=SG (Kr O0 8)
noncomputable def J4:Expr:=SG (Kr O0 9)
noncomputable def F6:Expr->Expr | .Lambda _ b _ _=>b |e=>e
noncomputable def Iy:Expr->Arguments | .Lambda a _ _ _=>a |_=>defArgs Cm
noncomputable def ER:Expr->Scope | .Lambda _ _ sc _=>sc |_=>defScope Cm
noncomputable def DA:Expr->Pos | .Lambda _ _ _ p=>p |_=>⟨0,0,0,0⟩
noncomputable def LS:List Pos:=[DA (BK 0 Jz),DA (BK 0 J0),DA (BK 0 J1),DA (BK 0 J3),DA (BK 0 J4)]
def Ma (j:Nat):∀l,LS[j]?=some l->∀q∈LS,q=l\/(q.line==l.line&&q.col==l.col)=false:=by
 have key:(LS.all λl=>LS.all λq=>decide (q=l) || !(q.line==l.line&&q.col==l.col))=true:=by decide +kernel
 intro l hl q hq;have h1:=List.all_eq_true.mp (List.all_eq_true.mp key l (ZQ hl)) q hq;rw[Bool.or_eq_true]at h1;rcases h1 with z |z
 ·exact .inl (ZV z)
 ·exact .inr (by rw[Bool.not_eq_true']at z;exact z)
def Gx {α β:Type} [BEq α] [LawfulBEq α] {x:α}{v:β}:∀ {l:List (α×β)},l.lookup x=some v->(x,v)∈l
  | [],h=>by cases h
  | (y,u)::r,h=>by
    rw[Zz]at h;cases e:x==y with
    |true =>
      rw[e]at h;cases h;rw[eq_of_beq e];exact ZI ..
    |false =>
      rw[e]at h;exact ZR _ (Gx h)
def Tn {scope:Scope}{bZ:List (Str×Xi)} (h:scope.names.all (λp=>!(p.2 == .cell ||p.2 == .free)||(bZ.lookup p.1).isSome)=true):∀x,(scope.names.lookup x=some .cell\/scope.names.lookup x=some .free)->∃c,bZ.lookup x=some c:=λx hx=>by
 have g:∀k,scope.names.lookup x=some k->(k == .cell ||k == .free)=true->∃c,bZ.lookup x=some c:=λk e hk=>by
  have:=List.all_eq_true.mp h _ (Gx e);simp only[hk,Bool.not_true,Bool.false_or]at this;exact Option.isSome_iff_exists.mp this
 rcases hx with z |z
 ·exact g _ z rfl
 ·exact g _ z rfl
noncomputable def qL:Str := "law.<locals>." ++ "<lambda>"
def Keeps (H H':Hp):Prop:=∀b o,H b=some o->(∀x y:Int,o≠ .lst [.int x,.int y])->(∀ps,o≠ .fj ps)->(∀g,o≠ .ext g)->H' b=some o
def aU.keeps {p:Xi}{r:Str} (s:Keeps H H') (h:aU C H p due r):aU C H' p due r:=by
 obtain⟨dx,d1,o1,d2,o2,a,b,c⟩:=h.ex;exact⟨⟨dx,d1,o1,d2,o2,s _ _ a (λ_ _ z=>nomatch z) (λ_ z=>nomatch z) (λ_ z=>nomatch z),s _ _ b (λ_ _ z=>nomatch z) (λ_ z=>nomatch z) (λ_ z=>nomatch z),s _ _ c (λ_ _ z=>nomatch z) (λ_ z=>nomatch z) (λ_ z=>nomatch z)⟩⟩
def aB.keeps {as:List Xi}{ps:List (V×V)} (s:Keeps H H') (h:aB H as ps):aB H' as ps:=aB.aN (λb xs e=>s _ _ e (λ_ _ z=>nomatch z) (λ_ z=>nomatch z) (λ_ z=>nomatch z)) h
def To {ms:List Xi}{x y:Int}:HO.lst (ms.map V.ref)≠ .lst [.int x,.int y]:=λz=>by
 injection z with z
 cases ms with
 |nil=>cases z
 |cons a r=>cases z
def aW.same {P0:Xi}{q:Str}{ls:List Pos} (s:U H H') (h:aW H P0 q ls):aW H' P0 q ls:=by
 obtain⟨ps,h1,h2,h3⟩:=h;refine⟨ps,s _ _ h1,h2,λx hx=>?_⟩;rcases h3 x hx with z |⟨c,z1,z2⟩
 ·exact .inl z
 ·exact .inr ⟨c,z1,s _ _ z2⟩
def aW.cY {d:Xi}{P0:Xi}{q:Str}{ls:List Pos}{x y:Int} (hd:H d=some (.lst [.int x,.int y])) (s:aH d H H') (h:aW H P0 q ls):aW H' P0 q ls:=by
 obtain⟨ps,h1,h2,h3⟩:=h;refine⟨ps,s.old _ _ h1 (λz=>by subst z;rw[hd]at h1;cases h1),h2,λx hx=>?_⟩;rcases h3 x hx with z |⟨c,z1,z2⟩
 ·exact .inl z
 ·exact .inr ⟨c,z1,s.old _ _ z2 (λz=>by subst z;rw[hd]at z2;cases z2)⟩
def aW.ne {d:Xi}{P0:Xi}{q:Str}{ls:List Pos}{xs:Xh} (hd:H d=some (.lst xs)) (h:aW H P0 q ls):d≠P0:=λz=>by
 obtain⟨ps,h1,_⟩:=h;subst z;rw[hd]at h1;cases h1
def Rl (d P0:Xi) (H H':Hp):Prop:=∀b o,H b=some o->b≠d->b≠P0->(∀g,o≠ .ext g)->H' b=some o
def Rl.refl {d P0:Xi} (H:Hp):Rl d P0 H H:=λ_ _ e _ _ _=>e
def Rl.trans {d P0:Xi}{H1 H2:Hp} (a:Rl d P0 H H1) (b:Rl d P0 H1 H2):Rl d P0 H H2:=λc o e h1 h2 h3=>b c o (a c o e h1 h2 h3) h1 h2 h3
def Rl.same {d P0:Xi} (s:U H H'):Rl d P0 H H':=λb o e _ _ _=>s b o e
def Rl.cY {d P0:Xi} (s:aH d H H'):Rl d P0 H H':=λb o e h _ _=>s.old b o e h
def Rl.dZ {d P0:Xi} (s:Jk P0 H H'):Rl d P0 H H':=λb o e _ h _=>s b o h e
def Mb {c':Xi}{q:Str}{dx:Option Xi}:Fg c' q≠Fe c' C dx:=λz=>by
 have h:({ objs:=Array.replicate (c'+1) ⟨.ref C,dx,.fields (Array.replicate 6 .none),#[]⟩ }:Heap).get? c'=some ⟨.ref C,dx,.fields (Array.replicate 6 .none),#[]⟩:=by
  unfold Heap.get?;rw[Array.getElem?_replicate,Zp (Nat.lt_succ_self _)]
 have hz:=congrFun (HO.ext.inj z) { objs:=Array.replicate (c'+1) ⟨.ref C,dx,.fields (Array.replicate 6 .none),#[]⟩ };have hy:=hz.mpr ⟨_,_,h,rfl,rfl,rfl,qc,qc⟩;obtain⟨c1,oc,vs,t,e,ho,hd,hq⟩:=hy;cases e;rw[h]at ho;cases ho;cases hd;rw[Array.getElem?_replicate]at hq;split at hq <;> cases hq
structure Wb (d P0:Xi) (H:Hp):Prop where
 bH:∃x y:Int,H d=some (.lst [.int x,.int y])
 tab:aW H P0 qL LS
def Wb.keeps {d P0:Xi} (s:Rl d P0 H H') (h:Wb d P0 H):Keeps H H':=λb o eb h1 h2 h3=>by
 refine s b o eb (λz=>?_) (λz=>?_) h3
 ·subst z;obtain⟨x,y,hd⟩:=h.bH;rw[hd]at eb;cases eb;exact h1 _ _ rfl
 ·subst z;obtain⟨ps,hp,_⟩:=h.tab;rw[hp]at eb;cases eb;exact h2 _ rfl
def Wb.same {d P0:Xi} (s:U H H') (h:Wb d P0 H):Wb d P0 H':=⟨by obtain⟨x,y,z⟩:=h.bH;exact⟨x,y,s _ _ z⟩,aW.same s h.tab⟩
def Wb.dZ {d P0:Xi} (s:Jk P0 H H') (ht:aW H' P0 qL LS) (h:Wb d P0 H):Wb d P0 H':=by
 obtain⟨x,y,hd⟩:=h.bH;exact⟨⟨x,y,s _ _ (aW.ne hd h.tab) hd⟩,ht⟩
def Wb.exc {d P0:Xi}{H1 H2:Hp}{e' C':Xi}{dx:Option Xi} (s1:U H H1) (he:H1 e'=some (Fe e' C' dx)) (s2:U (del H1 e') H2) (h:Wb d P0 H):Wb d P0 H2/\Rl d P0 H H2:=by
 have old:∀b o,H b=some o->o≠Fe b C' dx->H2 b=some o:=λb o eb hn=>by
  have eb1:=s1 _ _ eb;refine s2 _ _ ?_;have jK:b≠e':=λz=>by subst z;rw[he]at eb1;cases eb1;exact hn rfl
  unfold del;rw[Zq jK];exact eb1
 refine⟨⟨?_,?_⟩,λb o eb _ _ hx=>old b o eb (hx _)⟩
 ·obtain⟨x,y,hd⟩:=h.bH;exact⟨x,y,old _ _ hd (λz=>nomatch z)⟩
 ·obtain⟨ps,h1,h2,h3⟩:=h.tab;refine⟨ps,old _ _ h1 (λz=>nomatch z),h2,λx hx=>?_⟩;rcases h3 x hx with z |⟨c,z1,z2⟩
  ·exact .inl z
  ·exact .inr ⟨c,z1,old _ _ z2 Mb⟩
def F7 {b:Xi}{x y:Str}{n:Int} (h:H b=some (.tup [.str x,.str y,.int n])):CD K H (.tuple [.str x,.str y,.int n]) (.ref b):=by
 rw[CD];refine⟨b,_,Zj,aX.of h,?_⟩;rw[BF];refine⟨_,_,Zj,by rw[CD],?_⟩;rw[BF];refine⟨_,_,Zj,by rw[CD],?_⟩;rw[BF];refine⟨_,_,Zj,by rw[CD],?_⟩;rw[BF]
def Cz {x y:Str}{n:Int} (h1:x.cps.all (· < 128)=true) (h2:y.cps.all (· < 128)=true):SeqAt.shaped (.tuple [.str x,.str y,.int n])=true:=by
 unfold SeqAt.shaped;simp only[Bool.and_eq_true,decide_eq_true_eq];refine⟨?_,?_⟩
 ·rw[PyData.canLay0];refine Kh λd hd=>?_;simp only[mem_cons,not_mem_nil,or_false]at hd;rcases hd with rfl |rfl |rfl
  ·rw[PyData.canLay0];exact DK h1
  ·rw[PyData.canLay0];exact DK h2
  ·rw[PyData.canLay0]
 ·simp only[PyData.depth,PyData.depthAll];omega
def Mc (x y:Str) (n:Int):PyData.eqv (.tuple [.str x,.str y,.int n]) (.tuple [.str x,.str y,.int n])=true:=Di λd hd=>by
 simp only[mem_cons,not_mem_nil,or_false]at hd;rcases hd with rfl |rfl |rfl
 ·exact Bc _
 ·exact Bc _
 ·exact F2 _
def SH (x:Str) (n:Int):PyData.eqv (.tuple [.str x,.int n]) (.tuple [.str x,.int n])=true:=Di λd hd=>by
 simp only[mem_cons,not_mem_nil,or_false]at hd;rcases hd with rfl |rfl
 ·exact Bc _
 ·exact F2 _
def New (d P0:Xi) (H0:Hp) (a:Xi):Prop:=∀o,H0 a=some o->a≠d->a≠P0->∃g,o=.ext g
def Rl.new {d P0 a:Xi}{H0:Hp} (R:Rl d P0 H0 H) (h:H a=none):New d P0 H0 a:=λo e h1 h2=>by
 refine Classical.byContradiction λz=>?_;have:=R a o e h1 h2 λg y=>z ⟨g,y⟩;rw[h]at this;cases this
def Rl.put {d P0 a:Xi}{H0:Hp}{u:HO} (R:Rl d P0 H0 H) (n:New d P0 H0 a):Rl d P0 H0 (upd H a u):=λb o e h1 h2 h3=>by
 by_cases z:b=a
 ·subst z;obtain⟨g,y⟩:=n o e h1 h2;exact absurd y (h3 g)
 ·rw[AF z];exact R b o e h1 h2 h3
def Wb.put {d P0 a:Xi}{u:HO}{kvs:LK} (h:H a=some (.dK kvs)) (W:Wb d P0 H):Wb d P0 (upd H a u):=by
 obtain⟨x,y,hd⟩:=W.bH
 have ne:∀ {b:Xi}{o:HO},H b=some o->(∀k,o≠ .dK k)->b≠a:=λ{b o} e n z=>by
  subst z;rw[h]at e;cases e;exact n _ rfl
 refine⟨⟨x,y,by rw[AF (ne hd λ_ z=>nomatch z)];exact hd⟩,?_⟩;obtain⟨ps,h1,h2,h3⟩:=W.tab;refine⟨ps,by rw[AF (ne h1 λ_ z=>nomatch z)];exact h1,h2,λx hx=>?_⟩;rcases h3 x hx with z |⟨c,z1,z2⟩
 ·exact .inl z
 ·exact .inr ⟨c,z1,by rw[AF (ne z2 λ_ z=>nomatch z)];exact z2⟩
def Ks {ec:Nat->Xi}{cM cU:Xi}{j:Nat}{Q:VK}{d P0:Xi} (EP:Jw K ec cM cU j) (W:Wb d P0 H)
  (h:∀p H',Wb d P0 H'->Rl d P0 H H'->H' p=some (.tup [.str "refused", .str (wd j)])->Q (.ref p) H'):Uq H (Il K ec cM Q) cU:=λe H1 s1 _ _=>⟨cU,rfl,λe' jI=>.inl ⟨j,EP,rfl,λp H2 s2 hp=>by
 obtain⟨W2,R2⟩:=W.exc s1 jI s2
 exact h p H2 W2 R2 hp⟩⟩
def SI {ec:Nat->Xi}{cM cA:Xi}{Q:VK}{d P0:Xi}{v:V} (EF:Ik K ec cA 2) (W:Wb d P0 H)
  (h:∀p H',Wb d P0 H'->Rl d P0 H H'->H' p=some (.tup [.str "refused", .str "BadText", v])->Q (.ref p) H'):UqA H (Il K ec cM Q) cA v:=λe dx H1 s1 _ _ _ _ hX=>⟨cA,rfl,λe' jI=>.inr ⟨2,dx,v,EF,rfl,by
 have kg:dx≠e':=λz=>by rw[←z,hX]at jI;cases jI
 show del H1 e' dx=_;unfold del;rw[Zq kg];exact hX,λp H2 s2 hp=>by
 obtain⟨W2,R2⟩:=W.exc s1 jI s2
 exact h p H2 W2 R2 hp⟩⟩
def CK {x y:Str} (h1:x.cps.all (· < 128)=true:=by decide +kernel) (h2:y.cps.all (· < 128)=true:=by decide +kernel):SeqAt.shaped (.tuple [.str x,.str y])=true:=by
 unfold SeqAt.shaped;simp only[Bool.and_eq_true,decide_eq_true_eq];refine⟨?_,?_⟩
 ·rw[PyData.canLay0];refine Kh λd hd=>?_;simp only[mem_cons,not_mem_nil,or_false]at hd;rcases hd with rfl |rfl
  ·rw[PyData.canLay0];exact DK h1
  ·rw[PyData.canLay0];exact DK h2
 ·simp only[PyData.depth,PyData.depthAll];omega
def Kt (x y:Str):PyData.eqv (.tuple [.str x,.str y]) (.tuple [.str x,.str y])=true:=Di λd hd=>by
 simp only[mem_cons,not_mem_nil,or_false]at hd;rcases hd with rfl |rfl
 ·exact Bc _
 ·exact Bc _
def O1 (K:FG) (P0 bd:Xi):Sp:=λvs H Q _=>∃(a:Xi) (ns:List Int),vs=[.ref a]/\aI K H a (ns.map V.int)/\ns.length<=63/\aW H P0 qL LS/\Rd H bd (.dK CO)/\∀H',Q (.bl true) H'
noncomputable abbrev F8:Xf:=["_law_script", "_law_dice", "_law_rows", "_law_due", "_law_way", "_law_table", "_law_numbers", "_law_name", "_law_number", "_law_kind", "_law_turn", "_law_text", "_law_tree_here", "_law_letters_to", "_law_some", "_law_few", "_law_cases", "_law_bad"]
def scLaw:AM F8 ["_law_script"] (defScope Cm):=cH
section
variable {cM cR cB cN cT c P0 bd:Xi}{ec:Nat->Xi}
def F9 {X:Cx}{Nl:Xf}{ix:List Nat}{scope:Scope}{bZ:List (Str×Xi)} (h1:ix.length=Nl.length)
  (h2:(List.range Nl.length).all (λi=>match Nl[i]?,ix[i]? with |some x,some j=>decide (X.N[j]?=some x)&&decide (X.env.scope.names.lookup x=some .cell)&&decide (scope.names.lookup x=some .free) |_,_=>false)=true)
  (h3:∀p∈bZ,X.env.cells.lookup p.1=some p.2) (h4:scope.names.all (λp=>!(p.2 == .cell ||p.2 == .free)||(bZ.lookup p.1).isSome)=true) (h5:∀x,X.fn x=true):LamN X Nl ix scope bZ:=by
 refine⟨h1,λi x h=>?_,λx c h=>h3 _ (Gx h),Tn h4,h5⟩;have hi:i<Nl.length:=(Z8.mp h).1;have:=List.all_eq_true.mp h2 i (mem_range.mpr hi);rw[h]at this;cases e:ix[i]? with
 |none=>rw[e]at this;cases this
 |some j =>
  rw[e]at this;simp only[Bool.and_eq_true,decide_eq_true_eq]at this;exact⟨j,Zj,this.1.1,this.1.2,this.2⟩
section
variable {f0 fT0:Xi}{dT0:FuncData}{A:Around}{outer:List Env}{s:Xj}{E:XK}
 (FT:aV K "_law_told" "_law_told" Aq fT0 dT0) (iQ:mg "_law_told" = some (.ref fT0)) (iW:Binds K dT0 ["_law_deed"] []) (M:QC mg ec) (EX:Ro K mg ec cM) (GW:FnS P w K mg base "_law_word" 1 ["_law_e"] (Dk K ec)) (LC:Sx (BB aL P w K mg base F8 "law" (defScope Cm) f0 (.ref c) A outer s H E).gi c P0) (hr:aE 9 (BB aL P w K mg base F8 "law" (defScope Cm) f0 (.ref c) A outer s H E).gi.A) {fX:Xi}{dX:FuncData} (GX:AZ P w K mg base (eX P w) 7 fX dX ["kind", "text", "table"] (gE K C VC cR cB cN bd cT)) (mX:mg "reckoned" = some (.ref fX)) (kX:W.keepIn K (.ref fX)=true) (bX:Binds K dX ["kind", "text", "table"] [])
include FT iQ iW M EX GW LC hr GX mX kX bX
def VU:PE (BB aL P w K mg base F8 "law" (defScope Cm) f0 (.ref c) A outer s H E).gi Jz (Jx K ec cM P0 qL LS [9,11,13] (λE=>HA (gE K C VC cR cB cN bd cT) [] E (Ah (DR 0) (Ah (DR 1) (Ah (DR 2) B9))))) :=
   F3 (X:=(BB aL P w K mg base F8 "law" (defScope Cm) f0 (.ref c) A outer s H E).gi) (params:=Iy (BK 0 Jz)) (body:=F6 (BK 0 Jz)) (scope:=ER (BK 0 Jz)) (Nl:=["_law_kind", "_law_text", "_law_letters_to"]) (k:=7) (cQ:=DA (BK 0 Jz)) FT M EX GW hr rfl iQ FT.kp iW LC (ZQ (i:=0) rfl) (Ma 0 _ rfl) rfl rfl (F9 rfl qd (by intro p hp;simp only[mem_cons,not_mem_nil,or_false]at hp;rcases hp with rfl |rfl |rfl <;> kernel_rfl) qd (λ_=>rfl)) (λ_ _ _=>rfl) rfl rfl rfl qb
    (λlf c' A' ef s' H' E hr=>AN GX (hr.mono qc) rfl mX kX bX .nil Lb (AA (pv 0) (AA (pv 1) (AA (pv 2) AC))))
def VW:PE (BB aL P w K mg base F8 "law" (defScope Cm) f0 (.ref c) A outer s H E).gi J0 (Jx K ec cM P0 qL LS [9,11,15] (λE=>HA (gE K C VC cR cB cN bd cT) [] E (Ah (DR 0) (Ah (iG (λx y H Q=>∃i j,x=.str i/\y=.str j/\i.length+j.length<=sizeLine/\Q (.str (i++j)) H) (DR 1) (tC (.str "|ZZ"))) (Ah (DR 2) B9))))) :=
   F3 (X:=(BB aL P w K mg base F8 "law" (defScope Cm) f0 (.ref c) A outer s H E).gi) (params:=Iy (BK 0 J0)) (body:=F6 (BK 0 J0)) (scope:=ER (BK 0 J0)) (Nl:=["_law_kind", "_law_text", "_law_few"]) (k:=7) (cQ:=DA (BK 0 J0)) FT M EX GW hr rfl iQ FT.kp iW LC (ZQ (i:=1) rfl) (Ma 1 _ rfl) rfl rfl (F9 rfl qd (by intro p hp;simp only[mem_cons,not_mem_nil,or_false]at hp;rcases hp with rfl |rfl |rfl <;> kernel_rfl) qd (λ_=>rfl)) (λ_ _ _=>rfl) rfl rfl rfl qb
    (λlf c' A' ef s' H' E hr=>cK.h (BC GX (hr.mono qc) rfl mX kX bX .nil Lb (Ab (.mk (pv 0)) (Ab (C5 BN (.mk (pv 1)) (.mk AJ)) (Ab (.mk (pv 2)) BV)))))
def VX:PE (BB aL P w K mg base F8 "law" (defScope Cm) f0 (.ref c) A outer s H E).gi J1 (Jx K ec cM P0 qL LS [9,17] (λE=>HA (gE K C VC cR cB cN bd cT) [] E (Ah (DR 0) (Ah (tC (.str "ZZ|x")) (Ah (DR 1) B9))))) :=
   F3 (X:=(BB aL P w K mg base F8 "law" (defScope Cm) f0 (.ref c) A outer s H E).gi) (params:=Iy (BK 0 J1)) (body:=F6 (BK 0 J1)) (scope:=ER (BK 0 J1)) (Nl:=["_law_kind", "_law_bad"]) (k:=7) (cQ:=DA (BK 0 J1)) FT M EX GW hr rfl iQ FT.kp iW LC (ZQ (i:=2) rfl) (Ma 2 _ rfl) rfl rfl (F9 rfl qd (by intro p hp;simp only[mem_cons,not_mem_nil,or_false]at hp;rcases hp with rfl |rfl <;> kernel_rfl) qd (λ_=>rfl)) (λ_ _ _=>rfl) rfl rfl rfl qb
    (λlf c' A' ef s' H' E hr=>AN GX (hr.mono qc) rfl mX kX bX .nil Lb (AA (pv 0) (AA AJ (AA (pv 1) AC))))
def Xc:TE:=λσ H Q=>LA [(tC (.str "x"),iG (ir λi j=>.int (i - j)) (iG (rI SU λi j=>.int (i ^ j.toNat)) (tC (.int 2)) (tC (.int 40))) (tC (.int 1)))] σ H λv H1=>∃a kvs,v=.ref a/\H1 a=some (.dK kvs)/\∀o,Q v (upd H1 a (.bG o (.dK kvs)))
def VY:PE (BB aL P w K mg base F8 "law" (defScope Cm) f0 (.ref c) A outer s H E).gi J3 (Jx K ec cM P0 qL LS [9] (λE=>HA (gE K C VC cR cB cN bd cT) [] E (Ah (DR 0) (Ah (tC (.str "ZZ|x")) (Ah Xc B9))))) :=
   F3 (X:=(BB aL P w K mg base F8 "law" (defScope Cm) f0 (.ref c) A outer s H E).gi) (params:=Iy (BK 0 J3)) (body:=F6 (BK 0 J3)) (scope:=ER (BK 0 J3)) (Nl:=["_law_kind"]) (k:=7) (cQ:=DA (BK 0 J3)) FT M EX GW hr rfl iQ FT.kp iW LC (ZQ (i:=3) rfl) (Ma 3 _ rfl) rfl rfl (F9 rfl qd (by intro p hp;simp only[mem_cons,not_mem_nil,or_false]at hp;rcases hp with rfl <;> kernel_rfl) qd (λ_=>rfl)) (λ_ _ _=>rfl) rfl rfl rfl qb
    (λlf c' A' ef s' H' E hr=>cK.h (BC GX (hr.mono qc) rfl mX kX bX .nil Lb (Ab (.mk (pv 0)) (Ab (.mk AJ) (Ab (.mk (Ul (cK.h (CT (.mk AJ) (C5 Cg (C5 Er (.mk AD) (.mk AD)) (.mk AD)))))) BV)))))
def VZ:PE (BB aL P w K mg base F8 "law" (defScope Cm) f0 (.ref c) A outer s H E).gi J4 (Jx K ec cM P0 qL LS [9] (λE=>HA (gE K C VC cR cB cN bd cT) [] E (Ah (DR 0) (Ah (tC (.str "x|")) (Ah (tC .aO) B9))))) :=
   F3 (X:=(BB aL P w K mg base F8 "law" (defScope Cm) f0 (.ref c) A outer s H E).gi) (params:=Iy (BK 0 J4)) (body:=F6 (BK 0 J4)) (scope:=ER (BK 0 J4)) (Nl:=["_law_kind"]) (k:=7) (cQ:=DA (BK 0 J4)) FT M EX GW hr rfl iQ FT.kp iW LC (ZQ (i:=4) rfl) (Ma 4 _ rfl) rfl rfl (F9 rfl qd (by intro p hp;simp only[mem_cons,not_mem_nil,or_false]at hp;rcases hp with rfl <;> kernel_rfl) qd (λ_=>rfl)) (λ_ _ _=>rfl) rfl rfl rfl qb
    (λlf c' A' ef s' H' E hr=>AN GX (hr.mono qc) rfl mX kX bX .nil Lb (AA (pv 0) (AA AJ (AA J5 AC))))
end
inductive Fd (VC kp:Xi) (due:Aa) (r:Str) (n:Nat) (vf:V) (H:Hp):Prop
 |no (q:Xi) (e:vf=.ref q) (h:H q=some (.tup [.str "refused", .str "BadRest", .int (AU due (n:Int):Nat)])) (hb:AU due (n:Int)≠0/\r = "bar")
 |left (e:vf=.int (n:Int)) (hb:¬ (AU due (n:Int)≠0/\r = "bar")) (hl:AU due (n:Int)≠0/\r = "leave")
 |val (q:Xi) (e:vf=.ref q) (h:MM VC H q kp (if r = "keep" then plain (n:Int)else plain (n:Int) - AU due (n:Int))) (hb:¬ (AU due (n:Int)≠0/\r = "bar")) (hl:¬ (AU due (n:Int)≠0/\r = "leave"))
def QI {Q:VK}{d kp:Xi}{r:Str}{n:Nat} (hR:ec 1=cR) (EF:Ik K ec cR 1) (W:Wb d P0 H) (KA:aU C H kp due r) (hk:kn due<2 ^ 20) (hn:n<2 ^ 40)
  (h:∀vf H',Wb d P0 H'->Rl d P0 H H'->Fd VC kp due r n vf H'->Q vf H'):spMade C VC cR [.ref kp,.int (n:Int)] H Q (Il K ec cM Q):=by
 have n40:(2:Nat) ^ 40=1099511627776:=by decide
 refine⟨kp,due,r,(n:Int),Zj,KA,hk,qe,qe,?_⟩;by_cases hb:AU due (n:Int)≠0/\r = "bar"
 ·refine .inl ⟨hb.1,hb.2,λe0 d0 H11 jz he0 ao a0 hE hX=>?_⟩;refine⟨cR,Zj,λe' jI=>.inr ⟨1,d0,.int (AU due (n:Int):Nat),EF,Zj,?_,λq iZ i8 hq=>?_⟩⟩
  ·have kg:d0≠e':=λz=>by rw[←z,hX]at jI;cases jI
   unfold del;rw[Zq kg];exact hX
  ·obtain⟨W2,R2⟩:=W.exc jz jI i8;exact h _ _ W2 R2 (.no q Zj hq hb)
 ·by_cases hl:AU due (n:Int)≠0/\r = "leave"
  ·exact .inr (.inl ⟨hb,hl.1,hl.2,λH' s'=>h _ _ (W.same s') (Rl.same s') (.left Zj hb hl)⟩)
  ·exact .inr (.inr ⟨hb,hl,λq H' s' hV=>h _ _ (W.same s') (Rl.same s') (.val q Zj hV hb hl)⟩)
end
end Mk
end
section
namespace L2
open PySem
section
variable {te tk tv:TE}{t:TA}{σ:St}{H0:Hp}{v:V}{vs:Xh}{n:Nat}{Pv:Hp->V->Prop}{k:Key}
def Is (te:TE) (σ:St) (H0:Hp) (v:V):Prop:=∀H (Q:VK),U H0 H->Q v H->te σ H Q
def Is.c:Is (tC v) σ H0 v:=λ_ _ _ q=>q
def bQ (Pv:Hp->V->Prop) (te:TE) (σ:St) (H0:Hp):Prop:=∀H (Q:VK),U H0 H->(∀v H',U H H'->Pv H' v->Q v H')->te σ H Q
def Gives (Pv:Hp->V->Prop) (t:TA) (σ:St) (H0:Hp) (n:Nat):Prop:=∀H (Q:Xh->Hp->Prop),U H0 H->(∀vs H',U H H'->vs.length=n->(∀v∈vs,Pv H' v)->Q vs H')->t σ H Q
def Va (Pv:Hp->V->Prop):Prop:=∀H H' v,U H H'->Pv H v->Pv H' v
def Gives.nil:Gives Pv B9 σ H0 0:=λH Q _ q=>q [] H (U.refl _) rfl (λv hv=>by cases hv)
def Gives.cons (m:Va Pv) (a:bQ Pv te σ H0) (b:Gives Pv t σ H0 n):Gives Pv (Ah te t) σ H0 (n+1):=λH Q s q =>
 a H _ s λv H1 s1 hv=>b H1 _ (s.trans s1) λvs H2 s2 hn hvs=>q (v::vs) H2 (s1.trans s2) (by rw[length_cons,hn]) λw hw=>by
  rcases mem_cons.mp hw with z |z
  ·exact z ▸ m _ _ _ s2 hv
  ·exact hvs w z
def bQ.is (a:Is te σ H0 v) (h:∀H,U H0 H->Pv H v):bQ Pv te σ H0:=λH Q s q=>a H Q s (q v H (U.refl _) (h H s))
def bQ.lst0 (h:∀H p,U H0 H->H p=some (.lst [])->Pv H (.ref p)):bQ Pv (Qa B9) σ H0:=λH Q s q =>
 ⟨(by show 0<=sizeLine;decide),λp hp=>q _ _ (Mk.AH (U.refl _) hp) (h _ p (s.trans (Mk.AH (U.refl _) hp)) AB)⟩
def bQ.fg (bk:Is tk σ H0 (kV k)) (bv:Is tv σ H0 v) (h:∀H1 H p,U H0 H1->H1 p=none->U H1 H->H p=some (.dK [(k,v)])->Pv H (.ref p)):bQ Pv (LA [(tk,tv)]) σ H0:=λH Q s q p hp=>by
 have s1:=Mk.AH (U.refl _) hp (o:=HO.dK []);refine bk _ _ (s.trans s1) (bv _ _ (s.trans s1) ⟨AB,[(k,v)],Zj,by show 1<=15;decide,?_⟩);have s2:U H (upd (upd H p (.dK [])) p (.dK (Bo [] [(k,v)]))):=λb o e=>by rw[AF (AI e hp),AF (AI e hp)];exact e
 exact q _ _ s2 (h H _ p s hp s2 (by rw[AB];rfl))
def Gives.lst (m:Va Pv) (g:Gives Pv t σ H0 n) (hn:n<=1000) (H:Hp) (Q:VK) (s:U H0 H) (q:∀p vs H',H p=none->U H H'->H' p=some (.lst vs)->vs.length=n->(∀v∈vs,Pv H' v)->Q (.ref p) H'):Qa t σ H Q :=
 g H _ s λvs H1 s1 hl hv=>⟨by rw[hl];exact Nat.le_of_lt (AO hn),λp hp=>q p vs _ (Mk.none_of s1 hp) (s1.trans (Mk.AH (U.refl _) hp)) AB hl λv jE=>m _ _ _ (Mk.AH (U.refl _) hp) (hv v jE)⟩
end
end L2
namespace Mk
open PySem L2 MK PySem.NumText
noncomputable def gV3 (vs zs:Xh):Xh:=match vs,zs with | [a,b],[c]=>[a,b,c] |_,_=>[]
noncomputable def gU3 (us ws:Xg):Xg:=match us,ws with | [a,b],[c]=>[a,b,c] |_,_=>[]
structure SJ (P:Program) (w:World) (K:FG) (mg:SV) (base:Heap) (C:Xi):Prop where
 T:IZ K C
 cls:mg "Kind" = some (.ref C)
 make:∃f fd,Mk K C f/\AZ P w K mg base aL 6 f fd ["self", "rows", "rest"] (spInit C) /\
  (∃g,Mr K fd ["self", "rows", "rest"] ["rest"] g gV3)/\∃ds,Binds K fd ["self", "rows", "rest"] ds/\Vals [.str "bar"] ds
def LtN (n:Nv) (sg:List Nat):Prop:=∀c∈sg,Co c=true/\As n.kvs (Sum.inr ⟨#[c]⟩)=some (.int (n.tb ⟨#[c]⟩:Nat))/\n.tb ⟨#[c]⟩<2 ^ 40
def O2 {n:Nv}{sg:List Nat} (D:EJ n.due) (hs:LtN n sg):∀ {t:LT},t.Ok (n.due.map (·.1)) sg->t.tr.Ok n
 | .nm x,h=>by
  obtain⟨p,hp,rfl⟩:=Zr.mp h;exact(Ot D hp).1.ok
 | .no m,h=>(Kp (n:=n) (Nat.lt_trans h qc)).1.ok
 | .le c,h=>(Iu (hs c h).1 (hs c h).2.1).ok
 | .ng t,h=>O2 D hs (t:=t) h
 | .bn g a b,h=>⟨h.1,O2 D hs h.2.1,O2 D hs h.2.2⟩
def Wc {g:Sg}{a b:Nat} (ha:a<2 ^ 40) (hb:b<2 ^ 40):g.f a b<2 ^ 40:=by
 cases g <;> first |exact Nat.or_lt_two_pow ha hb |exact Nat.xor_lt_two_pow ha hb |exact Nat.lt_of_le_of_lt Nat.and_le_left ha
def Ku {n:Nv}{sg:List Nat} (D:EJ n.due) (hs:LtN n sg):∀ {t:LT},t.Ok (n.due.map (·.1)) sg->t.tr.dz n<2 ^ 40
 | .nm x,h=>by
  show wv n x<2 ^ 40;rw[Oy D h];obtain⟨p,hp,rfl⟩:=Zr.mp h;rw[DL D.nd hp];exact Nat.lt_trans (D.lt p hp) qc
 | .no m,h=>by
  show wv n (FK m)<2 ^ 40;rw[SE h];exact Nat.lt_trans h qc
 | .le c,h=>by
  show wv n ⟨#[c]⟩<2 ^ 40;rw[(Iu (hs c h).1 (hs c h).2.1).v];exact(hs c h).2.2
 | .ng t,h=>Nat.lt_of_le_of_lt (Nat.sub_le _ _) (Nat.lt_trans (T8 D.lt) qc)
 | .bn g a b,h=>Wc (Ku D hs h.2.1) (Ku D hs h.2.2)
def GG:∀t:LT,t.tr.post.length+1<=2 ^ (t.ht+1)
 | .nm x=>by show 1+1<=2 ^ 1;decide
 | .no n=>by show 1+1<=2 ^ 1;decide
 | .le n=>by show 1+1<=2 ^ 1;decide
 | .ng t=>by
  have:=GG t;show(t.tr.post++[_]).length+1<=2 ^ (t.ht+1+1);rw[ZH,length_singleton,Nat.pow_succ];omega
 | .bn g a b=>by
  have h1:=GG a;have h2:=GG b;show(a.tr.post++b.tr.post++[_]).length+1<=2 ^ (max a.ht b.ht+1+1);rw[ZH,ZH,length_singleton,Nat.pow_succ];have e1:2 ^ (a.ht+1)<=2 ^ (max a.ht b.ht+1):=Nat.pow_le_pow_right qc qe;have e2:2 ^ (b.ht+1)<=2 ^ (max a.ht b.ht+1):=Nat.pow_le_pow_right qc qe;omega
def Vb (g:Sg):g.s.length=1:=by cases g <;> decide +kernel
def Vc (g:Sg):A9 g.s=false:=by cases g <;> decide +kernel
structure PtW (sg:List Nat) (x:Str):Prop where
 l:x.length<=200
 m:A9 x=true->∃c∈sg,x=⟨#[c]⟩
 s:A9 x=true\/∀c∈x.cps.toList,Co c=false
def UG {c:Nat} (h:c<97):Co c=false:=by
 unfold Co;rw[ZO qe];rfl
def HV {n:Nv}{sg:List Nat} (D:EJ n.due):∀ {t:LT},t.Ok (n.due.map (·.1)) sg->(∀c∈sg,Co c=true)->∀x∈t.tr.post,PtW sg x
 | .nm y,h,hs,x,hx=>by
  obtain rfl:x=y:=ZG.mp hx;obtain⟨p,hp,rfl⟩:=Zr.mp h;obtain⟨w,l6,hl⟩:=Ot (n:=n) D hp;refine⟨qe,λz=>(by rw[hl]at z;cases z),.inr λc hc=>?_⟩;have h1:=(D.nm p hp).1;unfold B0 at h1;simp only[Bool.and_eq_true,decide_eq_true_eq]at h1;have:=List.all_eq_true.mp h1.2 c hc;simp[Cn]at this;exact UG qe
 | .no m,h,hs,x,hx=>by
  obtain rfl:x=FK m:=ZG.mp hx;obtain⟨w,hl⟩:=Kp (n:=n) (v:=m) (Nat.lt_trans h qc);have:=w.len;refine⟨qe,λz=>(by rw[hl]at z;cases z),.inr λc hc=>?_⟩;rw[Ou]at hc;have:=List.all_eq_true.mp (Nr m) c hc;simp[CV]at this;exact UG qe
 | .le c,h,hs,x,hx=>by
  obtain rfl:x=⟨#[c]⟩:=ZG.mp hx;exact⟨(by show 1<=200;decide),λ_=>⟨c,h,Zj⟩,.inl (hs c h)⟩
 | .ng t,h,hs,x,hx=>by
  rcases mem_append.mp hx with z |z
  ·exact HV D (t:=t) h hs x z
  ·obtain rfl:=ZG.mp z;exact⟨qb,λz=>absurd z qb,.inr qb⟩
 | .bn g a b,h,hs,x,hx=>by
  rcases mem_append.mp hx with z |z
  ·rcases mem_append.mp z with z |z
   ·exact HV D h.2.1 hs x z
   ·exact HV D h.2.2 hs x z
  ·obtain rfl:=ZG.mp z;refine⟨by rw[Vb];decide,λz=>(by rw[Vc]at z;cases z),.inr ?_⟩;cases g <;> decide +kernel
def We {lt:Bool}{t:Tr}{r:Nat}{u:List Nat} (h:Wr lt t r u) {sg:List Nat} (k:∀x∈t.post,PtW sg x) {c:Nat} (hc:Co c=true):c∈u ↔ (⟨#[c]⟩:Str)∈t.post:=by
 have nc:∀d:Nat,Co d=false->c≠d:=λd hd z=>by rw[z,hd]at hc;cases hc
 have nb:∀bl:List Nat,Bk bl->c∉ bl:=λbl hb hm=>by
  rcases hb with rfl |rfl
  ·cases hm
  ·exact nc 32 Zj (ZG.mp hm)
 induction h with
 |wd x r bl hb h =>
  have hx:=k x (ZG.mpr rfl);show c∈bl++x.cps.toList ↔ _∈ [x];rw[mem_append,ZG];refine⟨λz=>?_,λz=>.inr (by rw[←z];exact ZG.mpr rfl)⟩;rcases z with z |z
  ·exact absurd z (nb bl hb)
  ·rcases hx.s with hl |hn
   ·obtain⟨d,_,e⟩:=hx.m hl;rw[e]at z;rw[e,ZG.mp z]
   ·rw[hn c z]at hc;cases hc
 |ng t r u hr h ih =>
  show c∈126::u ↔ _∈t.post++[("~" : Str)];rw[mem_cons,mem_append,ZG,(show c∈u ↔ (⟨#[c]⟩:Str)∈t.post from ih λx hx=>k x (ZP _ hx))];refine⟨λz=>z.elim (λz=>absurd z (nc 126 Zj)) .inl,λz=>z.elim .inr λz=>?_⟩;have:=congrArg (λy:Str=>y.cps.toList) z;rw[show(("~" : Str)).cps.toList=[126] by decide +kernel]at this;injection this with this
  exact absurd this (nc 126 Zj)
 |bn g a b r u v bl hg hr hb ha hv iha ihb =>
  show c∈u++(bl++(g.c::v)) ↔ _∈a.post++b.post++[g.s];have ng:c≠g.c:=nc _ (by cases g <;> rfl)
  have ng2:(⟨#[c]⟩:Str)≠g.s:=λz=>by
   rw[←Kn]at z;have:=congrArg (λy:Str=>y.cps.toList) z;injection this with this
   exact ng this
  simp only[mem_append,mem_cons,ZG,not_mem_nil,or_false,iha (λx hx=>k x (ZP _ (ZP _ hx))),ihb (λx hx=>k x (ZP _ (ZT _ hx)))];refine⟨λz=>?_,λz=>?_⟩
  ·rcases z with z |z |z |z
   ·exact .inl (.inl z)
   ·exact absurd z (nb bl hb)
   ·exact absurd z ng
   ·exact .inl (.inr z)
  ·rcases z with (z |z) |z
   ·exact .inl z
   ·exact .inr (.inr (.inr z))
   ·exact absurd z ng2
 |br t r u bl hb h ih =>
  rw[←(show c∈u ↔ (⟨#[c]⟩:Str)∈t.post from ih k)];simp only[mem_append,mem_cons,ZG,not_mem_nil,or_false];refine⟨λz=>?_,λz=>.inr (.inr (.inl z))⟩;rcases z with z |z |z |z
  ·exact absurd z (nb bl hb)
  ·exact absurd z (nc 40 Zj)
  ·exact z
  ·exact absurd z (nc 41 Zj)
def Iz:∀ {l m:List Nat},l.Pairwise (· < ·)->m.Pairwise (· < ·)->(∀x,x∈l ↔ x∈m)->l=m
 | [],[],_,_,_=>rfl
 | [],b::m,_,_,h=>nomatch (h b).mpr (ZI ..)
 |a::l,[],_,_,h=>nomatch (h a).mp (ZI ..)
 |a::l,b::m,hl,hm,h=>by
  obtain⟨l1,l2⟩:=pairwise_cons.mp hl;obtain⟨m1,m2⟩:=pairwise_cons.mp hm
  have ie:a=b:=by
   rcases mem_cons.mp ((h a).mp (ZI ..))with z |z
   ·exact z
   ·rcases mem_cons.mp ((h b).mpr (ZI ..))with y |y
    ·exact y.symm
    ·have h1:=m1 a z;have h2:=l1 b y;omega
  subst ie;congr 1;refine Iz l2 m2 λx=>⟨λhx=>?_,λhx=>?_⟩
  ·rcases mem_cons.mp ((h x).mp (ZR _ hx))with z |z
   ·have:=l1 x hx;omega
   ·exact z
  ·rcases mem_cons.mp ((h x).mpr (ZR _ hx))with z |z
   ·have:=m1 x hx;omega
   ·exact z
noncomputable abbrev sgn (c:Nat):Str:=⟨#[c]⟩
def Vd (a b:Nat):PySem.Spec.ltCps (sgn a).cps.toList (sgn b).cps.toList=decide (a<b):=by
 show(decide (a<b)||(a==b&&false))=_;simp
def I0:∀(cs:List Nat) (p:Nat),PyProof.Rows.risingS (sgn p) (cs.map sgn)=true->(p::cs).Pairwise (· <= ·)
 | [],p,_=>List.pairwise_singleton ..
 |c::cs,p,h=>by
  change (!PySem.Spec.ltCps (sgn c).cps.toList (sgn p).cps.toList&&PyProof.Rows.risingS (sgn c) (cs.map sgn))=true at h;rw[Vd,Bool.and_eq_true,Bool.not_eq_true',decide_eq_false_iff_not]at h;have ih:=I0 cs c h.2;refine pairwise_cons.mpr ⟨λx hx=>?_,ih⟩;rcases mem_cons.mp hx with rfl |z
  ·omega
  ·have:=(pairwise_cons.mp ih).1 x z;omega
def Nu {cs:List Nat} (h:PyProof.Rows.sortedS (cs.map sgn)=true):cs.Pairwise (· <= ·):=by
 cases cs with
 |nil=>exact List.Pairwise.nil
 |cons c cs=>exact I0 cs c h
def Nw {ns T:Xf}{sg:List Nat} (L:LtL ns T) (hs:sg.Pairwise (· < ·)) (sm:∀c∈sg,Co c=true) (h:∀x∈T,A9 x=true->∃c∈sg,x=⟨#[c]⟩) (f:Nat->Bool) (hf:∀c∈sg,f c=true ↔ sgn c∈T):ns=(sg.filter f).map sgn:=by
 obtain⟨cs,rfl⟩:∃cs:List Nat,ns=cs.map sgn:=by
  have:∀l:Xf,(∀x∈l,∃c,x=sgn c)->∃cs:List Nat,l=cs.map sgn:=λl=>by
   induction l with
   |nil=>exact λ_=>⟨[],rfl⟩
   |cons x l ih =>
    intro hl;obtain⟨c,e⟩:=hl x (ZI ..);obtain⟨cs,e2⟩:=ih λy hy=>hl y (ZR _ hy);exact⟨c::cs,by rw[e,e2];rfl⟩
  refine this ns λx hx=>?_;obtain⟨h1,h2⟩:=(L.mem x).mp hx;obtain⟨c,_,e⟩:=h x h1 h2;exact⟨c,e⟩
 have inj:∀ {a b:Nat},sgn a=sgn b->a=b:=λ{a b} z=>by
  have:=congrArg (λy:Str=>y.cps.toList) z;injection this
 have mem:∀c,c∈cs ↔ sgn c∈cs.map sgn:=λc=>⟨λz=>Zr.mpr ⟨c,z,rfl⟩,λz=>by
  obtain⟨d,hd,e⟩:=Zr.mp z
  exact inj e ▸ hd⟩
 have h1:=Nu L.so;have h2:cs.Nodup:=(List.pairwise_map.mp L.nd).imp λa0 e=>a0 (by rw[e]);have h3:cs.Pairwise (· < ·):=(h1.and h2).imp λz=>Nat.lt_of_le_of_ne z.1 z.2;congr 1;refine Iz h3 (hs.filter _) λc=>?_;rw[mem c,L.mem,mem_filter];refine⟨λ⟨z1,z2⟩=>?_,λ⟨z1,z2⟩=>⟨(hf c z1).mp z2,sm c z1⟩⟩;obtain⟨d,hd,e⟩:=h _ z1 z2;obtain rfl:=inj e;exact⟨hd,(hf _ hd).mpr z1⟩
def SK {l:Aa}{j:Nat}{p:Str×Nat} (nd:(l.map (·.1)).Nodup) (h:l[j]?=some p):p.1∉ (l.take j).map (·.1):=λhm=>by
 obtain⟨q,hq,e⟩:=Zr.mp hm;obtain⟨i,hi⟩:=List.getElem?_of_mem hq;rw[List.getElem?_take]at hi;split at hi
 ·rename_i hij;obtain⟨h1,e1⟩:=Z8.mp hi;obtain⟨h2,e2⟩:=Z8.mp h;refine(List.pairwise_iff_getElem.mp nd) i j (by rw[AK];exact h1) (by rw[AK];exact h2) hij ?_;rw[List.getElem_map,List.getElem_map,e1,e2];exact e
 ·cases hi
def Nx {sg:List Nat}{T:Xf} (h:∀x∈T,PtW sg x) (hl:T.length<64):On T:=⟨qe,Nat.lt_of_le_of_lt (ZS _ _) hl,λx hx=>(h x hx).l⟩
end Mk
end
section
namespace L2
open PySem
def Xd (t:TS):TS:=λD σ H=>∃a kvs,H a=some (.dK kvs)/\∀o,t D σ (upd H a (.bG o (.dK kvs)))
def Wg (t:TS):TS:=λD σ H=>t D σ H\/∃a kvs,H a=some (.dK kvs)/\∀o,t D σ (upd H a (.bG o (.dK kvs)))
def UH {X:Cx}{i7:List Stmt}{t:TS} (h:eI X i7 t):eI X i7 (Xd t):=⟨Eu h.h⟩
def Ve {X:Cx}{i7:List Stmt}{t:TS} (h:eI X i7 t):eI X i7 (Wg t):=⟨Le h.h⟩
end L2
namespace Mk
open PySem L2 MK PySem.NumText
structure Ad where
 (a d f u t kp nu e m:Xi) (bs:List Xi)
noncomputable def jU (a:Xi) (f:Nat->Option V):St:=[some (.ref a),f 1,f 2,f 3,f 4,f 5,f 6,f 7,f 8,f 9,f 10,f 11,f 12,f 13,f 14,f 15,f 16,f 17]
noncomputable def ip (z:Ad) (r:Str) (x7 x8 iD iC iB il gm fZ gk fY:Option V):St:=[some (.ref z.a),some (.ref z.d),some (.ref z.f),some (.ref z.u),some (.str r),some (.ref z.t),some (.ref z.nu),x7,x8,some (.ref z.kp),iD,iC,iB,il,gm,fZ,gk,fY]
noncomputable def stT (z:Ad) (r:Str) (x7:Option V) (n:Nat) (j:Nat) (tx:Str) (tv:V) (a1:Xi) (gm fZ gk fY:Option V):St:=ip z r x7 (some (.int (n:Int))) (some (.int (0+(j:Int)))) (some (.str tx)) (some tv) (some (.ref a1)) gm fZ gk fY
def Wh (z:Ad) (r:Str) (x7 x8 iD iC iB il gm fZ gk fY:Option V):∃f,ip z r x7 x8 iD iC iB il gm fZ gk fY=jU z.a f:=⟨λn=>(ip z r x7 x8 iD iC iB il gm fZ gk fY).getD n none,rfl⟩
structure RdI (a l bd P0:Xi) (as:List Xi) (i:Nat) (σ:St) (H:Hp):Prop where
 st:∃f,σ=jU a f
 hl:H l=some (.lst (as.map V.ref))
 hb:Rd H bd (.dK CO)
 tb:aW H P0 qL LS
 ds:∀(j:Nat) b,i<=j->as[j]?=some b->∃x y:Int,H b=some (.lst [.int x,.int y])
def Rd.keeps {bd:Xi}{kvs:LK} (s:Keeps H H') (h:Rd H bd (.dK kvs)):Rd H' bd (.dK kvs):=by
 rcases h with h |⟨o,h⟩
 ·exact .inl (s _ _ h (λ_ _ z=>nomatch z) (λ_ z=>nomatch z) (λ_ z=>nomatch z))
 ·exact .inr ⟨o,s _ _ h (λ_ _ z=>nomatch z) (λ_ z=>nomatch z) (λ_ z=>nomatch z)⟩
def RdI.fin {a l bd d P0:Xi}{as:List Xi}{i:Nat}{σ aJ:St} (h:RdI a l bd P0 as i σ H) (nd:as.Nodup) (hla:l∉ as) (fG:as[i]?=some d) (R:Rl d P0 H H') (hT:aW H' P0 qL LS) (hs:∃f,aJ=jU a f):RdI a l bd P0 as (i+1) aJ H':=by
 obtain⟨x,y,hd⟩:=h.ds i d (Zy _) fG;have kp:Keeps H H':=Wb.keeps R ⟨⟨x,y,hd⟩,h.tb⟩;refine⟨hs,R _ _ h.hl (λz=>hla (z ▸ ZQ fG)) (aW.ne h.hl h.tb) (λ_ z=>nomatch z),Rd.keeps kp h.hb,hT,λj b hj e=>?_⟩
 have hbd:b≠d:=λz=>by
  subst z;obtain⟨hj2,ej⟩:=Z8.mp e;obtain⟨iT,ei⟩:=Z8.mp fG;exact(List.pairwise_iff_getElem.mp nd) i j iT hj2 qe (by rw[ei,ej])
 obtain⟨x5,y5,e5⟩:=h.ds j b qe e;exact⟨x5,y5,R _ _ e5 hbd (aW.ne e5 h.tb) (λ_ z=>nomatch z)⟩
structure Wf (C bd P0:Xi) (z:Ad) (due:Aa) (r:Str) (H:Hp):Prop where
 wb:Wb z.d P0 H
 ka:aU C H z.kp due r
 ht:H z.t=some (.dK (Nj due z.e z.m))
 hn:H z.nu=some (.dK (Az due))
 hu:H z.u=some (.lst (z.bs.map V.ref))
 gJ:aB H z.bs (FI due)
 hb:Rd H bd (.dK CO)
def Wf.go {bd P0:Xi}{z:Ad}{r:Str} (h:Wf C bd P0 z due r H) (R:Rl z.d P0 H H') (wb:Wb z.d P0 H'):Wf C bd P0 z due r H':=by
 have kp:=h.wb.keeps R;exact⟨wb,h.ka.keeps kp,kp _ _ h.ht (λ_ _ z=>nomatch z) (λ_ z=>nomatch z) (λ_ z=>nomatch z),kp _ _ h.hn (λ_ _ z=>nomatch z) (λ_ z=>nomatch z) (λ_ z=>nomatch z),kp _ _ h.hu (λ_ _=>To) (λ_ z=>nomatch z) (λ_ z=>nomatch z),aB.keeps kp h.gJ,Rd.keeps kp h.hb⟩
structure Gd (z:Ad) (P0:Xi) (H0 H:Hp):Prop where
 rl:Rl z.d P0 H0 H
 wb:Wb z.d P0 H
section
variable {z:Ad}{P0 bd a:Xi}{H0:Hp}{r:Str}{kvs:LK}{u:HO}
def Gd.wf (g:Gd z P0 H0 H) (W0:Wf C bd P0 z due r H0):Wf C bd P0 z due r H:=W0.go g.rl g.wb
def Gd.go (g:Gd z P0 H0 H) (R:Rl z.d P0 H H') (wb:Wb z.d P0 H'):Gd z P0 H0 H':=⟨g.rl.trans R,wb⟩
def Gd.same (g:Gd z P0 H0 H) (s:U H H'):Gd z P0 H0 H':=g.go (Rl.same s) (g.wb.same s)
def Gd.cY (g:Gd z P0 H0 H) (s:aH z.d H H'):Gd z P0 H0 H':=by
 obtain⟨x,y,hd⟩:=g.wb.bH;exact g.go (Rl.cY s) ⟨s.bH,aW.cY hd s g.wb.tab⟩
def Gd.dZ (g:Gd z P0 H0 H) (s:Jk P0 H H') (ht:aW H' P0 qL LS):Gd z P0 H0 H':=g.go (Rl.dZ s) (g.wb.dZ s ht)
def Gd.put (g:Gd z P0 H0 H) (h:H a=some (.dK kvs)) (n:New z.d P0 H0 a):Gd z P0 H0 (upd H a u):=⟨g.rl.put n,g.wb.put h⟩
def Gd.kp (g:Gd z P0 H0 H) (R:Rl z.d P0 H H'):Keeps H H':=g.wb.keeps R
end
def Keeps.k {b:Xi}{o:HO} (s:Keeps H H') (h:H b=some o) (h1:∀x y:Int,o≠ .lst [.int x,.int y]:=by intros;exact λz=>nomatch z) (h2:∀ps,o≠ .fj ps:=by intros;exact λz=>nomatch z) (h3:∀g,o≠ .ext g:=by intros;exact λz=>nomatch z):H' b=some o:=s b o h h1 h2 h3
structure LpI (P0:Xi) (z:Ad) (r:Str) (H0:Hp) (σ:St) (H:Hp):Prop where
 st:∃x7 x8 iD iC iB il gm fZ gk fY,σ=ip z r x7 x8 iD iC iB il gm fZ gk fY
 gd:Gd z P0 H0 H
noncomputable def lk (x y z:Nat):LK:=[(Sum.inr "x", .int (x:Int)),(Sum.inr "z", .int (z:Int)),(Sum.inr "y", .int (y:Int))]
noncomputable def jk (x y z:Nat) (s:Str):Nat:=if s = "x" then x else if s = "z" then z else y
noncomputable abbrev iP (due:Aa) (x y z:Nat):Nv:=⟨due,lk x y z,jk x y z⟩
noncomputable abbrev fq:List Nat:=[120,121,122]
def O3:("xyz" : Str).cps.toList=fq:=by decide +kernel
def Wi:sgn 120 = "x" /\ sgn 121 = "y" /\ sgn 122 = "z" := by decide +kernel
def Gy:∀c∈fq,Co c=true:=by decide
def Wj {x y z:Nat} (hx:x<2 ^ 40) (hy:y<2 ^ 40) (hz:z<2 ^ 40):LtN (iP due x y z) fq:=λc hc=>by
 have e:=Wi;have n1:¬ (("y" : Str) = "x"):=by decide +kernel
 have n2:¬ (("y" : Str) = "z"):=by decide +kernel
 have n3:¬ (("z" : Str) = "x"):=by decide +kernel
 refine⟨Gy c hc,?_⟩;simp only[mem_cons,not_mem_nil,or_false]at hc;rcases hc with rfl |rfl |rfl
 ·show As (lk x y z) (Sum.inr (sgn 120))=some (.int (jk x y z (sgn 120):Nat))/\jk x y z (sgn 120)<2 ^ 40;rw[e.1];unfold jk;rw[Zp rfl];exact⟨qd,hx⟩
 ·show As (lk x y z) (Sum.inr (sgn 121))=some (.int (jk x y z (sgn 121):Nat))/\jk x y z (sgn 121)<2 ^ 40;rw[e.2.1];unfold jk;rw[Zq n1,Zq n2];exact⟨qd,hy⟩
 ·show As (lk x y z) (Sum.inr (sgn 122))=some (.int (jk x y z (sgn 122):Nat))/\jk x y z (sgn 122)<2 ^ 40;rw[e.2.2];unfold jk;rw[Zq n3,Zp rfl];exact⟨qd,hz⟩
def Ny {x y z:Nat}{kv:Key×V} (h:kv∈lk x y z):(∃s:Str,kv.1=Sum.inr s/\A9 s=true/\s.length<=200)/\∃n:Nat,kv.2=.int (n:Int)/\(n=x\/n=y\/n=z):=by
 unfold lk at h;simp only[mem_cons,not_mem_nil,or_false]at h;rcases h with rfl |rfl |rfl
 ·exact⟨⟨"x", Zj,qb,qb⟩,x,Zj,.inl Zj⟩
 ·exact⟨⟨"z", Zj,qb,qb⟩,z,Zj,.inr (.inr Zj)⟩
 ·exact⟨⟨"y", Zj,qb,qb⟩,y,Zj,.inr (.inl Zj)⟩
def UI {x y z:Nat} (hx:x<2 ^ 40) (hy:y<2 ^ 40) (hz:z<2 ^ 40) {kvs:LK} (h:∀kv∈kvs,kv∈lk x y z) (hl:kvs.length<=3):Iq kvs/\kvs.all gL=true:=by
 refine⟨⟨qe,λkv hk s e=>?_,λkv hk=>?_⟩,List.all_eq_true.mpr λkv hk=>?_⟩
 ·obtain⟨⟨s',e',_,l⟩,_⟩:=Ny (h kv hk);rw[e]at e';cases e';exact l
 ·obtain⟨_,n,e,_⟩:=Ny (h kv hk);exact .inl ⟨_,e⟩
 ·obtain⟨⟨s',e',l,_⟩,n,e,hn⟩:=Ny (h kv hk);have e40:(2:Nat) ^ 40=1099511627776:=by decide
  unfold gL;rw[e',e];show(A9 s'&&okN (n:Int))=true;rw[l];unfold okN;rw[ZL (show(0:Int)<=(n:Int) by omega),ZL (show(n:Int)<1099511627776 by omega)];rfl
noncomputable def iI (tx:Str) (c:Nat):Bool:=decide (c∈tx.cps.toList)
def UJ:js true ("ZZ" : Str).cps.toList:=Oo qb qb qb
def Wk:js true ("x" : Str).cps.toList:=by
 have:=(Iu (n:=iP [] 0 0 0) (c:=120) rfl (Wj qc qc qc 120 qc).2.1).pw true (.inr rfl);exact this
noncomputable def zzT:Tr:=.bn .or (.wd "ZZ") (.wd "x")
def UK:Wr true zzT 0 ("ZZ|x" : Str).cps.toList:=by
 have h:=Wr.bn (lt:=true) .or (.wd "ZZ") (.wd "x") 0 _ _ [] True.intro qc (.inl rfl) (Wr.wd "ZZ" 0 [] (.inl rfl) UJ) (Wr.wd "x" 1 [] (.inl rfl) Wk);have e:([]++("ZZ" : Str).cps.toList)++([]++(Sg.or.c::([]++("x" : Str).cps.toList)))=("ZZ|x" : Str).cps.toList:=by decide +kernel
 rw[e]at h;exact h
def Xe (sg:List Nat):PtW sg "ZZ" := ⟨qb,λz=>absurd z qb,.inr qb⟩
def Kv:zzT.post=([("ZZ" : Str), "x", "|"]:Xf):=rfl
def UL:On zzT.post:=by
 rw[Kv];exact⟨qc,qb,qb⟩
def Vf:Rn true "x|" (.bad 2) 0 [] [] true:=by
 have:=VG (lt:=true) (z := "x|") (Wr.wd "x" 0 [] (.inl rfl) Wk) qb;rw[show("x|" : Str).length=2 by decide +kernel]at this;exact this
def Bt (K:FG) (d P0:Xi) (H0 H:Hp) (v:V):Prop:=eR K "dict" H v\/∃a kvs,v=.ref a/\Rd H a (.dK kvs)/\New d P0 H0 a/\Iq kvs/\kvs.all gL=false
def Bt.mono {d P0:Xi}{H0:Hp}:Va (Bt K d P0 H0):=λH H' v s h=>by
 rcases h with h |⟨a,kvs,e,h,n,t,al⟩
 ·exact .inl (h.same s)
 ·exact .inr ⟨a,kvs,e,U.rd s h,n,t,al⟩
def Bt.keeps {d P0:Xi}{H0:Hp}{v:V} (s:Keeps H H') (h:Bt K d P0 H0 H v):Bt K d P0 H0 H' v:=by
 rcases h with h |⟨a,kvs,e,h,n,t,al⟩
 ·rcases h with h |⟨a,xs,e,h,k⟩ |⟨a,xs,e,h,n,k⟩
  ·exact .inl (.inl h)
  ·exact .inl (.inr (.inl ⟨a,xs,e,s.k h,k⟩))
  ·exact .inl (.inr (.inr ⟨a,xs,e,s.k h (λx y z=>n x y (HO.lst.inj z)),n,k⟩))
 ·exact .inr ⟨a,kvs,e,Rd.keeps s h,n,t,al⟩
def Bt.bG {d P0 b:Xi}{H0:Hp}{v:V}{o:Obj}{ks:LK} (hb:H b=some (.dK ks)) (h:Bt K d P0 H0 H v):Bt K d P0 H0 (upd H b (.bG o (.dK ks))) v:=by
 have ne:∀ {c:Xi}{u:HO},H c=some u->(∀k,u≠ .dK k)->c≠b:=λ{c u} e n z=>by
  subst z;rw[hb]at e;cases e;exact n _ rfl
 rcases h with h |⟨a,kvs,e,h,n,t,al⟩
 ·rcases h with h |⟨a,xs,e,h,k⟩ |⟨a,xs,e,h,n,k⟩
  ·exact .inl (.inl h)
  ·exact .inl (.inr (.inl ⟨a,xs,e,by rw[AF (ne h λ_ z=>nomatch z)];exact h,k⟩))
  ·exact .inl (.inr (.inr ⟨a,xs,e,by rw[AF (ne h λ_ z=>nomatch z)];exact h,n,k⟩))
 ·refine .inr ⟨a,kvs,e,?_,n,t,al⟩;by_cases z:a=b
  ·subst z;rcases h with h |⟨o',h⟩
   ·rw[hb]at h;cases h;exact .inr ⟨o,AB⟩
   ·rw[hb]at h;cases h
  ·rcases h with h |⟨o',h⟩
   ·exact .inl (by rw[AF z];exact h)
   ·exact .inr ⟨o',by rw[AF z];exact h⟩
def Md {z:Ad}{P0:Xi}{H0 Hg:Hp} (g:Gd z P0 H0 Hg) {k:Key}{v:V} (hk:∀x,k=Sum.inr x->x.length<=200) (hv:(∃i:Int,v=.int i)\/v=.bl true\/v=.aO) (hb:gL (k,v)=false) :
  ∀H1 H p,U Hg H1->H1 p=none->U H1 H->H p=some (.dK [(k,v)])->Bt K z.d P0 H0 H (.ref p):=λH1 H p s1 hp s2 h=>.inr ⟨p,_,rfl,.inl h,(g.rl.trans (Rl.same s1)).new hp,⟨by show 1<=1000;decide,λkv gj x e=>by
  obtain rfl:=ZG.mp gj;exact hk x e,λkv gj=>by
  obtain rfl:=ZG.mp gj
  exact hv⟩,by
 show(gL (k,v)&&true)=false;rw[hb]
 rfl⟩
section
variable {cM cR cB cN cT c P0 bd:Xi}{ec:Nat->Xi}
def Vg {f0 fT0:Xi}{dT0:FuncData} (F:FunC K "law" "law" Cm f0 fd c) (FT:aV K "_law_told" "_law_told" Aq fT0 dT0) (iQ:mg "_law_told" = some (.ref fT0)) (iW:Binds K dT0 ["_law_deed"] [])
  (hC:W.CodeHd base c P0) (hBu:base.BuiltinsAt mg P0) (B:Bl mg) (mD:mg "dict" = none) (KO:SJ P w K mg base C) (M:QC mg ec) (EX:Ro K mg ec cM) (GWd:FnS P w K mg base "_law_word" 1 ["_law_e"] (Dk K ec))
  (hR1:ec 1=cR) (EF:Ik K ec cR 1) (ET:Ik K ec cT 2) (EPB:Jw K ec cM cB 5) (EPN:Jw K ec cM cN 6)
  (GRd:Fn P w K mg base "_law_rounds" 2 ["_law_script", "_law_most"] (spRounds K)) (GL:Fn P w K mg base "_law_lines" 3 ["_law_dice", "_law_most"] spLines) (GRu:Fn P w K mg base "_law_rule_of" 3 ["_law_dice"] spRuleOf) (GT:Fn P w K mg base "_law_table_of" 2 ["_law_due"] spTable)
  (GRo:Fn P w K mg base "_law_roll" 2 ["_law_dice", "_law_many"] spRollB) (GNi:Fn P w K mg base "_law_number_in" 3 ["_law_dice", "_law_known", "_law_way"] spNumberIn)
  (GF:Fn P w K mg base "_law_formula" 7 Ox spForm) (GCo:Fn P w K mg base "_law_come" 5 Ix (spCome 3)) (GLm:Fn P w K mg base "_law_made" 1 ["_law_table", "_law_way", "_law_number"] spLMade) (GSh:Fn P w K mg base "_law_shown" 2 ["_law_thing"] (Ki VC))
  (GRk:ju P w K mg base "reckoned" 7 ["kind", "text", "table"] (gE K C VC cR cB cN bd cT)) (GLs:ju P w K mg base "letters" 7 ["text"] (spLs K bd cT)) :
  AZ P w K mg base aL 10 f0 fd ["_law_script"] (O1 K P0 bd):=by
 obtain⟨fRd,dRd,GRd,mRd,kRd,bRd⟩:=GRd.ex;obtain⟨fL,dL,GL,mL,kL,bL⟩:=GL.ex;obtain⟨fRu,dRu,GRu,mRu,kRu,bRu⟩:=GRu.ex;obtain⟨fT,dT,GT,mT,kT,bT⟩:=GT.ex;obtain⟨fRo,dRo,GRo,mRo,kRo,bRo⟩:=GRo.ex;obtain⟨fNi,dNi,GNi,mNi,kNi,bNi⟩:=GNi.ex;obtain⟨fF,dF,GF,mF,kF,bF⟩:=GF.ex;obtain⟨fCo,dCo,GCo,mCo,kCo,bCo⟩:=GCo.ex;obtain⟨fLm,dLm,GLm,mLm,kLm,bLm⟩:=GLm.ex;obtain⟨fSh,dSh,GSh,mSh,kSh,bSh⟩:=GSh.ex;obtain⟨fRk,dRk,GRk,mRk,kRk,bRk⟩:=GRk.ex;obtain⟨fLs,dLs,GLs,mLs,kLs,bLs⟩:=GLs.ex;obtain⟨fI,dI,MI,GI,⟨gI,kbI⟩,ds,bI,vI⟩:=KO.make;have mC:=KO.cls;refine F.ok scLaw (λvs H Q E h=>?_) (λA outer s H vs Q E hr h=>?_)
 ·obtain⟨a,ns,rfl,_⟩:=h;rfl
 ·obtain⟨a,ns,rfl,hS,h63,hTab,hB,kend⟩:=h;have hu:=Ch hr;have gG:=hr.units;have d5:aE 1 _:=hr.mono qc;have eP:aE 2 _:=hr.mono qc;have iJ:aE 3 _:=hr.mono qc;have hr5:aE 5 _:=hr.mono qc;have hr7:aE 7 _:=hr.mono qc;have nd:=scLaw.nd;have LC:Sx (BB aL P w K mg base F8 "law" (defScope Cm) f0 (.ref c) A outer s H E).gi c P0:=⟨rfl,hC,hBu⟩
  refine⟨_,eI.h (Ci (OO PassesOwn.never Zj (NJ (BC GRd eP Zj mRd kRd bRd .nil AR (Ab (.mk (pv 0)) (Ab (.mk AD) BV)))) (Af (i:=1) nd Zj (Or.inl Zj))
    (Ci (.mk (C2 (cK.h (BC GL iJ rfl mL kL bL .nil AR (Ab (.mk (pv 1)) (Ab (.mk AD) BV)))) (CQ rfl (Ak (Af (i:=2) nd rfl (Or.inl rfl)) (Ak (Af (i:=3) nd rfl (Or.inl rfl)) Bi)))))
    (Ci (.mk (S5 (i:=4) (j:=5) (k:=6) rfl nd rfl rfl rfl rfl rfl rfl (AA (cK.h (BC GRu iJ rfl mRu kRu bRu .nil AR (Ab (.mk (pv 1)) BV))) (AA (cK.h (BC GT eP rfl mT kT bT .nil AR (Ab (.mk (pv 3)) BV))) (AA FZ AC))) qd))
    (B4 (OO PassesOwn.never rfl (NJ (.mk (pv 3))) (CQ rfl (Ak (Af (i:=7) nd rfl (Or.inl rfl)) (Ak (Af (i:=8) nd rfl (Or.inl rfl)) Bi))) (Bd (.mk (HK hu (pv 6) (pv 7) (pv 8) rfl))))
    (Ci (Do (i:=9) nd rfl (Or.inr rfl) (.mk (Qq MI GI hr7 rfl mC kbI (AA (pv 2) AC) (N6 (pv 4) Qc))))
    (B4 (OO PassesOwn.never rfl (.mk (DD rfl B.range (AA AD AC))) (Af (i:=10) nd rfl (Or.inl rfl))
     (B4 (.mk (C2 (cK.h (BC GF hr7 rfl mF kF bF .nil AR (Ab (.mk (pv 1)) (Ab (.mk (Fc [] [] qd qb qd qd rfl (Bj (pv 3)) (λ_ _ _ _ _ _=>Bm) (λ_ _ _ _ _ _=>pv 0))) (Ab (.mk AJ) BV))))) (CQ rfl (Ak (Af (i:=11) nd rfl (Or.inr rfl)) (Ak (Af (i:=12) nd rfl (Or.inl rfl)) Bi)))))
     (B4 (Do (i:=13) nd rfl (Or.inr rfl) (S7 (.mk AJ) (BC GNi iJ rfl mNi kNi bNi .nil AR (Ab (.mk (pv 1)) (Ab (.mk (BU hu (pv 5) AJ (λ_ _=>rfl))) (Ab (.mk (pv 4)) BV)))) (.mk AJ) (BC GRo eP rfl mRo kRo bRo .nil AR (Ab (.mk (pv 1)) (Ab (C5 Er (.mk AD) (.mk AD)) BV)))))
     (B4 (.mk (HK hu (pv 13) AJ (cK.h (BC GNi iJ rfl mNi kNi bNi .nil AR (Ab (.mk (pv 1)) (Ab (.mk (BU hu (pv 5) AJ (λ_ _=>rfl))) (Ab (.mk AJ) BV))))) rfl))
     (B4 (Do (i:=8) nd rfl (Or.inl rfl) (BC GCo hr5 rfl mCo kCo bCo .nil AR (Ab (.mk (pv 12)) (Ab (.mk (pv 6)) (Ab (.mk (BU hu (pv 5) AJ (λ_ _=>rfl))) (Ab (.mk (pv 13)) BV))))))
     (UH (B4 (Fh (.mk (AL (cS.or FN (D5 K rfl gG)) (cK.h (BC GSh eP rfl mSh kSh bSh .nil AR (Ab (.mk (VU FT iQ iW M EX GWd LC hr GRk mRk kRk bRk)) BV))) (cK.h (BC GLm d5 rfl mLm kLm bLm .nil AR (Ab (.mk (pv 5)) (Ab (.mk (pv 4)) (Ab (.mk (pv 8)) BV))))) (AS _))) (Bd (.mk Am)) CG)
     (B4 (.mk (LF (i:=14) nd rfl qd ["_law_text"] [some 11] qd qb qd rfl (Mz AJ) (λ_ _ _ _ _ _=>Fa (AL NM (pv 0) (pv 1) rfl)) (λ_ _ _ _ _ _=>pv 0)))
     (B4 (Fh (.mk (AL (D5 K rfl gG) (cK.h (BC GLs hr7 rfl mLs kLs bLs .nil Wa (Ab (.mk (pv 11)) BV))) (pv 14) (AS _))) (Bd (.mk Am)) CG)
     (B4 (Do (i:=15) nd rfl (Or.inr rfl) (.mk (Ba NL rfl mD Om (AA (pv 13) AC))))
     (B4 (.mk (BD (Eh PySem.F.plainAttrs_dict PySem.F.slot_dict_pop PySem.F.type_dict_pop S8 (pv 15) (AA (cK.h (DF Hi (.mk AJ) (BC GRo eP rfl mRo kRo bRo .nil AR (Ab (.mk (pv 1)) (Ab (.mk AD) BV))) (λ_ _=>rfl))) AC))))
     (UH (Bd (Fh (.mk (AL (D5 K rfl gG) (Bw ["_law_few"] [some 15] qd qb qd rfl (Bj (pv 14)) (λ_ _ _ _ _ _=>Fa (GQ (JY hu (pv 0) (pv 1)))) (λ_ _ _ _ _ _=>pv 0)) (BA AC) (AS _))) (Bd (Fh (.mk (AL (D5 K rfl gG) (VW FT iQ iW M EX GWd LC hr GRk mRk kRk bRk) (A5 (AA AJ (AA AJ AC))) (AS _))) (Bd (.mk Am)) CG)) CG))))))))))))))
    (B4 (Do (i:=16) nd rfl (Or.inl rfl) (T5 (Ab (.mk J5) (Ab (.mk (BA AC)) (Ab (.mk AJ) (Ab (CT (.mk AJ) (XI Dx (.mk AD))) (Ab (CT (.mk AJ) (C5 Er (.mk AD) (.mk AD))) (Ab (CT (.mk AJ) (.mk DB)) (Ab (CT (.mk AJ) (.mk J5)) (Ab (CT (.mk AJ) (.mk AD)) BV))))))))))
    (B4 (Do (i:=16) nd rfl (Or.inl rfl) (C5 Gb (.mk (pv 16)) (T5 (Ab (CT (.mk AJ) (.mk AD)) (Ab (CT (.mk AD) (.mk AD)) (Ab (CT (.mk AJ) (.mk AD)) BV))))))
    (B4 (OO PassesOwn.never rfl (NJ (.mk (pv 16))) (Af (i:=17) nd rfl (Or.inr rfl)) (Ve (Bd (Fh (.mk (AL (D5 K rfl gG) (VX FT iQ iW M EX GWd LC hr GRk mRk kRk bRk) (A5 (AA AJ (AA AJ AC))) (AS _))) (Bd (.mk Am)) CG))))
    (B4 (Fh (.mk (AL (D5 K rfl gG) (VY FT iQ iW M EX GWd LC hr GRk mRk kRk bRk) (A5 (AA AJ (AA AJ AC))) (AS _))) (Bd (.mk Am)) CG)
    (Bd (Fh (.mk (AL (D5 K rfl gG) (VZ FT iQ iW M EX GWd LC hr GRk mRk kRk bRk) (A5 (AA AJ (AA AJ (AA AD AC)))) (AS _))) (Bd (.mk Am)) CG))))))))))))
   (Bd (.mk (AQ DB)))),?_⟩
  refine⟨_,Zj,a,ns,Zj,hS,h63,λl as H1 s1 hl nd' hla h5 bi=>?_⟩
  refine⟨l,Zj,⟨_,aI.of hl⟩,Cf (K:=K) (a:=l) (xs:=as.map V.ref) (λi σ H2=>RdI a l bd P0 as i σ H2)
   ⟨⟨λ_=>none,rfl⟩,hl,U.rd s1 hB,aW.same s1 hTab,λj b _ e=>(bi b (ZQ e)).2⟩ (λi σ H2 _ R=>aI.of R.hl) ?_ (λσ H2 R=>by obtain⟨f,rfl⟩:=R.st;exact kend _)⟩
  rintro i v σ H2 hi RI;rw[ZE]at hi;obtain⟨d,fG,rfl⟩:=Z6.mp hi;obtain⟨x,y,hd⟩:=RI.ds i d (Zy _) fG;obtain⟨g,rfl⟩:=RI.st;refine⟨_,Zj,d,x,y,8,Zj,qc,qc,hd,λq f u fs iV rows Ha sXa hq hfn hun hf hP hu0 gJ r0 r10 RO au=>?_⟩;refine⟨q,_,Zj,aX.of hq,Zj,_,_,Zj,_,_,Zj,Zj,?_⟩;obtain⟨xa,ya,hda⟩:=sXa.bH;have fd_:f≠d:=λz=>by rw[z,hd]at hfn;cases hfn
  have ud:u≠d:=λz=>by rw[z,hd]at hun;cases hun
  have DO:=MF RO qe;refine⟨_,rfl,d,xa,ya,rfl,hda,λr Hb aq sXb=>?_⟩;obtain⟨xb,yb,eM⟩:=sXb.bH;have tX:aK Ha Hb:=λb xs e=>sXb.old _ _ e (FL e hda λz=>nomatch z);have ap:=sXb.old _ _ hu0 ud;have cv:=aB.aN tX gJ;have hPb:Paired (dG Hb) fs rows:=Bq tX hP;have hfb:=sXb.old _ _ hf fd_;refine⟨_,rfl,u,iV,An rows,rfl,ap,cv,DO.len,DO.lt,λt e m ms Hc sc ht he hm ay=>?_⟩;refine λnu hnu=>⟨_,_,_,rfl,?_⟩;have sn:=AH (U.refl _) hnu (o:=HO.dK []);have hn0:=AB (H:=Hc) (a:=nu) (o:=HO.dK []);have sbn:=sc.trans sn;have htn:=sn _ _ ht;have nut:nu≠t:=Ne.symm (AI ht hnu);have hnud:nu≠d:=Ne.symm (AI (sc _ _ eM) hnu);have hnuH:Hb nu=none:=none_of sc hnu;generalize upd Hc nu (HO.dK [])=Hd at sn hn0 sbn htn ⊢;have hud:=sbn _ _ ap;have hbsd:=aB.aN (aK.of sbn) cv;have gK:iV.length=(An rows).length:=by rw[Ca cv,Bg]
  have keep:∀ {H3:Hp} (o:HO),U Hb H3->U Hb (upd H3 nu o):=λ{H3} o s b w e=>by rw[AF (AI e hnuH)];exact s b w e
  refine⟨λσ H'=>(∃x7 x8,σ=[some (.ref a),some (.ref d),some (.ref f),some (.ref u),some (.str r),some (.ref t),some (.ref nu),x7,x8,g 9,g 10,g 11,g 12,g 13,g 14,g 15,g 16,g 17])/\H' nu=some (.dK (Az (An rows)))/\H' t=some (.dK (Nj (An rows) e m))/\U Hb H',λR hR=>?_,?_⟩
  ·refine⟨_,Zj,u,Zj,⟨_,aI.of hud⟩,Cf (K:=K) (a:=u) (xs:=iV.map V.ref) (λj σ H'=>(∃x7 x8,σ=[some (.ref a),some (.ref d),some (.ref f),some (.ref u),some (.str r),some (.ref t),some (.ref nu),x7,x8,g 9,g 10,g 11,g 12,g 13,g 14,g 15,g 16,g 17])/\H' nu=some (.dK (Az ((An rows).take j)))/\H' t=some (.dK (Nj (An rows) e m))/\U Hb H') ⟨⟨_,_,Zj⟩,hn0,htn,sbn⟩ (λj σ H' _ h=>aI.of (h.2.2.2 _ _ ap)) ?_ (λσ H' h=>hR _ _ ?_)⟩
   ·rintro j v σ H3 hj ⟨⟨x7,x8,rfl⟩,hn3,ht3,s3⟩;obtain⟨bb,pr,rfl,_,ak,aj⟩:=CZ (aB.aN (aK.of s3) cv) hj;refine⟨bb,_,Zj,aX.of aj,Zj,_,_,Zj,_,_,Zj,Zj,?_⟩;have hjl:=(Z8.mp ak).1;have f9:=DO.len;refine⟨_,Zj,_,Zj,_,Zj,nu,_,Zj,.inl ⟨_,Sum.inr pr.1,hn3,Zj,AO ?_,Zj⟩,⟨_,_,Zj⟩,?_,?_,keep _ s3⟩
    ·unfold Az;rw[AK,ZA];omega
    ·rw[AB,OV (SK DO.nd ak),ZD,ak];rfl
    ·rw[AF (Ne.symm nut)];exact ht3
   ·obtain⟨h1,h2,h3,h4⟩:=h;rw[AK,gK,ZB]at h2;exact⟨h1,h2,h3,h4⟩
  rintro σ He ⟨⟨x7,x8,rfl⟩,jG,hte,sbe⟩;refine⟨_,Zj,_,Zj,?_⟩;intro k dk hk hdk a0;have sN:=Ij (D:=C) hk hdk a0;refine⟨k,dk,f,rows,r,Zj,AB,⟨fs,sN _ _ (sbe _ _ hfb),Bq (aK.of sN) (Bq (aK.of sbe) hPb)⟩,r0,qe,RO,aq,λH0 sd KA=>⟨Zj,?_⟩⟩;have se:=Jv sN hk sd;have sb0:=sbe.trans se;have R0:Rl d P0 H2 H0:=((Rl.cY sXa).trans (Rl.cY sXb)).trans (Rl.same sb0);have hT0:aW H0 P0 qL LS:=aW.same sb0 (aW.cY hda sXb (aW.cY hd sXa RI.tb));have hB0:Rd H0 bd (.dK CO):=Rd.keeps (Wb.keeps R0 ⟨⟨x,y,hd⟩,RI.tb⟩) RI.hb;have W0:Wf C bd P0 ⟨a,d,f,u,t,k,nu,e,m,iV⟩ (An rows) r H0:=⟨⟨⟨_,_,sb0 _ _ eM⟩,hT0⟩,KA,se _ _ hte,se _ _ jG,sb0 _ _ ap,aB.aN (aK.of sb0) cv,hB0⟩;have L0:LpI P0 ⟨a,d,f,u,t,k,nu,e,m,iV⟩ r H0 (ip ⟨a,d,f,u,t,k,nu,e,m,iV⟩ r x7 x8 (g 10) (g 11) (g 12) (g 13) (g 14) (g 15) (g 16) (g 17)) H0:=⟨⟨_,_,_,_,_,_,_,_,_,_,rfl⟩,⟨Rl.refl _,W0.wb⟩⟩;have pos:0<(An rows).length:=by rw[Bg];exact r0
  have zzN:("ZZ" : Str)∉ (An rows).map (·.1):=λhm=>by
   rw[MH]at hm;exact absurd (au _ hm) qb
  have fin:∀ {σ H'},LpI P0 ⟨a,d,f,u,t,k,nu,e,m,iV⟩ r H0 σ H'->RdI a l bd P0 as (i+1) σ H':=λL=>by
   obtain⟨⟨y7,y8,y10,y11,y12,y13,y14,y15,y16,jv,e⟩,G⟩:=L;exact RI.fin nd' hla fG (R0.trans G.rl) G.wb.tab (by rw[e];exact Wh _ _ _ _ _ _ _ _ _ _ _ _)
  generalize hdue:An rows=due at *;have hk20:=T8 DO.lt;have asc:Asc due:=λp hp=>(DO.nm p hp).2.1;clear R0 hT0 hB0;refine⟨λσ H'=>LpI P0 ⟨a,d,f,u,t,k,nu,e,m,iV⟩ r H0 σ H',λR hR=>?_,?_⟩
  ·refine⟨6,Zj,qc,qc,JN (lo:=0) (n:=6) (λj σ H'=>LpI P0 ⟨a,d,f,u,t,k,nu,e,m,iV⟩ r H0 σ H') L0 ?_ (λσ H' h=>hR _ _ h)⟩;clear L0 fin hR;generalize (⟨a,d,f,u,t,k,nu,e,m,iV⟩:Ad)=z at *
   have hbl':z.bs.length=due.length:=by
    have:=W0.gJ.length;unfold FI at this;rw[this,AK]
   rintro j σ H4 hj ⟨⟨x7,x8,iD,iC,iB,il,gm,fZ,gk,fY,rfl⟩,G4⟩;refine⟨λσ H'=>∃(tx:Str) (tv:V) (t:LT),σ=ip z r x7 x8 (some (.int (0+(j:Int)))) (some (.str tx)) (some tv) il gm fZ gk fY/\eA H' tv t/\t.Ok (due.map (·.1)) fq/\t.ht<=3/\Wr true t.tr 0 tx.cps.toList/\tx.cps.all (· < 128)=true/\tx.length<=56/\Gd z P0 H0 H',λR hR=>?_,?_⟩
   ·have W4:=G4.wf W0;refine⟨_,Zj,_,Zj,z.u,Zj,⟨_,aI.of W4.hu⟩,CB (K:=K) (a:=z.u) (xs:=z.bs.map V.ref) (λi ys H'=>ys=((due.take i).map (·.1)).map V.str/\H'=H4) ⟨Zj,Zj⟩ (λi ys H' _ ⟨_,e⟩=>e ▸ aI.of W4.hu) (λi ys H' ⟨e,_⟩=>?_) ?_ ?_⟩
    ·have:=DO.len;rw[e,AK,AK,ZA];omega
    ·rintro i v ys H' hi ⟨rfl,rfl⟩;obtain⟨bb,pr,rfl,_,ak,aj⟩:=CZ W4.gJ hi;refine⟨bb,_,Zj,aX.of aj,Zj,_,_,Zj,_,_,Zj,Zj,?_⟩;refine⟨_,Zj,?_,Zj⟩;rw[ZD,ak,Option.toList_some,Zu,Zu];rfl
    ·rintro ys H' ⟨rfl,rfl⟩ wl hwl;rw[AK,hbl',ZB];have sw:=AH (U.refl _) hwl (o:=HO.lst ((due.map (·.1)).map V.str));have G5:=G4.same sw;have hw5:=AB (H:=H') (a:=wl) (o:=HO.lst ((due.map (·.1)).map V.str));generalize upd H' wl (HO.lst ((due.map (·.1)).map V.str))=H5 at G5 hw5 ⊢;obtain⟨x5,y5,hd5⟩:=G5.wb.bH;refine⟨z.d,wl,x5,y5,due.map (·.1), "xyz", Zj,hd5,hw5,by rw[AK];exact pos,by rw[AK];exact DO.len,λx hx=>?_,qb,by rw[O3];exact Gy,λq tx tv t H6 s6 hq lt ok ht wz az lz=>?_⟩
     ·obtain⟨p,hp,rfl⟩:=Zr.mp hx;obtain⟨h1,h2,h3⟩:=Ot (n:=iP due 0 0 0) DO hp;have hn:=(DO.nm p hp).1;unfold B0 at hn;simp only[Bool.and_eq_true,decide_eq_true_eq]at hn;exact⟨h1.pw true (.inr Zj),h1.ok.as,h2,λc hc=>by have:=List.all_eq_true.mp hn.2 c hc;simp[Cn]at this;omega⟩
     ·rw[O3]at ok;exact⟨q,_,Zj,aX.of hq,Zj,_,_,Zj,_,_,Zj,Zj,hR _ _ ⟨tx,tv,t,Zj,lt,ok,ht,wz,az,lz,G5.cY s6⟩⟩
   rintro σ H5 ⟨tx,tv,t,rfl,lt5,ok,ht,wz,az,lz,G5⟩;clear G4;refine⟨λσ H'=>∃(a1:Xi) (xv zv:Nat),σ=ip z r x7 x8 (some (.int (0+(j:Int)))) (some (.str tx)) (some tv) (some (.ref a1)) gm fZ gk fY/\H' a1=some (.dK [(Sum.inr "x", .int (xv:Int)),(Sum.inr "z", .int (zv:Int))])/\New z.d P0 H0 a1/\xv<2 ^ 40/\zv<2 ^ 40/\eA H' tv t/\Gd z P0 H0 H',λR hR=>?_,?_⟩
   ·intro a1 ha1;have na1:=G5.rl.new ha1;have sa:=AH (U.refl _) ha1 (o:=HO.dK []);have G6:=G5.same sa;have lt6:=lt5.aN (aK.of sa);have h6:=AB (H:=H5) (a:=a1) (o:=HO.dK []);generalize upd H5 a1 (HO.dK [])=H6 at sa G6 lt6 h6 ⊢
    have a1d:∀ {Hx:Hp}{o:HO}{x y:Int},Hx z.d=some (.lst [.int x,.int y])->Hx a1=some o->(∀xs,o≠ .lst xs)->a1≠z.d:=λh1 h2 h3 y=>by
     rw[y,h1]at h2;cases h2;exact h3 _ rfl
    obtain⟨x6,y6,hd6⟩:=G6.wb.bH;have W6:=G6.wf W0;refine⟨_,rfl,_,rfl,z.t,_,rfl,.inl ⟨_,Sum.inr "known", .inl W6.ht,rfl,(DN _ _ _).symm⟩,_,rfl,z.d,x6,y6,kn due,r,rfl,hd6,λxv H7 hx _ s7=>?_⟩;have G7:=G6.cY s7;have lt7:=lt6.aN (aH.tt hd6 s7);have h7:=s7.old _ _ h6 (a1d hd6 h6 λ_ z=>nomatch z);obtain⟨x7',y7',hd7⟩:=G7.wb.bH;refine⟨_,rfl,_,_,rfl,rfl,⟨qc,qc,qc⟩,z.d,x7',y7',_,rfl,hd7,qc,qc,λzi a8 b8 z0 z1=>?_⟩;have s8:=Au (x':=a8) (y':=b8) hd7;obtain⟨zv,rfl⟩:∃zv:Nat,zi=(zv:Int):=⟨zi.toNat,qe⟩
    have hz:zv<2 ^ 40:=by
     have e1:(2:Int) ^ (40:Int).toNat=1099511627776:=by decide
     have e2:(2:Nat) ^ 40=1099511627776:=by decide
     have:(zv:Int)<2 ^ (40:Int).toNat:=z1;rw[e1]at this;omega
    have G8:=G7.cY s8;have lt8:=lt7.aN (aH.tt hd7 s8);have h8:=s8.old _ _ h7 (a1d hd7 h7 λ_ z=>nomatch z);generalize upd H7 z.d (HO.lst [V.int a8,V.int b8])=H8 at G8 lt8 h8 s8 ⊢;refine⟨h8,[(Sum.inr "x", .int (xv:Int)),(Sum.inr "z", .int (zv:Int))],rfl,by show 2<=15;decide,?_⟩;have G9:Gd z P0 H0 (upd H8 a1 (.dK (Bo [] [((Sum.inr "x" : Key),V.int (xv:Int)),(Sum.inr "z", .int (zv:Int))]))):=G8.put h8 na1;have h9:=AB (H:=H8) (a:=a1) (o:=HO.dK (Bo [] [((Sum.inr "x" : Key),V.int (xv:Int)),(Sum.inr "z", .int (zv:Int))]));have lt9:eA (upd H8 a1 (.dK (Bo [] [((Sum.inr "x" : Key),V.int (xv:Int)),(Sum.inr "z", .int (zv:Int))]))) tv t:=lt8.aN λb xs e=>by rw[AF (FL e h8 λz=>nomatch z)];exact e
    have em:Bo [] [((Sum.inr "x" : Key),V.int (xv:Int)),(Sum.inr "z", .int (zv:Int))]=[((Sum.inr "x" : Key),V.int (xv:Int)),(Sum.inr "z", .int (zv:Int))]:=by kernel_rfl
    rw[em]at G9 h9 lt9 ⊢;exact hR _ _ ⟨a1,xv,zv,Zj,h9,na1,hx,hz,lt9,G9⟩
   rintro σ H9 ⟨a1,xv,zv,rfl,h9,na1,hx,hz,lt9,G9⟩;clear G5 lt5;refine⟨λσ H'=>∃(a1:Xi) (xv yv zv:Nat),σ=ip z r x7 x8 (some (.int (0+(j:Int)))) (some (.str tx)) (some tv) (some (.ref a1)) gm fZ gk fY/\H' a1=some (.dK (lk xv yv zv))/\New z.d P0 H0 a1/\xv<2 ^ 40/\yv<2 ^ 40/\zv<2 ^ 40/\eA H' tv t/\Gd z P0 H0 H',λR hR=>?_,?_⟩
   ·obtain⟨x9,y9,hd9⟩:=G9.wb.bH;have a1d:a1≠z.d:=λy=>by rw[y,hd9]at h9;cases h9
    have W9:=G9.wf W0;refine⟨_,Zj,_,Zj,z.t,_,Zj,.inl ⟨_,Sum.inr "known", .inl W9.ht,Zj,(DN _ _ _).symm⟩,z.d,x9,y9,kn due, "keep", Zj,hd9,λyv H10 hy _ iH=>?_⟩;have ik:=G9.cY iH;have lt10:=lt9.aN (aH.tt hd9 iH);have f9:=iH.old _ _ h9 a1d;refine⟨_,Zj,a1,_,Zj,.inl ⟨_,Sum.inr "y", f9,Zj,AO (by show 2<=1000;decide),Zj⟩,?_⟩;have ep:Cl [((Sum.inr "x" : Key),V.int (xv:Int)),(Sum.inr "z", .int (zv:Int))] (Sum.inr "y") (.int (yv:Int))=lk xv yv zv:=by kernel_rfl
    rw[ep];exact hR _ _ ⟨a1,xv,yv,zv,rfl,AB,na1,hx,hy,hz,lt10.aN λb xs e=>by rw[AF (FL e f9 λz=>nomatch z)];exact e,ik.put f9 na1⟩
   rintro σ H6 ⟨a1,xv,yv,zv,rfl,h6,na1,hx,hy,hz,lt6,G6⟩;clear G9 lt9 h9;have LN:=Wj (due:=due) hx hy hz;have af:t.tr.dz (iP due xv yv zv)<2 ^ 40:=Ku (n:=iP due xv yv zv) DO LN ok;have EV:=R6 (n:=iP due xv yv zv) (O2 (n:=iP due xv yv zv) DO LN ok);have PW:=HV (n:=iP due xv yv zv) DO ok Gy
   have eQ:t.tr.post.length<=15:=by
    have h1:=GG t;have h2:2 ^ (t.ht+1)<=2 ^ 4:=Nat.pow_le_pow_right qc qe;have h3:(2:Nat) ^ 4=16:=by decide
    omega
   refine⟨λσ H'=>σ=ip z r x7 (some (.int ((t.tr.dz (iP due xv yv zv):Nat):Int))) (some (.int (0+(j:Int)))) (some (.str tx)) (some tv) (some (.ref a1)) gm fZ gk fY/\H' a1=some (.dK (lk xv yv zv))/\Gd z P0 H0 H',λR hR=>?_,?_⟩
   ·have W6:=G6.wf W0;exact⟨_,Zj,_,Zj,_,Zj,z.t,_,Zj,.inl ⟨_,Sum.inr "known", .inl W6.ht,Zj,(DN _ _ _).symm⟩,_,Zj,tv,z.nu,a1,t,iP due xv yv zv,fq,Zj,lt6,ok,.inl h6,λc hc=>⟨(LN c hc).1,(LN c hc).2.1⟩,ht,W6.hn,DO,hR _ _ ⟨Zj,h6,G6⟩⟩
   rintro σ H7 ⟨rfl,h7,G7⟩;clear G6 lt6 h6;generalize hnn':t.tr.dz (iP due xv yv zv)=n at *;obtain⟨TB,al⟩:=UI hx hy hz (kvs:=lk xv yv zv) (λ_ h=>h) (by show 3<=3;decide);refine⟨a1,_,h7,λo1=>?_⟩;have G8:Gd z P0 H0 (upd H7 a1 (.bG o1 (.dK (lk xv yv zv)))):=G7.put h7 na1;have h8:=AB (H:=H7) (a:=a1) (o:=HO.bG o1 (.dK (lk xv yv zv)));generalize upd H7 a1 (HO.bG o1 (.dK (lk xv yv zv)))=H8 at G8 h8 ⊢;clear G7 h7;refine⟨λσ H'=>σ=stT z r x7 n j tx tv a1 gm fZ gk fY/\H' a1=some (.bG o1 (.dK (lk xv yv zv)))/\Gd z P0 H0 H',λR hR=>?_,?_⟩
   ·have eB:∀ {H'},Gd z P0 H0 H'->H' a1=some (.bG o1 (.dK (lk xv yv zv)))->R (stT z r x7 n j tx tv a1 gm fZ gk fY) H':=λg h=>hR _ _ ⟨rfl,h,g⟩;refine⟨G8.wb.tab,λH9 sB hT9=>?_⟩;have G9:=G8.dZ sB hT9;have h9:=(G8.kp (Rl.dZ sB)).k h8;have W9:=G9.wf W0;refine⟨_,Zj,_,Zj,_,Zj,.mk z.kp tx t.tr.post (.ref a1) (iP due xv yv zv) r Zj W9.ka az qe (EQ wz) (Nx PW qe) W9.hb (.is a1 o1 Zj h9 TB al (.go (some n) (λx hx hl=>?_) EV λH10 iH=>?_))⟩
    ·obtain⟨c,hc,e⟩:=(PW x hx).m hl;rw[e,(LN c hc).2.1];exact λz=>nomatch z
    ·have ik:=G9.same iH;have kz:=ik.wf W0;refine QI hR1 EF kz.wb kz.ka hk20 af λvf H11 wb11 rl11 fd11=>?_;have jt:=ik.go rl11 wb11;have jg:=(ik.kp rl11).k (iH _ _ h9);have W11:=jt.wf W0;cases fd11 with
     |no q e hq hb =>
      subst e;refine .inr (.inl ⟨q,_,Zj,hq,_,Zj,_,Zj,_,Zj,z.t,z.e,z.m,due,r,(n:Int),Zj,W11.ht,qe,.inl ⟨hb.1,hb.2,λp hp=>?_⟩⟩);have sp:=AH (U.refl _) hp (o:=HO.tup [.str "refused", .str "BadRest", .int (AU due (n:Int):Nat)]);refine .inr ⟨_,_,F7 (sp _ _ hq),F7 AB,Cz qb qb,Cz qb qb,_,Zj,?_⟩;rw[Mc];exact AV (eB (jt.same sp) (sp _ _ jg))
     |left e hb hl =>
      subst e;refine .inr (.inr ⟨(n:Int),Zj,λp2 am=>?_⟩);have sP:=AH (U.refl _) am (o:=HO.tup [.str "left", .int (n:Int)]);have hp2':=AB (H:=H11) (a:=p2) (o:=HO.tup [.str "left", .int (n:Int)]);refine⟨_,Zj,_,Zj,_,Zj,z.t,z.e,z.m,due,r,(n:Int),Zj,sP _ _ W11.ht,qe,.inr (.inl ⟨hb,hl.1,hl.2,λp hp=>?_⟩)⟩;have sq:=AH (U.refl _) hp (o:=HO.tup [.str "left", .int (n:Int)]);refine .inr ⟨_,_,Ie (sq _ _ hp2'),Ie AB,HE qb,HE qb,_,Zj,?_⟩;rw[SH];exact AV (eB (jt.same (sP.trans sq)) ((sP.trans sq) _ _ jg))
     |val q e hV hb hl =>
      subst e;refine .inl ⟨q,z.kp,_,Zj,hV,_,Zj,_,Zj,_,Zj,z.t,z.e,z.m,due,r,(n:Int),Zj,W11.ht,qe,.inr (.inr ⟨hb,hl,.inl ⟨Zj,_,Zj,?_⟩⟩)⟩;rw[ZL rfl];exact AV (eB jt jg)
   rintro σ H9 ⟨rfl,h9,G9⟩;clear G8 h8
   have eL:∀c∈fq,iI tx c=true ↔ sgn c∈t.tr.post:=λc hc=>by
    unfold iI;rw[decide_eq_true_eq];exact We wz PW (Gy c hc)
   refine⟨λσ H'=>∃p1,σ=stT z r x7 n j tx tv a1 (some (.ref p1)) fZ gk fY/\H' p1=some (.lst (((fq.filter (iI tx)).map sgn).map V.str))/\H' a1=some (.bG o1 (.dK (lk xv yv zv)))/\Gd z P0 H0 H',λR hR=>?_,?_⟩
   ·refine⟨"xyz", Zj,qb,IP (x := "xyz") (λi ys H'=>H'=H9/\ys=(((fq.take i).filter (iI tx)).map sgn).map V.str) ⟨Zj,Zj⟩ (λi ys H' ⟨_,e⟩=>?_) ?_ ?_⟩
    ·rw[e,AK,AK];have h1:=ZS (iI tx) (fq.take i);rw[ZA]at h1;have h2:fq.length=3:=rfl;omega
    ·rintro i c ys H' hc ⟨rfl,rfl⟩;have iM:fq[i]?=some c:=by rw[←O3,Array.getElem?_toList];exact hc
     have e1:(fq.take (i+1)).filter (iI tx)=(fq.take i).filter (iI tx)++[c].filter (iI tx):=by rw[ZD,iM,Option.toList_some,filter_append]
     refine⟨_,Zj,_,Zj,c,tx,Zj,Zj,_,Zj,?_⟩;rw[e1];cases hd:decide (c∈tx.cps.toList)with
     |true =>
      rw[show [c].filter (iI tx)=[c] by rw[List.filter_cons_of_pos (by exact hd)];rfl];refine Ag ⟨_,Zj,Zj,?_⟩;rw[Zu,Zu];rfl
     |false =>
      rw[show [c].filter (iI tx)=[]from List.filter_cons_of_neg (p:=iI tx) (λz=>absurd (hd.symm.trans z) qc),Zt];exact AV ⟨Zj,Zj⟩
    ·rintro ys H' ⟨rfl,rfl⟩ p1 ak;have el:fq.take ("xyz" : Str).cps.size=fq:=take_of_length_le qb;rw[el];have sp:=AH (U.refl _) ak (o:=HO.lst (((fq.filter (iI tx)).map sgn).map V.str));exact hR _ _ ⟨p1,Zj,AB,sp _ _ h9,G9.same sp⟩
   rintro σ H10 ⟨p1,rfl,hp10,f9,ik⟩;clear G9 h9;generalize iw:fq.filter (iI tx)=fs at *
   have fsx:∀c∈fs,c∈fq/\sgn c∈t.tr.post:=λc hc=>by
    rw[←iw,mem_filter]at hc;exact⟨hc.1,(eL c hc.1).mp hc.2⟩
   have fs3:fs.length<=3:=by
    rw[←iw];exact ZS _ fq
   refine⟨λσ H'=>σ=stT z r x7 n j tx tv a1 (some (.ref p1)) fZ gk fY/\H' p1=some (.lst ((fs.map sgn).map V.str))/\H' a1=some (.bG o1 (.dK (lk xv yv zv)))/\Gd z P0 H0 H',λR hR=>?_,?_⟩
   ·have kz:=ik.wf W0;refine⟨_,Zj,.mk tx t.tr.post Zj az qe (EQ wz) (Nx PW qe) kz.hb λq ns H11 jz hq L=>?_⟩;have e:=Nw L (sg:=fq) qc Gy (λx hx hl=>(PW x hx).m hl) _ eL;rw[iw]at e;subst e
    have as3:∀x∈fs.map sgn,x.cps.all (· < 128)=true:=λx hx=>by
     obtain⟨c,hc,rfl⟩:=Zr.mp hx;have:=(fsx c hc).1;simp only[mem_cons,not_mem_nil,or_false]at this;rcases this with rfl |rfl |rfl <;> decide +kernel
    refine⟨_,Zj,_,_,DJ hq (F1 _),DJ (jz _ _ hp10) (F1 _),EL as3,EL as3,_,Zj,?_⟩;rw[JH λdd hdd=>by obtain⟨x,_,rfl⟩:=Zr.mp hdd;exact Bc _];exact AV (hR _ _ ⟨Zj,jz _ _ hp10,jz _ _ f9,ik.same jz⟩)
   rintro σ H11 ⟨rfl,hp11,jg,jt⟩;clear ik hp10 f9;refine⟨λσ H'=>∃a2,σ=stT z r x7 n j tx tv a1 (some (.ref p1)) (some (.ref a2)) gk fY/\H' a2=some (.dK (lk xv yv zv))/\New z.d P0 H0 a2/\H' p1=some (.lst ((fs.map sgn).map V.str))/\Gd z P0 H0 H',λR hR=>?_,?_⟩
   ·refine⟨_,Zj,a1,_,Zj,.inr ⟨o1,jg⟩,λa2 ha2=>?_⟩;have i8:=AH (U.refl _) ha2 (o:=HO.dK (lk xv yv zv));exact hR _ _ ⟨a2,Zj,AB,jt.rl.new ha2,i8 _ _ hp11,jt.same i8⟩
   rintro σ iZ ⟨a2,rfl,iU,na2,hp12,G12⟩;clear jt hp11 jg;refine⟨λσ H'=>∃c,c∈fq/\σ=stT z r x7 n j tx tv a1 (some (.ref p1)) (some (.ref a2)) gk fY/\H' a2=some (.dK (FW (lk xv yv zv) (Sum.inr (sgn c))))/\H' p1=some (.lst ((fs.map sgn).map V.str))/\Gd z P0 H0 H',λR hR=>?_,?_⟩
   ·obtain⟨x12',y12',hd12⟩:=G12.wb.bH;refine⟨_,Zj,.inr (.inr (.inl ⟨Zj,.inl ⟨_,iU⟩⟩)),_,Zj,z.d,x12',y12',3,Zj,hd12,qc,qc,λci a13 b13 c0 c1=>?_⟩;have jj:=Au (x':=a13) (y':=b13) hd12;have a2d:a2≠z.d:=λy=>by rw[y,hd12]at iU;cases iU
    have G13:=G12.cY jj;have kl:=jj.old _ _ iU a2d
    have hp13:=(G12.kp (Rl.cY jj)).k hp12 (λx y z=>by
     injection z with z
     cases hfs2:fs with
     |nil=>rw[hfs2]at z;cases z
     |cons c r=>rw[hfs2]at z;cases z)
    generalize upd iZ z.d (HO.lst [V.int a13,V.int b13])=H13 at G13 kl hp13 jj ⊢;obtain⟨cj,rfl⟩:∃cj:Nat,ci=(cj:Int):=⟨ci.toNat,qe⟩;have hcj:cj<fq.length:=by show cj<3;omega
    obtain⟨c,hc⟩:∃c,fq[cj]?=some c:=⟨_,Z7 hcj⟩;have hcx:=ZQ hc;refine⟨"xyz", (cj:Int),c,rfl,rfl,qb,BS (by rw[O3];exact hc),a2,_,Sum.inr (sgn c),_,rfl,rfl,kl,(LN c hcx).2.1,?_⟩;have G14:Gd z P0 H0 (upd H13 a2 (.dK (FW (lk xv yv zv) (Sum.inr (sgn c))))):=G13.put kl na2;exact hR _ _ ⟨c,hcx,rfl,AB,by rw[AF (FL hp13 kl λz=>nomatch z)];exact hp13,G14⟩
   clear G12 iU hp12;rintro σ iZ ⟨c,hcx,rfl,iU,hp12,G12⟩;obtain⟨TB2,al2⟩:=UI hx hy hz (kvs:=FW (lk xv yv zv) (Sum.inr (sgn c))) (λkv h=>(mem_filter.mp h).1) (ZS _ (lk xv yv zv));generalize FW (lk xv yv zv) (Sum.inr (sgn c))=fw at *
   let gf:Str->Bool:=λx=>!(As fw (Sum.inr x)).isSome
   refine⟨a2,_,iU,λo2=>?_⟩;have G13:Gd z P0 H0 (upd iZ a2 (.bG o2 (.dK fw))):=G12.put iU na2;have kl:=AB (H:=iZ) (a:=a2) (o:=HO.bG o2 (.dK fw));have hp13:(upd iZ a2 (.bG o2 (.dK fw))) p1=some (.lst ((fs.map sgn).map V.str)):=by rw[AF (FL hp12 iU λz=>nomatch z)];exact hp12
   generalize upd iZ a2 (HO.bG o2 (.dK fw))=H13 at G13 kl hp13 ⊢;clear G12 iU hp12;have fin13:∀ {H'},Gd z P0 H0 H'->LpI P0 z r H0 (stT z r x7 n j tx tv a1 (some (.ref p1)) (some (.ref a2)) gk fY) H':=λg=>⟨⟨_,_,_,_,_,_,_,_,_,_,rfl⟩,g⟩;refine⟨_,Zj,p1,Zj,⟨_,aI.of hp13⟩,CB (K:=K) (a:=p1) (xs:=(fs.map sgn).map V.str) (λi ys H'=>H'=H13/\ys=((((fs.take i).map sgn).filter gf)).map V.str) ⟨Zj,Zj⟩ (λi ys H' _ ⟨e,_⟩=>e ▸ aI.of hp13) (λi ys H' ⟨_,e⟩=>?_) ?_ ?_⟩
   ·rw[e,AK];have h1:=ZS gf ((fs.take i).map sgn);rw[AK,ZA]at h1;omega
   ·rintro i v ys H' hi ⟨rfl,rfl⟩;rw[ZE,ZE]at hi;obtain⟨y,hy',rfl⟩:=Z6.mp hi;obtain⟨c2,iy,rfl⟩:=Z6.mp hy'
    have e1:((fs.take (i+1)).map sgn).filter (gf)=((fs.take i).map sgn).filter (gf)++[sgn c2].filter (gf):=by
     rw[ZD,iy,Option.toList_some,Zu,filter_append];rfl
    refine⟨_,rfl,_,rfl,a2,_,rfl,.inl ⟨_,Sum.inr (sgn c2),.inr ⟨o2,kl⟩,rfl,rfl⟩,_,rfl,?_⟩;rw[e1];cases hd:!(As fw (Sum.inr (sgn c2))).isSome with
    |true =>
     rw[show [sgn c2].filter (gf)=[sgn c2] by rw[List.filter_cons_of_pos (by exact hd)];rfl];refine Ag ⟨_,Zj,Zj,?_⟩;rw[Zu];rfl
    |false =>
     rw[show [sgn c2].filter (gf)=[]from List.filter_cons_of_neg (p:=gf) (λz=>absurd (hd.symm.trans z) qc),Zt];exact AV ⟨Zj,Zj⟩
   ·rintro ys H' ⟨rfl,rfl⟩ p2 am;rw[AK,AK,ZB];generalize hls:(fs.map sgn).filter (gf)=ls;have s14:=AH (U.refl _) am (o:=HO.lst (ls.map V.str));refine⟨(by show 0<=sizeLine;decide),λp3 iL=>?_⟩;have s15:=s14.trans (AH (U.refl _) iL (o:=HO.lst []))
    have hls2:∀x∈ls,x∈fs.map sgn/\As fw (Sum.inr x)=none:=λx hx=>by
     rw[←hls,mem_filter]at hx;refine⟨hx.1,?_⟩;have:(!(As fw (Sum.inr x)).isSome)=true:=hx.2;cases e:As fw (Sum.inr x)with
     |none=>rfl
     |some v=>rw[e]at this;cases this
    have as4:∀x∈ls,x.cps.all (· < 128)=true:=λx hx=>by
     obtain⟨c2,iy,rfl⟩:=Zr.mp (hls2 x hx).1;have:=(fsx c2 iy).1;simp only[mem_cons,not_mem_nil,or_false]at this;rcases this with rfl |rfl |rfl <;> decide +kernel
    refine⟨_,_,DJ (AH (U.refl _) iL _ _ AB) (F1 ls),DJ AB OZ,EL as4,Ih,_,rfl,?_⟩;rw[Oa];have G15:=G13.same s15;have h15:=s15 _ _ kl;generalize upd (upd H' p2 (HO.lst (ls.map V.str))) p3 (HO.lst [])=H15 at G15 h15 ⊢;cases hl0:ls with
    |nil=>exact AV (fin13 G15)
    |cons x0 lr =>
     refine Ag ?_;obtain⟨hx1,hx2⟩:=hls2 x0 (by rw[hl0];exact ZI ..);obtain⟨c2,iy,rfl⟩:=Zr.mp hx1;obtain⟨hc3,hc4⟩:=fsx c2 iy;refine⟨G15.wb.tab,λH16 sB hT16=>?_⟩;have G16:=G15.dZ sB hT16;have h16:=(G15.kp (Rl.dZ sB)).k h15;have W16:=G16.wf W0;have l3:("|ZZ" : Str).length=3:=by decide +kernel
     have ez:(tx ++ "|ZZ" : Str).cps.toList=tx.cps.toList++([]++(Sg.or.c::([]++("ZZ" : Str).cps.toList))):=by
      rw[B5,show("|ZZ" : Str).cps.toList=124::("ZZ" : Str).cps.toList by decide +kernel];rfl
     have wz2:Wr true (.bn .or t.tr (.wd "ZZ")) 0 (tx ++ "|ZZ" : Str).cps.toList:=by
      rw[ez];exact .bn .or _ _ 0 _ _ [] True.intro qc (.inl Zj) wz (.wd "ZZ" 1 [] (.inl Zj) UJ)
     have PW2:∀x∈(Tr.bn .or t.tr (.wd "ZZ")).post,PtW fq x:=λx hx=>by
      rcases mem_append.mp hx with y |y
      ·rcases mem_append.mp y with y |y
       ·exact PW x y
       ·obtain rfl:=ZG.mp y;exact Xe _
      ·obtain rfl:=ZG.mp y;exact⟨qb,λz=>absurd z qb,.inr qb⟩
     have pl2:(Tr.bn .or t.tr (.wd "ZZ")).post.length<64:=by
      show(t.tr.post++[("ZZ" : Str)]++[_]).length<64;rw[ZH,ZH,length_singleton,length_singleton];omega
     refine⟨_,Zj,_,Zj,tx, "|ZZ", Zj,Zj,Nat.le_of_lt (AO qe),_,Zj,.mk z.kp (tx ++ "|ZZ") _ (.ref a2) ⟨due,fw,λ_=>0⟩ r Zj W16.ka (CW az qb) (by rw[BO];omega) (EQ wz2) (Nx PW2 pl2) W16.hb (.is a2 o2 Zj h16 TB2 al2 (.lack (sgn c2) (ZP _ (ZP _ hc4)) (Gy c2 hc3) hx2 (Ks EPN W16.wb λp H17 wb17 rl17 hp17=>?_)))⟩;have G17:=G16.go rl17 wb17;refine⟨eV,λq hq=>?_⟩;have sq:=AH (U.refl _) hq (o:=HO.tup [V.str "refused", V.str "BadNumber"]);refine⟨_,_,Ed (sq _ _ hp17),Ed AB,CK,CK,_,Zj,?_⟩;rw[show wd 6 = "BadNumber" from rfl,Kt];exact AV (fin13 (G17.same sq))
  rintro σ H4 L4;clear L0;have fin':∀ {σ H'},LpI P0 ⟨a,d,f,u,t,k,nu,e,m,iV⟩ r H0 σ H'->RdI a l bd P0 as (i+1) σ H':=fin;clear fin;generalize (⟨a,d,f,u,t,k,nu,e,m,iV⟩:Ad)=z at *;obtain⟨⟨x7,x8,iD,iC,iB,il,gm,fZ,gk,fY,rfl⟩,G4⟩:=L4;have k1:∀x:Str,(Sum.inr "x" : Key)=Sum.inr x->x.length<=200:=λx e=>by cases e;decide +kernel
  refine⟨λσ H'=>∃l6 vs,σ=ip z r x7 x8 iD iC iB il gm fZ (some (.ref l6)) fY/\H' l6=some (.lst vs)/\vs.length=8/\(∀v∈vs,Bt K z.d P0 H0 H' v)/\Gd z P0 H0 H',λR hR=>?_,?_⟩
  ·refine Gives.lst (Pv:=Bt K z.d P0 H0) Bt.mono (Gives.cons Bt.mono (bQ.is Is.c λH _=>.inl (Rv qd)) (Gives.cons Bt.mono (bQ.lst0 λH p _ h=>.inl (.inr (.inr ⟨p,[],rfl,h,(λx y z=>nomatch z),qd⟩))) (Gives.cons Bt.mono (bQ.is Is.c λH _=>.inl (VA qd))
    (Gives.cons Bt.mono (bQ.fg (k:=Sum.inr "x") (v:=.int (-1)) Is.c (λH Q s q=>⟨_,rfl,q⟩) (Md G4 k1 (.inl ⟨_,rfl⟩) qb))
    (Gives.cons Bt.mono (bQ.fg (k:=Sum.inr "x") (v:=.int ((2:Int) ^ (40:Int).toNat)) Is.c (λH Q s q=>⟨_,_,rfl,rfl,⟨qc,qc,qc⟩,q⟩) (Md G4 k1 (.inl ⟨_,rfl⟩) qb))
    (Gives.cons Bt.mono (bQ.fg (k:=Sum.inr "x") (v:=.bl true) Is.c Is.c (Md G4 k1 (.inr (.inl rfl)) qb))
    (Gives.cons Bt.mono (bQ.fg (k:=Sum.inr "x") (v:=.aO) Is.c Is.c (Md G4 k1 (.inr (.inr rfl)) qb))
    (Gives.cons Bt.mono (bQ.fg (k:=Sum.inr "X") (v:=.int 1) Is.c Is.c (Md G4 (λx e=>by cases e;decide +kernel) (.inl ⟨_,rfl⟩) qb))
    Gives.nil)))))))) qc H4 _ (U.refl _) λp vs H' hp s' hl hn hv=>hR _ _ ⟨p,vs,rfl,hl,hn,hv,G4.same s'⟩
  rintro σ H5 ⟨l6,vs,rfl,hl5,hn5,hv5,G5⟩;clear G4;refine⟨λσ H'=>∃l6 vs,σ=ip z r x7 x8 iD iC iB il gm fZ (some (.ref l6)) fY/\H' l6=some (.lst vs)/\vs.length=11/\(∀v∈vs,Bt K z.d P0 H0 H' v)/\Gd z P0 H0 H',λR hR=>?_,?_⟩
  ·refine⟨_,Zj,Gives.lst (Pv:=Bt K z.d P0 H0) Bt.mono (Gives.cons Bt.mono (bQ.fg (k:=Sum.inr "xy") (v:=.int 1) Is.c Is.c (Md G5 (λx e=>by cases e;decide +kernel) (.inl ⟨_,Zj⟩) qb))
    (Gives.cons Bt.mono (bQ.fg (k:=Sum.inl 5) (v:=.int 1) Is.c Is.c (Md G5 (λx e=>nomatch e) (.inl ⟨_,rfl⟩) qb))
    (Gives.cons Bt.mono (bQ.fg (k:=Sum.inr "") (v:=.int 1) Is.c Is.c (Md G5 (λx e=>by cases e;decide +kernel) (.inl ⟨_,rfl⟩) qb))
    Gives.nil))) qc H5 _ (U.refl _) λp ws H' hp s' hl hn hv=>?_⟩
   refine⟨l6,p,vs,ws,rfl,rfl,s' _ _ hl5,hl,by rw[hn5,hn];exact(by show 8+3<=sizeLine;decide),λl3 h3=>?_⟩;have s3:=AH (U.refl _) h3 (o:=HO.lst (vs++ws));refine hR _ _ ⟨l3,vs++ws,rfl,AB,by rw[ZH,hn5,hn],λv jE=>?_,(G5.same s').same s3⟩;rcases mem_append.mp jE with y |y
   ·exact Bt.mono _ _ _ (s'.trans s3) (hv5 v y)
   ·exact Bt.mono _ _ _ s3 (hv v y)
  clear hl5 hn5 hv5 G5 vs l6;rintro σ H6 ⟨l6,vs,rfl,hl6,hn6,hv6,G6⟩
  have ncmp:∀ {xs:Xh}{x y:Int},xs.length=11->HO.lst xs≠ .lst [.int x,.int y]:=λh z=>by
   injection z with z
   rw[z]at h;cases h
  refine⟨λσ H'=>∃y16 jv,σ=ip z r x7 x8 iD iC iB il gm fZ y16 jv/\Gd z P0 H0 H',λR hR=>?_,?_⟩
  ·refine⟨_,Zj,l6,Zj,⟨_,aI.of hl6⟩,?_⟩;refine Cf (K:=K) (a:=l6) (xs:=vs) (λi σ H'=>∃jv,σ=ip z r x7 x8 iD iC iB il gm fZ (some (.ref l6)) jv/\H' l6=some (.lst vs)/\(∀v∈vs,Bt K z.d P0 H0 H' v)/\Gd z P0 H0 H') ⟨_,Zj,hl6,hv6,G6⟩ (λi σ H' _ ⟨_,_,h,_⟩=>aI.of h) ?_ (λσ H' ⟨jv,e,_,_,g⟩=>hR _ _ ⟨_,jv,e,g⟩);rintro i v σ H7 hi ⟨jv,rfl,hl7,hv7,G7⟩;have hvm:=ZQ hi
   suffices core:∀Hq,(eR K "dict" Hq v\/∃a o kvs,v=.ref a/\Hq a=some (.bG o (.dK kvs))/\Iq kvs/\kvs.all gL=false)->Gd z P0 H0 Hq->Hq l6=some (.lst vs)->(∀v∈vs,Bt K z.d P0 H0 Hq v)->_ by
    rcases hv7 v hvm with h |⟨a,kvs,e,h,n,tb,al⟩
    ·exact .inl (core H7 (.inl h) G7 hl7 hv7)
    ·rcases h with h |⟨o,h⟩
     ·refine .inr ⟨a,kvs,h,λo=>core _ (.inr ⟨a,o,kvs,e,AB,tb,al⟩) (G7.put h n) ?_ λv' jE=>Bt.bG h (hv7 v' jE)⟩;rw[AF (FL hl7 h λz=>nomatch z)];exact hl7
     ·exact .inl (core H7 (.inr ⟨a,o,kvs,e,h,tb,al⟩) G7 hl7 hv7)
   intro Hq aj Gq hlq hvq;refine⟨Gq.wb.tab,λH8 sB hT8=>?_⟩;have G8:=Gq.dZ sB hT8;have K8:=Gq.kp (Rl.dZ sB);have W8:=G8.wf W0
   have hbt8:eR K "dict" H8 v\/∃a o kvs,v=.ref a/\H8 a=some (.bG o (.dK kvs))/\Iq kvs/\kvs.all gL=false:=by
    rcases aj with h |⟨a,o,kvs,e,h,tb,al⟩
    ·rcases h with h |⟨a,xs,e,h,k⟩ |⟨a,xs,e,h,n,k⟩
     ·exact .inl (.inl h)
     ·exact .inl (.inr (.inl ⟨a,xs,e,K8.k h,k⟩))
     ·exact .inl (.inr (.inr ⟨a,xs,e,K8.k h (λx y z=>n x y (HO.lst.inj z)),n,k⟩))
    ·exact .inr ⟨a,o,kvs,e,K8.k h,tb,al⟩
   refine⟨_,Zj,_,Zj,.mk z.kp "ZZ|x" zzT.post v ⟨due,[],λ_=>0⟩ r Zj W8.ka qb qb (EQ UK) UL W8.hb (.tab hbt8 (Ks EPN W8.wb λp H9 wb9 rl9 hp9=>?_))⟩;have G9:=G8.go rl9 wb9;have K9:=G8.kp rl9;refine⟨eV,λq hq=>?_⟩;have sq:=AH (U.refl _) hq (o:=HO.tup [V.str "refused", V.str "BadNumber"]);refine⟨_,_,Ed (sq _ _ hp9),Ed AB,CK,CK,_,Zj,?_⟩;rw[show wd 6 = "BadNumber" from rfl,Kt];exact AV ⟨_,Zj,sq _ _ (K9.k (K8.k hlq (λx y=>ncmp hn6)) (λx y=>ncmp hn6)),λv' jE=>Bt.mono _ _ _ sq (Bt.keeps K9 (Bt.keeps K8 (hvq v' jE))),G9.same sq⟩
  rintro σ H7 ⟨y16,jv,rfl,G7⟩;clear hl6 hn6 hv6 G6;refine⟨λσ H'=>σ=ip z r x7 x8 iD iC iB il gm fZ y16 jv/\Gd z P0 H0 H',λR hR=>?_,?_⟩
  ·refine⟨G7.wb.tab,λH8 sB hT8=>?_⟩;have G8:=G7.dZ sB hT8;refine⟨_,Zj,λa3 ha3=>?_⟩;have na3:=G8.rl.new ha3;have s9:=AH (U.refl _) ha3 (o:=HO.dK []);refine⟨_,_,Zj,Zj,⟨qc,qc,qc⟩,_,_,Zj,Zj,AB,[(Sum.inr "x", .int ((2:Int) ^ (40:Int).toNat - 1))],Zj,by show 1<=15;decide,a3,_,Zj,AB,λo3=>?_⟩;have em:Bo [] [((Sum.inr "x" : Key),V.int ((2:Int) ^ (40:Int).toNat - 1))]=[((Sum.inr "x" : Key),V.int 1099511627775)]:=by kernel_rfl
   rw[em]
   have iH:U H8 (upd (upd (upd H8 a3 (.dK [])) a3 (.dK [((Sum.inr "x" : Key),V.int 1099511627775)])) a3 (.bG o3 (.dK [((Sum.inr "x" : Key),V.int 1099511627775)]))):=λb o e=>by
    have:=AI e ha3;rw[AF this,AF this,AF this];exact e
   have ik:=G8.same iH;have f9:=AB (H:=upd (upd H8 a3 (.dK [])) a3 (.dK [((Sum.inr "x" : Key),V.int 1099511627775)])) (a:=a3) (o:=HO.bG o3 (.dK [((Sum.inr "x" : Key),V.int 1099511627775)]));generalize upd (upd (upd H8 a3 (.dK [])) a3 (.dK [((Sum.inr "x" : Key),V.int 1099511627775)])) a3 (.bG o3 (.dK [((Sum.inr "x" : Key),V.int 1099511627775)]))=H10 at ik f9 ⊢;have kz:=ik.wf W0;refine .mk z.kp "ZZ|x" zzT.post (.ref a3) ⟨due,[(Sum.inr "x", V.int 1099511627775)],λ_=>0⟩ r Zj kz.ka qb qb (EQ UK) UL kz.hb (.is a3 o3 Zj f9 ⟨by show 1<=1000;decide,λkv gj x e=>?_,λkv gj=>?_⟩ (show([((Sum.inr "x" : Key),V.int 1099511627775)]:LK).all gL=true by decide +kernel) (.go none (λx hx hl=>?_) ?_ (Ks EPB kz.wb λp H11 wb11 rl11 hp11=>?_)))
   ·obtain rfl:=ZG.mp gj;cases e;decide +kernel
   ·obtain rfl:=ZG.mp gj;exact .inl ⟨_,Zj⟩
   ·rw[Kv]at hx;simp only[mem_cons,not_mem_nil,or_false]at hx;rcases hx with rfl |rfl |rfl
    ·exact absurd hl qb
    ·show As [((Sum.inr "x" : Key),V.int 1099511627775)] (Sum.inr "x")≠none;rw[show As [((Sum.inr "x" : Key),V.int 1099511627775)] (Sum.inr "x")=some (V.int 1099511627775) by kernel_rfl];exact λz=>nomatch z
    ·exact absurd hl qb
   ·rw[Kv];exact .no [] "ZZ" _ ⟨qb,qb,qb,qb,zzN⟩ rfl
   ·have jt:=ik.go rl11 wb11;refine⟨eV,λq hq=>?_⟩;have sq:=AH (U.refl _) hq (o:=HO.tup [V.str "refused", V.str "BadName"]);refine⟨_,_,Ed (sq _ _ hp11),Ed AB,CK,CK,_,Zj,?_⟩;rw[show wd 5 = "BadName" from rfl,Kt];exact AV (hR _ _ ⟨Zj,jt.same sq⟩)
  rintro σ H8 ⟨rfl,G8⟩;clear G7;refine⟨G8.wb.tab,λH9 sB hT9=>?_⟩;have G9:=G8.dZ sB hT9;have W9:=G9.wf W0;refine⟨_,Zj,.bad z.kp "x|" 2 .aO Zj qb qb Vf W9.hb (SI ET W9.wb λp H10 wb10 rl10 hp10=>?_)⟩;have ik:=G9.go rl10 wb10;refine⟨gO,λq hq=>?_⟩;have sq:=AH (U.refl _) hq (o:=HO.tup [V.str "refused", V.str "BadText", V.int 2]);refine⟨_,_,F7 (sq _ _ hp10),F7 AB,Cz qb qb,Cz qb qb,_,Zj,?_⟩;rw[show(((2:Nat):Int))=2 from rfl,Mc];exact AV (fin' ⟨⟨_,_,_,_,_,_,_,_,_,_,Zj⟩,ik.same sq⟩)
end
end Mk
end
section
namespace Mk
open PySem L2 MK
def SL {dt:Xi}{tk:Tok}{kV doc pm ad ct:Value}{an:Option Xi}{n:Nat} (hd:K.lookup dt=some ⟨.type "tuple", none,.seq #[.str "" tk] n,#[]⟩) :
  Binds K (W.fnOf "__init__" "MarkError.__init__" (defArgs A8) (defBody A8) (defScope A8) (.ref dt) kV doc pm an ad ct) ["self", "words"] []:=by
 intro s us hK hl
 have ia:us.length=2:=by
  rw[Zt]at hl;exact hl
 match us,ia with
 | [u1,u2],_ =>
  have ho:=hK _ _ hd;intro M A E Q hq;unfold bindArgs;simp only[W.fnOf]
  repeat (first |with_reducible refine wpAny_seqItems ho rfl ?_ | (with_reducible refine Zx (wpAny_seqItems ho rfl ?_)) |wp_step)
  exact Eq.mp (congrArg (λz=>Q z s) qd) hq
def JA {h:Heap}{N:Xi}{n:Str}{v:Value} (X:K.In h) (G:h.Ns N mg) (e:W.nsIn K N n=some (some v)):mg n=some v:=by
 obtain⟨o,es,ep,ho,hd,_,hf⟩:=G;unfold W.nsIn at e;split at e
 ·rename_i c d jo n' sl q;have:=X _ _ q;rw[ho]at this;cases this;cases hd;split at e
  ·rename_i he;cases e;rw[←hf];unfold nsFind findBy;rw[←Array.find?_toList,he];rfl
  ·split at e <;> cases e
 ·cases e
def Tp {kV doc pm ad ct:Value}{an:Option Xi} :
  Mr K (W.fnOf "__init__" "Kind.__init__" (defArgs BQ) (defBody BQ) (defScope BQ) .none kV doc pm an ad ct) ["self", "rows", "rest"] ["rest"] gU3 gV3:=by
 refine⟨λs us ws _ hl=>?_,λ{vs us zs ws} r rz=>?_⟩
 ·unfold gU3 at hl ⊢;split at hl
  ·exact .of_eq qd
  ·cases hl
 ·cases r with
  |nil=>exact .nil
  |cons r1 rr =>
   cases rr with
   |nil=>exact .nil
   |cons r2 rr =>
    cases rr with
    |cons _ _=>exact .nil
    |nil =>
     cases rz with
     |nil=>exact .nil
     |cons z1 zz =>
      cases zz with
      |nil=>exact .cons r1 (.cons r2 (.cons z1 .nil))
      |cons _ _=>exact .nil
def Vh {kd:Xi}{v doc pm ad ct:Value}{an:Option Xi} (ok:W.nsOkIn K kd=true) (e:W.nsIn K kd "rest" = some (some v)) :
  Binds K (W.fnOf "__init__" "Kind.__init__" (defArgs BQ) (defBody BQ) (defScope BQ) .none (.ref kd) doc pm an ad ct) ["self", "rows", "rest"] [v]:=by
 intro s us hK hl
 have ia:us.length=2:=by
  rw[ZH]at hl;exact Nat.succ.inj hl
 match us,ia with
 | [u1,u2],_ =>
  have G:s.heap.Ns kd (s.heap.nsMap kd):=.of_isNs (W.isNs_of_in hK ok);have hm:s.heap.nsMap kd "rest" = some v:=JA hK G e;intro M A E Q hq;unfold bindArgs;simp only[W.fnOf]
  repeat (first | (with_reducible refine wpAny_nsGet G ?_;rw[hm]) |wp_step)
  exact Eq.mp (congrArg (λz=>Q z s) qd) hq
def Tq {kd:Xi}{v doc pm ad ct:Value}{an:Option Xi} (ok:W.nsOkIn K kd=true) (e:W.nsIn K kd "lettered" = some (some v)) :
  Binds K (W.fnOf "steps_of" "steps_of" (defArgs CM) (defBody CM) (defScope CM) .none (.ref kd) doc pm an ad ct) ["text", "lettered"] [v]:=by
 intro s us hK hl
 have ia:us.length=1:=by
  rw[ZH]at hl;exact Nat.succ.inj hl
 match us,ia with
 | [u1],_ =>
  have G:s.heap.Ns kd (s.heap.nsMap kd):=.of_isNs (W.isNs_of_in hK ok);have hm:s.heap.nsMap kd "lettered" = some v:=JA hK G e;intro M A E Q hq;unfold bindArgs;simp only[W.fnOf]
  repeat (first | (with_reducible refine wpAny_nsGet G ?_;rw[hm]) |wp_step)
  exact Eq.mp (congrArg (λz=>Q z s) qd) hq
end Mk
end
section
namespace Mk
open PySem L2 MK PySem.W
noncomputable abbrev fO (x q:Str) (s:Stmt):=fnOf x q (defArgs s) (defBody s) (defScope s)
def GH {K:Frag}{C:Xi}{T:String} (h:isClsIn K C=true) (h2:typeIn K (.ref C)=some (.type "type")) (e:subIn K (.type T) (.ref C)=some false):kitOne K (.type T) (.ref C)=some false:=by
 unfold kitOne;rw[Zq (by simp)];unfold kitCls;show(if _ then _ else _)=_;rw[Zp (by unfold isClsIn at h;rw[h,h2];simp)];exact e
def O4 {K:Frag}{C M:Xi}{f:Str} (h:(clsIn K C).map (λcd=>(cd.mro,cd.hasDict))=some (Ez C M,true)) (n:findIn K (.ref C) f=some none) (s:findIn K (.ref C) "__setattr__" = some (some (.builtin "object.__setattr__"))):Ld K C M f:=by
 obtain⟨cd,e,z⟩:=Z6.mp h;exact⟨⟨cd,e,congrArg Prod.fst z,congrArg Prod.snd z⟩,n,s⟩
noncomputable def Me (K:Frag) (c P:Xi):Bool:=match K.lookup c with
 |some ⟨.type "code", _,.fields vs,_⟩=>(match (vs[11]?:Option Value),vs.getD 18 Value.none,vs.getD 7 Value.none,vs.getD 9 Value.none,vs.getD 10 Value.none with
  |some (.ref p),.str _ _,.int _ _,.bool _,.int _ _=>p==P && !(c==P)
  |_,_,_,_,_=>false)
 |_=>false
def codeHd_of {K:Frag}{h:Heap}{c P:Xi} (X:K.In h) (q:Me K c P=true):CodeHd h c P:=by
 unfold Me at q;split at q
 ·rename_i d vs sl ho;split at q
  ·rename_i p f tf fl tg b tx tt jg h18 h7 h9 f9;rw[Bool.and_eq_true,beq_iff_eq]at q;obtain⟨rfl,hn⟩:=q;refine⟨_,vs,f,tf,fl,tg,b,tx,tt,X _ _ ho,Zj,Zj,jg,?_,h18,h7,h9,f9,λz=>by simp[z]at hn⟩;rw[Array.getD_eq_getD_getElem?,jg];rfl
  ·cases q
 ·cases q
section
variable {P:Program}{w:World}{K:Frag}{mg:SV}{base:Heap}{x q:Str}{st:Stmt}{k:Nat}{ps:Xf}{sp:Sp}{f C:Xi}{fd:FuncData}{p1 p2 p3 p4 p5:Str}
def fnT (F:aV K x x st f fd) (ok:AZ P w K mg base aL k f fd ps sp) (m:mg x=some (.ref f)) (b:Binds K fd ps []):Fn P w K mg base x k ps sp:=⟨⟨f,fd,ok,m,F.kp,b⟩⟩
def mtT (a:findIn K (.ref C) x=some (some (.ref f))) (i:isFn K (.ref f)=true) (F:aV K x q st f fd) (ok:AZ P w K mg base aL k f fd ps sp) (b:Binds K fd ps []):Mt P w K mg base C x k ps sp:=⟨⟨f,fd,ok,⟨a,i,F.kp⟩,b⟩⟩
noncomputable abbrev fB (x q:Str) (st:Stmt) (kV doc pm:Value) (an:Option Xi) (ad ct:Value) (us:Xg):Sem (List (Str×Value)):=bindArgs (fO x q st .none kV doc pm an ad ct) ⟨us,[]⟩
def fH (F:aV K x q st f fd) (h:∀a b c d e g u1,fB x q st a b c d e g [u1]=pure [(p1,u1)]):Binds K fd [p1] []:=F.binds λ_ _ _ _ _ _ us hl=>match us,hl with | [_],_=>h ..
def gC (F:aV K x q st f fd) (h:∀a b c d e g u1 u2,fB x q st a b c d e g [u1,u2]=pure [(p1,u1),(p2,u2)]):Binds K fd [p1,p2] []:=F.binds λ_ _ _ _ _ _ us hl=>match us,hl with | [_,_],_=>h ..
def jr (F:aV K x q st f fd) (h:∀a b c d e g u1 u2 u3,fB x q st a b c d e g [u1,u2,u3]=pure [(p1,u1),(p2,u2),(p3,u3)]):Binds K fd [p1,p2,p3] []:=F.binds λ_ _ _ _ _ _ us hl=>match us,hl with | [_,_,_],_=>h ..
def bi4 (F:aV K x q st f fd) (h:∀a b c d e g u1 u2 u3 u4,fB x q st a b c d e g [u1,u2,u3,u4]=pure [(p1,u1),(p2,u2),(p3,u3),(p4,u4)]):Binds K fd [p1,p2,p3,p4] []:=F.binds λ_ _ _ _ _ _ us hl=>match us,hl with | [_,_,_,_],_=>h ..
end
def DG (K:Frag) (x:Str) (st:Stmt):Prop:=∃f fd,nsIn K mainGlobals x=some (some (.ref f))/\aV K x x st f fd
def DM (K:Frag) (C:Xi) (x q:Str) (st:Stmt):Prop:=∃f fd,findIn K (.ref C) x=some (some (.ref f))/\isFn K (.ref f)=true/\(∃o,K.lookup f=some o/\o.cls=.type "function")/\aV K x q st f fd
structure CF (K:Frag) (C:Xi):Prop where
 pg:plainGet K C Str.empty=true
 hd:hasDictIn K C=true
 po:plainOver K C=true
 sa:findIn K (.ref C) "__setattr__" = some (some (.builtin "object.__setattr__"))
 mz:makesIn K C=true
 kc:keepIn K (.ref C)=true
 qa:findIn K (.ref C) "__class__" = some (some (.builtin "object.__class__"))
 qm:mroIn K C (.type "object")=some true
 ql:isClsIn K C=true
 qy:typeIn K (.ref C)=some (.type "type")
 qs:subIn K (.type "list") (.ref C)=some false
 qi:subIn K (.type "int") (.ref C)=some false
 qt:subIn K (.type "tuple") (.ref C)=some false
 ne:findIn K (.ref C) "__ne__" = some (some (.builtin "object.__ne__"))
structure XF (K:Frag) (ec:Nat->Xi) (C:Xi) (j:Nat):Prop where
 cx:L2.A4 K C=true
 ga:findIn K (.ref C) "__getattribute__" = some (some (.builtin "BaseException.__getattribute__"))
 gr:findIn K (.ref C) "__getattr__" = some none
 gb:mroIn K C (.type "BaseException")=some true
 kc:(clsIn K C).isSome=true
 ka:findIn K (.ref C) "__class__" = some (some (.builtin "object.__class__"))
 km:mroIn K C (.type "object")=some true
 kt:((List.range 11).all λi=>i==j ||decide (kitOne K (.ref C) (.ref (ec i))=some false))=true
 tv:kitOne K (.ref C) (.type "ValueError")=some true
 ke:keepIn K (.ref C)=true
def XF.at {K:Frag}{ec:Nat->Xi}{C:Xi}{j:Nat} (F:XF K ec C j) (hj:j<11) (e:C=ec j) (qn:specialIn K (.builtin "object.__class__") "__get__" = some (some (.builtin "getset_descriptor.__get__"))) (qt:takesIn K (.builtin "object.__class__")=some true):Oe K ec C j:=by
 refine⟨hj,⟨⟨F.ga,F.gr,F.gb⟩,F.kc,F.ka,qn,qt,F.km⟩,λi hi=>?_,F.tv⟩;have h:=List.all_eq_true.mp F.kt i (mem_range.mpr hi);rw[Bool.or_eq_true]at h;rcases h with z |z
 ·rw[eq_of_beq z,e,ZL rfl];exact Ii K _
 ·by_cases q:i=j
  ·rw[q,e,ZL rfl];exact Ii K _
  ·rw[ZO q];exact ZV z
structure XP (K:Frag) (ec:Nat->Xi) (cM C f:Xi) (j:Nat):Prop where
 F:XF K ec C j
 n:((List.range 4).all λi=>!(Ds K C).contains (.ref (ec i)))=true
 m:(Ds K C).contains (.ref cM)=true
 i:findIn K (.ref C) "__init__" = some (some (.ref f))
def XP.pl {K:Frag}{ec:Nat->Xi}{cM C f:Xi}{j:Nat} (F:XP K ec cM C f j) (hj:j<11) (e:C=ec j) (qn:specialIn K (.builtin "object.__class__") "__get__" = some (some (.builtin "getset_descriptor.__get__"))) (qt:takesIn K (.builtin "object.__class__")=some true):Jw K ec cM C j:=by
 have h:∀i,i<4->(Ds K C).contains (.ref (ec i))=false:=λi hi=>by
  have:=List.all_eq_true.mp F.n i (mem_range.mpr hi);rw[Bool.not_eq_true']at this;exact this
 exact⟨F.F.at hj e qn qt,F.F.cx,h 0 qc,h 1 qc,h 2 qc,h 3 qc,F.m⟩
structure XL (K:Frag) (ec:Nat->Xi) (cM C:Xi) (j:Nat) (fld:Str):Prop where
 F:XF K ec C j
 n:((List.range j).all λi=>!(Ds K C).contains (.ref (ec i)))=true
 m:(Ds K C).contains (.ref (ec j))=true
 gh:hasDictIn K C=true
 gn:findIn K (.ref C) fld=some none
 gs:findIn K (.ref C) "__setattr__" = some (some (.builtin "object.__setattr__"))
 s:(clsIn K C).map (λcd=>(cd.mro,cd.hasDict))=some (Ez C cM,true)
def XL.fl {K:Frag}{ec:Nat->Xi}{cM C:Xi}{j:Nat} (F:XL K ec cM C j (JI j)) (hj:j<4) (e:C=ec j) (qn:specialIn K (.builtin "object.__class__") "__get__" = some (some (.builtin "getset_descriptor.__get__"))) (qt:takesIn K (.builtin "object.__class__")=some true):Ik K ec C j:=by
 refine⟨F.F.at qe e qn qt,F.F.cx,hj,λi hi=>?_,F.m,⟨⟨F.F.ga,F.F.gr,F.F.gb⟩,F.gh,F.gn⟩⟩;have:=List.all_eq_true.mp F.n i (mem_range.mpr hi);rw[Bool.not_eq_true']at this;exact this
def all_mk {l:OpenLaw}{w:World}{K:Frag}{h:Heap}{mg:SV}{fz C VC DC aR kd dt cM c P0 e0 e1 e2 e3 e4 e5 e6 e7 e8 e9 gZ fin ko fla:Xi} (X:K.In h) (G:h.Ns mainGlobals mg) (hfa:mg "law" = some (.ref fz))
  {ocla kVla dcla pmla ctla ocin dcin pmin cdin ctin kVei dcei pmei cdei ctei ocK:Value}{odla anla odin anin odei anei odR odK:Option Xi}{slla slin slei slK slR:Array (Option Value)}{tG tM tL tLi tB t1 t2 t3 t4 tE:Tok}{nRR epK nE:Nat}{esK:Array DictEntry}{jn fst k2:Xi}{j1 j2 j3 tLB:Tok}{odJ odst anst odK2:Option Xi}{nJ epK2:Nat}{slJ slst slK2:Array (Option Value)}{ocst dcst pmst cdst ctst ocK2:Value}{esK2:Array DictEntry}{bd:Xi}
  (aC:nsIn K mainGlobals "Kind" = some (some (.ref C)))
  (aVC:nsIn K mainGlobals "Value" = some (some (.ref VC)))
  (aDC:nsIn K mainGlobals "Reading" = some (some (.ref DC)))
  (aM:nsIn K mainGlobals "MarkError" = some (some (.ref cM)))
  (aX0:nsIn K mainGlobals "BadRows" = some (some (.ref e0)))
  (aX1:nsIn K mainGlobals "BadRest" = some (some (.ref e1)))
  (aX2:nsIn K mainGlobals "BadText" = some (some (.ref e2)))
  (aX3:nsIn K mainGlobals "Unled" = some (some (.ref e3)))
  (aX4:nsIn K mainGlobals "BadRule" = some (some (.ref e4)))
  (aX5:nsIn K mainGlobals "BadName" = some (some (.ref e5)))
  (aX6:nsIn K mainGlobals "BadNumber" = some (some (.ref e6)))
  (aX7:nsIn K mainGlobals "Unlike" = some (some (.ref e7)))
  (aX8:nsIn K mainGlobals "BadPairs" = some (some (.ref e8)))
  (aX9:nsIn K mainGlobals "Never" = some (some (.ref e9)))
  (aX10:nsIn K mainGlobals "Nothing" = some (some (.ref gZ)))
  (z_VE:nsIn K mainGlobals "ValueError" = some none)
  (hwh:DG K "is_whole" Fs)
  (hnm:DG K "is_name" KZ)
  (huo:DG K "union_of" II)
  (hnx:DG K "next_mark" Gf)
  (hoo:DG K "is_one_of" IJ)
  (hno:DG K "is_names_of" E5)
  (hth:DG K "thing_number" DZ)
  (hro:DG K "row_number" E6)
  (hnb:DG K "numbered" Gg)
  (hfi:DG K "first_names" EE)
  (hmK:DM K C "known" "Kind.known" E7)
  (hmT:DM K C "rest" "Kind.rest" Gh)
  (hlc:DG K "_law_cell" IM)
  (hld:DG K "_law_drawn" Gj)
  (hlr:DG K "_law_roll" Fu)
  (hls:DG K "_law_rounds" FB)
  (hll:DG K "_law_lines" CJ)
  (hxn:DG K "is_number" Ea)
  (hxr:DG K "rest_of" Ka)
  (hxi:DM K VC "__init__" "Value.__init__" E8)
  (hxN:DM K VC "number" "Value.number" Db)
  (hlb:DG K "_law_bits_of" FC)
  (hlu:DG K "_law_rule_of" FD)
  (hlt:DG K "_law_table_of" EH)
  (hgl:DG K "is_letter" Gi)
  (hgi:DG K "letters_in" FA)
  (hdS:DM K DC "settle" "Reading.settle" Cj)
  (hdP:DM K DC "take_part" "Reading.take_part" CH)
  (hdB:DM K DC "take_between" "Reading.take_between" Be)
  (hdA:DM K DC "take_ahead" "Reading.take_ahead" By)
  (hdC:DM K DC "take_close" "Reading.take_close" Bz)
  (hdG:DM K DC "take_sign" "Reading.take_sign" CI)
  (hdN:DM K DC "ends" "Reading.ends" Dd)
  (hgj:DG K "joined" Kc)
  (hlm:DG K "_law_made" IN)
  (hlh:DG K "_law_shown" Gk)
  (hln:DG K "_law_number_in" De)
  (hmN:DM K C "number" "Kind.number" Cr)
  (hgf:DG K "is_figures" E9)
  (hgp:DG K "is_part" Kb)
  (hge:DG K "part_end" IK)
  (hgn:DG K "part_number" Ct)
  (hgo:DG K "number_of" Eb)
  (hdI:DM K DC "__init__" "Reading.__init__" Dc)
  (hti:DM K e2 "__init__" "BadText.__init__" DY)
  (hle:DG K "_law_tree" Fv)
  (hlp:DG K "_law_written" Cu)
  (hlf:DG K "_law_formula" EI)
  (hlw:DG K "_law_word" EG)
  (hlo:DG K "_law_told" Aq)
  (hga:DG K "is_table" IL)
  (hrk:DG K "reckoned" DH)
  (hra:DG K "letters" Ft)
  (hmd:DG K "made" OS)
  (hri:DM K e1 "__init__" "BadRest.__init__" DX)
  (hlq:DG K "_law_come" Fw)
  (ain:findIn K (.ref C) "__init__" = some (some (.ref fin)))
  (iin:isFn K (.ref fin)=true)
  (lin:K.lookup fin=some ⟨ocin,odin,.func (fO "__init__" "Kind.__init__" BQ .none (.ref kd) dcin pmin anin cdin ctin),slin⟩)
  (cin:codeIn K cdin "Kind.__init__" = true)
  (kin:keepIn K (.ref fin)=true)
  (ala:nsIn K mainGlobals "law" = some (some (.ref fla)))
  (lla:K.lookup fla=some ⟨ocla,odla,.func (fO "law" "law" Cm .none kVla dcla pmla anla (.ref c) ctla),slla⟩)
  (cla:codeIn K (.ref c) "law" = true)
  (kla:keepIn K (.ref fla)=true)
  (aei:findIn K (.ref cM) "__init__" = some (some (.ref ko)))
  (iei:isFn K (.ref ko)=true)
  (lei:K.lookup ko=some ⟨(.type "function"),odei,.func (fO "__init__" "MarkError.__init__" A8 (.ref dt) kVei dcei pmei anei cdei ctei),slei⟩)
  (cei:codeIn K cdei "MarkError.__init__" = true)
  (kei:keepIn K (.ref ko)=true)
  (kdl:K.lookup kd=some ⟨ocK,odK,.dict esK epK,slK⟩)
  (kde:(esK.all λe=>match e.key with | .str _ _=>true |_=>false)=true)
  (kdr:nsIn K kd "rest" = some (some (.str "bar" tB)))
  (dtl:K.lookup dt=some ⟨.type "tuple", none,.seq #[.str "" tE] nE,#[]⟩)
  (vG:nsIn K mainGlobals "GREATEST" = some (some (.int 1048575 tG)))
  (vM:nsIn K mainGlobals "MOST_ROWS" = some (some (.int 10 tM)))
  (vL:nsIn K mainGlobals "LONGEST_NAME" = some (some (.int 6 tL)))
  (vLi:nsIn K mainGlobals "LIMIT" = some (some (.int 1099511627776 tLi)))
  (vR:nsIn K mainGlobals "RULES" = some (some (.ref aR)))
  (qn:specialIn K (.builtin "object.__class__") "__get__" = some (some (.builtin "getset_descriptor.__get__")))
  (qt:takesIn K (.builtin "object.__class__")=some true)
  (fC:CF K C)
  (fVC:CF K VC)
  (fDC:CF K DC)
  (nC_numbers:findIn K (.ref C) "numbers" = some none)
  (nC_firsts:findIn K (.ref C) "firsts" = some none)
  (nC_rule:findIn K (.ref C) "rule" = some none)
  (nVC_own_kind:findIn K (.ref VC) "own_kind" = some none)
  (nVC_bits:findIn K (.ref VC) "bits" = some none)
  (nDC_steps:findIn K (.ref DC) "steps" = some none)
  (nDC_waiting:findIn K (.ref DC) "waiting" = some none)
  (nDC_wants_part:findIn K (.ref DC) "wants_part" = some none)
  (xm:L2.A4 K cM=true)
  (xc0:L2.A4 K e0=true)
  (xc1:L2.A4 K e1=true)
  (xc2:L2.A4 K e2=true)
  (xc3:L2.A4 K e3=true)
  (y5:XP K (λi=>([e0,e1,e2,e3,e4,e5,e6,e7,e8,e9,gZ]:List Xi).getD i 0) cM e5 ko 5)
  (y6:XP K (λi=>([e0,e1,e2,e3,e4,e5,e6,e7,e8,e9,gZ]:List Xi).getD i 0) cM e6 ko 6)
  (y1:XL K (λi=>([e0,e1,e2,e3,e4,e5,e6,e7,e8,e9,gZ]:List Xi).getD i 0) cM e1 1 "bits")
  (y2:XL K (λi=>([e0,e1,e2,e3,e4,e5,e6,e7,e8,e9,gZ]:List Xi).getD i 0) cM e2 2 "at")
  (xmg:specialIn K (.ref cM) "__getattribute__" = some (some (.builtin "type.__getattribute__")))
  (xmr:readsIn K cM (.type "type")=true)
  (xmf:findCls K (.ref cM) (.type "type") "__init__" = some (.val (.ref ko)))
  (rL:K.lookup aR=some ⟨.type "tuple", odR,.seq #[.str "bar" t1,.str "drop" t2,.str "keep" t3,.str "leave" t4] nRR,slR⟩)
  (z_len:nsIn K mainGlobals "len" = some none)
  (z_isinstance:nsIn K mainGlobals "isinstance" = some none)
  (z_max:nsIn K mainGlobals "max" = some none)
  (z_min:nsIn K mainGlobals "min" = some none)
  (z_range:nsIn K mainGlobals "range" = some none)
  (z_list:nsIn K mainGlobals "list" = some none)
  (z_tuple:nsIn K mainGlobals "tuple" = some none)
  (z_sorted:nsIn K mainGlobals "sorted" = some none)
  (z_sum:nsIn K mainGlobals "sum" = some none)
  (z_all:nsIn K mainGlobals "all" = some none)
  (z_enumerate:nsIn K mainGlobals "enumerate" = some none)
  (z_int:nsIn K mainGlobals "int" = some none)
  (z_bool:nsIn K mainGlobals "bool" = some none)
  (z_str:nsIn K mainGlobals "str" = some none)
  (z_dict:nsIn K mainGlobals "dict" = some none)
  (vBD:nsIn K mainGlobals "BINDING" = some (some (.ref bd)))
  (vJN:nsIn K mainGlobals "JOINING" = some (some (.ref jn)))
  (vLB:nsIn K mainGlobals "LEAST_BINDING" = some (some (.int 1 tLB)))
  (jL:K.lookup jn=some ⟨.type "tuple", odJ,.seq #[.str "&" j1,.str "^" j2,.str "|" j3] nJ,slJ⟩)
  (ast:nsIn K mainGlobals "steps_of" = some (some (.ref fst)))
  (lst:K.lookup fst=some ⟨ocst,odst,.func (fO "steps_of" "steps_of" CM .none (.ref k2) dcst pmst anst cdst ctst),slst⟩)
  (cst:codeIn K cdst "steps_of" = true)
  (kst:keepIn K (.ref fst)=true)
  (k2l:K.lookup k2=some ⟨ocK2,odK2,.dict esK2 epK2,slK2⟩)
  (k2e:(esK2.all λe=>match e.key with | .str _ _=>true |_=>false)=true)
  (k2n:nsIn K k2 "lettered" = some (some (.bool true)))
  : ∃fd:FuncData,(∀(s:Xj) (v:Value),BindsTo s fd ⟨[v],[]⟩ [("_law_script", v)])/\∀base:Heap,K.In base->base.Ns mainGlobals mg->CodeHd base c P0->base.BuiltinsAt mg P0->AZ l.prog w K mg base aL 10 fz fd ["_law_script"] (O1 K P0 bd):=by
 have MG:∀ {x:Str}{v:Value},nsIn K mainGlobals x=some (some v)->mg x=some v:=λh=>mg_of X G h;have MN:∀ {x:Str},nsIn K mainGlobals x=some none->mg x=none:=λh=>mg_none_of X G h;have T:IZ K C:=⟨⟨fC.pg,fC.hd,fC.po,fC.sa⟩,nC_numbers,nC_firsts,nC_rule⟩;have VT:Rk K VC:=⟨⟨fVC.pg,fVC.hd,fVC.po,fVC.sa⟩,nVC_own_kind,nVC_bits⟩;have DT:JK K DC:=⟨⟨fDC.pg,fDC.hd,fDC.po,fDC.sa⟩,nDC_steps,nDC_waiting,nDC_wants_part⟩;have KI:KIsi K C:=⟨⟨fC.pg,fC.hd,fC.po,fC.sa⟩,fC.qa,qn,qt,fC.qm,GH fC.ql fC.qy fC.qs⟩;have VI:KIsi K VC:=⟨⟨fVC.pg,fVC.hd,fVC.po,fVC.sa⟩,fVC.qa,qn,qt,fVC.qm,GH fVC.ql fVC.qy fVC.qs⟩;have mCg:=MG aC;have mVg:=MG aVC;have hLi:=MG vLi;have vI:=GH fVC.ql fVC.qy fVC.qi;have vT:=GH fVC.ql fVC.qy fVC.qt;have qeC:=fC.ne;have qm:=fC.qm;have B:Bl mg:=⟨MN z_len,MN z_isinstance,MN z_max,MN z_min,MN z_range,MN z_list,MN z_tuple,MN z_sorted,MN z_sum,MN z_all,MN z_enumerate,MN z_int,MN z_bool,MN z_str⟩;have rT:∀H:Hp,aX K H aR (ruleNames.map V.str):=λH=>.inr ⟨_,_,_,rL,rfl,rfl,sl4,.cons ⟨_,rfl⟩ (.cons ⟨_,rfl⟩ (.cons ⟨_,rfl⟩ (.cons ⟨_,rfl⟩ .nil)))⟩;have jT:∀H:Hp,aX K H jn [.str "&", .str "^", .str "|"]:=λH=>.inr ⟨_,_,_,jL,rfl,rfl,gO,.cons ⟨_,rfl⟩ (.cons ⟨_,rfl⟩ (.cons ⟨_,rfl⟩ .nil))⟩
 have kdo:nsOkIn K kd=true:=by
  unfold nsOkIn;rw[kdl];exact kde
 have hG:=MG vG;have hM:=MG vM;have hL:=MG vL;have hR:=MG vR;have M:QC mg (λi=>([e0,e1,e2,e3,e4,e5,e6,e7,e8,e9,gZ]:List Xi).getD i 0):=⟨MG aX0,MG aX1,MG aX2,MG aX3,MG aX4,MG aX5,MG aX6,MG aX7,MG aX8,MG aX9,MG aX10,MN z_VE⟩;have EX:Ro K mg (λi=>([e0,e1,e2,e3,e4,e5,e6,e7,e8,e9,gZ]:List Xi).getD i 0) cM:=⟨MG aM,xm,xc0,xc1,xc2,xc3⟩;have EPB:=y5.pl qc rfl qn qt;have EPN:=y6.pl qc rfl qn qt;have EFR:=XL.fl (j:=1) y1 qc rfl qn qt;have EFT:=XL.fl (j:=2) y2 qc rfl qn qt;have Fin:=fun_mk (st:=BQ) lin cin kin;have e:=hfa.symm.trans (MG ala);cases e;have Fla:FunC K "law" "law" Cm fz (fO "law" "law" Cm .none kVla dcla pmla anla (.ref c) ctla) c:=⟨⟨_,_,_,_,_,_,_,_,rfl,lla,cla⟩⟩;have Fei:FunD K "__init__" "MarkError.__init__" A8 ko _:=⟨⟨_,_,_,_,_,_,_,_,_,_,rfl,lei,cei⟩⟩;obtain⟨fwh,dwh,awh,Fwh⟩:=hwh;have bwh:=fH (p1 := "thing") Fwh λ_ _ _ _ _ _ _=>rfl;obtain⟨fnm,dnm,anm,Fnm⟩:=hnm;have bnm:=fH (p1 := "thing") Fnm λ_ _ _ _ _ _ _=>rfl;obtain⟨fuo,duo,auo,Fuo⟩:=huo;have buo:=fH (p1 := "numbers") Fuo λ_ _ _ _ _ _ _=>rfl;obtain⟨fnx,dnx,anx,Fnx⟩:=hnx;have bnx:=fH (p1 := "numbers") Fnx λ_ _ _ _ _ _ _=>rfl;obtain⟨foo,doo,aoo,Foo⟩:=hoo;have boo:=gC (p1 := "thing") (p2 := "names") Foo λ_ _ _ _ _ _ _ _=>rfl;obtain⟨fno,dno,ano,Fno⟩:=hno;have bno:=gC (p1 := "parts") (p2 := "ahead") Fno λ_ _ _ _ _ _ _ _=>rfl;obtain⟨fth,dth,ath,Fth⟩:=hth;have bth:=gC (p1 := "thing") (p2 := "ahead") Fth λ_ _ _ _ _ _ _ _=>rfl;obtain⟨fro,dro,aro,Fro⟩:=hro;have bro:=gC (p1 := "row") (p2 := "ahead") Fro λ_ _ _ _ _ _ _ _=>rfl;obtain⟨fnb,dnb,anb,Fnb⟩:=hnb;have bnb:=fH (p1 := "rows") Fnb λ_ _ _ _ _ _ _=>rfl;obtain⟨ffi,dfi,afi,Ffi⟩:=hfi;have bfi:=fH (p1 := "numbers") Ffi λ_ _ _ _ _ _ _=>rfl;obtain⟨fmK,dmK,amK,imK,omK,FmK⟩:=hmK;have bmK:=fH (p1 := "self") FmK λ_ _ _ _ _ _ _=>rfl;obtain⟨fmT,dmT,amT,imT,omT,FmT⟩:=hmT;have bmT:=fH (p1 := "self") FmT λ_ _ _ _ _ _ _=>rfl;obtain⟨flc,dlc,alc,Flc⟩:=hlc;have blc:=gC (p1 := "_law_script") (p2 := "_law_k") Flc λ_ _ _ _ _ _ _ _=>rfl;obtain⟨fld,dld,ald,Fld⟩:=hld;have bld:=gC (p1 := "_law_cell_here") (p2 := "_law_k") Fld λ_ _ _ _ _ _ _ _=>rfl;obtain⟨flr,dlr,alr,Flr⟩:=hlr;have blr:=gC (p1 := "_law_dice") (p2 := "_law_many") Flr λ_ _ _ _ _ _ _ _=>rfl;obtain⟨fls,dls,als,Fls⟩:=hls;have bls:=gC (p1 := "_law_script") (p2 := "_law_most") Fls λ_ _ _ _ _ _ _ _=>rfl;obtain⟨fll,dll,all,Fll⟩:=hll;have bll:=gC (p1 := "_law_dice") (p2 := "_law_most") Fll λ_ _ _ _ _ _ _ _=>rfl;obtain⟨fxn,dxn,axn,Fxn⟩:=hxn;have bxn:=fH (p1 := "thing") Fxn λ_ _ _ _ _ _ _=>rfl;obtain⟨fxr,dxr,axr,Fxr⟩:=hxr;have bxr:=gC (p1 := "kind") (p2 := "number") Fxr λ_ _ _ _ _ _ _ _=>rfl;obtain⟨fxi,dxi,axi,ixi,oxi,Fxi⟩:=hxi;have bxi:=jr (p1 := "self") (p2 := "kind") (p3 := "number") Fxi λ_ _ _ _ _ _ _ _ _=>rfl;obtain⟨fxN,dxN,axN,g9,oxN,FxN⟩:=hxN;have bxN:=fH (p1 := "self") FxN λ_ _ _ _ _ _ _=>rfl;obtain⟨flb,dlb,alb,Flb⟩:=hlb;have blb:=fH (p1 := "_law_number") Flb λ_ _ _ _ _ _ _=>rfl;obtain⟨flu,dlu,alu,Flu⟩:=hlu;have blu:=fH (p1 := "_law_dice") Flu λ_ _ _ _ _ _ _=>rfl;obtain⟨jN,dlt,alt,Flt⟩:=hlt;have blt:=fH (p1 := "_law_due") Flt λ_ _ _ _ _ _ _=>rfl;obtain⟨fgl,dgl,agl,Fgl⟩:=hgl;have bgl:=fH (p1 := "thing") Fgl λ_ _ _ _ _ _ _=>rfl;obtain⟨fgi,dgi,agi,Fgi⟩:=hgi;have bgi:=fH (p1 := "steps") Fgi λ_ _ _ _ _ _ _=>rfl;obtain⟨fdS,ddS,adS,idS,odS,FdS⟩:=hdS;have bdS:=gC (p1 := "self") (p2 := "binding") FdS λ_ _ _ _ _ _ _ _=>rfl;obtain⟨fdP,ddP,adP,idP,odP,FdP⟩:=hdP;have bdP:=gC (p1 := "self") (p2 := "part") FdP λ_ _ _ _ _ _ _ _=>rfl;obtain⟨fdB,ddB,adB,idB,odB,FdB⟩:=hdB;have bdB:=gC (p1 := "self") (p2 := "sign") FdB λ_ _ _ _ _ _ _ _=>rfl;obtain⟨fdA,ddA,adA,idA,odA,FdA⟩:=hdA;have bdA:=gC (p1 := "self") (p2 := "sign") FdA λ_ _ _ _ _ _ _ _=>rfl;obtain⟨fdC,ddC,adC,idC,odC,FdC⟩:=hdC;have bdC:=fH (p1 := "self") FdC λ_ _ _ _ _ _ _=>rfl;obtain⟨fdG,ddG,adG,idG,odG,FdG⟩:=hdG;have bdG:=gC (p1 := "self") (p2 := "sign") FdG λ_ _ _ _ _ _ _ _=>rfl;obtain⟨fdN,ddN,adN,idN,odN,FdN⟩:=hdN;have bdN:=fH (p1 := "self") FdN λ_ _ _ _ _ _ _=>rfl;obtain⟨fgj,dgj,agj,Fgj⟩:=hgj;have bgj:=jr (p1 := "sign") (p2 := "one") (p3 := "other") Fgj λ_ _ _ _ _ _ _ _ _=>rfl;obtain⟨flm,dlm,alm,Flm⟩:=hlm;have blm:=jr (p1 := "_law_table") (p2 := "_law_way") (p3 := "_law_number") Flm λ_ _ _ _ _ _ _ _ _=>rfl;obtain⟨flh,dlh,alh,Flh⟩:=hlh;have blh:=fH (p1 := "_law_thing") Flh λ_ _ _ _ _ _ _=>rfl;obtain⟨fln,dln,aln,Fln⟩:=hln;have bln:=jr (p1 := "_law_dice") (p2 := "_law_known") (p3 := "_law_way") Fln λ_ _ _ _ _ _ _ _ _=>rfl;obtain⟨fmN,dmN,amN,imN,omN,FmN⟩:=hmN;have bmN:=gC (p1 := "self") (p2 := "name") FmN λ_ _ _ _ _ _ _ _=>rfl;obtain⟨fgf,dgf,agf,Fgf⟩:=hgf;have bgf:=fH (p1 := "text") Fgf λ_ _ _ _ _ _ _=>rfl;obtain⟨fgp,dgp,agp,Fgp⟩:=hgp;have bgp:=gC (p1 := "text") (p2 := "lettered") Fgp λ_ _ _ _ _ _ _ _=>rfl;obtain⟨fge,dge,age,Fge⟩:=hge;have bge:=jr (p1 := "text") (p2 := "at") (p3 := "lettered") Fge λ_ _ _ _ _ _ _ _ _=>rfl;obtain⟨fgn,dgn,agn,Fgn⟩:=hgn;have bgn:=jr (p1 := "kind") (p2 := "part") (p3 := "table") Fgn λ_ _ _ _ _ _ _ _ _=>rfl;obtain⟨fgo,dgo,ago,Fgo⟩:=hgo;have bgo:=jr (p1 := "kind") (p2 := "steps") (p3 := "table") Fgo λ_ _ _ _ _ _ _ _ _=>rfl;obtain⟨fdI,ddI,adI,idI,odI,FdI⟩:=hdI;have bdI:=fH (p1 := "self") FdI λ_ _ _ _ _ _ _=>rfl;obtain⟨fti,dti,ati,iti,oti,Fti⟩:=hti;have bti:=gC (p1 := "self") (p2 := "at") Fti λ_ _ _ _ _ _ _ _=>rfl;obtain⟨fle,dle,ale,Fle⟩:=hle;have ble:=bi4 (p1 := "_law_dice") (p2 := "_law_words") (p3 := "_law_signs") (p4 := "_law_deep") Fle λ_ _ _ _ _ _ _ _ _ _=>rfl;obtain⟨flp,dlp,alp,Flp⟩:=hlp;have blp:=jr (p1 := "_law_dice") (p2 := "_law_tree_here") (p3 := "_law_rank") Flp λ_ _ _ _ _ _ _ _ _=>rfl;obtain⟨flf,dlf,alf,Flf⟩:=hlf;have blf:=jr (p1 := "_law_dice") (p2 := "_law_words") (p3 := "_law_signs") Flf λ_ _ _ _ _ _ _ _ _=>rfl;obtain⟨flw,dlw,alw,Flw⟩:=hlw;have blw:=fH (p1 := "_law_e") Flw λ_ _ _ _ _ _ _=>rfl;obtain⟨flo,dlo,alo,Flo⟩:=hlo;have blo:=fH (p1 := "_law_deed") Flo λ_ _ _ _ _ _ _=>rfl;obtain⟨fga,dga,aga,Fga⟩:=hga;have bga:=fH (p1 := "thing") Fga λ_ _ _ _ _ _ _=>rfl;obtain⟨frk,drk,ark,Frk⟩:=hrk;have brk:=jr (p1 := "kind") (p2 := "text") (p3 := "table") Frk λ_ _ _ _ _ _ _ _ _=>rfl;obtain⟨fra,dra,ara,Fra⟩:=hra;have bra:=fH (p1 := "text") Fra λ_ _ _ _ _ _ _=>rfl;obtain⟨fmd,dmd,amd,Fmd⟩:=hmd;have bmd:=gC (p1 := "kind") (p2 := "number") Fmd λ_ _ _ _ _ _ _ _=>rfl;obtain⟨fri,dri,ari,iri,ori,Fri⟩:=hri;have bri:=gC (p1 := "self") (p2 := "bits") Fri λ_ _ _ _ _ _ _ _=>rfl;obtain⟨flq,dlq,alq,Flq⟩:=hlq;have blq:=bi4 (p1 := "_law_tree_here") (p2 := "_law_numbers") (p3 := "_law_known") (p4 := "_law_letters_to") Flq λ_ _ _ _ _ _ _ _ _ _=>rfl;refine⟨fO "law" "law" Cm .none kVla dcla pmla anla (.ref c) ctla,λs v=>.of_eq Zj,λbase _ _ hC hBu=>?_⟩;have FT:=@fnT l.prog w K mg base;have MT:=@mtT l.prog w K mg base;have Gwh:=FT (sp:=spIsWhole) Fwh (MR Fwh B) (MG awh) bwh;have Gnm:=FT (sp:=spIsName) Fnm (Po Fnm B hL) (MG anm) bnm;have Guo:=FT (sp:=(spUnionOf K)) Fuo (Na Fuo) (MG auo) buo;have Gnx:=FT (sp:=(spNextMark K)) Fnx (Lu Fnx B) (MG anx) bnx;have Goo:=FT (sp:=(DI K)) Foo (Nf Foo B) (MG aoo) boo;have Gno:=FT (sp:=spIsNamesOf) Fno (Ke Fno B Goo) (MG ano) bno;have Gth:=FT (sp:=spThing) Fth (RP Fth B Gnx Gno Guo Gwh) (MG ath) bth;have Gro:=FT (sp:=spRow) Fro (Ut Fro B hG Gnm Gth) (MG aro) bro;have Gnb:=FT (sp:=spNumbered) Fnb (Lw Fnb B hM Gro) (MG anb) bnb;have Gfi:=FT (sp:=spFirsts) Ffi (Pw Ffi) (MG afi) bfi;have GmK:=MT (sp:=(spKnown C)) amK imK FmK (RX FmK B T Guo) bmK;have GmT:=MT (sp:=(spRest C)) amT imT FmT (TW FmT T) bmT;have Glc:=FT (sp:=(spCell K)) Flc (TQ Flc B) (MG alc) blc;have Gld:=FT (sp:=spDrawn) Fld (RZ Fld) (MG ald) bld;have Glr:=FT (sp:=dH) Flr (TR Flr Gld) (MG alr) blr;have Gls:=FT (sp:=(spRounds K)) Fls (P2 Fls B Glc) (MG als) bls;have Gll:=FT (sp:=spLines) Fll (Rh Fll B Glr) (MG all) bll;have Gxn:=FT (sp:=spIsNumber) Fxn (Kk Fxn hLi (FT (sp:=EO K) Fwh (Gv Fwh B) (MG awh) bwh)) (MG axn) bxn;have Gxr:=FT (sp:=(spRestOf C)) Fxr (P9 Fxr T GmK) (MG axr) bxr;have Gxi:=MT (sp:=(spVInit C VC)) axi ixi Fxi (MO Fxi T VT Gxn Gxr GmT) bxi;have GxN:=MT (sp:=(spVNumber VC)) axN g9 FxN (Nm FxN VT) bxN;have Glb:=FT (sp:=spBitsOf) Flb (P3 Flb B) (MG alb) blb;have Glu:=FT (sp:=spRuleOf) Flu (P1 Flu Glr) (MG alu) blu;have Glt:=FT (sp:=spTable) Flt (Rj Flt B Glb) (MG alt) blt;have Ggl:=FT (sp:=(spLet K)) Fgl (VD Fgl B) (MG agl) bgl;have Ggi:=FT (sp:=spLi) Fgi (WS Fgi B Ggl) (MG agi) bgi;have GdS:=MT (sp:=(spSet DC bd)) adS idS FdS (VH FdS B DT (MG vBD)) bdS;have GdP:=MT (sp:=(spTP DC)) adP idP FdP (WC FdP DT) bdP;have GdB:=MT (sp:=(spTB DC bd)) adB idB FdB (WH FdB DT (MG vBD) (MG vJN) jT GdS) bdB;have GdA:=MT (sp:=(spTA DC)) adA idA FdA (WI FdA DT) bdA;have GdC:=MT (sp:=(spTC DC bd)) adC idC FdC (WJ FdC B DT (MG vLB) GdS) bdC;have GdG:=MT (sp:=(spTS DC bd)) adG idG FdG (WK FdG DT GdB GdA GdC) bdG;have GdN:=MT (sp:=(spEnds DC bd)) adN idN FdN (Tj FdN B DT (MG vLB) GdS) bdN;have Ggj:=FT (sp:=spJn) Fgj (WN Fgj) (MG agj) bgj;have Glm:=FT (sp:=spLMade) Flm (Rt Flm) (MG alm) blm;have Glh:=FT (sp:=(Ki VC)) Flh (Ru Flh B VT VI mVg vI vT GxN) (MG alh) blh;have Gln:=FT (sp:=spNumberIn) Fln (MZ Fln Glr) (MG aln) bln;have GW:FnS l.prog w K mg base "_law_word" 1 ["_law_e"] (Dk K (λi=>([e0,e1,e2,e3,e4,e5,e6,e7,e8,e9,gZ]:List Xi).getD i 0)):=⟨⟨_,_,Ta Flw B M,MG alw,Flw.kp,blw⟩⟩;have KO:SJ l.prog w K mg base C:=⟨T,mCg,⟨_,_,⟨fC.mz,ain,iin,fC.kc⟩,TM Fin B T hR rT Gnb Gfi Goo,⟨_,Tp⟩,_,Vh kdo kdr,.cons ⟨_,rfl⟩ .nil⟩⟩;have ME:U8 l.prog w K mg base cM:=⟨MG aM,xmg,xmr,⟨_,_,xmf,FJ Fei (MN z_VE),kei,SL dtl⟩⟩;have EO5:Oc l.prog w K mg base "BadName" e5:=⟨MG aX5,⟨_,_,⟨y5.F.cx,y5.i,iei,⟨_,lei,rfl⟩,y5.F.ke⟩,FJ Fei (MN z_VE),SL dtl⟩⟩;have EO6:Oc l.prog w K mg base "BadNumber" e6:=⟨MG aX6,⟨_,_,⟨y6.F.cx,y6.i,iei,⟨_,lei,rfl⟩,y6.F.ke⟩,FJ Fei (MN z_VE),SL dtl⟩⟩;have VO:T7 l.prog w K mg base C VC:=⟨VT,mVg,⟨_,_,⟨fVC.mz,axi,ixi,fVC.kc⟩,MO Fxi T VT Gxn Gxr GmT,bxi⟩⟩;have GwX:=FT (sp:=EO K) Fwh (Gv Fwh B) (MG awh) bwh;have GnG:=FT (sp:=Kj K) Fxn (Og Fxn hLi GwX) (MG axn) bxn;have Ggf:=FT (sp:=spFig) Fgf (VB Fgf B GnG) (MG agf) bgf;have Ggp:=FT (sp:=spPart) Fgp (Tf Fgp Gnm Ggf Ggl) (MG agp) bgp;have Gge:=FT (sp:=spPE) Fge (Tg Fge B Ggp) (MG age) bge;have TX:Of l.prog w K mg base cM e2:=⟨MG aX2,⟨_,_,⟨xc2,ati,iti,oti,y2.F.ke⟩,MQ Fti ME,bti⟩,O4 y2.s y2.gn y2.gs⟩;have RD:WL l.prog w K mg base DC bd:=⟨DT,MG aDC,⟨_,_,⟨fDC.mz,adI,idI,fDC.kc⟩,VF FdI DT,bdI⟩,GdP,GdG,GdN⟩;have Fst:=fun_mk (st:=CM) lst cst kst
 have k2o:nsOkIn K k2=true:=by
  unfold nsOkIn;rw[k2l];exact k2e
 have SO:VM l.prog w K mg base DC bd e2:=⟨⟨_,_,WM Fst B RD TX Gge,MG ast,kst,_,Tq k2o k2n,.cons rfl .nil⟩⟩;have GmN:WP l.prog w K mg base C "number" 3 ["self", "name"] (spKN C e5):=⟨⟨_,_,WO FmN T EO5 Goo,⟨amN,imN,FmN.kp⟩,bmN⟩⟩;have Ggn:ju l.prog w K mg base "part_number" 4 ["kind", "part", "table"] (spPN C e5):=⟨⟨_,_,WQ Fgn B T Ggl Gnm GmN,MG agn,Fgn.kp,bgn⟩⟩;have Ggo:ju l.prog w K mg base "number_of" 5 ["kind", "steps", "table"] (spNo C e5):=⟨⟨_,_,WR Fgo T (MG vJN) jT GmK Ggj Ggn,MG ago,Fgo.kp,bgo⟩⟩;have Gle:Fn l.prog w K mg base "_law_tree" 6 Iv (spTree 3):=⟨⟨_,_,Ov Fle B (MG ale) ble Glr 3,MG ale,Fle.kp,ble⟩⟩;have Glp:Fn l.prog w K mg base "_law_written" 6 Nt (spWrt 3):=⟨⟨_,_,SC Flp B (MG alp) blp Glr 3,MG alp,Flp.kp,blp⟩⟩;have Glf:Fn l.prog w K mg base "_law_formula" 7 Ox spForm:=⟨⟨_,_,Tm Flf B Gle Glp,MG alf,Flf.kp,blf⟩⟩;have RO:Rr l.prog w K mg base cM e1:=⟨MG aX1,⟨_,_,⟨xc1,ari,iri,ori,y1.F.ke⟩,MP Fri ME,bri⟩,O4 y1.s y1.gn y1.gs⟩;have Gmd:ju l.prog w K mg base "made" 6 ["kind", "number"] (spMade C VC e1):=⟨⟨_,_,Td Fmd hLi T VO RO Gwh Gxr GmT,MG amd,Fmd.kp,bmd⟩⟩;have Gga:=FT (sp:=spTab K) Fga (VL Fga B (MN z_dict) Ggl GnG) (MG aga) bga;have Grk:ju l.prog w K mg base "reckoned" 7 ["kind", "text", "table"] (gE K C VC e1 e5 e6 bd e2):=⟨⟨_,_,WV Frk B EO6 SO Ggi Gga Ggo Gmd,MG ark,Frk.kp,brk⟩⟩;have Gra:ju l.prog w K mg base "letters" 7 ["text"] (spLs K bd e2):=⟨⟨_,_,WU Fra SO Ggi,MG ara,Fra.kp,bra⟩⟩;have GrB:=FT (sp:=spRollB) Flr (MA Flr Gld) (MG alr) blr;have Glq:Fn l.prog w K mg base "_law_come" 5 Ix (spCome 3):=⟨⟨_,_,Oz Flq (MG alq) blq 3,MG alq,Flq.kp,blq⟩⟩;exact Vg Fla Flo (MG alo) blo hC hBu B (MN z_dict) KO M EX GW Zj EFR EFT EPB EPN Gls Gll Glu Glt GrB Gln Glf Glq Glm Glh Grk Gra
def walk {l:OpenLaw}{q:Program}{loose:Xf}{XP:(Str->Option Value)->Heap->Prop}{YP:World->Heap->Prop}{d:DefRec}{K:Params->Frag}{c P0 bd:Xi}{dl:List DcE}{ep:Nat} (hn:l.most=some 63) (hdf:d.params.defaults=[]) (hb5:5<=bd) (hdl:dl.length<=1000) (gH:(dl.map (·.1)).Nodup) (he:gS dl=CO)
  (hY:∀(w:World) (h:Heap),YP w h->(K w.params).In h/\h.get? P0=some (tabObj #[])/\(K w.params).lookup P0=none/\CodeHd h c P0/\h.get? bd=some (dcObj w.params dl ep)/\(K w.params).lookup bd=none)
  (F:∀(w:World) (mg:SV) (fa:Xi) (h:Heap),(K w.params).In h->h.Ns mainGlobals mg->mg d.name=some (.ref fa) ->
   ∃fd:FuncData,(∀(s:Xj) (u:Value),BindsTo s fd ⟨[u],[]⟩ [("_law_script", u)])/\∀base:Heap,(K w.params).In base->base.Ns mainGlobals mg->CodeHd base c P0->base.BuiltinsAt mg P0->AZ l.prog w (K w.params) mg base aL 10 fa fd ["_law_script"] (O1 (K w.params) P0 bd)) :
  WalkO q loose XP YP l.row.toRowW d [] (λf vs=>PySem.call f vs) :=
 L2.Pf (n:=63) (k:=10) (x := "_law_script") (CX:=λ_=>aL) (sp:=λw=>O1 (K w.params) P0 bd) hn qc hdf ⟨rfl,qc,qc⟩ hb5 hdl gH hY F
  (λ_ _ a ns hl hP hB hS=>⟨a,ns,rfl,hS,hl,⟨#[],hP,trivial,λ_ _=>.inl rfl⟩,he ▸ hB,λ_=>rfl⟩) λ_ _ _ _ _ z=>z
end Mk
end
section
namespace Hd
open PySem PySem.W PySem.Calls PyProof.Rows
def runT (tb:String->Option Builtin) (p:Program) (w:World) (n₀:Nat) (ann:Option Value):Nat->SharedT->Thread->Option SharedT
 |0,_,_=>none
 |n + 1,s,t=>match through t with
  |true=>some s
  |false=>match stepOk n₀ ann t with
   |false=>none
   |true=>match stepT (denote tb) p w s t with
    |some (s',t')=>runT tb p w n₀ ann n s' t'
    |none=>none
theorem runT_of {tb:String->Option Builtin}{p:Program}{w:World}{n₀:Nat}{ann:Option Value}:∀ {n:Nat}{s s':SharedT}{t:Thread},runT tb p w n₀ ann n s t=some s'->topRun tb p w n₀ ann n s.abs t=some s'.abs
 |0,_,_,_,h=>by cases h
 |n + 1,s,s',t,h=>by
  unfold runT at h
  unfold topRun
  cases ht:through t with
  |true=>rw[ht]at h;cases h;rfl
  |false=>
   rw[ht]at h
   cases hk:stepOk n₀ ann t with
   |false=>rw[hk]at h;cases h
   |true=>
    rw[hk]at h
    cases hs:stepT (denote tb) p w s t with
    |none=>rw[hs]at h;cases h
    |some r=>obtain⟨s₂,t₂⟩:=r;rw[hs]at h;rw[stepT_spec hs];exact runT_of h
def looksAt (p q:Program) (loose:List Str) (Xt:Shared->Bool) (as:List Addr) (h₀:Heap) (s:Shared):=
 (staticsOk (importedModules p.main.body) h₀ s.heap&&namesBound p s.heap&&gensDone s&&laidKept h₀ s.heap,openSeen q loose (importedModules p.main.body) Xt true s,as.map s.heap.get?)
theorem left_of {p q:Program}{loose:List Str}{Xt:Shared->Bool}{as:List Addr}{K:Params->Frag}{N M m₀:Nat}{ann:Option Value}{T0:Params->BT}{life:Life}
  (open_:∀w:World,(fencedOpening treeTable p w N).map (fun s=>(s.heap,s.gens,s.drawn,s.toks))=some (boot_heap w.params,#[],boot_drawn,boot_toks))
  (tree:∀P:Params,absHeap (T0 P) m₀ life=boot_heap P)
  (size:∀w:World,((boot_heap w.params).isNs mainGlobals,(boot_heap w.params).objs.size,(boot_heap w.params).nsMap mainGlobals "__annotations__")=(true,m₀,ann))
  (le:Nat.ble M N=true)
  (run:∀(w:World) (os:OsState),(runT treeTable p w m₀ ann M ⟨T0 w.params,m₀,life,#[],boot_drawn,boot_toks,os⟩ (topStub p)).map (fun s=>looksAt p q loose Xt as (boot_heap w.params) s.abs)=some (true,openGood q loose,(K w.params).map fun x=>some x.2)) :
  LeftO p q loose Xt (fun s=>as.map s.heap.get?) (fun w=>(K w.params).map fun x=>some x.2) N:=fun w=>by
 obtain⟨⟨h,gs,d,k,os⟩,e,e'⟩:=Option.map_eq_some_iff.mp (open_ w)
 obtain⟨rfl,rfl,rfl,rfl⟩:h=boot_heap w.params /\ gs=#[] /\ d=boot_drawn /\ k=boot_toks:=by simpa using e'
 obtain⟨z1,z2,z3⟩:_ /\ _ /\ _:=by simpa only[Prod.mk.injEq]using size w
 obtain⟨sT,r1,r2⟩:=Option.map_eq_some_iff.mp (run w os)
 have r3:=runT_of r1
 have r4:topRun treeTable p w m₀ ann M ⟨boot_heap w.params,#[],boot_drawn,boot_toks,os⟩ (topStub p)=some sT.abs:=by
  rw[←tree w.params]
  exact r3
 have r:=topRun_mono (N - M) _ _ _ _ r4
 rw[show M + (N - M)=N by have:=Nat.le_of_ble_eq_true le;omega]at r
 unfold looksAt at r2
 obtain⟨l1,l2,l3⟩:_ /\ _ /\ _:=by simpa only[Prod.mk.injEq]using r2
 have t:topFrom treeTable p w N ⟨boot_heap w.params,#[],boot_drawn,boot_toks,os⟩=some sT.abs:=by
  unfold topFrom
  dsimp only
  rw[z1,z2,z3,r]
  show(match staticsOk (importedModules p.main.body) (boot_heap w.params) sT.abs.heap&&namesBound p sT.abs.heap&&gensDone sT.abs&&laidKept (boot_heap w.params) sT.abs.heap with |true=>_ |false=>_)=_
  rw[l1]
 unfold openEnds
 rw[e]
 show(topFrom treeTable p w N _).map _=_
 rw[t]
 exact congrArg some (Prod.ext l2 l3)
end Hd
end
noncomputable section
open PySem PySem.W PySem.Calls PyProof.Rows
abbrev Mk.fS (x q:Str) (s:Stmt) (dV kV doc pm:Value) (an:Option Addr) (cd ct:Value):FuncData:=fnOf x q (L2.defArgs s) (L2.defBody s) (L2.defScope s) dV kV doc pm an cd ct
abbrev Xk (x:Str) (a:Nat) (q:Str) (b c:Nat) (d e f g h:Int) (i j l m n:Nat) (o p:Int) (r:Nat):Obj:=⟨.type "code", none,.fields #[.str x a,.str q b,.str "/claim/cut.py" c,.int d 0,.int e 0,.int f 0,.int g 0,.int h 0,.ref i,.bool true,.int 181 0,.ref j,.none,.ref l,.ref m,.ref n,.int o 0,.int p 0,.str "/claim/cut.py" r],#[]⟩
abbrev Xl (P:PySem.Params) (x:Str) (t:Nat) (v:Value):DictEntry:=⟨PyData.keyHash P x,.str x t,v⟩
abbrev Mk.fN (x q:Str) (s:Stmt) (m:Str) (t c:Nat):Obj:=⟨.type "function", none,.func (Mk.fS x q s .none .none .none (.str m t) none (.ref c) .none),#[]⟩
abbrev Mk.eC (x:Str) (a b c d e f:Nat):Obj:=⟨.type "type", none,.cls ⟨x,[.ref a],[.ref b,.ref a,.type "ValueError", .type "Exception", .type "BaseException", .type "object"],c,x,true,[],[],false,none,false⟩,#[some (.ref d),none,some (.str x e),some (.str x f),some (.builtin "ValueError.__new__"),some (.bool true)]⟩
noncomputable def Mk.Kg (P:PySem.Params):PySem.W.Frag:=
 (nat_lit 2,⟨.none,none,(.dict #[] 0),#[]⟩)::(nat_lit 3,⟨.type "dict",none,(.dict #[Xl P "__name__" 165 (.str "law_markworks_k33_whole_reckoned" 950),Xl P "__doc__" 166 .none,Xl P "__package__" 167 .none,Xl P "__loader__" 168 (.builtin "__main__.__loader__#opaque"),Xl P "__spec__" 169 .none,Xl P "__annotations__" 170 (.ref 6),Xl P "__builtins__" 171 (.ref 4),Xl P "__file__" 173 (.str "/claim/cut.py" 172),Xl P "__cached__" 174 .none,Xl P "MarkError" 215 (.ref 32),Xl P "BadRows" 240 (.ref 52),Xl P "BadRule" 256 (.ref 64),Xl P "BadName" 272 (.ref 76),Xl P "BadNumber" 288 (.ref 88),Xl P "BadRest" 313 (.ref 107),Xl P "Unlike" 329 (.ref 119),Xl P "BadText" 354 (.ref 138),Xl P "BadPairs" 370 (.ref 150),Xl P "Never" 386 (.ref 162),Xl P "Unled" 411 (.ref 181),Xl P "Nothing" 427 (.ref 193),Xl P "GREATEST" 435 (.int 1048575 434),Xl P "MOST_ROWS" 437 (.int 10 436),Xl P "LONGEST_NAME" 439 (.int 6 438),Xl P "RULES" 444 (.ref 196),Xl P "is_whole" 451 (.ref 203),Xl P "is_name" 457 (.ref 208),Xl P "is_mark" 464 (.ref 215),Xl P "union_of" 473 (.ref 222),Xl P "is_one_of" 481 (.ref 229),Xl P "mark_bits" 487 (.ref 234),Xl P "next_mark" 494 (.ref 241),Xl P "is_names_of" 500 (.ref 246),Xl P "thing_number" 506 (.ref 251),Xl P "row_number" 517 (.ref 258),Xl P "numbered" 528 (.ref 265),Xl P "first_names" 538 (.ref 272),Xl P "Kind" 636 (.ref 349),Xl P "LIMIT" 642 (.int 1099511627776 641),Xl P "is_number" 649 (.ref 360),Xl P "rest_of" 657 (.ref 367),Xl P "Value" 731 (.ref 424),Xl P "made" 741 (.ref 435),Xl P "JOINING" 747 (.ref 436),Xl P "BINDING" 763 (.ref 437),Xl P "LEAST_BINDING" 765 (.int 1 764),Xl P "is_letter" 772 (.ref 444),Xl P "is_figures" 778 (.ref 449),Xl P "is_part" 786 (.ref 456),Xl P "part_end" 796 (.ref 463),Xl P "Reading" 880 (.ref 529),Xl P "steps_of" 892 (.ref 541),Xl P "letters_in" 898 (.ref 546),Xl P "joined" 907 (.ref 553),Xl P "part_number" 916 (.ref 560),Xl P "number_of" 928 (.ref 567),Xl P "is_table" 936 (.ref 572),Xl P "reckoned" 942 (.ref 577),Xl P "letters" 949 (.ref 584),Xl P "_law_cell" 959 (.ref 591),Xl P "_law_drawn" 968 (.ref 598),Xl P "_law_roll" 977 (.ref 605),Xl P "_law_rounds" 983 (.ref 610),Xl P "_law_word" 989 (.ref 615),Xl P "_law_told" 997 (.ref 622),Xl P "_law_bits_of" 1003 (.ref 627),Xl P "_law_rule_of" 1010 (.ref 634),Xl P "_law_lines" 1016 (.ref 639),Xl P "_law_table_of" 1022 (.ref 644),Xl P "_law_number_in" 1032 (.ref 651),Xl P "_law_made" 1043 (.ref 658),Xl P "_law_shown" 1050 (.ref 665),Xl P "_law_tree" 1062 (.ref 672),Xl P "_law_written" 1074 (.ref 679),Xl P "_law_come" 1086 (.ref 686),Xl P "_law_formula" 1097 (.ref 693),Xl P "law" 1103 (.ref 698)] 77),#[]⟩)::(nat_lit 22,⟨.type "tuple",none,(.seq #[(.str "" 201)] 0),#[]⟩)::(nat_lit 28,Xk "__init__" 202 "MarkError.__init__" 203 204 4 2 0 0 3 23 24 25 26 27 207 4 208)::(nat_lit 29,⟨.type "function",none,(.func (Mk.fS "__init__" "MarkError.__init__" (L2.inClass (Mk.top 1) 0) (.ref 22) .none .none (.str "markworks.errors" 187) none (.ref 28) .none)),#[]⟩)::(nat_lit 31,⟨.type "dict",none,(.dict #[Xl P "__module__" 196 (.str "markworks.errors" 187),Xl P "__firstlineno__" 200 (.int 2 199),Xl P "__init__" 209 (.ref 29),Xl P "__static_attributes__" 210 (.ref 30),Xl P "__weakref__" 212 (.ref 33),Xl P "__doc__" 213 .none] 3),#[]⟩)::(nat_lit 32,⟨.type "type",none,(.cls ⟨"MarkError", [(.type "ValueError")],[(.ref 32),(.type "ValueError"),(.type "Exception"),(.type "BaseException"),(.type "object")],31, "MarkError", true,[],[(.ref 52),(.ref 64),(.ref 76),(.ref 88),(.ref 107),(.ref 119),(.ref 138),(.ref 150),(.ref 162),(.ref 181),(.ref 193)],false,none,false⟩),#[(some (.ref 15)),none,(some (.str "MarkError" 189)),(some (.str "MarkError" 197)),(some (.builtin "ValueError.__new__")),(some (.bool true))]⟩)::(nat_lit 52,Mk.eC "BadRows" 32 52 51 36 216 224)::(nat_lit 64,Mk.eC "BadRule" 32 64 63 55 241 249)::(nat_lit 75,⟨.type "dict",none,(.dict #[Xl P "__module__" 264 (.str "markworks.errors" 187),Xl P "__firstlineno__" 268 (.int 13 267),Xl P "__static_attributes__" 269 (.ref 74),Xl P "__doc__" 270 .none] 2),#[]⟩)::(nat_lit 76,Mk.eC "BadName" 32 76 75 67 257 265)::(nat_lit 87,⟨.type "dict",none,(.dict #[Xl P "__module__" 280 (.str "markworks.errors" 187),Xl P "__firstlineno__" 284 (.int 15 283),Xl P "__static_attributes__" 285 (.ref 86),Xl P "__doc__" 286 .none] 2),#[]⟩)::(nat_lit 88,Mk.eC "BadNumber" 32 88 87 79 273 281)::(nat_lit 103,Xk "__init__" 301 "BadRest.__init__" 302 303 19 2 0 0 3 98 99 100 101 102 306 19 307)::(nat_lit 104,Mk.fN "__init__" "BadRest.__init__" (L2.inClass (Mk.top 6) 0) "markworks.errors" 187 103)::(nat_lit 106,⟨.type "dict",none,(.dict #[Xl P "__module__" 296 (.str "markworks.errors" 187),Xl P "__firstlineno__" 300 (.int 17 299),Xl P "__init__" 308 (.ref 104),Xl P "__static_attributes__" 310 (.ref 105),Xl P "__doc__" 311 .none] 2),#[]⟩)::(nat_lit 107,Mk.eC "BadRest" 32 107 106 91 289 297)::(nat_lit 119,Mk.eC "Unlike" 32 119 118 110 314 322)::(nat_lit 134,Xk "__init__" 342 "BadText.__init__" 343 344 26 2 0 0 3 129 130 131 132 133 347 26 348)::(nat_lit 135,Mk.fN "__init__" "BadText.__init__" (L2.inClass (Mk.top 8) 0) "markworks.errors" 187 134)::(nat_lit 137,⟨.type "dict",none,(.dict #[Xl P "__module__" 337 (.str "markworks.errors" 187),Xl P "__firstlineno__" 341 (.int 24 340),Xl P "__init__" 349 (.ref 135),Xl P "__static_attributes__" 351 (.ref 136),Xl P "__doc__" 352 .none] 2),#[]⟩)::(nat_lit 138,Mk.eC "BadText" 32 138 137 122 330 338)::(nat_lit 150,Mk.eC "BadPairs" 32 150 149 141 355 363)::(nat_lit 162,Mk.eC "Never" 32 162 161 153 371 379)::(nat_lit 181,Mk.eC "Unled" 32 181 180 165 387 395)::(nat_lit 193,Mk.eC "Nothing" 32 193 192 184 412 420)::(nat_lit 196,⟨.type "tuple",none,(.seq #[(.str "bar" 440),(.str "drop" 441),(.str "keep" 442),(.str "leave" 443)] 0),#[]⟩)::(nat_lit 202,Xk "is_whole" 445 "is_whole" 446 447 45 1 0 0 3 197 198 199 200 201 449 45 450)::(nat_lit 203,Mk.fN "is_whole" "is_whole" (Mk.top 18) "markworks.kinds" 428 202)::(nat_lit 207,⟨.type "code",none,(.fields #[(.str "is_name" 452),(.str "is_name" 453),(.str "/claim/cut.py" 454),(.int 47 0),(.int 1 0),(.int 0 0),(.int 0 0),(.int 3 0),(.ref 204),(.bool true),(.int 181 0),(.ref 205),.none,.none,.none,(.ref 206),(.int 455 0),(.int 47 0),(.str "/claim/cut.py" 456)]),#[]⟩)::(nat_lit 208,Mk.fN "is_name" "is_name" (Mk.top 19) "markworks.kinds" 428 207)::(nat_lit 221,Xk "union_of" 465 "union_of" 466 467 53 1 0 0 3 216 217 218 219 220 471 53 472)::(nat_lit 222,Mk.fN "union_of" "union_of" (Mk.top 21) "markworks.kinds" 428 221)::(nat_lit 228,Xk "is_one_of" 474 "is_one_of" 475 476 58 2 0 0 3 223 224 225 226 227 479 58 480)::(nat_lit 229,Mk.fN "is_one_of" "is_one_of" (Mk.top 22) "markworks.kinds" 428 228)::(nat_lit 240,Xk "next_mark" 488 "next_mark" 489 490 62 1 0 0 3 235 236 237 238 239 492 62 493)::(nat_lit 241,Mk.fN "next_mark" "next_mark" (Mk.top 24) "markworks.kinds" 428 240)::(nat_lit 245,⟨.type "code",none,(.fields #[(.str "is_names_of" 495),(.str "is_names_of" 496),(.str "/claim/cut.py" 497),(.int 64 0),(.int 2 0),(.int 0 0),(.int 0 0),(.int 3 0),(.ref 242),(.bool true),(.int 181 0),(.ref 243),.none,.none,.none,(.ref 244),(.int 498 0),(.int 64 0),(.str "/claim/cut.py" 499)]),#[]⟩)::(nat_lit 246,Mk.fN "is_names_of" "is_names_of" (Mk.top 25) "markworks.kinds" 428 245)::(nat_lit 250,⟨.type "code",none,(.fields #[(.str "thing_number" 501),(.str "thing_number" 502),(.str "/claim/cut.py" 503),(.int 66 0),(.int 2 0),(.int 0 0),(.int 0 0),(.int 3 0),(.ref 247),(.bool true),(.int 181 0),(.ref 248),.none,.none,.none,(.ref 249),(.int 504 0),(.int 66 0),(.str "/claim/cut.py" 505)]),#[]⟩)::(nat_lit 251,Mk.fN "thing_number" "thing_number" (Mk.top 26) "markworks.kinds" 428 250)::(nat_lit 257,Xk "row_number" 507 "row_number" 508 509 74 2 0 0 3 252 253 254 255 256 515 74 516)::(nat_lit 258,Mk.fN "row_number" "row_number" (Mk.top 27) "markworks.kinds" 428 257)::(nat_lit 264,Xk "numbered" 518 "numbered" 519 520 84 1 0 0 3 259 260 261 262 263 526 84 527)::(nat_lit 265,Mk.fN "numbered" "numbered" (Mk.top 28) "markworks.kinds" 428 264)::(nat_lit 271,Xk "first_names" 529 "first_names" 530 531 94 1 0 0 3 266 267 268 269 270 536 94 537)::(nat_lit 272,Mk.fN "first_names" "first_names" (Mk.top 29) "markworks.kinds" 428 271)::(nat_lit 280,⟨.type "dict",none,(.dict #[Xl P "rest" 552 (.str "bar" 551)] 1),#[]⟩)::(nat_lit 286,Xk "__init__" 553 "Kind.__init__" 554 555 101 2 0 1 3 281 282 283 284 285 559 101 560)::(nat_lit 287,⟨.type "function",none,(.func (Mk.fS "__init__" "Kind.__init__" (L2.inClass (Mk.top 30) 0) .none (.ref 280) .none (.str "markworks.kinds" 428) none (.ref 286) .none)),#[]⟩)::(nat_lit 300,Xk "number" 569 "Kind.number" 570 571 111 2 0 0 3 295 296 297 298 299 574 111 575)::(nat_lit 301,Mk.fN "number" "Kind.number" (L2.inClass (Mk.top 30) 2) "markworks.kinds" 428 300)::(nat_lit 324,Xk "known" 596 "Kind.known" 597 598 126 1 0 0 3 319 320 321 322 323 600 126 601)::(nat_lit 325,Mk.fN "known" "Kind.known" (L2.inClass (Mk.top 30) 6) "markworks.kinds" 428 324)::(nat_lit 331,Xk "rest" 603 "Kind.rest" 604 605 129 1 0 0 3 326 327 328 329 330 607 129 608)::(nat_lit 332,Mk.fN "rest" "Kind.rest" (L2.inClass (Mk.top 30) 7) "markworks.kinds" 428 331)::(nat_lit 348,⟨.type "dict",none,(.dict #[Xl P "__module__" 546 (.str "markworks.kinds" 428),Xl P "__firstlineno__" 550 (.int 99 549),Xl P "__init__" 561 (.ref 287),Xl P "rows" 568 (.ref 294),Xl P "number" 576 (.ref 301),Xl P "names" 583 (.ref 308),Xl P "aliases" 589 (.ref 313),Xl P "marks" 595 (.ref 318),Xl P "known" 602 (.ref 325),Xl P "rest" 609 (.ref 332),Xl P "__eq__" 617 (.ref 339),Xl P "__len__" 624 (.ref 346),Xl P "__static_attributes__" 628 (.ref 347),Xl P "__dict__" 630 (.ref 350),Xl P "__weakref__" 632 (.ref 351),Xl P "__doc__" 633 .none,Xl P "__hash__" 634 .none] 5),#[]⟩)::(nat_lit 349,⟨.type "type",none,(.cls ⟨"Kind", [(.type "object")],[(.ref 349),(.type "object")],348, "Kind", true,[],[],false,none,false⟩),#[none,none,(some (.str "Kind" 539)),(some (.str "Kind" 547)),(some (.builtin "object.__new__")),(some (.bool true))]⟩)::(nat_lit 359,Xk "is_number" 643 "is_number" 644 645 139 1 0 0 3 354 355 356 357 358 647 139 648)::(nat_lit 360,Mk.fN "is_number" "is_number" (Mk.top 33) "markworks.values" 637 359)::(nat_lit 366,Xk "rest_of" 650 "rest_of" 651 652 141 2 0 0 3 361 362 363 364 365 655 141 656)::(nat_lit 367,Mk.fN "rest_of" "rest_of" (Mk.top 34) "markworks.values" 637 366)::(nat_lit 380,Xk "__init__" 670 "Value.__init__" 671 672 145 3 0 0 3 375 376 377 378 379 676 145 677)::(nat_lit 381,Mk.fN "__init__" "Value.__init__" (L2.inClass (Mk.top 35) 0) "markworks.values" 637 380)::(nat_lit 387,Xk "number" 679 "Value.number" 680 681 153 1 0 0 3 382 383 384 385 386 683 153 684)::(nat_lit 388,Mk.fN "number" "Value.number" (L2.inClass (Mk.top 35) 1) "markworks.values" 637 387)::(nat_lit 423,⟨.type "dict",none,(.dict #[Xl P "__module__" 665 (.str "markworks.values" 637),Xl P "__firstlineno__" 669 (.int 143 668),Xl P "__init__" 678 (.ref 381),Xl P "number" 685 (.ref 388),Xl P "kind" 692 (.ref 395),Xl P "marks" 698 (.ref 400),Xl P "rest" 705 (.ref 407),Xl P "__eq__" 713 (.ref 414),Xl P "__len__" 720 (.ref 421),Xl P "__static_attributes__" 723 (.ref 422),Xl P "__dict__" 725 (.ref 425),Xl P "__weakref__" 727 (.ref 426),Xl P "__doc__" 728 .none,Xl P "__hash__" 729 .none] 5),#[]⟩)::(nat_lit 424,⟨.type "type",none,(.cls ⟨"Value", [(.type "object")],[(.ref 424),(.type "object")],423, "Value", true,[],[],false,none,false⟩),#[none,none,(some (.str "Value" 658)),(some (.str "Value" 666)),(some (.builtin "object.__new__")),(some (.bool true))]⟩)::(nat_lit 434,Xk "made" 732 "made" 733 734 170 2 0 0 3 429 430 431 432 433 739 170 740)::(nat_lit 435,Mk.fN "made" "made" (Mk.top 36) "markworks.values" 637 434)::(nat_lit 436,⟨.type "tuple",none,(.seq #[(.str "&" 744),(.str "^" 745),(.str "|" 746)] 0),#[]⟩)::(nat_lit 443,Xk "is_letter" 766 "is_letter" 767 768 186 1 0 0 3 438 439 440 441 442 770 186 771)::(nat_lit 444,Mk.fN "is_letter" "is_letter" (Mk.top 41) "markworks.grammar" 742 443)::(nat_lit 448,⟨.type "code",none,(.fields #[(.str "is_figures" 773),(.str "is_figures" 774),(.str "/claim/cut.py" 775),(.int 188 0),(.int 1 0),(.int 0 0),(.int 0 0),(.int 3 0),(.ref 445),(.bool true),(.int 181 0),(.ref 446),.none,.none,.none,(.ref 447),(.int 776 0),(.int 188 0),(.str "/claim/cut.py" 777)]),#[]⟩)::(nat_lit 449,Mk.fN "is_figures" "is_figures" (Mk.top 42) "markworks.grammar" 742 448)::(nat_lit 455,Xk "is_part" 779 "is_part" 780 781 194 2 0 0 3 450 451 452 453 454 784 194 785)::(nat_lit 456,Mk.fN "is_part" "is_part" (Mk.top 43) "markworks.grammar" 742 455)::(nat_lit 462,Xk "part_end" 787 "part_end" 788 789 196 3 0 0 3 457 458 459 460 461 794 196 795)::(nat_lit 463,Mk.fN "part_end" "part_end" (Mk.top 44) "markworks.grammar" 742 462)::(nat_lit 476,Xk "__init__" 809 "Reading.__init__" 810 811 203 1 0 0 3 471 472 473 474 475 813 203 814)::(nat_lit 477,Mk.fN "__init__" "Reading.__init__" (L2.inClass (Mk.top 45) 0) "markworks.grammar" 742 476)::(nat_lit 483,Xk "take_part" 816 "Reading.take_part" 817 818 208 2 0 0 3 478 479 480 481 482 821 208 822)::(nat_lit 484,Mk.fN "take_part" "Reading.take_part" (L2.inClass (Mk.top 45) 1) "markworks.grammar" 742 483)::(nat_lit 490,Xk "take_sign" 824 "Reading.take_sign" 825 826 212 2 0 0 3 485 486 487 488 489 829 212 830)::(nat_lit 491,Mk.fN "take_sign" "Reading.take_sign" (L2.inClass (Mk.top 45) 2) "markworks.grammar" 742 490)::(nat_lit 497,Xk "take_ahead" 832 "Reading.take_ahead" 833 834 219 2 0 0 3 492 493 494 495 496 837 219 838)::(nat_lit 498,Mk.fN "take_ahead" "Reading.take_ahead" (L2.inClass (Mk.top 45) 3) "markworks.grammar" 742 497)::(nat_lit 504,Xk "take_between" 840 "Reading.take_between" 841 842 225 2 0 0 3 499 500 501 502 503 845 225 846)::(nat_lit 505,Mk.fN "take_between" "Reading.take_between" (L2.inClass (Mk.top 45) 4) "markworks.grammar" 742 504)::(nat_lit 511,Xk "take_close" 848 "Reading.take_close" 849 850 233 1 0 0 3 506 507 508 509 510 852 233 853)::(nat_lit 512,Mk.fN "take_close" "Reading.take_close" (L2.inClass (Mk.top 45) 5) "markworks.grammar" 742 511)::(nat_lit 518,Xk "settle" 855 "Reading.settle" 856 857 240 2 0 0 3 513 514 515 516 517 860 240 861)::(nat_lit 519,Mk.fN "settle" "Reading.settle" (L2.inClass (Mk.top 45) 6) "markworks.grammar" 742 518)::(nat_lit 525,Xk "ends" 863 "Reading.ends" 864 865 244 1 0 0 3 520 521 522 523 524 867 244 868)::(nat_lit 526,Mk.fN "ends" "Reading.ends" (L2.inClass (Mk.top 45) 7) "markworks.grammar" 742 525)::(nat_lit 528,⟨.type "dict",none,(.dict #[Xl P "__module__" 804 (.str "markworks.grammar" 742),Xl P "__firstlineno__" 808 (.int 201 807),Xl P "__init__" 815 (.ref 477),Xl P "take_part" 823 (.ref 484),Xl P "take_sign" 831 (.ref 491),Xl P "take_ahead" 839 (.ref 498),Xl P "take_between" 847 (.ref 505),Xl P "take_close" 854 (.ref 512),Xl P "settle" 862 (.ref 519),Xl P "ends" 869 (.ref 526),Xl P "__static_attributes__" 873 (.ref 527),Xl P "__dict__" 875 (.ref 530),Xl P "__weakref__" 877 (.ref 531),Xl P "__doc__" 878 .none] 4),#[]⟩)::(nat_lit 529,⟨.type "type",none,(.cls ⟨"Reading", [(.type "object")],[(.ref 529),(.type "object")],528, "Reading", true,[],[],false,none,false⟩),#[none,none,(some (.str "Reading" 797)),(some (.str "Reading" 805)),(some (.builtin "object.__new__")),(some (.bool true))]⟩)::(nat_lit 534,⟨.type "dict",none,(.dict #[Xl P "lettered" 881 (.bool true)] 1),#[]⟩)::(nat_lit 540,Xk "steps_of" 882 "steps_of" 883 884 247 1 0 1 3 535 536 537 538 539 890 247 891)::(nat_lit 541,⟨.type "function",none,(.func (Mk.fS "steps_of" "steps_of" (Mk.top 46) .none (.ref 534) .none (.str "markworks.grammar" 742) none (.ref 540) .none)),#[]⟩)::(nat_lit 545,⟨.type "code",none,(.fields #[(.str "letters_in" 893),(.str "letters_in" 894),(.str "/claim/cut.py" 895),(.int 264 0),(.int 1 0),(.int 0 0),(.int 0 0),(.int 3 0),(.ref 542),(.bool true),(.int 181 0),(.ref 543),.none,.none,.none,(.ref 544),(.int 896 0),(.int 264 0),(.str "/claim/cut.py" 897)]),#[]⟩)::(nat_lit 546,Mk.fN "letters_in" "letters_in" (Mk.top 47) "markworks.grammar" 742 545)::(nat_lit 552,Xk "joined" 899 "joined" 900 901 266 3 0 0 3 547 548 549 550 551 905 266 906)::(nat_lit 553,Mk.fN "joined" "joined" (Mk.top 48) "markworks.grammar" 742 552)::(nat_lit 559,Xk "part_number" 908 "part_number" 909 910 272 3 0 0 3 554 555 556 557 558 914 272 915)::(nat_lit 560,Mk.fN "part_number" "part_number" (Mk.top 49) "markworks.grammar" 742 559)::(nat_lit 566,Xk "number_of" 917 "number_of" 918 919 278 3 0 0 3 561 562 563 564 565 926 278 927)::(nat_lit 567,Mk.fN "number_of" "number_of" (Mk.top 50) "markworks.grammar" 742 566)::(nat_lit 571,⟨.type "code",none,(.fields #[(.str "is_table" 931),(.str "is_table" 932),(.str "/claim/cut.py" 933),(.int 290 0),(.int 1 0),(.int 0 0),(.int 0 0),(.int 3 0),(.ref 568),(.bool true),(.int 181 0),(.ref 569),.none,.none,.none,(.ref 570),(.int 934 0),(.int 290 0),(.str "/claim/cut.py" 935)]),#[]⟩)::(nat_lit 572,Mk.fN "is_table" "is_table" (Mk.top 52) "markworks.formulas" 929 571)::(nat_lit 576,⟨.type "code",none,(.fields #[(.str "reckoned" 937),(.str "reckoned" 938),(.str "/claim/cut.py" 939),(.int 294 0),(.int 3 0),(.int 0 0),(.int 0 0),(.int 3 0),(.ref 573),(.bool true),(.int 181 0),(.ref 574),.none,.none,.none,(.ref 575),(.int 940 0),(.int 294 0),(.str "/claim/cut.py" 941)]),#[]⟩)::(nat_lit 577,Mk.fN "reckoned" "reckoned" (Mk.top 53) "markworks.formulas" 929 576)::(nat_lit 583,Xk "letters" 943 "letters" 944 945 301 1 0 0 3 578 579 580 581 582 947 301 948)::(nat_lit 584,Mk.fN "letters" "letters" (Mk.top 54) "markworks.formulas" 929 583)::(nat_lit 590,Xk "_law_cell" 952 "_law_cell" 953 954 304 2 0 0 3 585 586 587 588 589 957 304 958)::(nat_lit 591,Mk.fN "_law_cell" "_law_cell" (Mk.top 56) "law_markworks_k33_whole_reckoned" 950 590)::(nat_lit 597,Xk "_law_drawn" 960 "_law_drawn" 961 962 308 2 0 0 3 592 593 594 595 596 966 308 967)::(nat_lit 598,Mk.fN "_law_drawn" "_law_drawn" (Mk.top 57) "law_markworks_k33_whole_reckoned" 950 597)::(nat_lit 604,Xk "_law_roll" 969 "_law_roll" 970 971 313 2 0 0 3 599 600 601 602 603 975 313 976)::(nat_lit 605,Mk.fN "_law_roll" "_law_roll" (Mk.top 58) "law_markworks_k33_whole_reckoned" 950 604)::(nat_lit 609,⟨.type "code",none,(.fields #[(.str "_law_rounds" 978),(.str "_law_rounds" 979),(.str "/claim/cut.py" 980),(.int 320 0),(.int 2 0),(.int 0 0),(.int 0 0),(.int 3 0),(.ref 606),(.bool true),(.int 181 0),(.ref 607),.none,.none,.none,(.ref 608),(.int 981 0),(.int 320 0),(.str "/claim/cut.py" 982)]),#[]⟩)::(nat_lit 610,Mk.fN "_law_rounds" "_law_rounds" (Mk.top 59) "law_markworks_k33_whole_reckoned" 950 609)::(nat_lit 614,⟨.type "code",none,(.fields #[(.str "_law_word" 984),(.str "_law_word" 985),(.str "/claim/cut.py" 986),(.int 322 0),(.int 1 0),(.int 0 0),(.int 0 0),(.int 3 0),(.ref 611),(.bool true),(.int 181 0),(.ref 612),.none,.none,.none,(.ref 613),(.int 987 0),(.int 322 0),(.str "/claim/cut.py" 988)]),#[]⟩)::(nat_lit 615,Mk.fN "_law_word" "_law_word" (Mk.top 60) "law_markworks_k33_whole_reckoned" 950 614)::(nat_lit 621,Xk "_law_told" 990 "_law_told" 991 992 332 1 0 0 3 616 617 618 619 620 995 332 996)::(nat_lit 622,Mk.fN "_law_told" "_law_told" (Mk.top 61) "law_markworks_k33_whole_reckoned" 950 621)::(nat_lit 626,⟨.type "code",none,(.fields #[(.str "_law_bits_of" 998),(.str "_law_bits_of" 999),(.str "/claim/cut.py" 1000),(.int 345 0),(.int 1 0),(.int 0 0),(.int 0 0),(.int 3 0),(.ref 623),(.bool true),(.int 181 0),(.ref 624),.none,.none,.none,(.ref 625),(.int 1001 0),(.int 345 0),(.str "/claim/cut.py" 1002)]),#[]⟩)::(nat_lit 627,Mk.fN "_law_bits_of" "_law_bits_of" (Mk.top 62) "law_markworks_k33_whole_reckoned" 950 626)::(nat_lit 633,Xk "_law_rule_of" 1004 "_law_rule_of" 1005 1006 347 1 0 0 3 628 629 630 631 632 1008 347 1009)::(nat_lit 634,Mk.fN "_law_rule_of" "_law_rule_of" (Mk.top 63) "law_markworks_k33_whole_reckoned" 950 633)::(nat_lit 638,⟨.type "code",none,(.fields #[(.str "_law_lines" 1011),(.str "_law_lines" 1012),(.str "/claim/cut.py" 1013),(.int 349 0),(.int 2 0),(.int 0 0),(.int 0 0),(.int 3 0),(.ref 635),(.bool true),(.int 181 0),(.ref 636),.none,.none,.none,(.ref 637),(.int 1014 0),(.int 349 0),(.str "/claim/cut.py" 1015)]),#[]⟩)::(nat_lit 639,Mk.fN "_law_lines" "_law_lines" (Mk.top 64) "law_markworks_k33_whole_reckoned" 950 638)::(nat_lit 643,⟨.type "code",none,(.fields #[(.str "_law_table_of" 1017),(.str "_law_table_of" 1018),(.str "/claim/cut.py" 1019),(.int 368 0),(.int 1 0),(.int 0 0),(.int 0 0),(.int 3 0),(.ref 640),(.bool true),(.int 181 0),(.ref 641),.none,.none,.none,(.ref 642),(.int 1020 0),(.int 368 0),(.str "/claim/cut.py" 1021)]),#[]⟩)::(nat_lit 644,Mk.fN "_law_table_of" "_law_table_of" (Mk.top 65) "law_markworks_k33_whole_reckoned" 950 643)::(nat_lit 650,Xk "_law_number_in" 1023 "_law_number_in" 1024 1025 376 3 0 0 3 645 646 647 648 649 1030 376 1031)::(nat_lit 651,Mk.fN "_law_number_in" "_law_number_in" (Mk.top 66) "law_markworks_k33_whole_reckoned" 950 650)::(nat_lit 657,Xk "_law_made" 1033 "_law_made" 1034 1035 381 3 0 0 3 652 653 654 655 656 1041 381 1042)::(nat_lit 658,Mk.fN "_law_made" "_law_made" (Mk.top 67) "law_markworks_k33_whole_reckoned" 950 657)::(nat_lit 664,Xk "_law_shown" 1044 "_law_shown" 1045 1046 391 1 0 0 3 659 660 661 662 663 1048 391 1049)::(nat_lit 665,Mk.fN "_law_shown" "_law_shown" (Mk.top 68) "law_markworks_k33_whole_reckoned" 950 664)::(nat_lit 671,Xk "_law_tree" 1051 "_law_tree" 1052 1053 395 4 0 0 3 666 667 668 669 670 1060 395 1061)::(nat_lit 672,Mk.fN "_law_tree" "_law_tree" (Mk.top 69) "law_markworks_k33_whole_reckoned" 950 671)::(nat_lit 678,Xk "_law_written" 1063 "_law_written" 1064 1065 407 3 0 0 3 673 674 675 676 677 1072 407 1073)::(nat_lit 679,Mk.fN "_law_written" "_law_written" (Mk.top 70) "law_markworks_k33_whole_reckoned" 950 678)::(nat_lit 685,Xk "_law_come" 1075 "_law_come" 1076 1077 417 4 0 0 3 680 681 682 683 684 1084 417 1085)::(nat_lit 686,Mk.fN "_law_come" "_law_come" (Mk.top 71) "law_markworks_k33_whole_reckoned" 950 685)::(nat_lit 692,Xk "_law_formula" 1087 "_law_formula" 1088 1089 431 3 0 0 3 687 688 689 690 691 1095 431 1096)::(nat_lit 693,Mk.fN "_law_formula" "_law_formula" (Mk.top 72) "law_markworks_k33_whole_reckoned" 950 692)::(nat_lit 697,⟨.type "code",none,(.fields #[(.str "law" 1098),(.str "law" 1099),(.str "/claim/cut.py" 1100),(.int 438 0),(.int 1 0),(.int 0 0),(.int 0 0),(.int 3 0),(.ref 694),(.bool true),(.int 181 0),(.ref 695),.none,.none,.none,(.ref 696),(.int 1101 0),(.int 438 0),(.str "/claim/cut.py" 1102)]),#[]⟩)::(nat_lit 698,Mk.fN "law" "law" (Mk.top 73) "law_markworks_k33_whole_reckoned" 950 697)::
 []
noncomputable def Mk.Kf (P:PySem.Params):PySem.W.Frag:=(nat_lit 695,⟨.none,none,(.fields #[]),#[]⟩):: (nat_lit 437,⟨.type "dict",none,(.dict #[Xl P "(" 748 (.int 0 749),Xl P "|" 750 (.int 1 751),Xl P "^" 752 (.int 2 753),Xl P "&" 754 (.int 3 755),Xl P "~" 756 (.int 4 757)] 5),#[]⟩):: Mk.Kg P
noncomputable def Mk.Kas:List Nat:=695:: 437:: 2:: 3:: 22:: 28:: 29:: 31:: 32:: 52:: 64:: 75:: 76:: 87:: 88:: 103:: 104:: 106:: 107:: 119:: 134:: 135:: 137:: 138:: 150:: 162:: 181:: 193:: 196:: 202:: 203:: 207:: 208:: 221:: 222:: 228:: 229:: 240:: 241:: 245:: 246:: 250:: 251:: 257:: 258:: 264:: 265:: 271:: 272:: 280:: 286:: 287:: 300:: 301:: 324:: 325:: 331:: 332:: 348:: 349:: 359:: 360:: 366:: 367:: 380:: 381:: 387:: 388:: 423:: 424:: 434:: 435:: 436:: 443:: 444:: 448:: 449:: 455:: 456:: 462:: 463:: 476:: 477:: 483:: 484:: 490:: 491:: 497:: 498:: 504:: 505:: 511:: 512:: 518:: 519:: 525:: 526:: 528:: 529:: 534:: 540:: 541:: 545:: 546:: 552:: 553:: 559:: 560:: 566:: 567:: 571:: 572:: 576:: 577:: 583:: 584:: 590:: 591:: 597:: 598:: 604:: 605:: 609:: 610:: 614:: 615:: 621:: 622:: 626:: 627:: 633:: 634:: 638:: 639:: 643:: 644:: 650:: 651:: 657:: 658:: 664:: 665:: 671:: 672:: 678:: 679:: 685:: 686:: 692:: 693:: 697:: 698:: []
noncomputable def Mk.loose:List PySem.Str:=Str.ofString "MarkError" :: Str.ofString "BadRows" :: Str.ofString "BadRule" :: Str.ofString "BadName" :: Str.ofString "BadNumber" :: Str.ofString "BadRest" :: Str.ofString "Unlike" :: Str.ofString "BadText" :: Str.ofString "BadPairs" :: Str.ofString "Never" :: Str.ofString "Unled" :: Str.ofString "Nothing" :: Str.ofString "GREATEST" :: Str.ofString "MOST_ROWS" :: Str.ofString "LONGEST_NAME" :: Str.ofString "RULES" :: Str.ofString "is_whole" :: Str.ofString "is_name" :: Str.ofString "is_mark" :: Str.ofString "union_of" :: Str.ofString "is_one_of" :: Str.ofString "mark_bits" :: Str.ofString "next_mark" :: Str.ofString "is_names_of" :: Str.ofString "thing_number" :: Str.ofString "row_number" :: Str.ofString "numbered" :: Str.ofString "first_names" :: Str.ofString "Kind" :: Str.ofString "LIMIT" :: Str.ofString "is_number" :: Str.ofString "rest_of" :: Str.ofString "Value" :: Str.ofString "made" :: Str.ofString "JOINING" :: Str.ofString "BINDING" :: Str.ofString "LEAST_BINDING" :: Str.ofString "is_letter" :: Str.ofString "is_figures" :: Str.ofString "is_part" :: Str.ofString "part_end" :: Str.ofString "Reading" :: Str.ofString "steps_of" :: Str.ofString "letters_in" :: Str.ofString "joined" :: Str.ofString "part_number" :: Str.ofString "number_of" :: Str.ofString "is_table" :: Str.ofString "reckoned" :: Str.ofString "letters" :: Str.ofString "_law_cell" :: Str.ofString "_law_drawn" :: Str.ofString "_law_roll" :: Str.ofString "_law_rounds" :: Str.ofString "_law_word" :: Str.ofString "_law_told" :: Str.ofString "_law_bits_of" :: Str.ofString "_law_rule_of" :: Str.ofString "_law_lines" :: Str.ofString "_law_table_of" :: Str.ofString "_law_number_in" :: Str.ofString "_law_made" :: Str.ofString "_law_shown" :: Str.ofString "_law_tree" :: Str.ofString "_law_written" :: Str.ofString "_law_come" :: Str.ofString "_law_formula" :: []
abbrev Mk.dl:List L2.DcE:=[("(", 748,0,749),("|", 750,1,751),("^", 752,2,753),("&", 754,3,755),("~", 756,4,757)]
abbrev Mk.ep:Nat:=5
def Mk.T0 (P:Params):BT:=.node (boot_o_0 P)
 (.node (boot_o_1 P) (.node (boot_o_3 P) (.node (boot_o_7 P) .nil .nil) .nil) (.node (boot_o_5 P) (.node (boot_o_9 P) .nil .nil) .nil))
 (.node (boot_o_2 P) (.node (boot_o_4 P) (.node (boot_o_8 P) .nil .nil) .nil) (.node (boot_o_6 P) (.node (boot_o_10 P) .nil .nil) .nil))
theorem Mk.tree (P:Params):absHeap (Mk.T0 P) (nat_lit 11) {}=boot_heap P:=by kernel_rfl
theorem Mk.size (w:World):((boot_heap w.params).isNs mainGlobals,(boot_heap w.params).objs.size,(boot_heap w.params).nsMap mainGlobals "__annotations__")=(true,(nat_lit 11),some (.ref (nat_lit 6))):=by kernel_rfl
theorem Mk.opens (w:World):(fencedOpening treeTable PySem.Challenge.pw_markworks_k33_whole_reckoned w (nat_lit 11376)).map (fun s=>(s.heap,s.gens,s.drawn,s.toks))=some (boot_heap w.params,#[],boot_drawn,boot_toks):=boot_open qd qc (fun s=>qd) w
theorem Mk.twin:Function.const _ true (@Hd.runT,@Hd.looksAt,PySem.Challenge.pw_markworks_k33_whole_reckoned,Mk.Kf,Mk.loose)=true:=by k_qdec
abbrev Mk.qv:Program:=view PySem.Challenge.pw_markworks_k33_whole_reckoned [nat_lit 73]
abbrev Mk.Xt (s:Shared):Bool:=xlAt Mk.qv [] s&&recOk [] s
abbrev Mk.RQ (w:World) (os:OsState):Prop:=(Option.map (fun s=>Fast.tw8257016192812374322 Fast.tw17834613974717931149 (view Fast.tw17834613974717931149 [nat_lit 73]) Fast.tw2924075613660010442 (fun s=>xlAt (view Fast.tw17834613974717931149 [nat_lit 73]) [] s&&recOk [] s) Mk.Kas (boot_heap w.params) s.abs)
   (Fast.tw16599536794577742827 Fast.tw14364793385576792824 Fast.tw17834613974717931149 w (nat_lit 11) (some (Value.ref (nat_lit 6))) (nat_lit 5640) ⟨Mk.T0 w.params,nat_lit 11,{},#[],boot_drawn,boot_toks,os⟩ (topStub Fast.tw17834613974717931149))) =
  some (true,openGood (view Fast.tw17834613974717931149 [nat_lit 73]) Fast.tw2924075613660010442,(Fast.tw12104304683883722232 w.params).map fun x=>some x.2)
def Mk.sF (b:Bool) (w:World):World:={ w with params:={ w.params with followText:=fun s=>if s== "special-get-raises" then b else w.params.followText s } }
theorem Mk.sF_eq (w:World):Mk.sF (w.params.followText "special-get-raises") w=w:=by
 have:(fun s=>if s== "special-get-raises" then w.params.followText "special-get-raises" else w.params.followText s)=w.params.followText:=funext fun s=>by
  by_cases h:s = "special-get-raises"
  · rw[h];rfl
  · rw[if_neg (by simpa using h)]
 unfold Mk.sF
 rw[this]
theorem Mk.run_t (w:World) (os:OsState):Mk.RQ (Mk.sF true w) os:=by kernel_rfl
theorem Mk.run_f (w:World) (os:OsState):Mk.RQ (Mk.sF false w) os:=by kernel_rfl
theorem Mk.run_q (w:World) (os:OsState):Mk.RQ w os:=by
 have e:=Mk.sF_eq w
 cases h:w.params.followText "special-get-raises" with
 |true=>rw[h]at e;rw[←e];exact Mk.run_t w os
 |false=>rw[h]at e;rw[←e];exact Mk.run_f w os
theorem Mk.left:LeftO PySem.Challenge.pw_markworks_k33_whole_reckoned Mk.qv Mk.loose Mk.Xt (fun s=>Mk.Kas.map s.heap.get?) (fun w=>(Mk.Kf w.params).map fun x=>some x.2) (nat_lit 11376):=by
 refine Hd.left_of (M:=nat_lit 5640) (T0:=Mk.T0) Mk.opens Mk.tree Mk.size qc fun w os=>?_
 have h:=Mk.run_q w os
 unfold Mk.RQ at h
 rw[←Fast.te8257016192812374322,←Fast.te17834613974717931149,←Fast.te2924075613660010442,←Fast.te16599536794577742827,←Fast.te14364793385576792824,←Fast.te12104304683883722232]at h
 exact h
theorem Mk.kg_in {P:Params}{h:Heap} (X:(Mk.Kf P).In h):(Mk.Kg P).In h /\ h.get? 695=some (tabObj #[]) /\ h.get? 437=some (L2.dcObj P Mk.dl Mk.ep):=by
 have e:(Mk.Kg P).lookup 695=none:=by kernel_rfl
 have e2:(Mk.Kg P).lookup 437=none:=by kernel_rfl
 refine⟨fun b o z=>X b o ?_,X _ _ (by unfold Mk.Kf;rw[List.lookup_cons];rfl),X _ _ (by unfold Mk.Kf;rw[List.lookup_cons];show List.lookup 437 ((437,_):: Mk.Kg P)=_;rw[List.lookup_cons];rfl)⟩
 unfold Mk.Kf
 rw[List.lookup_cons]
 have nb:(b== 695)=false:=by
  cases q:(b== 695)with
  |false=>rfl
  |true=>rw[beq_iff_eq.mp q,e]at z;cases z
 rw[nb]
 show List.lookup b ((437,_):: Mk.Kg P)=_
 rw[List.lookup_cons]
 have nb2:(b== 437)=false:=by
  cases q:(b== 437)with
  |false=>rfl
  |true=>rw[beq_iff_eq.mp q,e2]at z;cases z
 rw[nb2]
 exact z
def Mk.dL:DefRec:=⟨"law", L2.defArgs (Mk.top (nat_lit 73)),L2.defBody (Mk.top (nat_lit 73)),L2.defScope (Mk.top (nat_lit 73)),match Mk.top (nat_lit 73)with | .FunctionDef _ _ _ _ _ _ _ _ _ p=>p |_=>⟨0,0,0,0⟩⟩
end
open PySem PySem.W PyProof.Rows
set_option maxRecDepth 100000 in
set_option maxHeartbeats 0 in
theorem PySem.Challenge.cw_markworks_k33_whole_reckoned_holds : PySem.Challenge.rw_markworks_k33_whole_reckoned.Holds := by
 w_on;o_law
 refine PySem.W.holds_open (r:=PySem.Challenge.rw_markworks_k33_whole_reckoned.row) (q:=Mk.qv) (loose:=Mk.loose) (Xt:=Mk.Xt) (XP:=XL Mk.qv []) (YP:=InK Mk.Kf) (d:=Mk.dL) (kwd:=[]) Mk.left
  (fun w s e=>InK.of (fun P=>qd) w s e) InK.keeps (fun s e=>xl_of s (Bool.and_eq_true_iff.mp e).1) XL.keeps qd qd qd (fun s e=>recFacts_of (Bool.and_eq_true_iff.mp e).2) (by rfl) (by assumption) qb ⟨rfl,rfl,rfl,rfl,rfl,qb⟩ ?hw ?hc
 case hw=>w_witness2
 have aux:Function.const _ True (PySem.Challenge.rw_markworks_k33_whole_reckoned,Mk.Kg):=by k_fill;trivial
 refine Mk.walk (l:=PySem.Challenge.rw_markworks_k33_whole_reckoned) (c:=697) (P0:=695) (bd:=437) (dl:=Mk.dl) (ep:=Mk.ep) (K:=Mk.Kg) rfl rfl qc qc qb rfl (fun w h Y=>⟨(Mk.kg_in Y).1,(Mk.kg_in Y).2.1,qd,Mk.codeHd_of (Mk.kg_in Y).1 qd,(Mk.kg_in Y).2.2,qd⟩) ?F
 case F=>
  intro w mg fa h KX G hmg
  refine' Mk.all_mk KX G hmg ?aC ?aVC ?aDC ?aM ?aX0 ?aX1 ?aX2 ?aX3 ?aX4 ?aX5 ?aX6 ?aX7 ?aX8 ?aX9 ?aX10 ?z_VE ?hwh ?hnm ?huo ?hnx ?hoo ?hno ?hth ?hro ?hnb ?hfi ?hmK ?hmT ?hlc ?hld ?hlr ?hls ?hll ?hxn ?hxr ?hxi ?hxN ?hlb ?hlu ?hlt ?hgl ?hgi ?hdS ?hdP ?hdB ?hdA ?hdC ?hdG ?hdN ?hgj ?hlm ?hlh ?hln ?hmN ?hgf ?hgp ?hge ?hgn ?hgo ?hdI ?hti ?hle ?hlp ?hlf ?hlw ?hlo ?hga ?hrk ?hra ?hmd ?hri ?hlq ?ain ?iin ?lin ?cin ?kin ?ala ?lla ?cla ?kla ?aei ?iei ?lei ?cei ?kei ?kdl ?kde ?kdr ?dtl ?vG ?vM ?vL ?vLi ?vR ?qn ?qt ?fC ?fVC ?fDC ?nC_numbers ?nC_firsts ?nC_rule ?nVC_own_kind ?nVC_bits ?nDC_steps ?nDC_waiting ?nDC_wants_part ?xm ?xc0 ?xc1 ?xc2 ?xc3 ?y5 ?y6 ?y1 ?y2 ?xmg ?xmr ?xmf ?rL ?z_len ?z_isinstance ?z_max ?z_min ?z_range ?z_list ?z_tuple ?z_sorted ?z_sum ?z_all ?z_enumerate ?z_int ?z_bool ?z_str ?z_dict ?vBD ?vJN ?vLB ?jL ?ast ?lst ?cst ?kst ?k2l ?k2e ?k2n
  case aC|aVC|aDC|aM|aX0|aX1|aX2|aX3|aX4|aX5|aX6|aX7|aX8|aX9|aX10|z_VE=>k_is
  case hwh|hnm|huo|hnx|hoo|hno|hth|hro|hnb|hfi|hlc|hld|hlr|hls|hll|hxn|hxr|hlb|hlu|hlt|hgl|hgi|hgj|hlm|hlh|hln|hgf|hgp|hge|hgn|hgo|hle|hlp|hlf|hlw|hlo|hga|hrk|hra|hmd|hlq=>
   refine' ⟨_,_,?a,L2.fun_mk ?b ?c ?d⟩
   case a |b |c |d=>k_is
  case hmK|hmT|hxi|hxN|hdS|hdP|hdB|hdA|hdC|hdG|hdN|hmN|hdI|hti|hri=>
   refine' ⟨_,_,?a,?i,⟨_,?o,?q⟩,L2.fun_mk ?b ?c ?d⟩
   case a |i |b=>k_is
   case o |q=>first |rfl |k_is
   case c |d=>k_is
  case ain|iin|lin|cin|kin|ala|lla|cla|kla|aei|iei|lei|cei|kei|kdl=>k_is
  case kde=>simp
  case kdr|dtl|vG|vM|vL|vLi|vR|qn|qt=>k_is
  case fC|fVC|fDC=>
   refine' ⟨?_,?_,?_,?_,?_,?_,?_,?_,?_,?_,?_,?_,?_,?_⟩<;>k_is
  case nC_numbers|nC_firsts|nC_rule|nVC_own_kind|nVC_bits|nDC_steps|nDC_waiting|nDC_wants_part=>k_is
  case xm|xc0|xc1|xc2|xc3=>kernel_rfl
  case y5|y6=>
   exact⟨⟨qd,qd,qd,qd,qd,qd,qd,qd,qd,qd⟩,qd,qd,qd⟩
  case y1|y2=>
   exact⟨⟨qd,qd,qd,qd,qd,qd,qd,qd,qd,qd⟩,qd,qd,qd,qd,qd,qd⟩
  case xmg|xmr|xmf=>kernel_rfl
  case rL|z_len|z_isinstance|z_max|z_min|z_range|z_list|z_tuple|z_sorted|z_sum|z_all|z_enumerate|z_int|z_bool|z_str|z_dict|vBD|vJN|vLB|jL|ast|lst|cst|kst|k2l=>k_is
  case k2e=>simp
  case k2n=>k_is
