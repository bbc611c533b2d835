import PyProof.Rows.All
import Wide.All
import OpenK.AllK
import PySem.Challenge.RW_markworks_k55_whole_kinds_gone_on
set_option genSizeOf false
set_option Elab.async false
set_option linter.all false
set_option maxRecDepth 100000
set_option maxHeartbeats 4000000
abbrev W4:=PySem.Shared
abbrev W3:=PySem.Addr
abbrev Wx:=List PySem.Value
abbrev Ww:=List PySem.Str
theorem Zj {α:Sort _} {a:α}:a=a:=rfl
abbrev Z9:=@Array.getElem?_eq_some_iff
abbrev Z8:=@List.getElem?_eq_some_iff
abbrev Z7:=@List.getElem?_eq_getElem
abbrev Z6:=@Option.map_eq_some_iff
abbrev Z5:=@PySem.lookup_relabel_local
abbrev Z4:=@PySem.wpAny_isSubtype_exc
abbrev Z3:=@PySem.wpAny_Call_Name_kw
abbrev Z2:=@Nat.lt_of_lt_of_le
abbrev Z1:=@Int.natCast_nonneg
abbrev Z0:=@PySem.wpAny_truthy_bool
abbrev ZZ:=@PySem.wpAny_loadPart_at
abbrev ZY:=@PySem.Heap.get?_push_of_some
abbrev ZX:=@PySem.Heap.get?_update_other
abbrev ZW:=@of_decide_eq_true
abbrev ZV:=@PySem.Heap.get?_update_self
abbrev ZU:=@List.mem_append_right
abbrev ZT:=@List.length_filter_le
abbrev ZS:=@List.mem_cons_of_mem
abbrev ZR:=@List.mem_of_getElem?
abbrev ZQ:=@List.mem_append_left
abbrev ZP:=@decide_eq_false
abbrev ZO:=@PySem.Heap.get?_push_size
abbrev ZN:=@List.filterMap_cons
abbrev ZM:=@decide_eq_true
abbrev ZL:=@PySem.wpAny_holding
abbrev ZK:=@List.mem_cons_self
abbrev ZJ:=@List.length_append
abbrev ZI:=@List.mem_singleton
abbrev ZH:=@Nat.lt_irrefl
abbrev ZG:=@List.getElem?_map
abbrev ZF:=@List.take_add_one
abbrev ZE:=@Nat.ne_of_lt
abbrev ZD:=@List.take_length
abbrev Zz:=@List.length_take
abbrev Zy:=@List.lookup_cons
abbrev Zx:=@Nat.le_refl
abbrev Zw:=@PySem.wpAny_bind
abbrev Zv:=@PySem.wpAny_pure
abbrev Zu:=@PySem.wpAny_mono
abbrev Zt:=@List.map_append
abbrev Zs:=@List.append_nil
abbrev Zr:=@List.nodup_cons
abbrev Zq:=@List.mem_map
abbrev Zp:=@if_neg
abbrev Zo:=@if_pos
theorem qb {p:Prop} (h:p:=by decide +kernel):p:=h
theorem qc {p:Prop} (h:p:=by decide):p:=h
theorem qe {p:Prop} (h:p:=by omega):p:=h
theorem qd {α:Sort _} {a b:α} (h:a=b:=by kernel_rfl):a=b:=h
theorem AE {α:Type u}{β:Type v}{as:List α} (f:α->β):(as.map f).length=as.length:=List.length_map f
abbrev Aa:=List (PySem.Str×Nat)
abbrev VS:=PySem.Value->PySem.Shared->Prop
abbrev LO:=List (PySem.Addr×PySem.Obj)
abbrev SV:=PySem.Str->Option PySem.Value
open PySem in
abbrev FG:=W.Frag
open List (all_cons all_map any_cons any_eq_true any_map append_nil contains_cons filterMap_cons filter_append filter_cons filter_nil find?_cons find?_eq_none foldl_append foldl_cons getD_eq_getElem?_getD getElem?_map getElem_mem length_append length_cons length_drop length_filter_le length_nil length_pos_iff length_range length_singleton length_take lookup_cons map_append map_cons map_eq_nil_iff map_map map_nil map_take mem_append mem_append_left mem_append_right mem_cons mem_cons_of_mem mem_cons_self mem_filter mem_map mem_of_getElem? mem_range mem_singleton nodup_cons nodup_nil not_mem_nil of_mem_zip pairwise_cons pairwise_map size_toArray sum_append sum_cons take_add_one take_length take_zero)
open PySem.Heap (get?_push_of_some get?_push_size get?_update_other get?_update_self lt_size)
section
namespace L2
open PySem
theorem sl1:1<=sizeLine:=by decide
theorem dQ:2<=sizeLine:=by decide
theorem jb:3<=sizeLine:=by decide
theorem sl4:4<=sizeLine:=by decide
theorem sl6:6<=sizeLine:=by decide
theorem sl7:7<=sizeLine:=by decide
theorem sl9:9<=sizeLine:=by decide
end L2
end
section
namespace L2
open PySem PySem.Spec PyProof.Rows
abbrev Key:=Sum Int Str
noncomputable def HL:Key->Value->Bool
 | .inl k,v=>Value.isInt k v
 | .inr x,v=>Value.isStrOf x v
noncomputable def WP (w:World):Key->Int
 | .inl k=>hashInt k
 | .inr x=>hashStr w x
theorem A8:∀ {k:Key}{v:Value},HL k v=true->(∃i t,k=Sum.inl i/\v=Value.int i t)\/(∃x t,k=Sum.inr x/\v=Value.str x t)
 | .inl i,v,h=>by
  obtain⟨t,e⟩:=Value.isInt_shape (k:=i) (v:=v) h;exact .inl ⟨i,t,Zj,e⟩
 | .inr x,v,h=>by
  obtain⟨t,e⟩:=Value.isStrOf_shape (x:=x) (v:=v) h;exact .inr ⟨x,t,Zj,e⟩
theorem Ov (i:Int) (t:Tok):HL (.inl i) (.int i t)=true:=by simp[HL,Value.isInt]
theorem Ow (x:Str) (t:Tok):HL (.inr x) (.str x t)=true:=by simp[HL,Value.isStrOf]
theorem UY (a b:Int):decide ((Sum.inl a:Key)=Sum.inl b)=(a==b):=by
 by_cases e:a=b
 ·subst e;simp
 ·have h:¬ (Sum.inl a:Key)=Sum.inl b:=λq=>e (Sum.inl.inj q);rw[ZP h];exact(beq_eq_false_iff_ne.mpr e).symm
theorem UZ (a b:Str):decide ((Sum.inr a:Key)=Sum.inr b)=decide (a=b):=by
 by_cases e:a=b
 ·subst e;simp
 ·have h:¬ (Sum.inr a:Key)=Sum.inr b:=λq=>e (Sum.inr.inj q);rw[ZP h,ZP e]
theorem Ua (a:Int) (b:Str):decide ((Sum.inl a:Key)=Sum.inr b)=false:=ZP (λq=>nomatch q)
theorem Ub (a:Str) (b:Int):decide ((Sum.inr a:Key)=Sum.inl b)=false:=ZP (λq=>nomatch q)
noncomputable def Af (prog:Program) (w:World):PySem.KeyKind prog w Key where
 is:=HL
 hash:=WP w
 inj:=λv a b ha hb=>by
  rcases A8 ha with⟨i,t,rfl,rfl⟩ |⟨x,t,rfl,rfl⟩
  ·rcases A8 hb with⟨j,u,rfl,e⟩ |⟨y,u,rfl,e⟩
   ·injection e with e1 _;rw[e1]
   ·exact nomatch e
  ·rcases A8 hb with⟨j,u,rfl,e⟩ |⟨y,u,rfl,e⟩
   ·exact nomatch e
   ·injection e with e1 _;rw[e1]
 byValue:=λk v h=>by
  rcases A8 h with⟨i,t,rfl,rfl⟩ |⟨x,t,rfl,rfl⟩ <;> rfl
 pyHash:=λhv h=>by
  rcases A8 hv with⟨i,t,rfl,rfl⟩ |⟨x,t,rfl,rfl⟩
  ·exact wpAny_pyHash_int h
  ·exact wpAny_pyHash_str h
 eqBool:=λhu hv h=>by
  rcases A8 hu with⟨i,t,rfl,rfl⟩ |⟨x,t,rfl,rfl⟩
  ·rcases A8 hv with⟨j,u,rfl,rfl⟩ |⟨y,u,rfl,rfl⟩
   ·rw[UY]at h;exact wpAny_eqBool_int h
   ·rw[Ua]at h;exact SeqAt.EqAt.int_str i t y u _ _ _ _ h
  ·rcases A8 hv with⟨j,u,rfl,rfl⟩ |⟨y,u,rfl,rfl⟩
   ·rw[Ub]at h;exact SeqAt.EqAt.str_int x t j u _ _ _ _ h
   ·rw[UZ]at h;exact wpAny_eqBool_str h
 «strs»:=λk x t v h=>by
  rcases A8 h with⟨i,u,rfl,e⟩ |⟨y,u,rfl,e⟩
  ·exact nomatch e
  ·injection e with e1 _
   subst e1;cases v <;> rfl
theorem Ks (prog:Program) (w:World) (i:Int) (t:Tok):(Af prog w).is (.inl i) (.int i t)=true:=Ov i t
theorem Kt (prog:Program) (w:World) (x:Str) (t:Tok):(Af prog w).is (.inr x) (.str x t)=true:=Ow x t
inductive V where
 |aK |bl (b:Bool) |int (i:Int) |str (x:Str) |gO (b:Array UInt8) |iW (b:UInt64) |ref (a:W3) |ty (n:String)
 deriving DecidableEq
abbrev _root_.Wy:=List V
def RelV:V->Value->Prop
 | .aK,u=>u=Value.none
 | .bl b,u=>u=Value.bool b
 | .int i,u=>∃t,u=Value.int i t
 | .str x,u=>∃t,u=Value.str x t
 | .gO b,u=>∃t,u=Value.bytes b t
 | .iW b,u=>∃t,u=Value.float b t
 | .ref a,u=>u=Value.ref a
 | .ty n,u=>u=Value.type n
abbrev Vals:Wy->Wx->Prop:=Paired RelV
theorem Vals.length {xs:Wy}{us:Wx} (r:Vals xs us):xs.length=us.length:=Paired.length r
theorem Vals.get:∀ {xs:Wy}{us:Wx}{i:Nat}{x:V},Vals xs us->xs[i]?=some x->∃u,us[i]?=some u/\RelV x u
 |_,_,_,_,.nil,e=>by simp at e
 |_,_,0,_,.cons r _,e=>by simp at e;subst e;exact⟨_,Zj,r⟩
 |_,_,i+1,x,.cons _ t,e=>by
  obtain⟨u,h1,h2⟩:=Vals.get (i:=i) (x:=x) t (by simpa using e);exact⟨u,by simpa using h1,h2⟩
theorem Vals.set {x:V}{u:Value} (r:RelV x u):∀ {xs:Wy}{us:Wx} (i:Nat),Vals xs us->Vals (xs.set i x) (us.set i u)
 |_,_,_,.nil=>.nil
 |_,_,0,.cons _ t=>.cons r t
 |_,_,i+1,.cons q t=>.cons q (Vals.set r i t)
theorem Vals.append:∀ {xs ys:Wy}{us ws:Wx},Vals xs us->Vals ys ws->Vals (xs++ys) (us++ws)
 |_,_,_,_,.nil,s=>s
 |_,_,_,_,.cons r t,s=>.cons r (Vals.append t s)
theorem Vals.take:∀ {xs:Wy}{us:Wx} (n:Nat),Vals xs us->Vals (xs.take n) (us.take n)
 |_,_,0,_=>.nil
 |_,_,_+1,.nil=>.nil
 |_,_,n+1,.cons r t=>.cons r (Vals.take n t)
theorem Vals.drop:∀ {xs:Wy}{us:Wx} (n:Nat),Vals xs us->Vals (xs.drop n) (us.drop n)
 |_,_,0,r=>r
 |_,_,_+1,.nil=>.nil
 |_,_,n+1,.cons _ t=>Vals.drop n t
def cW:Option V->Option Value->Prop
 |some v,some u=>RelV v u
 |none,none=>True
 |_,_=>False
def KV {κ:Type}:List (κ×V)->List (κ×Value)->Prop:=Paired λ(p:κ×V) (q:κ×Value)=>p.1=q.1/\RelV p.2 q.2
noncomputable def kV:Key->V
 | .inl i=>.int i
 | .inr x=>.str x
abbrev LK:=List (Key×V)
inductive HO where
 |lst (xs:Wy)
 |tup (xs:Wy)
 |dK (kvs:LK) |dT (kvs:List (List Key×V))
 |set (S:Int->Bool) (n:Nat)
 |ins (C dx:W3) (fs:List (Str×V))
 |own (x:W3)
 |xd (fs:List (Str×V))
 |met (f x:W3)
 |rng (lo hi:Int)
 |ef (o:Obj) (u:HO)
 |fk (ps:Array Value)
 |ext (φ:Heap->Prop)
set_option genInjectivity false
abbrev Hp:=W3->Option HO
noncomputable def upd (H:Hp) (a:W3) (o:HO):Hp:=λb=>if b=a then some o else H b
theorem AB {H:Hp}{a:W3}{o:HO}:upd H a o a=some o:=by unfold upd;rw[Zo rfl]
theorem AH {H:Hp}{a b:W3}{o:HO} (h:b≠a):upd H a o b=H b:=by unfold upd;rw[Zp h]
theorem N0 {H:Hp}{a:W3}{o u:HO}:upd (upd H a o) a u=upd H a u:=by
 funext b;unfold upd;split <;> rfl
theorem QS {H:Hp}{a b:W3}{o u:HO} (h:H a=some o) (h':H b=some u) (d:o≠u):a≠b:=by
 intro e;subst e;rw[h]at h';exact d (Option.some.inj h')
theorem AJ {H:Hp}{a b:W3}{o:HO} (h:H a=some o) (h':H b=none):a≠b:=by
 intro e;subst e;rw[h]at h';cases h'
section
variable (P:Program) (w:World)
def aT (H:Hp) (h:Heap) (a:W3):HO->Prop
 | .lst xs=>xs.length<=sizeLine/\∃(its:Wx) (n:Nat),Vals xs its/\h.get? a=some { cls:=.type "list", data:=.seq its.toArray n }
 | .tup xs=>xs.length<=sizeLine/\∃its:Wx,Vals xs its/\IsTup h a its.toArray
 | .dK kvs=>kvs.length<=sizeLine/\(a==sysModules)=false/\∃vs,KV kvs vs/\h.DictOf (Af P w) a vs
 | .dT kvs=>kvs.length<=sizeLine/\(a==sysModules)=false/\∃xs:List (List Key×W3×Value),
   Paired (λ(p:List Key×V) (q:List Key×W3×Value)=>p.1=q.1/\H q.2.1=some (.tup (p.1.map kV))/\RelV p.2 q.2.2) kvs xs /\
   ∃o es ep,h.get? a=some o/\o.ExactDict/\o.data=.dict es ep/\es.toList=xs.map (entryOfKey (tupleKind (Af P w)))/\(xs.map (·.1)).Nodup
 | .set S n=>h.SetOf (intKind P w) a S n
 | .ins C dx fs=>H dx=some (.own a)/\fs.length<=1000/\dx≠a/\h.get? a=some (W.instObj C dx) /\
   ∃mA,h.Ns1 dx mA/\(∀f,cW (fs.lookup f) (mA f))/\PySem.Within mA (fs.map (·.1))
 | .own _=>∃o,h.get? a=some o
 | .xd fs=>∃mA,h.Ns1 a mA/\∀f,cW (fs.lookup f) (mA f)
 | .rng lo hi=>∃t u v,h.get? a=some { cls:=.type "range", data:=.fields #[.int lo t,.int hi u,.int 1 v] }
 | .ef o u=>h.get? a=some o/\aT H h a u
 | .fk ps=>h.get? a=some { cls:=.none,data:=.fields ps }
 | .met f x=>h.get? a=some (W.methodObj (.ref f) (.ref x))
 | .ext φ=>φ h/\(∃o,h.get? a=some o)/\∀h1 h2:Heap,φ h1->(∀o,h1.get? a=some o->h2.get? a=some o)->φ h2
def cV (H:Hp) (h:Heap):Prop:=∀a o,H a=some o->aT P w H h a o
end
section
variable {P:Program}{w:World}{H H':Hp}{h h':Heap}{a:W3}{o:HO}
theorem aT.lt (x:aT P w H h a o):a<h.objs.size:=by
 cases o with
 |lst xs=>obtain⟨_,_,_,_,e⟩:=x;exact lt_size e
 |tup xs=>obtain⟨_,_,_,p⟩:=x;exact p.lt
 |dK kvs=>obtain⟨_,_,_,_,o,_,_,e,_⟩:=x;exact lt_size e
 |dT kvs=>obtain⟨_,_,_,_,o,_,_,e,_⟩:=x;exact lt_size e
 |set S n=>obtain⟨o,_,_,_,e,_⟩:=x;exact lt_size e
 |ins C dx fs=>obtain⟨_,_,_,e,_⟩:=x;exact lt_size e
 |own y=>obtain⟨_,e⟩:=x;exact lt_size e
 |xd fs=>obtain⟨_,⟨_,_,_,e,_⟩,_⟩:=x;exact lt_size e
 |rng lo hi=>obtain⟨_,_,_,e⟩:=x;exact lt_size e
 |ef ob u=>obtain⟨e,_⟩:=x;exact lt_size e
 |fk ps=>exact lt_size (show h.get? a=some _ from x)
 |met f y=>exact lt_size (show h.get? a=some _ from x)
 |ext φ=>obtain⟨_,⟨_,e⟩,_⟩:=x;exact lt_size e
theorem Paired.mapP {α β:Type}{F G:α->β->Prop}:∀ {l₁:List α}{l₂:List β},Paired F l₁ l₂->(∀a b,F a b->G a b)->Paired G l₁ l₂
 |_,_,.nil,_=>.nil
 |_,_,.cons r t,f=>.cons (f _ _ r) (Paired.mapP t f)
theorem aT.eG (x:aT P w H h a o) (k:∀b u,(b=a\/H b=some (.own a))->h.get? b=some u->h'.get? b=some u)
  (ho:∀b,H b=some (.own a)->H' b=some (.own a)) (ht:∀b xs,H b=some (.tup xs)->H' b=some (.tup xs)):aT P w H' h' a o:=by
 induction o with
 |lst xs=>obtain⟨z,its,n,r,e⟩:=x;exact⟨z,its,n,r,k _ _ (.inl Zj) e⟩
 |tup xs=>obtain⟨z,its,r,ob,e,c⟩:=x;exact⟨z,its,r,ob,k _ _ (.inl Zj) e,c⟩
 |dK kvs=>obtain⟨z,y,vs,r,ob,es,ep,e,c⟩:=x;exact⟨z,y,vs,r,ob,es,ep,k _ _ (.inl Zj) e,c⟩
 |dT kvs =>
  obtain⟨z,y,xs,r,ob,es,ep,e,c⟩:=x;exact⟨z,y,xs,Paired.mapP r λp q z=>⟨z.1,ht _ _ z.2.1,z.2.2⟩,ob,es,ep,k _ _ (.inl Zj) e,c⟩
 |set S n=>obtain⟨ob,es,ep,t,e,c⟩:=x;exact⟨ob,es,ep,t,k _ _ (.inl Zj) e,c⟩
 |ins C dx fs =>
  obtain⟨d,z,ne,e,mA,⟨od,es,ep,e2,c⟩,r⟩:=x;exact⟨ho _ d,z,ne,k _ _ (.inl Zj) e,mA,⟨od,es,ep,k _ _ (.inr d) e2,c⟩,r⟩
 |own y=>obtain⟨ob,e⟩:=x;exact⟨ob,k _ _ (.inl Zj) e⟩
 |xd fs=>obtain⟨mA,⟨od,es,ep,e,c⟩,r⟩:=x;exact⟨mA,⟨od,es,ep,k _ _ (.inl Zj) e,c⟩,r⟩
 |rng lo hi=>obtain⟨t,u,v,e⟩:=x;exact⟨t,u,v,k _ _ (.inl Zj) e⟩
 |ef ob u ih=>obtain⟨e,q⟩:=x;exact⟨k _ _ (.inl Zj) e,ih q⟩
 |fk ps =>
  have e:h.get? a=some { cls:=.none,data:=.fields ps }:=x;show h'.get? a=some { cls:=.none,data:=.fields ps };exact k a _ (.inl Zj) e
 |met f y =>
  have e:h.get? a=some (W.methodObj (.ref f) (.ref y)):=x;show h'.get? a=some (W.methodObj (.ref f) (.ref y));exact k a _ (.inl Zj) e
 |ext φ=>obtain⟨p,⟨o,e⟩,st⟩:=x;exact⟨st _ _ p λo q=>k _ _ (.inl Zj) q,⟨o,k _ _ (.inl Zj) e⟩,st⟩
theorem cV.lt (x:cV P w H h) (e:H a=some o):a<h.objs.size:=(x a o e).lt
theorem cV.fresh (x:cV P w H h) (e:h.objs.size<=a):H a=none:=by
 cases q:H a with
 |none=>rfl
 |some u=>exact absurd (Z2 (x.lt q) e) (ZH _)
theorem cV.kept (x:cV P w H h) (k:∀b u,h.get? b=some u->h'.get? b=some u):cV P w H h':=λa o e =>
 (x a o e).eG (λb u _ q=>k b u q) (λ_ q=>q) λ_ _ q=>q
theorem cV.laid (x:cV P w H h) (k:∀b u,h.get? b=some u->h'.get? b=some u) (hp:h.objs.size<=a) (new:aT P w (upd H a o) h' a o):cV P w (upd H a o) h':=λb u e=>by
 have hn:=x.fresh hp;by_cases hb:b=a
 ·subst hb;rw[AB]at e;cases e;exact new
 ·rw[AH hb]at e;exact(x b u e).eG (λc v _ q=>k c v q) (λc q=>by rw[AH (AJ q hn)];exact q) λc xs q=>by rw[AH (AJ q hn)];exact q
end
def Rd (H:Hp) (a:W3) (u:HO):Prop:=H a=some u\/∃o,H a=some (.ef o u)
theorem Rd.ok {P:Program}{w:World}{H:Hp}{h:Heap}{a:W3}{u:HO} (r:Rd H a u) (x:cV P w H h):aT P w H h a u:=by
 rcases r with r |⟨o,r⟩
 ·exact x a u r
 ·obtain⟨_,q⟩:=x a _ r;exact q
def Mut:Option HO->Prop
 |some (.lst _)=>True
 |some (.dK _)=>True
 |some (.dT _)=>True
 |some (.set _ _)=>True
 |some (.ins _ _ _)=>True
 |some (.ext _)=>True
 |_=>False
section
variable {P:Program}{w:World}{H:Hp}{h h':Heap}{x e:W3}{o':HO}
theorem cV.write (ok:cV P w H h) (mu:Mut (H x)) (he:e=x\/H e=some (.own x)) (k:∀b u,b≠e->h.get? b=some u->h'.get? b=some u) (heo:∃u,h'.get? e=some u)
  (new:aT P w (upd H x o') h' x o'):cV P w (upd H x o') h':=λb u q=>by
 have nown:∀c y,H c=some (.own y)->c≠x:=λc y r z=>by subst z;rw[r]at mu;exact mu
 have ntup:∀c xs,H c=some (.tup xs)->c≠x:=λc xs r z=>by subst z;rw[r]at mu;exact mu
 by_cases hb:b=x
 ·subst hb;rw[AB]at q;cases q;exact new
 ·rw[AH hb]at q;by_cases ij:b=e
  ·have q':H b=some (.own x):=by
    rcases he with z |z
    ·exact absurd (ij.trans z) hb
    ·rw[ij];exact z
   rw[q]at q';cases q';obtain⟨v,hv⟩:=heo;exact⟨v,by rw[ij];exact hv⟩
  ·refine(ok b u q).eG (λc v hc r=>k c v ?_ r) (λc r=>by rw[AH (nown c b r)];exact r) λc xs r=>by rw[AH (ntup c xs r)];exact r
   rcases hc with rfl |hc
   ·exact ij
   ·rintro rfl;rcases he with z |z
    ·exact nown c b hc z
    ·rw[hc]at z;cases z;exact hb rfl
end
structure Un (fs ex:List W3) (H H':Hp) (h h':Heap):Prop where
 keep:∀b o,h.get? b=some o->H b=none->b∉ fs->b∉ ex->h'.get? b=some o
 slot:∀b o,h.get? b=some o->H b=none->b∈fs->b∉ ex->∃sl,h'.get? b=some { o with slots:=sl }
 free:∀b o,h.get? b=some o->H b=none->b∉ ex->H' b=none
 there:∀b o,h.get? b=some o->b∉ ex->∃o',h'.get? b=some o'
 eF:∀b xs,H b=some (.tup xs)->H' b=some (.tup xs)
 eB:∀b o u,H b=some (.ef o u)->H' b=some (.ef o u)
 eh:∀b ps,H b=some (.fk ps)->∃more,H' b=some (.fk (ps++more))
section
variable {fs fs' ex ex':List W3}{H H1 H2:Hp}{h h1 h2 h':Heap}{a x e:W3}{o:HO}
theorem Un.any (u:Un fs ex H H1 h h1) {b:W3}{ob:Obj} (q:h.get? b=some ob) (n:H b=none) (hx:b∉ ex):∃sl,h1.get? b=some { ob with slots:=sl }:=by
 by_cases hb:b∈fs
 ·exact u.slot b ob q n hb hx
 ·exact⟨ob.slots,u.keep b ob q n hb hx⟩
theorem Un.kept (k:∀b u,h.get? b=some u->h'.get? b=some u):Un fs ex H H h h' :=
 ⟨λb ob q _ _ _=>k b ob q,λb ob q _ _ _=>⟨ob.slots,k b ob q⟩,λ_ _ _ n _=>n,λb ob q _=>⟨ob,k b ob q⟩,λ_ _ q=>q,λ_ _ _ q=>q,λ_ ps q=>⟨#[],by rw[q];simp⟩⟩
theorem Un.refl:Un fs ex H H h h:=Un.kept λ_ _ q=>q
theorem Un.laid (k:∀b u,h.get? b=some u->h'.get? b=some u) (hp:h.objs.size<=a) (hn:H a=none):Un fs ex H (upd H a o) h h' where
 keep:=λb u q _ _ _=>k b u q
 slot:=λb u q _ _ _=>⟨u.slots,k b u q⟩
 free:=λb u q n _=>by rw[AH (ZE (Z2 (lt_size q) hp))];exact n
 there:=λb u q _=>⟨u,k b u q⟩
 eF:=λb xs q=>by rw[AH (AJ q hn)];exact q
 eB:=λb u xs q=>by rw[AH (AJ q hn)];exact q
 eh:=λb ps q=>⟨#[],by rw[AH (AJ q hn),q];simp⟩
theorem Un.write (mu:Mut (H x)) (he:e=x\/H e=some (.own x)) (k:∀b u,b≠e->h.get? b=some u->h'.get? b=some u) (heo:∃u,h'.get? e=some u):Un fs ex H (upd H x o) h h':=by
 have hx:∀b,H b=none->b≠x:=λb n z=>by subst z;rw[n]at mu;exact mu
 have hb:∀b,H b=none->b≠e:=λb n z=>by
  subst z;rcases he with r |r
  ·exact hx b n r
  ·rw[n]at r;cases r
 have hm:∀b u,H b=some u->¬ Mut (some u)->b≠x:=λb u q nm z=>by subst z;rw[q]at mu;exact nm mu
 refine⟨λb u q n _ _=>k b u (hb b n) q,λb u q n _ _=>⟨u.slots,k b u (hb b n) q⟩,λb u q n _=>by rw[AH (hx b n)];exact n,λb u q _=>?_,
  λb xs q=>by rw[AH (hm b _ q λz=>z)];exact q,λb u xs q=>by rw[AH (hm b _ q λz=>z)];exact q,λb ps q=>⟨#[],by rw[AH (hm b _ q λz=>z),q];simp⟩⟩
 by_cases ij:b=e
 ·subst ij;exact heo
 ·exact⟨u,k b u ij q⟩
end
noncomputable def trk (h:Heap) (H:Hp):List W3:=(List.range h.objs.size).filter λa=>(H a).isSome
noncomputable def HM (h:Heap) (H:Hp):Heap:=W.hideAll h (trk h H)
theorem Ox (h:Heap) (H:Hp):(HM h H).objs.size=h.objs.size:=W.hideAll_size _ _
theorem QT {h:Heap}{H:Hp}{b:W3}{o:Obj} (e:h.get? b=some o) (n:H b=none):(HM h H).get? b=some o :=
 W.hideAll_get _ e λhm=>by
  have q:(H b).isSome=true:=(mem_filter.mp hm).2;rw[n]at q;simp at q
theorem Ss {h:Heap}{H:Hp}{b:W3}{o:Obj} (e:(HM h H).get? b=some o):h.get? b=some o/\H b=none:=by
 have e':h.get? b=some o:=W.of_hideAll (trk h H) e;refine⟨e',?_⟩;cases q:H b with
 |none=>rfl
 |some x =>
  have hm:b∈trk h H:=mem_filter.mpr ⟨mem_range.mpr (lt_size e'),by simp[q]⟩;have z:(HM h H).get? b=none:=W.hideAll_none (trk h H) hm;rw[z]at e;cases e
structure Mod (K:FG) (mg:SV) (base:Heap):Prop where
 kin:K.In base
 glob:base.Ns mainGlobals mg
 blt:∃mb,base.Ns builtinsNs mb/\∀x:Str,x≠ "__name__" -> mb x=bootBuiltins x
 nolimit:base.NoLimit
structure Cx where
 prog:Program
 w:World
 K:FG
 mg:Str->Option Value
 base:Heap
 A:Around
 N:Ww
 aX:W4
 eD:Hp
 env:Env
 outer:List Env
 stack:List Env
 ex:List W3
 fn:Str->Bool
 calm:Bool
 pn:LO
 xe:Value->W4->Prop
noncomputable def cQ (l:List Env):List W3:=l.filterMap (·.frame)
noncomputable abbrev Cx.fs (X:Cx):List W3:=cQ X.outer
def Vis (sc:Scope) (x:Str):Prop:=sc.names.lookup x=some .local\/sc.names.lookup x=some .cell\/sc.names.lookup x=some .free
def Loc (sc:Scope) (x:Str):Prop:=sc.names.lookup x=some .local\/sc.names.lookup x=some .cell
def WQ (env:Env) (h:Heap) (m:SV) (x:Str) (u:Value):Prop :=
 (env.kindOf x=some .local/\m x=some u)\/((env.kindOf x=some .cell\/env.kindOf x=some .free)/\∃c,env.cells.lookup x=some c/\h.IsCell c (some u))
structure Cx.Ok (X:Cx):Prop where
 mod:Mod X.K X.mg X.base
 kind:X.env.scope.kind=.function
 glob:X.env.globals=mainGlobals
 blt:X.env.builtins=builtinsNs
 above:X.aX.heap.objs.size<=X.env.locals
 inj:∀x y c,X.env.cells.lookup x=some c->X.env.cells.lookup y=some c->x=y
 has:∀x,(X.env.kindOf x=some .cell\/X.env.kindOf x=some .free)->∃c,X.env.cells.lookup x=some c
 ip:∀x c,X.fn x=true->X.env.cells.lookup x=some c->X.aX.heap.objs.size<=c
 hd:X.calm=true->X.A.handled=none
 frames:X.A.frames=some X.stack
 fq:X.stack=X.outer\/(X.stack=X.env::X.outer/\X.env.frame=some X.env.locals)
 exf:∀b∈X.ex,b≠X.env.locals/\∀x c,X.env.cells.lookup x=some c->c≠b
 bs:∀b o,X.base.get? b=some o->X.aX.heap.get? b=some o/\X.eD b=none
 f6:X.base.objs.size<=X.aX.heap.objs.size
 eW:∀b o,X.base.get? b=some o->b∉ X.ex
 eY:∀b∈X.ex,b∉ X.fs
 cJ:X.aX.heap.FunFrames X.base X.outer
 gz:∀b∈X.fs,X.eD b=none
structure Inv (X:Cx) (aa:LO) (σ:List (Option V)) (H:Hp) (s:W4):Prop where
 ok:X.Ok
 os:s.os=X.aX.os
 bare:AllBare s.gens
 base:Un X.fs X.ex X.eD H X.aX.heap s.heap
 loc:∃m,s.heap.Ns X.env.locals m/\∀(i:Nat) (x:Str) (v:V),X.N[i]?=some x->σ[i]?=some (some v)->Vis X.env.scope x->∃u,RelV v u/\WQ X.env s.heap m x u
 cell:∀x c,X.env.cells.lookup x=some c->∃v,s.heap.IsCell c v
 free:H X.env.locals=none
 bP:∀x c,X.env.cells.lookup x=some c->H c=none
 pin:∀p∈X.pn++aa,s.heap.get? p.1=some p.2/\H p.1=none/\p.1≠X.env.locals/\p.1∉ X.fs/\∀v,p.2.data≠ .cell v
 aE:cV X.prog X.w H s.heap
 len:σ.length=X.N.length
section
variable {X:Cx}{aa:LO}{σ:List (Option V)}{H H':Hp}{s:W4}{h':Heap}
theorem Cx.Ok.nofr (ok:X.Ok) {b:W3}{o:Obj} (e:X.base.get? b=some o):b∉ X.fs:=λhb=>by
 have:=(ok.cJ.mem hb).1;rw[e]at this;cases this
theorem Inv.bs (I:Inv X aa σ H s):∀b o,X.base.get? b=some o->s.heap.get? b=some o/\H b=none:=λb o e =>
 ⟨I.base.keep b o (I.ok.bs b o e).1 (I.ok.bs b o e).2 (I.ok.nofr e) (I.ok.eW b o e),I.base.free b o (I.ok.bs b o e).1 (I.ok.bs b o e).2 (I.ok.eW b o e)⟩
theorem Inv.bk (I:Inv X aa σ H s):∀b o,X.base.get? b=some o->s.heap.get? b=some o:=λb o e=>(I.bs b o e).1
theorem Inv.mod (I:Inv X aa σ H s):Mod X.K X.mg X.base:=I.ok.mod
theorem Inv.cC (I:Inv X aa σ H s):X.K.In s.heap:=I.ok.mod.kin.keeps I.bk
theorem Inv.fr (I:Inv X aa σ H s):∃m,Fr X.base X.env.locals s.heap m :=
 let ⟨m,hn,_⟩:=I.loc
 ⟨m,hn,I.bk,Nat.le_trans I.ok.f6 I.ok.above⟩
theorem Inv.lt (I:Inv X aa σ H s):X.env.locals<s.heap.objs.size:=let ⟨_,hn,_⟩:=I.loc;hn.lt
theorem Inv.sz (I:Inv X aa σ H s):X.aX.heap.objs.size<=s.heap.objs.size:=Nat.le_trans I.ok.above (Nat.le_of_lt I.lt)
theorem Inv.nofs (I:Inv X aa σ H s) {a:W3} (h:s.heap.objs.size<=a):a∉ X.fs:=λhb=>by
 obtain⟨_,o,ho,_⟩:=I.ok.cJ.mem hb;exact absurd (Z2 (lt_size ho) (Nat.le_trans I.sz h)) (ZH _)
theorem Inv.iZ (I:Inv X aa σ H s):∀x c,X.env.cells.lookup x=some c->c≠X.env.locals:=λx c e z=>by
 obtain⟨v,o,ho,hd⟩:=I.cell x c e;obtain⟨m,⟨o',es,ep,gj,hd',_⟩,_⟩:=I.loc;rw[z,gj]at ho;cases ho;rw[hd']at hd;cases hd
theorem Inv.cJ (I:Inv X aa σ H s):s.heap.FunFrames X.base X.outer:=by
 have all:∀(l:List Env),(∀b∈cQ l,b∈X.fs)->X.aX.heap.FunFrames X.base l->s.heap.FunFrames X.base l:=by
  intro l;induction l with
  |nil=>intro _ _;trivial
  |cons env r ih =>
   intro hs hl;obtain⟨hk,⟨L,o,hf,hn,ho,hd⟩,hr⟩:=hl;have hL:L∈X.fs:=hs L (by unfold cQ;rw[ZN,hf];exact ZK);obtain⟨sl,e⟩:=I.base.slot L o ho (I.ok.gz L hL) hL λz=>I.ok.eY L z hL;exact⟨hk,⟨L,_,hf,hn,e,hd⟩,ih (λb hb=>hs b (by unfold cQ;rw[ZN,hf];exact ZS _ hb)) hr⟩
 exact all X.outer (λ_ hb=>hb) I.ok.cJ
theorem Inv.stack (I:Inv X aa σ H s):s.heap.FunFrames X.base X.stack:=by
 rcases I.ok.fq with e |⟨e,hf⟩
 ·rw[e];exact I.cJ
 ·rw[e];obtain⟨m,hn,_⟩:=I.loc;refine .cons (by rw[I.ok.kind];decide) hf hn ?_ I.cJ;exact Heap.get?_none_of_le (Nat.le_trans I.ok.f6 I.ok.above)
theorem Inv.stkSub (I:Inv X aa σ H s):∀b∈cQ X.stack,b∈X.env.locals::X.fs:=λb hb=>by
 rcases I.ok.fq with e |⟨e,hf⟩
 ·rw[e]at hb;exact ZS _ hb
 ·rw[e]at hb;unfold cQ at hb;rw[ZN,hf]at hb;exact hb
theorem Inv.stkFree (I:Inv X aa σ H s):∀b∈cQ X.stack,H b=none:=λb hb=>by
 rcases mem_cons.mp (I.stkSub b hb)with e |hb
 ·rw[e];exact I.free
 ·obtain⟨_,o,ho,_⟩:=I.ok.cJ.mem hb;exact I.base.free b o ho (I.ok.gz b hb) λz=>I.ok.eY b z hb
theorem Inv.step {g':Array GenState}{t':Nat}{d':Drawn}{ch:List W3} (I:Inv X aa σ H s)
  (iD:∀b∈ch,(b∈X.ex\/X.aX.heap.objs.size<=b)/\b≠X.env.locals/\(∀x c,X.env.cells.lookup x=some c->c≠b)/\∀p∈X.pn++aa,p.1≠b)
  (keep:∀b o,b≠X.env.locals->b∉ X.fs->b∉ ch->s.heap.get? b=some o->H b=none->h'.get? b=some o)
  (slot:∀b o,b≠X.env.locals->b∈X.fs->b∉ ch->s.heap.get? b=some o->H b=none->∃sl,h'.get? b=some { o with slots:=sl }) (free:∀b o,b∉ ch->s.heap.get? b=some o->H b=none->H' b=none)
  (there:∀b o,b∉ ch->s.heap.get? b=some o->∃o',h'.get? b=some o')
  (eF:∀b xs,H b=some (.tup xs)->H' b=some (.tup xs)) (eB:∀b o u,H b=some (.ef o u)->H' b=some (.ef o u)) (eh:∀b ps,H b=some (.fk ps)->∃more,H' b=some (.fk (ps++more)))
  (ns:∀m,s.heap.Ns X.env.locals m->h'.Ns X.env.locals m) (aE:cV X.prog X.w H' h') (hg:AllBare g') :
  Inv X aa σ H' { s with heap:=h',gens:=g',drawn:=d',toks:=t' }:=by
 have neL:∀b o,X.aX.heap.get? b=some o->b≠X.env.locals:=λb o e=>ZE (Z2 (lt_size e) I.ok.above)
 have neC:∀b o,X.aX.heap.get? b=some o->b∉ X.ex->b∉ ch:=λb o e hx hb=>by
  rcases (iD b hb).1 with z |z
  ·exact hx z
  ·exact absurd (Z2 (lt_size e) z) (ZH _)
 have cellK:∀x c,X.env.cells.lookup x=some c->∀v,s.heap.IsCell c v->h'.IsCell c v:=λx c e v ⟨o,ho,hd⟩=>by
  have nch:c∉ ch:=λz=>(iD c z).2.2.1 x c e rfl;by_cases hc:c∈X.fs
  ·obtain⟨sl,q⟩:=slot c o (I.iZ x c e) hc nch ho (I.bP x c e);exact⟨_,q,hd⟩
  ·exact⟨o,keep c o (I.iZ x c e) hc nch ho (I.bP x c e),hd⟩
 refine⟨I.ok,I.os,hg,⟨λb o e n hb hx=>?_,λb o e n hb hx=>?_,λb o e n hx=>?_,λb o e hx=>?_,λb xs e=>eF b xs (I.base.eF b xs e),λb o xs e=>eB b o xs (I.base.eB b o xs e),λb ps e=>?_⟩,?_,λx c e=>?_,?_,λx c e=>?_,λp hp=>?_,aE,I.len⟩
 ·exact keep b o (neL b o e) hb (neC b o e hx) (I.base.keep b o e n hb hx) (I.base.free b o e n hx)
 ·obtain⟨sl,e1⟩:=I.base.slot b o e n hb hx;obtain⟨sl',e2⟩:=slot b _ (neL b o e) hb (neC b o e hx) e1 (I.base.free b o e n hx);exact⟨sl',e2⟩
 ·obtain⟨o',e1⟩:=I.base.there b o e hx;exact free b o' (neC b o e hx) e1 (I.base.free b o e n hx)
 ·obtain⟨o',e1⟩:=I.base.there b o e hx;exact there b o' (neC b o e hx) e1
 ·obtain⟨m1,e1⟩:=I.base.eh b ps e;obtain⟨m2,e2⟩:=eh b _ e1;exact⟨m1++m2,by rw[e2,Array.append_assoc]⟩
 ·obtain⟨m,hn,hl⟩:=I.loc;refine⟨m,ns m hn,λi x v e1 e2 e3=>?_⟩;obtain⟨u,r,l⟩:=hl i x v e1 e2 e3;refine⟨u,r,?_⟩;rcases l with l |⟨k,c,e,z⟩
  ·exact .inl l
  ·exact .inr ⟨k,c,e,cellK x c e _ z⟩
 ·obtain⟨v,z⟩:=I.cell x c e;exact⟨v,cellK x c e v z⟩
 ·obtain⟨m,⟨o,_,_,ho,_⟩,_⟩:=I.loc;exact free _ o (λz=>(iD _ z).2.1 Zj) ho I.free
 ·obtain⟨v,o,ho,hd⟩:=I.cell x c e;exact free c o (λz=>(iD c z).2.2.1 x c e Zj) ho (I.bP x c e)
 ·obtain⟨e,n,ne,nf,d⟩:=I.pin p hp;have nch:p.1∉ ch:=λz=>(iD p.1 z).2.2.2 p hp rfl;exact⟨keep p.1 p.2 ne nf nch e n,free p.1 p.2 nch e n,ne,nf,d⟩
theorem Inv.un {t':Nat} (I:Inv X aa σ H s) (u:Un X.fs [] H H' s.heap h') (aE:cV X.prog X.w H' h'):Inv X aa σ H' { s with heap:=h',toks:=t' }:=by
 obtain⟨m,⟨o,es,ep,ho,r⟩,_⟩:=id I.loc;obtain⟨sl,hL⟩:=u.any ho I.free (by simp)
 exact I.step (g':=s.gens) (d':=s.drawn) (ch:=[]) (λ_ z=>nomatch z) (λb o _ hb _ e n=>u.keep b o e n hb (by simp)) (λb o _ hb _ e n=>u.slot b o e n hb (by simp)) (λb o _ e n=>u.free b o e n (by simp)) (λb o _ e=>u.there b o e (by simp)) u.eF u.eB u.eh (λm' hm=>by
  obtain⟨o',iX,iF,gj,r'⟩:=hm;rw[ho]at gj;cases gj
  exact⟨_,iX,iF,hL,r'⟩) aE I.bare
theorem Inv.call {g':Array GenState}{t':Nat}{d':Drawn}{ch:List W3} (I:Inv X aa σ H s) (u:Un (cQ X.stack) ch H H' s.heap h') (aE:cV X.prog X.w H' h') (hg:AllBare g')
  (iD:∀b∈ch,(b∈X.ex\/X.aX.heap.objs.size<=b)/\b≠X.env.locals/\(∀x c,X.env.cells.lookup x=some c->c≠b)/\∀p∈X.pn++aa,p.1≠b) :
  Inv X aa σ H' { s with heap:=h',gens:=g',drawn:=d',toks:=t' }:=by
 obtain⟨m,⟨o,es,ep,ho,r⟩,_⟩:=id I.loc;obtain⟨sl,hL⟩:=u.any ho I.free λz=>(iD _ z).2.1 rfl
 exact I.step (ch:=ch) iD (λb o hL hb hc e n=>u.keep b o e n (λz=>(mem_cons.mp (I.stkSub b z)).elim hL hb) hc) (λb o _ _ hc e n=>u.any e n hc) (λb o hc e n=>u.free b o e n hc) (λb o hc e=>u.there b o e hc) u.eF u.eB u.eh (λm' hm=>by
  obtain⟨o',iX,iF,gj,r'⟩:=hm;rw[ho]at gj;cases gj
  exact⟨_,iX,iF,hL,r'⟩) aE hg
theorem Inv.turned {t':Nat}{it:W3} (I:Inv X aa σ H s) (k:∀b o,b≠it->s.heap.get? b=some o->h'.get? b=some o) (hn:H it=none) (hL:it≠X.env.locals)
  (h1:it∈X.ex\/X.aX.heap.objs.size<=it) (h2:∀x c,X.env.cells.lookup x=some c->c≠it) (h3:∀p∈X.pn++aa,p.1≠it):Inv X aa σ H { s with heap:=h',toks:=t' }:=by
 have nit:∀b u,H b=some u->b≠it:=λb u e z=>by rw[z,hn]at e;cases e
 refine I.step (g':=s.gens) (d':=s.drawn) (ch:=[it]) (λb hb=>?_) (λb o _ _ hc e _=>k b o (λz=>hc (by simp[z])) e) (λb o _ _ hc e _=>⟨o.slots,k b o (λz=>hc (by simp[z])) e⟩) (λ_ _ _ _ n=>n)
  (λb o hc e=>⟨o,k b o (λz=>hc (by simp[z])) e⟩) (λ_ _ e=>e) (λ_ _ _ e=>e) (λb ps e=>⟨#[],by rw[e];simp⟩) (λm hm=>?_) (λb u e=>?_) I.bare
 ·have e:b=it:=by simpa using hb
  subst e;exact⟨h1,hL,h2,h3⟩
 ·obtain⟨o,es,ep,ho,r⟩:=hm;exact⟨o,es,ep,k _ o (Ne.symm hL) ho,r⟩
 ·refine(I.aE b u e).eG (λc v hc q=>k c v ?_ q) (λ_ q=>q) λ_ _ q=>q;rcases hc with z |z
  ·rw[z];exact nit b u e
  ·exact nit c _ z
theorem Inv.tok (I:Inv X aa σ H s) (t:Nat):Inv X aa σ H { s with toks:=t }:=I.un (h':=s.heap) (t':=t) Un.refl I.aE
theorem Inv.kept {t':Nat} (I:Inv X aa σ H s) (k:∀b u,s.heap.get? b=some u->h'.get? b=some u):Inv X aa σ H { s with heap:=h',toks:=t' }:=I.un (Un.kept k) (I.aE.kept k)
theorem Inv.laid {a:W3}{o:HO}{t':Nat} (I:Inv X aa σ H s) (k:∀b u,s.heap.get? b=some u->h'.get? b=some u) (hp:s.heap.objs.size<=a) (new:aT X.prog X.w (upd H a o) h' a o) :
  Inv X aa σ (upd H a o) { s with heap:=h',toks:=t' }:=I.un (Un.laid k hp (I.aE.fresh hp)) (I.aE.laid k hp new)
theorem Inv.write {x e:W3}{o:HO}{t':Nat} (I:Inv X aa σ H s) (mu:Mut (H x)) (he:e=x\/H e=some (.own x)) (k:∀b u,b≠e->s.heap.get? b=some u->h'.get? b=some u) (heo:∃u,h'.get? e=some u)
  (new:aT X.prog X.w (upd H x o) h' x o):Inv X aa σ (upd H x o) { s with heap:=h',toks:=t' }:=I.un (Un.write mu he k heo) (I.aE.write mu he k heo new)
theorem Inv.weak {aN:List (Option V)} (I:Inv X aa σ H s) (hl:aN.length=σ.length) (w:∀(i:Nat) v,aN[i]?=some (some v)->σ[i]?=some (some v)):Inv X aa aN H s :=
 ⟨I.ok,I.os,I.bare,I.base,let ⟨m,hn,iA⟩:=I.loc;⟨m,hn,λi x v e1 e2 e3=>iA i x v e1 (w i v e2) e3⟩,I.cell,I.free,I.bP,I.pin,I.aE,hl.trans I.len⟩
theorem Inv.pins_of {pins':LO} (I:Inv X aa σ H s) (h:∀p∈pins',s.heap.get? p.1=some p.2/\H p.1=none/\p.1≠X.env.locals/\p.1∉ X.fs/\∀v,p.2.data≠ .cell v):Inv X pins' σ H s :=
 ⟨I.ok,I.os,I.bare,I.base,I.loc,I.cell,I.free,I.bP,λp hp=>(mem_append.mp hp).elim (λz=>I.pin p (ZQ _ z)) (h p),I.aE,I.len⟩
theorem Ku {N:Ww} (hN:N.Nodup) {i j:Nat}{x:Str} (a:N[i]?=some x) (b:N[j]?=some x):i=j:=by
 obtain⟨h1,e1⟩:=Z8.mp a;obtain⟨h2,e2⟩:=Z8.mp b;exact(List.getElem_inj hN).mp (e1.trans e2.symm)
theorem JC {M:Model}{A:Around}{E:VS}{i:Nat}{x:Str}{v:V}{u:Value}{Q:Unit->W4->Prop} (I:Inv X aa σ H s) (hN:X.N.Nodup) (hi:X.N[i]?=some x) (hx:Loc X.env.scope x) (r:RelV v u)
  (h:∀s',Inv X aa (σ.set i (some v)) H s'->(∃a,Heap.SameBut a s.heap s'.heap/\(a=X.env.locals\/X.env.cells.lookup x=some a))->Q () s') (hf:X.fn x=true\/X.env.scope.names.lookup x=some .local:=by first |exact .inl rfl |exact .inr rfl |assumption):wpAny M A (storeName X.env x u) Q E s:=by
 obtain⟨m,hn,hl⟩:=id I.loc;have br:(X.env.scope.kind == .class||(X.env.scope.kind == .module&&X.env.locals != X.env.globals))=false:=by rw[I.ok.kind];rfl
 have hiσ:i<σ.length:=by rw[I.len];exact(Z8.mp hi).1
 have iZ:=I.iZ
 have tracked:∀ {a:W3}{h':Heap},(∃o,s.heap.get? a=some o/\H a=none)->Heap.SameBut a s.heap h'->cV X.prog X.w H h':=λ{a h'} ha hs b ob e=>by
  obtain⟨_,_,cm⟩:=ha;refine(I.aE b ob e).eG (λc w' hc q=>(hs.2 c ?_).trans q) (λ_ q=>q) λ_ _ q=>q;rintro rfl;rcases hc with rfl |hc
  ·rw[cm]at e;cases e
  ·rw[cm]at hc;cases hc
 rcases hx with hk |hk
 ·refine wpAny_storeName_local hk hn (λh' hn' hs=>?_) br;obtain⟨oL,_,_,gW,_⟩:=id hn;refine h _ ⟨I.ok,I.os,I.bare,⟨λb o e n hb hx=>?_,λb o e n hb hx=>?_,I.base.free,λb o e hx=>?_,I.base.eF,I.base.eB,I.base.eh⟩,⟨_,hn',λj y v' e1 e2 e3=>?_⟩,λy c e=>?_,I.free,I.bP,λp hp=>?_,tracked ⟨oL,gW,I.free⟩ hs,by simpa using I.len⟩ ⟨_,hs,.inl Zj⟩
  ·exact(hs.2 b (ZE (Z2 (lt_size e) I.ok.above))).trans (I.base.keep b o e n hb hx)
  ·obtain⟨sl,e1⟩:=I.base.slot b o e n hb hx;exact⟨sl,(hs.2 b (ZE (Z2 (lt_size e) I.ok.above))).trans e1⟩
  ·obtain⟨o',e1⟩:=I.base.there b o e hx;exact⟨o',(hs.2 b (ZE (Z2 (lt_size e) I.ok.above))).trans e1⟩
  ·by_cases hj:j=i
   ·subst hj;rw[hi]at e1;cases e1;rw[List.getElem?_set_self hiσ]at e2;cases e2;exact⟨u,r,.inl ⟨hk,by simp⟩⟩
   ·rw[List.getElem?_set_ne (Ne.symm hj)]at e2;obtain⟨u',r',q⟩:=hl j y v' e1 e2 e3;refine⟨u',r',?_⟩;rcases q with⟨k,e⟩ |⟨k,c,e,z⟩
    ·refine .inl ⟨k,?_⟩;have:y≠x:=λe=>hj (Ku hN e1 (e ▸ hi));simp[this,e]
    ·exact .inr ⟨k,c,e,z.sameBut hs (iZ y c e)⟩
  ·obtain⟨w',z⟩:=I.cell y c e;exact⟨w',z.sameBut hs (iZ y c e)⟩
  ·obtain⟨e,n,ne,nf,d⟩:=I.pin p hp;exact⟨(hs.2 p.1 ne).trans e,n,ne,nf,d⟩
 ·have hfn:X.fn x=true:=by
   rcases hf with z |z
   ·exact z
   ·rw[z]at hk;cases hk
  obtain⟨c,hc⟩:=I.ok.has x (.inl hk);obtain⟨w',z⟩:=I.cell x c hc;refine wpAny_storeName_cell I.ok.kind hk hc z (λh' iT hs=>?_);obtain⟨oc,hoc,hocd⟩:=id z;refine h { s with heap:=h' } ⟨I.ok,I.os,I.bare,⟨λb o e n hb hx=>?_,λb o e n hb hx=>?_,I.base.free,λb o e hx=>?_,I.base.eF,I.base.eB,I.base.eh⟩,⟨m,hn.sameBut hs (Ne.symm (iZ x c hc)),λj y v' e1 e2 e3=>?_⟩,λy c' e=>?_,I.free,I.bP,λp hp=>?_,tracked ⟨oc,hoc,I.bP x c hc⟩ hs,by simpa using I.len⟩ ⟨c,hs,.inr hc⟩
  ·exact(hs.2 b (ZE (Z2 (lt_size e) (I.ok.ip x c hfn hc)))).trans (I.base.keep b o e n hb hx)
  ·obtain⟨sl,e1⟩:=I.base.slot b o e n hb hx;exact⟨sl,(hs.2 b (ZE (Z2 (lt_size e) (I.ok.ip x c hfn hc)))).trans e1⟩
  ·obtain⟨o',e1⟩:=I.base.there b o e hx;exact⟨o',(hs.2 b (ZE (Z2 (lt_size e) (I.ok.ip x c hfn hc)))).trans e1⟩
  ·by_cases hj:j=i
   ·subst hj;rw[hi]at e1;cases e1;rw[List.getElem?_set_self hiσ]at e2;cases e2;exact⟨u,r,.inr ⟨.inl hk,c,hc,iT⟩⟩
   ·rw[List.getElem?_set_ne (Ne.symm hj)]at e2;obtain⟨u',r',q⟩:=hl j y v' e1 e2 e3;refine⟨u',r',?_⟩;rcases q with q |⟨k,c',e,z'⟩
    ·exact .inl q
    ·refine .inr ⟨k,c',e,z'.sameBut hs ?_⟩;rintro rfl;exact hj (Ku hN e1 (I.ok.inj _ _ _ e hc ▸ hi))
  ·by_cases hcc:c'=c
   ·subst hcc;exact⟨_,iT⟩
   ·obtain⟨w2,z2⟩:=I.cell y c' e;exact⟨w2,z2.sameBut hs hcc⟩
  ·obtain⟨e,n,ne,nf,d⟩:=I.pin p hp;refine⟨(hs.2 p.1 ?_).trans e,n,ne,nf,d⟩;intro q;rw[q,hoc]at e;have q':oc=p.2:=Option.some.inj e;exact d w' (by rw[←q'];exact hocd)
theorem FQ {M:Model}{A:Around}{E:VS}{i:Nat}{x:Str}{v:V}{u:Value}{Q:Unit->W4->Prop} (I:Inv X aa σ H s) (hN:X.N.Nodup) (hi:X.N[i]?=some x) (hx:Loc X.env.scope x) (r:RelV v u)
  (h:∀s',Inv X aa (σ.set i (some v)) H s'->Q () s') (hf:X.fn x=true\/X.env.scope.names.lookup x=some .local:=by first |exact .inl rfl |exact .inr rfl |assumption):wpAny M A (storeName X.env x u) Q E s :=
 JC I hN hi hx r (λs' I' _=>h s' I') hf
theorem Inv.call' {s':W4}{ch:List W3} (I:Inv X aa σ H s) (ho:s'.os=s.os) (u:Un (cQ X.stack) ch H H' s.heap s'.heap) (aE:cV X.prog X.w H' s'.heap) (hg:AllBare s'.gens)
  (iD:∀b∈ch,(b∈X.ex\/X.aX.heap.objs.size<=b)/\b≠X.env.locals/\(∀x c,X.env.cells.lookup x=some c->c≠b)/\∀p∈X.pn++aa,p.1≠b):Inv X aa σ H' s':=by
 obtain⟨h',g',d',t',o'⟩:=s';have e:o'=s.os:=ho;subst e;exact I.call (g':=g') (t':=t') (d':=d') u aE hg iD
end
abbrev XK:=Value->Option W3->Hp->Prop
abbrev St:=List (Option V)
abbrev VK:=V->Hp->Prop
abbrev TE:=St->Hp->VK->Prop
abbrev TT:=St->Hp->(Bool->Hp->Prop)->Prop
abbrev TA:=St->Hp->(Wy->Hp->Prop)->Prop
structure EG where
 nx:St->Hp->Prop
 rt:VK
 bk:St->Hp->Prop:=λ_ _=>False
 ct:St->Hp->Prop:=λ_ _=>False
abbrev TS:=EG->St->Hp->Prop
inductive EP (X:Cx) (aa:LO) (σ:St) (Q:VK) (u:Value) (s':W4):Prop where
 |mk (v:V) (H':Hp) (i:Inv X aa σ H' s') (r:RelV v u) (q:Q v H'):EP X aa σ Q u s'
def TP (X:Cx) (aa:LO) (σ:St) (Q:Bool->Hp->Prop) (b:Bool) (s':W4):Prop:=∃H',Inv X aa σ H' s'/\Q b H'
inductive AP (X:Cx) (aa:LO) (σ:St) (Q:Wy->Hp->Prop) (us:Wx) (s':W4):Prop where
 |mk (vs:Wy) (H':Hp) (i:Inv X aa σ H' s') (r:Vals vs us) (q:Q vs H'):AP X aa σ Q us s'
def SP (X:Cx) (aa:LO) (D:EG) (f:Flow) (s':W4):Prop :=
 match f with
 | .next=>∃aN H',Inv X aa aN H' s'/\D.nx aN H'
 | .brk=>∃aN H',Inv X aa aN H' s'/\D.bk aN H'
 | .cont=>∃aN H',Inv X aa aN H' s'/\D.ct aN H'
 | .ret u=>∃v aN H',Inv X aa aN H' s'/\RelV v u/\D.rt v H'
def PE (X:Cx) (e:Expr) (t:TE):Prop :=
 ∀(aa:LO) (s:W4) (σ:St) (H:Hp) (Q:VK),Inv X aa σ H s->t σ H Q->wpAny (model X.prog X.w) X.A (eval e X.env) (EP X aa σ Q) X.xe s
def PT (X:Cx) (e:Expr) (t:TT):Prop :=
 ∀(aa:LO) (s:W4) (σ:St) (H:Hp) (Q:Bool->Hp->Prop),Inv X aa σ H s->t σ H Q->wpAny (model X.prog X.w) X.A (isTrue e X.env (eval e X.env)) (TP X aa σ Q) X.xe s
def PW (X:Cx) (e:Expr) (t:TT):Prop :=
 ∀(whole:Sem Value) (aa:LO) (s:W4) (σ:St) (H:Hp) (Q:Bool->Hp->Prop),Inv X aa σ H s->t σ H Q->wpAny (model X.prog X.w) X.A (isTrue e X.env whole) (TP X aa σ Q) X.xe s
theorem PW.pt {X:Cx}{e:Expr}{t:TT} (h:PW X e t):PT X e t:=h _
def PA (X:Cx) (es:List Expr) (t:TA):Prop :=
 ∀(pos:Pos) (aa:LO) (s:W4) (σ:St) (H:Hp) (Q:Wy->Hp->Prop),Inv X aa σ H s->t σ H Q->wpAny (model X.prog X.w) X.A (spliced (backTo pos (starEach es X.env))) (AP X aa σ Q) X.xe s
def PS (X:Cx) (st:Stmt) (t:TS):Prop :=
 ∀(aa:LO) (s:W4) (σ:St) (H:Hp) (D:EG),Inv X aa σ H s->t D σ H->wpAny (model X.prog X.w) X.A (exec st X.env) (SP X aa D) X.xe s
def dP (X:Cx) (st:List Stmt) (t:TS):Prop :=
 ∀(aa:LO) (s:W4) (σ:St) (H:Hp) (D:EG),Inv X aa σ H s->t D σ H->wpAny (model X.prog X.w) X.A (execs st X.env) (SP X aa D) X.xe s
theorem aL {α:Type}{t:Sem α}{Q Q':α->W4->Prop}{M:Model}{A:Around}{E:VS}{s:W4} (h:wpAny M A t Q E s) (hQ:∀a s,Q a s->Q' a s):wpAny M A t Q' E s:=Zu h hQ λ_ _ x=>x
end L2
variable {X:L2.Cx}{H:L2.Hp}{H':L2.Hp}{s:PySem.Shared}{pos:PySem.Pos}{σ:L2.St}{P:PySem.Program}{w:PySem.World}{A:PySem.Around}{aa:LO}{x:PySem.Str}{a:PySem.Addr}{K:FG}{C:PySem.Addr}{E:VS}{h:PySem.Heap}{us:List PySem.Value}{f:PySem.Addr}{u:PySem.Value}{xs:List L2.V}{e:PySem.Expr}{te:L2.TE}{base:PySem.Heap}{N:List PySem.Str}{mg:SV}
namespace L2
open PySem PySem.Spec PyProof.Rows
section
inductive ExV (o:Option (Option V)) (k:V->Prop):Prop where
 |mk (v:V) (h:o=some (some v)) (q:k v):ExV o k
inductive ExB (x:V) (k:Bool->Prop):Prop where
 |mk (c:Bool) (h:x=.bl c) (q:k c):ExB x k
inductive ExI (x y:V) (k:Int->Int->Prop):Prop where
 |mk (i j:Int) (h:x=.int i) (h':y=.int j) (q:k i j):ExI x y k
def D9 (i:Nat):TE:=λσ H Q=>ExV σ[i]? λv=>Q v H
def tC (v:V):TE:=λ_ H Q=>Q v H
theorem QU {i:Nat} (hN:X.N[i]?=some x) (hv:Vis X.env.scope x) (hd:(x==("__debug__" : Str))=false:=by decide) (eo:(x==("__classdict__" : Str))=false:=by decide):PE X (.Name x pos) (D9 i):=by
 intro aa s σ H Q I h;obtain⟨v,e,h⟩:=h;obtain⟨m,hn,hl⟩:=I.loc;obtain⟨u,r,l⟩:=hl i x v hN e hv;have fin:EP X aa σ Q u s:=⟨v,H,I,r,h⟩;rcases l with⟨hk,hm⟩ |⟨hk,c,hc,bp⟩
 ·exact wpAny_Name (wpAny_loadName_local I.ok.kind hk hn hm fin) hd
 ·rcases hk with hk |hk
  ·exact wpAny_Name (wpAny_loadName_cell I.ok.kind hk hc bp fin) hd
  ·exact wpAny_Name (wpAny_loadName_free I.ok.kind hk hc bp fin eo) hd
theorem AI {i j pos}:PE X (.Constant (.int i) j pos) (tC (.int i)):=λ_ _ _ H _ I h=>wpAny_Constant_int ⟨.int i,H,I.tok _,⟨_,rfl⟩,h⟩
theorem N1 {b j pos}:PE X (.Constant (.bool b) j pos) (tC (.bl b)):=λ_ _ _ H _ I h=>Constant_bool ⟨.bl b,H,I,rfl,h⟩
theorem Bj {j pos}:PE X (.Constant .none j pos) (tC .aK):=λ_ _ _ H _ I h=>Constant_none ⟨.aK,H,I,rfl,h⟩
theorem AY {x j pos}:PE X (.Constant (.str x) j pos) (tC (.str x)):=λ_ _ _ H _ I h=>Calls.Constant_str ⟨.str x,H,I.tok _,⟨_,rfl⟩,h⟩
def Gl (X:Cx) (x:Str):Prop:=X.env.kindOf x=some .globalImplicit
theorem Br {Q:VS} (I:Inv X aa σ H s) (hg:Gl X x) (hm:X.mg x=some u) (h:Q u s)
  (hd:(x==("__debug__" : Str))=false:=by decide):wpAny (model X.prog X.w) X.A (eval (.Name x pos) X.env) Q E s :=
 Calls.Name_function_global I.ok.kind hg (Calls.loadGlobal_global (by rw[I.ok.glob];exact I.mod.glob.keeps I.bk) hm h) hd
theorem Et {Q:VS} (I:Inv X aa σ H s) (hg:Gl X x) (hm:X.mg x=none) (hv:bootBuiltins x=some u) (h:Q u s)
  (hn:x≠ "__name__" := by decide) (hd:(x==("__debug__" : Str))=false:=by decide):wpAny (model X.prog X.w) X.A (eval (.Name x pos) X.env) Q E s:=by
 obtain⟨mb,h1,h2⟩:=I.mod.blt;exact Calls.Name_function_global I.ok.kind hg (Calls.loadGlobal_builtin (by rw[I.ok.glob];exact I.mod.glob.keeps I.bk) hm (by rw[I.ok.blt];exact h1.keeps I.bk) ((h2 x hn).trans hv) h) hd
theorem BY {v:V} (hg:Gl X x) (hm:X.mg x=some u) (r:RelV v u) (hd:(x==("__debug__" : Str))=false:=by decide):PE X (.Name x pos) (tC v) :=
 λ_ _ _ H _ I h=>Br I hg hm ⟨v,H,I,r,h⟩ hd
theorem N2 {v:V} (hg:Gl X x) (hm:X.mg x=none) (hv:bootBuiltins x=some u) (r:RelV v u) (hn:x≠ "__name__" := by decide) (hd:(x==("__debug__" : Str))=false:=by decide):PE X (.Name x pos) (tC v) :=
 λ_ _ _ H _ I h=>Et I hg hm hv ⟨v,H,I,r,h⟩ hn hd
variable {a b:Expr}{ta tb:TE}
def PC (X:Cx) (op:CmpOp) (a b:Expr) (t:TE):Prop :=
 ∀(aa:LO) (s:W4) (σ:St) (H:Hp) (Q:VK),Inv X aa σ H s->t σ H Q ->
  wpAny (model X.prog X.w) X.A (eval a X.env) (λv aI=>wpAny (model X.prog X.w) X.A (eval b X.env) (λu s₂=>wpAny (model X.prog X.w) X.A (compareOp op v u) (EP X aa σ Q) X.xe s₂) X.xe aI) X.xe s
theorem Kv (b:Expr) {op:CmpOp} (h:op≠ .In) (h2:op≠ .NotIn):behindInMarks op b=false:=by
 have e1:(op==CmpOp.In)=false:=by cases op <;> first |rfl |exact absurd rfl h
 have e2:(op==CmpOp.NotIn)=false:=by cases op <;> first |rfl |exact absurd rfl h2
 cases b <;> simp[behindInMarks,e1,e2]
def WR (ta:TE):TE:=λσ H Q=>ta σ H λx H1=>Q (.bl (decide (x=.aK))) H1
def UO (ta:TE):TE:=λσ H Q=>ta σ H λx H1=>Q (.bl (!decide (x=.aK))) H1
theorem RelV.none_iff {x:V}{v:Value} (r:RelV x v):(v==Value.none)=decide (x=.aK):=by
 cases x with
 |aK=>cases r;rfl
 |bl _=>cases r;rfl
 |int _=>obtain⟨t,rfl⟩:=r;rfl
 |str _=>obtain⟨t,rfl⟩:=r;rfl
 |gO _=>obtain⟨t,rfl⟩:=r;rfl
 |iW _=>obtain⟨t,rfl⟩:=r;rfl
 |ref _=>cases r;rfl
 |ty _=>cases r;rfl
theorem F5 {j pos'} (ha:PE X a ta):PC X .Is a (.Constant .none j pos') (WR ta):=by
 intro aa s σ H Q I h;refine aL (ha aa s σ H _ I h) λv s1 ⟨x,H1,I1,r1,q1⟩=>?_;exact Constant_none (is_none_gen ⟨.bl _,H1,I1,by rw[r1.none_iff];rfl,q1⟩)
theorem Jr {j pos'} (ha:PE X a ta):PC X .IsNot a (.Constant .none j pos') (UO ta):=by
 intro aa s σ H Q I h;refine aL (ha aa s σ H _ I h) λv s1 ⟨x,H1,I1,r1,q1⟩=>?_;exact Constant_none (isnot_none_gen ⟨.bl _,H1,I1,by rw[r1.none_iff];rfl,q1⟩)
def tB (t:TE):TT:=λσ H Q=>t σ H λx H1=>ExB x λc=>Q c H1
theorem QV {op:CmpOp}{t:TE} (h:PC X op a b t) (h1:behindInMarks op b=false:=by first |exact Kv _ qc qc |rfl):PE X (.Compare a [op] [b] pos) t:=λaa s σ H Q I hw=>wpAny_Compare1 (h aa s σ H Q I hw) h1
theorem B9 {op:CmpOp}{t:TE} (h:PC X op a b t) (h1:behindInMarks op b=false:=by first |exact Kv _ qc qc |rfl):PT X (.Compare a [op] [b] pos) (tB t):=by
 intro aa s σ H Q I hw;refine wpAny_isTrue_Compare1 (aL (h aa s σ H _ I hw) λv s1 h1=>aL h1 λu s2 h2=>aL h2 λc s3 ⟨x,H1,I1,r1,q1⟩=>?_) h1;obtain⟨d,rfl,q⟩:=q1;cases r1;exact Z0 ⟨H1,I1,q⟩
theorem BA {t:TE} (h:PE X e t) (he:∀whole,isTrue e X.env whole=(do let v ←whole;standAt e.pos;holding [v] (truthy v)):=by intro _;rfl):PT X e (tB t):=by
 intro aa s σ H Q I hw;refine isTrue_plain (aL (h aa s σ H _ I hw) λv s1 ⟨x,H1,I1,r1,q1⟩=>?_) (he _);obtain⟨d,rfl,q⟩:=q1;cases r1;exact Z0 ⟨H1,I1,q⟩
variable {tA tB':TT}{rest:List Expr}
def Vn (t u:TT):TT:=λσ H Q=>t σ H λc H1=>if c=true then u σ H1 Q else Q false H1
def tOr (t u:TT):TT:=λσ H Q=>t σ H λc H1=>if c=true then Q true H1 else u σ H1 Q
def WS (t:TT):TT:=λσ H Q=>t σ H λc H1=>Q (!c) H1
theorem Dc (ha:PT X a tA):PW X (.BoolOp .And [a] pos) tA:=by
 intro wh aa s σ H Q I h;refine isTrue_and (aL (ha aa s σ H Q I h) λc s1 e=>?_);cases c with
 |true=>exact isTrue_and_nil e
 |false=>exact e
theorem Bk (ha:PT X a tA):PW X (.BoolOp .Or [a] pos) tA:=by
 intro wh aa s σ H Q I h;refine isTrue_or (aL (ha aa s σ H Q I h) λc s1 e=>?_);cases c with
 |false=>exact isTrue_or_nil e
 |true=>exact e
theorem Eu (ha:PT X a tA) (hb:PW X (.BoolOp .And (b::rest) pos) tB'):PW X (.BoolOp .And (a::b::rest) pos) (Vn tA tB'):=by
 intro wh aa s σ H Q I h;refine isTrue_and (aL (ha aa s σ H _ I h) λc s1 ⟨H1,I1,q1⟩=>?_);cases c with
 |true=>exact hb wh aa s1 σ H1 Q I1 q1
 |false=>exact⟨H1,I1,q1⟩
theorem CZ (ha:PT X a tA) (hb:PW X (.BoolOp .Or (b::rest) pos) tB'):PW X (.BoolOp .Or (a::b::rest) pos) (tOr tA tB'):=by
 intro wh aa s σ H Q I h;refine isTrue_or (aL (ha aa s σ H _ I h) λc s1 ⟨H1,I1,q1⟩=>?_);cases c with
 |true=>exact⟨H1,I1,q1⟩
 |false=>exact hb wh aa s1 σ H1 Q I1 q1
theorem BH (ha:PT X a tA):PT X (.UnaryOp .Not a pos) (WS tA):=by
 intro aa s σ H Q I h;exact isTrue_not (ha aa s σ H (λc H1=>Q (!c) H1) I h)
def Vo (ta tb:TE):TE:=λσ H Q=>ta σ H λx H1=>ExB x λc=>if c=true then tb σ H1 Q else Q (.bl false) H1
def Vp (ta:TE):TE:=λσ H Q=>ta σ H λx H1=>ExB x λc=>Q (.bl (!c)) H1
theorem DL {op}{t:TE} (h:PE X a t):PE X (.BoolOp op [a] pos) t:=λaa s σ H Q I hw=>BoolOp_one (h aa s σ H Q I hw)
theorem Cm (ha:PE X a ta) (hb:PE X (.BoolOp .And (b::rest) pos) tb):PE X (.BoolOp .And (a::b::rest) pos) (Vo ta tb):=by
 intro aa s σ H Q I h;refine BoolOp_and (aL (ha aa s σ H _ I h) λv s1 ⟨x,H1,I1,r1,q1⟩=>?_);obtain⟨c,rfl,q1⟩:=q1;cases r1;refine Z0 ?_;cases c with
 |true=>exact hb aa s1 σ H1 Q I1 q1
 |false=>exact⟨.bl false,H1,I1,rfl,q1⟩
theorem QW (ha:PE X a ta):PE X (.UnaryOp .Not a pos) (Vp ta):=by
 intro aa s σ H Q I h;refine UnaryOp_ (aL (ha aa s σ H _ I h) λv s1 ⟨x,H1,I1,r1,q1⟩=>?_);obtain⟨c,rfl,q1⟩:=q1;cases r1;exact not_of (Z0 ⟨.bl (!c),H1,I1,Zj,q1⟩)
def tIf (t:TT) (ta tb:TE):TE:=λσ H Q=>t σ H λc H1=>if c=true then ta σ H1 Q else tb σ H1 Q
theorem Bn {c:Expr} (hc:PT X c tA) (ha:PE X a ta) (hb:PE X b tb):PE X (.IfExp c a b pos) (tIf tA ta tb):=by
 intro aa s σ H Q I h;refine wpAny_IfExp (aL (hc aa s σ H _ I h) λd s1 ⟨H1,I1,q1⟩=>?_);cases d with
 |true=>exact ha aa s1 σ H1 Q I1 q1
 |false=>exact hb aa s1 σ H1 Q I1 q1
end
def aJ (K:FG) (H:Hp) (a:W3) (xs:Wy):Prop :=
 Rd H a (.lst xs) \/
  ∃(o:Obj) (its:Array Value) (n:Nat),K.lookup a=some o/\o.cls=.type "list" /\ o.dict=none/\o.data=.seq its n/\its.size<=sizeLine/\Vals xs its.toList
def bA (K:FG) (H:Hp) (a:W3) (xs:Wy):Prop :=
 Rd H a (.tup xs) \/
  ∃(o:Obj) (its:Array Value) (n:Nat),K.lookup a=some o/\o.cls=.type "tuple" /\ o.data=.seq its n/\its.size<=sizeLine/\Vals xs its.toList
noncomputable def WT:Value->Option V
 | .none=>some .aK
 | .bool b=>some (.bl b)
 | .int i _=>some (.int i)
 | .str x _=>some (.str x)
 | .bytes b _=>some (.gO b)
 | .float b _=>some (.iW b)
 | .ref a=>some (.ref a)
 | .type n=>some (.ty n)
 |_=>none
theorem RelV.abs {x:V} (r:RelV x u):WT u=some x:=by
 cases x with
 |aK=>cases r;rfl
 |bl _=>cases r;rfl
 |int _=>obtain⟨t,rfl⟩:=r;rfl
 |str _=>obtain⟨t,rfl⟩:=r;rfl
 |gO _=>obtain⟨t,rfl⟩:=r;rfl
 |iW _=>obtain⟨t,rfl⟩:=r;rfl
 |ref _=>cases r;rfl
 |ty _=>cases r;rfl
theorem RelV.inj {x y:V}{u:Value} (r:RelV x u) (q:RelV y u):x=y:=Option.some.inj (r.abs.symm.trans q.abs)
theorem Vals.inj:∀ {xs ys:Wy}{us:Wx},Vals xs us->Vals ys us->xs=ys
 |_,_,_,.nil,.nil=>rfl
 |_,_,_,.cons r t,.cons r' t'=>by rw[r.inj r',Vals.inj t t']
section
variable {ys:Wy}
theorem aJ.of (h:H a=some (.lst xs)):aJ K H a xs:=.inl (.inl h)
theorem bA.of (h:H a=some (.tup xs)):bA K H a xs:=.inl (.inl h)
theorem Inv.list (I:Inv X aa σ H s) (h:aJ X.K H a xs):∃its:Wx,Vals xs its/\PlainL s.heap a its.toArray/\xs.length<=sizeLine:=by
 rcases h with h |⟨o,its,n,hk,hc,hd,hs,hz,r⟩
 ·obtain⟨z,its,n,r,e⟩:=h.ok I.aE;exact⟨its,r,⟨_,n,e,Zj,Zj,Zj⟩,z⟩
 ·refine⟨its.toList,r,⟨o,n,I.cC a o hk,hc,hd,by simpa using hs⟩,?_⟩;have e:=r.length;simp only[Array.length_toList]at e;omega
theorem Inv.tuple (I:Inv X aa σ H s) (h:bA X.K H a xs):∃its:Wx,Vals xs its/\IsTup s.heap a its.toArray/\xs.length<=sizeLine:=by
 rcases h with h |⟨o,its,n,hk,hc,hs,hz,r⟩
 ·obtain⟨z,its,r,p⟩:=h.ok I.aE;exact⟨its,r,p,z⟩
 ·refine⟨its.toList,r,⟨o,I.cC a o hk,hc,n,by simpa using hs⟩,?_⟩;have e:=r.length;simp only[Array.length_toList]at e;omega
theorem Inv.list_inj (I:Inv X aa σ H s) (h:aJ X.K H a xs) (h':aJ X.K H a ys):xs=ys:=by
 obtain⟨its,r,⟨o,n,e,_,_,d⟩,_⟩:=I.list h;obtain⟨its',r',⟨o',n',e',_,_,d'⟩,_⟩:=I.list h';rw[e]at e';cases e';rw[d]at d';injection d' with d1 _
 have:its=its':=by simpa using congrArg Array.toList d1
 subst this;exact r.inj r'
theorem Inv.tuple_inj (I:Inv X aa σ H s) (h:bA X.K H a xs) (h':bA X.K H a ys):xs=ys:=by
 obtain⟨its,r,⟨o,e,_,n,d⟩,_⟩:=I.tuple h;obtain⟨its',r',⟨o',e',_,n',d'⟩,_⟩:=I.tuple h';rw[e]at e';cases e';rw[d]at d';injection d' with d1 _
 have:its=its':=by simpa using congrArg Array.toList d1
 subst this;exact r.inj r'
end
noncomputable abbrev Cx.eR (X:Cx) (E:VS):Cx:={ X with xe:=E }
noncomputable abbrev Cx.fY (X:Cx):Cx:=X.eR λ_ _=>False
theorem Cx.Ok.eR {X:Cx} (ok:X.Ok) (E:VS):(X.eR E).Ok :=
 ⟨ok.mod,ok.kind,ok.glob,ok.blt,ok.above,ok.inj,ok.has,ok.ip,ok.hd,ok.frames,ok.fq,ok.exf,ok.bs,ok.f6,ok.eW,ok.eY,ok.cJ,ok.gz⟩
theorem Cx.Ok.dr (ok:(X.eR E).Ok):X.Ok :=
 ⟨ok.mod,ok.kind,ok.glob,ok.blt,ok.above,ok.inj,ok.has,ok.ip,ok.hd,ok.frames,ok.fq,ok.exf,ok.bs,ok.f6,ok.eW,ok.eY,ok.cJ,ok.gz⟩
section
theorem Inv.eR (I:Inv X aa σ H s) (E:VS):Inv (X.eR E) aa σ H s:=⟨I.ok.eR E,I.os,I.bare,I.base,I.loc,I.cell,I.free,I.bP,I.pin,I.aE,I.len⟩
theorem Inv.dr (I:Inv (X.eR E) aa σ H s):Inv X aa σ H s:=⟨I.ok.dr,I.os,I.bare,I.base,I.loc,I.cell,I.free,I.bP,I.pin,I.aE,I.len⟩
theorem SP.dr {D:EG}{f:Flow}{s':W4} (h:SP (X.eR E) aa D f s'):SP X aa D f s':=by
 cases f with
 |next=>obtain⟨aN,H',I,q⟩:=h;exact⟨aN,H',I.dr,q⟩
 |brk=>obtain⟨aN,H',I,q⟩:=h;exact⟨aN,H',I.dr,q⟩
 |cont=>obtain⟨aN,H',I,q⟩:=h;exact⟨aN,H',I.dr,q⟩
 |ret u=>obtain⟨v,aN,H',I,r,q⟩:=h;exact⟨v,aN,H',I.dr,r,q⟩
theorem dP.fY {st:List Stmt}{t:TS} (h:dP X.fY st t):dP X st t:=λaa s σ H D I hw =>
 Zu (h aa s σ H D (I.eR _) hw) (λ_ _ q=>q.dr) λ_ _ z=>False.elim z
end
section
variable {st:Stmt}{rest:List Stmt}{t u:TS}
def UP:TS:=λD σ H=>D.nx σ H
def Vq (t u:TS):TS:=λD σ H=>t { D with nx:=u D } σ H
theorem Ab:dP X [] UP:=λ_ _ σ H _ I h=>wpAny_execs_nil ⟨σ,H,I,h⟩
theorem AG (h1:PS X st t) (h2:dP X rest u):dP X (st::rest) (Vq t u):=by
 intro aa s σ H D I h;refine wpAny_execs_cons (aL (h1 aa s σ H { D with nx:=u D } I h) λf s1 q=>?_);cases f with
 |next =>
  obtain⟨aN,H',I',q⟩:=q;exact h2 aa s1 aN H' D I' q
 |ret v=>exact q
 |brk=>exact q
 |cont=>exact q
theorem AF (h1:PS X st t):dP X [st] t:=by
 intro aa s σ H D I h;refine wpAny_execs_cons (aL (h1 aa s σ H D I h) λf s1 q=>?_);cases f with
 |next=>exact wpAny_execs_nil q
 |ret v=>exact q
 |brk=>exact q
 |cont=>exact q
theorem Inv.quiet (I:Inv X aa σ H s):interactive X.env=false:=by simp[interactive,I.ok.kind]
def Vr (te:TE):TS:=λD σ H=>te σ H λ_ H1=>D.nx σ H1
theorem Dd (he:PE X e te) (hs:swapsWith e none pos.line X.env=pure false:=by rfl):PS X (.Expr e pos) (Vr te):=by
 intro aa s σ H D I h;exact wpAny_Expr_any (aL (he aa s σ H _ I h) λv s1 ⟨x,H1,I1,r1,q1⟩=>⟨σ,H1,I1,q1⟩) I.quiet hs
def Oy (te:TE):TS:=λD σ H=>te σ H D.rt
theorem AN (he:PE X e te):PS X (.Return (some e) pos) (Oy te):=by
 intro aa s σ H D I h;exact wpAny_Return_some (aL (he aa s σ H _ I h) λv s1 ⟨x,H1,I1,r1,q1⟩=>⟨x,σ,H1,I1,r1,q1⟩)
def Vs (c:TT) (t u:TS):TS:=λD σ H=>c σ H λb H1=>if b=true then t D σ H1 else u D σ H1
theorem Au {c:Expr}{a b:List Stmt}{tc:TT} (hc:PT X c tc) (ha:dP X a t) (hb:dP X b u):PS X (.If c a b pos) (Vs tc t u):=by
 intro aa s σ H D I h;refine wpAny_If (aL (hc aa s σ H _ I h) λd s1 ⟨H1,I1,q1⟩=>?_);cases d with
 |true=>exact ha aa s1 σ H1 D I1 q1
 |false=>exact hb aa s1 σ H1 D I1 q1
def Uc:TS:=λ_ _ _=>False
theorem Am:PS X st Uc:=λ_ _ _ _ _ _ h=>h.elim
end
abbrev TG:=V->St->Hp->(St->Hp->Prop)->Prop
abbrev TGs:=Wy->St->Hp->(St->Hp->Prop)->Prop
def PG (X:Cx) (target:Expr) (t:TG):Prop :=
 ∀(aa:LO) (s:W4) (σ:St) (H:Hp) (v:V) (u:Value) (Q:St->Hp->Prop),Inv X aa σ H s->RelV v u->t v σ H Q ->
  wpAny (model X.prog X.w) X.A (assign target X.env u) (λ_ s'=>∃aN H',Inv X aa aN H' s'/\Q aN H') X.xe s
def PGs (X:Cx) (ts:List Expr) (t:TGs):Prop :=
 ∀(aa:LO) (s:W4) (σ:St) (H:Hp) (vs:Wy) (us:Wx) (Q:St->Hp->Prop),Inv X aa σ H s->Vals vs us->t vs σ H Q ->
  wpAny (model X.prog X.w) X.A (assignInOrder ((assignEach ts X.env).map (·.2)) us) (λ_ s'=>∃aN H',Inv X aa aN H' s'/\Q aN H') X.xe s
abbrev Ud:=V->V->V->Hp->(Hp->Prop)->Prop
def Vt (X:Cx) (t:Ud):Prop :=
 ∀(aa:LO) (s:W4) (σ:St) (H:Hp) (o i v:V) (ov iv u:Value) (Q:Hp->Prop),Inv X aa σ H s->RelV o ov->RelV i iv->RelV v u->t o i v H Q ->
  wpAny (model X.prog X.w) X.A (setItem ov iv u) (λ_ s'=>∃H',Inv X aa σ H' s'/\Q H') X.xe s
abbrev TIp:=V->V->Hp->VK->Prop
def PIp (X:Cx) (op:Operator) (t:TIp):Prop :=
 ∀(aa:LO) (s:W4) (σ:St) (H:Hp) (x y:V) (v u:Value) (Q:VK),Inv X aa σ H s->RelV x v->RelV y u->t x y H Q ->
  wpAny (model X.prog X.w) X.A (inplaceOp op v u) (EP X aa σ Q) X.xe s
section
def Cn (i:Nat):TG:=λv σ H Q=>Q (σ.set i (some v)) H
theorem AT {i:Nat} (hN:X.N.Nodup) (hi:X.N[i]?=some x) (hx:Loc X.env.scope x) (hf:X.fn x=true\/X.env.scope.names.lookup x=some .local:=by first |exact .inl rfl |exact .inr rfl |assumption):PG X (.Name x pos) (Cn i):=by
 intro aa s σ H v u Q I r h;exact wpAny_assign_Name (FQ I hN hi hx r (λs' I'=>⟨_,H,I',h⟩) hf)
def Su:TGs:=λvs σ H Q=>vs=[]/\Q σ H
inductive ExC (vs:Wy) (k:V->Wy->Prop):Prop where
 |mk (v:V) (r:Wy) (h:vs=v::r) (q:k v r):ExC vs k
def HN (t:TG) (u:TGs):TGs:=λvs σ H Q=>ExC vs λv r=>t v σ H λaN H'=>u r aN H' Q
theorem BE:PGs X [] Su:=by
 intro aa s σ H vs us Q I r h;obtain⟨e,h⟩:=h;subst e;cases r;exact assignInOrder_nil ⟨σ,H,I,h⟩
theorem AV {es:List Expr}{t:TG}{u:TGs} (h1:PG X e t) (h2:PGs X es u)
  (hs:(assignEach (e::es) X.env).map (·.2)=assign e X.env::(assignEach es X.env).map (·.2):=by rfl):PGs X (e::es) (HN t u):=by
 intro aa s σ H vs us Q I r h;obtain⟨v,vr,e1,h⟩:=h;subst e1;cases r with
 |cons r rr =>
  rw[hs];refine assignInOrder_cons (aL (h1 aa s σ H _ _ _ I r h) λ_ s1 ⟨hW,H1,I1,q1⟩=>?_);exact h2 aa s1 hW H1 _ _ Q I1 rr q1
inductive ExT (K:FG) (n:Nat) (v:V) (H:Hp) (k:Wy->Prop):Prop where
 |mk (a:W3) (xs:Wy) (h1:v=.ref a) (h2:bA K H a xs) (h3:xs.length=n) (q:k xs):ExT K n v H k
def Sv (K:FG) (n:Nat) (t:TGs):TG:=λv σ H Q=>ExT K n v H λxs=>t xs σ H Q
theorem Bd {es:List Expr}{k:Nat}{t:TGs}{n:Nat} (hc:X.calm=true) (h:PGs X es t)
  (hn:(assignEach es X.env).length=n:=by rfl) (hst:(assignEach es X.env).findIdx? (·.1)=none:=by rfl):PG X (.Tuple es k pos) (Sv X.K n t):=by
 intro aa s σ H v u Q I r hw;obtain⟨a,xs,e1,hq,hl,hw⟩:=hw;subst e1;cases r;obtain⟨its,rv,ht,hz⟩:=I.tuple hq;refine assign_Tuple_tuple (I.ok.hd hc) ht (by simp[hn,←hl,rv.length]) hst λh' hx=>?_;have I1:Inv X aa σ H { s with heap:=h' }:=I.kept (t':=s.toks) λb o e=>hx b o (ZE (lt_size e)) e;exact h aa _ σ H xs _ Q I1 (by simpa using rv) hw
def WU (to ti:TE) (t:Ud):TG:=λv σ H Q=>to σ H λo H1=>ti σ H1 λi H2=>t o i v H2 λH3=>Q σ H3
theorem QX {o i:Expr}{to ti:TE}{t:Ud} (ho:PE X o to) (hi:PE X i ti) (hs:Vt X t)
  (ha:∀v,assign (.Subscript o i pos) X.env v=(do
   let ov ←holding [v] (eval o X.env)
   let iv ←holding [v,ov] (eval i X.env)
   standAt pos
   holding [v,ov,iv] (setItem ov iv v)
   release [v,ov,iv] []):=by intro _;rfl):PG X (.Subscript o i pos) (WU to ti t):=by
 intro aa s σ H v u Q I r h;rw[ha];refine Zw (ZL (aL (ho aa s σ H _ I h) λov s1 ⟨x,H1,I1,r1,q1⟩=>?_));refine Zw (ZL (aL (hi aa s1 σ H1 _ I1 q1) λiv s2 ⟨y,H2,I2,r2,q2⟩=>?_));refine Zw (wpAny_standAt (Zw (ZL (aL (hs aa s2 σ H2 x y v ov iv u _ I2 r1 r2 r q2) λ_ s3 ⟨H3,I3,q3⟩=>?_))));exact wpAny_release ⟨σ,H3,I3,q3⟩
def Sw (te:TE) (g:TG):TS:=λD σ H=>te σ H λx H1=>g x σ H1 D.nx
theorem Co {tg:Expr}{g:TG} (he:PE X e te) (hg:PG X tg g) (hs:swapsWithSole [tg] e pos.line X.env=pure false:=by rfl) (hw:swappedStores [tg] e X.env=pure none:=by rfl)
  (h1:(assignEach [tg] X.env).map (·.2)=[assign tg X.env]:=by rfl):PS X (.Assign [tg] e pos) (Sw te g):=by
 intro aa s σ H D I h;refine wpAny_Assign_stores (aL (he aa s σ H _ I h) λv s1 ⟨x,H1,I1,r1,q1⟩=>?_) hs hw;rw[h1];exact aL (hg aa s1 σ H1 x v _ I1 r1 q1) λ_ s2 q=>q
theorem Al {i:Nat}{pos':Pos} (hN:X.N.Nodup) (hi:X.N[i]?=some x) (hx:Loc X.env.scope x) (he:PE X e te) (hs:swapsWith e (some (.Name x pos')) pos.line X.env=pure false:=by rfl) (hf:X.fn x=true\/X.env.scope.names.lookup x=some .local:=by first |exact .inl rfl |exact .inr rfl |assumption) :
  PS X (.Assign [.Name x pos'] e pos) (Sw te (Cn i)):=by
 intro aa s σ H D I h;refine wpAny_Assign_Name (aL (he aa s σ H _ I h) λv s1 ⟨y,H1,I1,r1,q1⟩=>?_) hs;exact FQ I1 hN hi hx r1 (λs2 I2=>⟨_,H1,I2,q1⟩) hf
def WV (i:Nat) (te:TE) (ti:TIp):TS:=λD σ H=>∃x,σ[i]?=some (some x)/\te σ H λy H1=>ti x y H1 λz H2=>D.nx (σ.set i (some z)) H2
theorem Ue {i:Nat}{op:Operator}{ti:TIp}{pos':Pos} (hN:X.N.Nodup) (hi:X.N[i]?=some x) (hx:Loc X.env.scope x) (he:PE X e te) (ho:PIp X op ti) (hf:X.fn x=true\/X.env.scope.names.lookup x=some .local:=by first |exact .inl rfl |exact .inr rfl |assumption) :
  PS X (.AugAssign (.Name x pos') op e pos) (WV i te ti):=by
 intro aa s σ H D I h;obtain⟨v,e1,h⟩:=h;obtain⟨m,hn,hl⟩:=I.loc;have vis:Vis X.env.scope x:=by rcases hx with k |k;exact .inl k;exact .inr (.inl k)
 obtain⟨u,r,l⟩:=hl i x v hi e1 vis;refine wpAny_AugAssign_Name ?_
 have go:wpAny (model X.prog X.w) X.A (eval e X.env) (λw s₂=>wpAny (model X.prog X.w) X.A (inplaceOp op u w) (λr s₃=>wpAny (model X.prog X.w) X.A (storeName X.env x r) (λ_=>SP X aa D .next) X.xe s₃) X.xe s₂) X.xe s:=by
  refine aL (he aa s σ H _ I h) λw s1 ⟨y,H1,I1,r1,q1⟩=>?_;refine aL (ho aa s1 σ H1 v y u w _ I1 r r1 q1) λz s2 ⟨zv,H2,I2,r2,q2⟩=>?_;exact FQ I2 hN hi hx r2 (λs3 I3=>⟨_,H2,I3,q2⟩) hf
 rcases l with⟨hk,hm⟩ |⟨hk,c,hc,bp⟩
 ·exact wpAny_loadName_local I.ok.kind hk hn hm go
 ·rcases hk with hk |hk
  ·exact wpAny_loadName_cell I.ok.kind hk hc bp go
  ·rcases hx with k |k
   ·have:X.env.scope.names.lookup x=some .free:=hk;rw[k]at this;cases this
   ·have:X.env.scope.names.lookup x=some .free:=hk;rw[k]at this;cases this
end
section
def QY (c:TT) (tb:TS):TS:=λD σ H=>∃W:Nat->St->Hp->Prop,(∃m,W m σ H)/\∀m σ H,W m σ H ->
 c σ H λb H1=>if b=true then ∃N:St->Hp->Prop,(∀aN H',N aN H'->∃m',m'<m/\W m' aN H')/\tb { D with nx:=N,ct:=N,bk:=D.nx } σ H1 else D.nx σ H1
theorem QZ {c:Expr}{body:List Stmt}{tc:TT}{tb:TS} (hp:PassesOwn (model X.prog X.w) X.A X.env X.xe) (hc:PT X c tc) (hb:dP X body tb):PS X (.While c body [] pos) (QY tc tb):=by
 intro aa s σ H D I h;obtain⟨W,⟨m0,w0⟩,turn⟩:=h;refine wpAny_While (codeAny_whileLoop (λn s'=>∃aN H',Inv X aa aN H' s'/\W n aN H') ?_ m0 ⟨σ,H,I,w0⟩);rintro n s1 ⟨hW,H1,I1,w1⟩;refine wpAny_passesOwn hp (aL (hc aa s1 hW H1 _ I1 (turn n hW H1 w1)) λb s2 ⟨H2,I2,q2⟩=>?_);cases b with
 |true =>
  obtain⟨N,hN,q2⟩:=q2;rw[Zo rfl];refine wpAny_passesOwn hp (aL (hb aa s2 hW H2 _ I2 q2) λf s3 q3=>?_);cases f with
  |next =>
   obtain⟨hJ,H3,I3,n3⟩:=q3;obtain⟨m',hm,w3⟩:=hN hJ H3 n3;exact⟨m',hm,hJ,H3,I3,w3⟩
  |cont =>
   obtain⟨hJ,H3,I3,n3⟩:=q3;obtain⟨m',hm,w3⟩:=hN hJ H3 n3;exact⟨m',hm,hJ,H3,I3,w3⟩
  |brk=>exact q3
  |ret v=>exact q3
 |false =>
  rw[Zp Bool.false_ne_true];exact wpAny_execs_nil ⟨hW,H2,I2,q2⟩
end
structure It where
 go:Nat->Hp->Prop
 gG:Nat->Hp->V->Hp->Prop
 stop:Nat->Hp->Prop
def EB (X:Cx) (aa:LO) (H:Hp) (b:W3):Prop :=
 H b=none/\b≠X.env.locals/\b∉ X.fs/\(b∈X.ex\/X.aX.heap.objs.size<=b)/\(∀x c,X.env.cells.lookup x=some c->c≠b)/\∀p∈X.pn++aa,p.1≠b
theorem Inv.eJ {b:W3} (I:Inv X aa σ H s) (hb:s.heap.objs.size<=b) (hn:H' b=none):EB X aa H' b:=by
 refine⟨hn,Nat.ne_of_gt (Z2 I.lt hb),I.nofs hb,.inr (Nat.le_trans I.sz hb),λx c e z=>?_,λp hp z=>?_⟩
 ·obtain⟨v,q⟩:=I.cell x c e;exact absurd (Z2 q.lt (by rw[z];exact hb)) (ZH _)
 ·exact absurd (Z2 (lt_size (I.pin p hp).1) (by rw[z];exact hb)) (ZH _)
structure Mj (P:Program) (w:World) (K:FG) (tg:Expr) (J:It) (fp:List W3) (it:W3) (tn:Nat->Heap->Prop):Prop where
 mem:it∈fp
 obj:∀i h,tn i h->∀b∈fp,∃o,h.get? b=some o/\∀v,o.data≠ .cell v
 keep:∀i h h',tn i h->(∀b∈fp,∀o,h.get? b=some o->h'.get? b=some o)->tn i h'
 item:∀(X:Cx),X.prog=P->X.w=w->X.K=K->X.calm=true->∀(i:Nat) (aa:LO) (s:W4) (σ:St) (H:Hp) (E:VS),Inv X aa σ H s->(∀b∈fp,EB X aa H b)->tn i s.heap->J.go i H ->
  wpAny (model P w) X.A (pyNext (.ref it)) (λr s1=>∃u,r=some u /\
   wpAny (model P w) X.A (letOwnedTupleGo tg (.ref it) u) (λ_ s2=>∃x H',Inv X aa σ H' s2/\RelV x u/\J.gG i H x H'/\tn (i+1) s2.heap/\∀b∈fp,H' b=none) E s1) E s
 done:∀(X:Cx),X.prog=P->X.w=w->X.K=K->X.calm=true->∀(i:Nat) (aa:LO) (s:W4) (σ:St) (H:Hp) (E:VS),Inv X aa σ H s->(∀b∈fp,EB X aa H b)->tn i s.heap->J.stop i H ->
  wpAny (model P w) X.A (pyNext (.ref it)) (λr s1=>r=none/\Inv X aa σ H s1) E s
 self:∀(A:Around) (i:Nat) (s:W4) (Q:VS) (E:VS),tn i s.heap->Q (.ref it) s->wpAny (model P w) A (pyIter (.ref it)) Q E s
abbrev TI:=St->Hp->(It->Hp->Prop)->Prop
def PIE (X:Cx) (aa:LO) (σ:St) (tg:Expr) (R:It->Hp->Prop) (itv:Value) (s2:W4):Prop :=
 ∃(it:W3) (fp:List W3) (tn:Nat->Heap->Prop) (J:It) (H':Hp),itv=.ref it/\Inv X aa σ H' s2/\Mj X.prog X.w X.K tg J fp it tn/\tn 0 s2.heap/\(∀b∈fp,EB X aa H' b)/\R J H'
def PI (X:Cx) (tg iter:Expr) (wi:TI):Prop :=
 ∀(aa:LO) (s:W4) (σ:St) (H:Hp) (R:It->Hp->Prop),Inv X aa σ H s->wi σ H R ->
  wpAny (model X.prog X.w) X.A (eval iter X.env) (λv s1=>wpAny (model X.prog X.w) X.A (pyIter v) (PIE X aa σ tg R) X.xe s1) X.xe s
theorem N3 {M:Model}{tg:Expr}{it:W3}{o:Obj}{n:String}{vs:Array Value}{Q:Unit->W4->Prop} (ho:s.heap.get? it=some o) (hc:o.cls=.type n) (hd:o.data=.fields vs)
    (hn:["enumerate", "zip", "dict_itemiterator", "dict_reverseitemiterator", "odict_iterator", "itertools.zip_longest", "itertools.pairwise"].contains n=false) (hQ:Q () s):wpAny M A (letOwnedTupleGo tg (.ref it) u) Q E s:=by
  unfold letOwnedTupleGo
  cases tg <;> first
    |exact Zv hQ
    | (cases u <;> first
        |exact Zv hQ
        | (refine Zw (wpAny_load ho ?_)
           rw[hc,hd];show wpAny M A (if (["enumerate", "zip", "dict_itemiterator", "dict_reverseitemiterator", "odict_iterator", "itertools.zip_longest", "itertools.pairwise"].contains n&&vs[0]?==some (rawInt _))=true then _ else _) Q E s;rw[Zp (by intro h;rw[hn,Bool.false_and]at h;cases h)]
           exact Zv hQ))
noncomputable def g8 (K:FG) (a:W3):It :=
 ⟨λi H=>∃xs x,aJ K H a xs/\xs[i]?=some x,λi H x H'=>H'=H/\∀xs,aJ K H a xs->xs[i]?=some x,λi H=>∃xs,aJ K H a xs/\xs.length<=i⟩
noncomputable def Itt (K:FG) (a:W3):It :=
 ⟨λi H=>∃xs x,bA K H a xs/\xs[i]?=some x,λi H x H'=>H'=H/\∀xs,bA K H a xs->xs[i]?=some x,λi H=>∃xs,bA K H a xs/\xs.length<=i⟩
noncomputable def i7 (lo:Int) (n:Nat):It:=⟨λi _=>i<n,λi H x H'=>H'=H/\x=.int (lo+i),λi _=>n<=i⟩
theorem JD {tg:Expr} (a it:W3):Mj P w K tg (g8 K a) [it] it (λi h=>h.IsListIter it a i) where
 mem:=by simp
 obj:=λi h st b hb=>by
  have e:b=it:=by simpa using hb
  subst e;obtain⟨o,e,c,d⟩:=st;exact⟨o,e,λv z=>by rw[d]at z;cases z⟩
 keep:=λi h h' st k=>st.at λo e=>k it (by simp) o e
 item:=by
  intro X hP hw hK hc i aa s σ H E I hf st hg;subst hP hw hK;obtain⟨xs,x,hq,hx⟩:=hg;obtain⟨its,rv,p,hz⟩:=I.list hq;obtain⟨u,hu,ru⟩:=rv.get hx;obtain⟨f0,f1,f2,f3,f4,f5⟩:=hf it (by simp);refine wpAny_pyNext_list_item st p.isList (x:=u) (by simpa using hu) λh' eQ sb=>?_;have I1:Inv X aa σ H { s with heap:=h' }:=I.turned (t':=s.toks) (λb o hb e=>(sb.2 b hb).trans e) f0 f1 f3 f4 f5;obtain⟨o,e,c,d⟩:=id eQ;exact⟨u,Zj,N3 (s:={ s with heap:=h' }) e c d qc ⟨x,H,I1,ru,⟨Zj,λys hy=>by rw[I.list_inj hy hq];exact hx⟩,eQ,λb hb=>(hf b hb).1⟩⟩
 done:=by
  intro X hP hw hK hc i aa s σ H E I hf st hg;subst hP hw hK;obtain⟨xs,hq,hx⟩:=hg;obtain⟨its,rv,p,hz⟩:=I.list hq;obtain⟨f0,f1,f2,f3,f4,f5⟩:=hf it (by simp);have hl:=rv.length;exact wpAny_pyNext_list_end (I.ok.hd hc) st p.isList (by simp;omega) λh' eb=>⟨Zj,I.turned (t':=s.toks) (λb o hb e=>eb b o hb e) f0 f1 f3 f4 f5⟩
 self:=λ_ _ _ _ _ st h=>wpAny_pyIter_listiter st h
theorem Ml {tg:Expr} (a it:W3):Mj P w K tg (Itt K a) [it] it (λi h=>h.IsTupleIter it a i) where
 mem:=by simp
 obj:=λi h st b hb=>by
  have e:b=it:=by simpa using hb
  subst e;obtain⟨o,e,c,d⟩:=st;exact⟨o,e,λv z=>by rw[d]at z;cases z⟩
 keep:=λi h h' st k=>st.at λo e=>k it (by simp) o e
 item:=by
  intro X hP hw hK hc i aa s σ H E I hf st hg;subst hP hw hK;obtain⟨xs,x,hq,hx⟩:=hg;obtain⟨its,rv,p,hz⟩:=I.tuple hq;obtain⟨u,hu,ru⟩:=rv.get hx;obtain⟨f0,f1,f2,f3,f4,f5⟩:=hf it (by simp);refine wpAny_pyNext_tuple_item st (show s.heap.IsTuple a its.toArray from p) (x:=u) (by simpa using hu) λh' eQ sb=>?_;have I1:Inv X aa σ H { s with heap:=h' }:=I.turned (t':=s.toks) (λb o hb e=>(sb.2 b hb).trans e) f0 f1 f3 f4 f5;obtain⟨o,e,c,d⟩:=id eQ;exact⟨u,Zj,N3 (s:={ s with heap:=h' }) e c d qc ⟨x,H,I1,ru,⟨Zj,λys hy=>by rw[I.tuple_inj hy hq];exact hx⟩,eQ,λb hb=>(hf b hb).1⟩⟩
 done:=by
  intro X hP hw hK hc i aa s σ H E I hf st hg;subst hP hw hK;obtain⟨xs,hq,hx⟩:=hg;obtain⟨its,rv,p,hz⟩:=I.tuple hq;obtain⟨f0,f1,f2,f3,f4,f5⟩:=hf it (by simp);have hl:=rv.length;exact wpAny_pyNext_tuple_end (I.ok.hd hc) st (show s.heap.IsTuple a its.toArray from p) (by simp;omega) λh' eb=>⟨Zj,I.turned (t':=s.toks) (λb o hb e=>eb b o hb e) f0 f1 f3 f4 f5⟩
 self:=λ_ _ _ _ _ st h=>wpAny_pyIter_tupleiter st h
theorem Mm {tg:Expr} (it:W3) (lo:Int) (n:Nat):Mj P w K tg (i7 lo n) [it] it (λi h=>IsRangeIter h it (lo+(i:Nat)*1) ((n:Int) - (i:Nat)) 1) where
 mem:=by simp
 obj:=λi h st b hb=>by
  have e:b=it:=by simpa using hb
  subst e
  exact⟨_,st,λv z=>by
   have z':Data.fields _=Data.cell v:=z
   cases z'⟩
 keep:=λi h h' st k=>k it (by simp) _ st
 item:=by
  intro X hP hw hK hc i aa s σ H E I hf st hg;subst hP hw hK;obtain⟨f0,f1,f2,f3,f4,f5⟩:=hf it (by simp);have W:=Walks.range (prog:=X.prog) (w:=X.w) (I.ok.hd hc) it lo 1 n;refine W.item i s _ _ hg st λv h' tk hv eQ kk=>?_;obtain⟨t,rfl⟩:=hv;have I1:Inv X aa σ H { s with heap:=h',toks:=tk }:=I.turned (λb o hb e=>kk b o (by simpa using hb) e) f0 f1 f3 f4 f5;refine⟨_,Zj,N3 (s:={ s with heap:=h',toks:=tk }) (n := "range_iterator") eQ Zj Zj qc ⟨.int (lo+i),H,I1,⟨t,?_⟩,⟨Zj,Zj⟩,eQ,λb hb=>(hf b hb).1⟩⟩;rw[Int.mul_one]
 done:=by
  intro X hP hw hK hc i aa s σ H E I hf st hg;subst hP hw hK;obtain⟨f0,f1,f2,f3,f4,f5⟩:=hf it (by simp);exact wpAny_pyNext_range_end (I.ok.hd hc) st (by have:n<=i:=hg;omega) λh' eb=>⟨Zj,I.turned (t':=s.toks) (λb o hb e=>eb b o hb e) f0 f1 f3 f4 f5⟩
 self:=λ_ _ _ _ _ st h=>wpAny_pyIter_rangeiter st h
section
variable {tg:Expr}
def Qa (K:FG) (tl:TE):TI:=λσ H R=>tl σ H λx H1=>∃a,x=.ref a/\(∃xs,aJ K H1 a xs)/\R (g8 K a) H1
def WW (K:FG) (tl:TE):TI:=λσ H R=>tl σ H λx H1=>∃a,x=.ref a/\(∃xs,bA K H1 a xs)/\R (Itt K a) H1
theorem A5 {l:Expr}{tl:TE} (hl:PE X l tl):PI X tg l (Qa X.K tl):=by
 intro aa s σ H R I h;refine aL (hl aa s σ H _ I h) λv s1 ⟨x,H1,I1,r1,q1⟩=>?_;obtain⟨a,e,⟨xs,hq⟩,q⟩:=q1;subst e;cases r1;obtain⟨its,rv,p,hz⟩:=I1.list hq;refine wpAny_pyIter_list p.isList ?_;refine⟨s1.heap.objs.size,[s1.heap.objs.size],_,_,H1,Zj,I1.kept (t':=s1.toks) λb o e=>ZY _ e,JD a _,⟨_,ZO _ Zj,Zj,Zj⟩,λb hb=>?_,q⟩;have e:b=s1.heap.objs.size:=by simpa using hb
 subst e;exact I1.eJ (Zx _) (I1.aE.fresh (Zx _))
theorem Mn {l:Expr}{tl:TE} (hl:PE X l tl):PI X tg l (WW X.K tl):=by
 intro aa s σ H R I h;refine aL (hl aa s σ H _ I h) λv s1 ⟨x,H1,I1,r1,q1⟩=>?_;obtain⟨a,e,⟨xs,hq⟩,q⟩:=q1;subst e;cases r1;obtain⟨its,rv,p,hz⟩:=I1.tuple hq;refine wpAny_pyIter_tuple (show s1.heap.IsTuple a its.toArray from p) ?_;refine⟨s1.heap.objs.size,[s1.heap.objs.size],_,_,H1,Zj,I1.kept (t':=s1.toks) λb o e=>ZY _ e,Ml a _,⟨_,ZO _ Zj,Zj,Zj⟩,λb hb=>?_,q⟩;have e:b=s1.heap.objs.size:=by simpa using hb
 subst e;exact I1.eJ (Zx _) (I1.aE.fresh (Zx _))
theorem Qb {R:It->Hp->Prop}{lo hi:Int}{t u v:Tok}{tk:Nat} (I:Inv X aa σ H s) (h1:-(2 ^ 62)<=lo) (h2:lo<2 ^ 62) (h3:-(2 ^ 62)<=hi) (h4:hi<2 ^ 62)
  (q:R (i7 lo (hi - lo).toNat) H):wpAny (model X.prog X.w) X.A (pyIter (.ref s.heap.objs.size)) (PIE X aa σ tg R) E { s with heap:=s.heap.push { cls:=.type "range", data:=.fields #[.int lo t,.int hi u,.int 1 v] },toks:=tk }:=by
 refine wpAny_pyIter_range (IsRange.new ..) (small_one h1 h2 h3 h4) ?_;have I1:Inv X aa σ H { s with heap:=s.heap.push { cls:=.type "range", data:=.fields #[.int lo t,.int hi u,.int 1 v] },toks:=tk }:=I.kept λb o e=>ZY _ e
 refine⟨(s.heap.push { cls:=.type "range", data:=.fields #[.int lo t,.int hi u,.int 1 v] }).objs.size,[(s.heap.push { cls:=.type "range", data:=.fields #[.int lo t,.int hi u,.int 1 v] }).objs.size],_,_,H,Zj,
  I1.kept (t':=tk) λb o e=>ZY _ e,Mm _ lo (hi - lo).toNat,?_,λb hb=>?_,q⟩
 ·have e1:lo+((0:Nat):Int)*1=lo:=by simp
  have e2:(((hi - lo).toNat:Nat):Int) - ((0:Nat):Int)=Builtin.Range.rangeSize lo hi 1:=by rw[rangeSize_one];split <;> omega
  show IsRangeIter _ _ (lo+((0:Nat):Int)*1) ((((hi - lo).toNat:Nat):Int) - ((0:Nat):Int)) 1;rw[e1,e2];exact ZO _ rfl
 ·have e:b=(s.heap.push { cls:=.type "range", data:=.fields #[.int lo t,.int hi u,.int 1 v] }).objs.size:=by simpa using hb
  subst e;exact I1.eJ (Zx _) (I1.aE.fresh (Zx _))
def Vu (ta:TA):TI:=λσ H R=>ta σ H λvs H1=>∃j:Int,vs=[.int j]/\-(2 ^ 62)<=j/\j<2 ^ 62/\R (i7 0 j.toNat) H1
theorem Ch {a:Expr}{ta:TA}{p:Pos} (hg:Gl X "range") (hm:X.mg "range" = none) (ha:PA X [a] ta) (hs:starEach [a] X.env=[(false,eval a X.env)]:=by rfl):PI X tg (.Call (.Name "range" p) [a] [] pos) (Vu ta):=by
 intro aa s σ H R I h;refine Call_ (Et I hg hm boot_range (PyProof.Rows.callWith_type1 (aL (ha pos aa s σ H _ I h) λus s1 ⟨vs,H1,I1,r1,q1⟩=>?_) hs rfl));obtain⟨j,e,q1,q2,q⟩:=q1;subst e;cases r1 with
 |cons r rr =>
  cases rr;obtain⟨t,rfl⟩:=r;exact call_range_1 (Qb I1 qe qe q1 q2 (by simpa using q))
def Vv (wi:TI) (g:TG) (tb:TS):TS:=λD σ H=>wi σ H λJ H1=>∃W:Nat->Nat->St->Hp->Prop,(∃m,W 0 m σ H1)/\∀i m σ H,W i m σ H ->
 (J.stop i H/\D.nx σ H)\/(J.go i H/\∃N:St->Hp->Prop,(∀aN H',N aN H'->∃m',m'<m/\W (i+1) m' aN H')/\∀x H',J.gG i H x H'->g x σ H' λbV H2=>tb { D with nx:=N,ct:=N,bk:=D.nx } bV H2)
noncomputable def Ev (fp:List W3) (h:Heap):LO:=fp.filterMap λb=>(h.get? b).map λo=>(b,o)
theorem De {fp:List W3}{b:W3}{o:Obj} (hb:b∈fp) (e:h.get? b=some o):(b,o)∈Ev fp h:=List.mem_filterMap.mpr ⟨b,hb,by rw[e];rfl⟩
theorem JE {fp:List W3}{p:W3×Obj} (hp:p∈Ev fp h):p.1∈fp/\h.get? p.1=some p.2:=by
 obtain⟨b,hb,e⟩:=List.mem_filterMap.mp hp;cases q:h.get? b with
 |none=>rw[q]at e;cases e
 |some o =>
  rw[q]at e;have e':(b,o)=p:=Option.some.inj e;subst e';exact⟨hb,q⟩
theorem Inv.pinned {fp:List W3} (I:Inv X aa σ H s) (hf:∀b∈fp,EB X aa H b) (ho:∀b∈fp,∃o,s.heap.get? b=some o/\∀v,o.data≠ .cell v):Inv X (aa++Ev fp s.heap) σ H s :=
 I.pins_of λp hp=>(mem_append.mp hp).elim (λz=>I.pin p (ZU _ z)) λz=>by
  obtain⟨hb,e⟩:=JE z;obtain⟨f0,f1,f2,_⟩:=hf p.1 hb;obtain⟨o,e',d⟩:=ho p.1 hb;rw[e]at e';cases e';exact⟨e,f0,f1,f2,d⟩
theorem Inv.unpinned {pl:LO} (I:Inv X (aa++pl) σ H s):Inv X aa σ H s:=I.pins_of λp hp=>I.pin p (ZU _ (ZQ _ hp))
theorem Cp {iter:Expr}{body:List Stmt}{wi:TI}{g:TG}{tb:TS} (hp:PassesOwn (model X.prog X.w) X.A X.env X.xe) (hc:X.calm=true) (hi:PI X tg iter wi) (hg:PG X tg g) (hb:dP X body tb)
  (hs:∀x,foldedSetIterable iter X.env x=pure x:=by intro _;rfl):PS X (.For tg iter body [] pos) (Vv wi g tb):=by
 intro aa s σ H D I h;refine wpAny_For (aL (hi aa s σ H _ I h) λv s1 h1=>aL h1 λitv s2 h2=>?_) hs;obtain⟨it,fp,tn,J,H2,e,I2,T,gR,f2,W,⟨m0,w0⟩,turn⟩:=h2;subst e;have stat:∀ {H':Hp},(∀b∈fp,H' b=none)->∀b∈fp,EB X aa H' b:=λhn b hb=>⟨hn b hb,(f2 b hb).2⟩;refine codeAny_forLoop_any (λn s'=>∃i aN H',Inv X aa aN H' s'/\tn i s'.heap/\(∀b∈fp,H' b=none)/\W i n aN H') ?_ m0 ⟨0,σ,H2,I2,gR,λb hb=>(f2 b hb).1,w0⟩;rintro n s3 ⟨i,hJ,H3,I3,st3,fr3,w3⟩;rcases turn i n hJ H3 w3 with⟨stop,qn⟩ |⟨go,N,hN,step⟩
 ·refine wpAny_passesOwn hp (aL (T.done X Zj Zj Zj hc i aa s3 hJ H3 X.xe I3 (stat fr3) st3 stop) λr s4 ⟨hr,I4⟩=>?_);subst hr;exact wpAny_execs_nil ⟨hJ,H3,I4,qn⟩
 ·refine wpAny_passesOwn hp (aL (T.item X Zj Zj Zj hc i aa s3 hJ H3 X.xe I3 (stat fr3) st3 go) λr s4 ⟨u,hr,h4⟩=>?_);subst hr;refine wpAny_passesOwn hp (aL h4 λ_ s5 ⟨x,H5,I5,r5,y5,st5,fr5⟩=>?_);have I5':=I5.pinned (stat fr5) (T.obj _ _ st5);refine wpAny_passesOwn hp (aL (hg _ s5 hJ H5 x u _ I5' r5 (step x H5 y5)) λ_ s6 ⟨σ6,H6,I6,q6⟩=>?_);refine wpAny_passesOwn hp (aL (hb _ s6 σ6 H6 _ I6 q6) λf s7 q7=>?_)
  have again:∀ {f7:St}{H7:Hp},Inv X (aa++Ev fp s5.heap) f7 H7 s7->N f7 H7->∃m,m<n/\∃i aN H',Inv X aa aN H' s7/\tn i s7.heap/\(∀b∈fp,H' b=none)/\W i m aN H':=λ{f7 H7} I7 n7=>by
   obtain⟨m',hm,w7⟩:=hN f7 H7 n7;refine⟨m',hm,i+1,f7,H7,I7.unpinned,T.keep _ _ _ st5 λb hb o e=>(I7.pin (b,o) (ZU _ (ZU _ (De hb e)))).1,λb hb=>?_,w7⟩;obtain⟨o,e,d⟩:=T.obj _ _ st5 b hb;exact(I7.pin (b,o) (ZU _ (ZU _ (De hb e)))).2.1
  cases f with
  |next=>obtain⟨f7,H7,I7,n7⟩:=q7;exact again I7 n7
  |cont=>obtain⟨f7,H7,I7,n7⟩:=q7;exact again I7 n7
  |brk=>obtain⟨f7,H7,I7,q7⟩:=q7;exact⟨f7,H7,I7.unpinned,q7⟩
  |ret v=>obtain⟨x7,f7,H7,I7,r7,q7⟩:=q7;exact⟨x7,f7,H7,I7.unpinned,r7,q7⟩
end
theorem B2 {g:TG}{tb:TS}{D:EG} (Pv:Nat->St->Hp->Prop) (h0:Pv 0 σ H) (hl:∀i σ H,i<=xs.length->Pv i σ H->aJ K H a xs)
  (hs:∀i x σ H,xs[i]?=some x->Pv i σ H->g x σ H λbV H2=>tb { D with nx:=Pv (i+1),ct:=Pv (i+1),bk:=D.nx } bV H2) (hd:∀σ H,Pv xs.length σ H->D.nx σ H) :
  ∃W:Nat->Nat->St->Hp->Prop,(∃m,W 0 m σ H)/\∀i m σ H,W i m σ H ->
   ((g8 K a).stop i H/\D.nx σ H)\/((g8 K a).go i H/\∃N:St->Hp->Prop,(∀aN H',N aN H'->∃m',m'<m/\W (i+1) m' aN H')/\∀x H',(g8 K a).gG i H x H'->g x σ H' λbV H2=>tb { D with nx:=N,ct:=N,bk:=D.nx } bV H2):=by
 refine⟨λi m σ H=>m=xs.length - i/\i<=xs.length/\Pv i σ H,⟨xs.length,by simp,Nat.zero_le _,h0⟩,?_⟩;rintro i m σ H ⟨rfl,hi,p⟩;have q:=hl i σ H hi p;by_cases hlt:i<xs.length
 ·refine .inr ⟨⟨xs,xs[i],q,by simp[hlt]⟩,Pv (i+1),λaN H' p'=>⟨xs.length - (i+1),qe,Zj,hlt,p'⟩,λx H' y=>?_⟩;obtain⟨e,y⟩:=y;subst e;exact hs i x σ _ (y xs q) p
 ·have e:i=xs.length:=by omega
  subst e;exact .inl ⟨⟨xs,q,Zx _⟩,hd σ H p⟩
theorem Oz {lo:Int}{n:Nat}{g:TG}{tb:TS}{D:EG} (Pv:Nat->St->Hp->Prop) (h0:Pv 0 σ H)
  (hs:∀i σ H,i<n->Pv i σ H->g (.int (lo+i)) σ H λbV H2=>tb { D with nx:=Pv (i+1),ct:=Pv (i+1),bk:=D.nx } bV H2) (hd:∀σ H,Pv n σ H->D.nx σ H) :
  ∃W:Nat->Nat->St->Hp->Prop,(∃m,W 0 m σ H)/\∀i m σ H,W i m σ H ->
   ((i7 lo n).stop i H/\D.nx σ H)\/((i7 lo n).go i H/\∃N:St->Hp->Prop,(∀aN H',N aN H'->∃m',m'<m/\W (i+1) m' aN H')/\∀x H',(i7 lo n).gG i H x H'->g x σ H' λbV H2=>tb { D with nx:=N,ct:=N,bk:=D.nx } bV H2):=by
 refine⟨λi m σ H=>m=n - i/\i<=n/\Pv i σ H,⟨n,by simp,Nat.zero_le _,h0⟩,?_⟩;rintro i m σ H ⟨rfl,hi,p⟩;by_cases hlt:i<n
 ·refine .inr ⟨hlt,Pv (i+1),λaN H' p'=>⟨n - (i+1),qe,Zj,hlt,p'⟩,λx H' y=>?_⟩;obtain⟨e,y⟩:=y;subst e y;exact hs i σ _ hlt p
 ·have e:i=n:=by omega
  subst e;exact .inl ⟨Zx _,hd σ H p⟩
theorem Qc {c:TT}{tb:TS}{D:EG} (Pv:St->Hp->Prop) (μ:St->Hp->Nat) (h0:Pv σ H)
  (hs:∀σ H,Pv σ H->c σ H λb H1=>if b=true then tb { D with nx:=λaN H'=>Pv aN H'/\μ aN H'<μ σ H,ct:=λaN H'=>Pv aN H'/\μ aN H'<μ σ H,bk:=D.nx } σ H1 else D.nx σ H1)
  (mono:∀σ H Q Q',(∀b H1,Q b H1->Q' b H1)->c σ H Q->c σ H Q'):QY c tb D σ H:=by
 refine⟨λm σ H=>m=μ σ H/\Pv σ H,⟨_,rfl,h0⟩,?_⟩;rintro m σ H ⟨rfl,p⟩;refine mono σ H _ _ (λb H1 q=>?_) (hs σ H p);cases b with
 |true=>exact⟨_,λaN H' ⟨p',l⟩=>⟨_,l,rfl,p'⟩,q⟩
 |false=>exact q
abbrev R2:=V->V->Hp->VK->Prop
def cT (X:Cx) (f:Value->Value->Sem Value) (r:R2):Prop :=
 ∀(aa:LO) (s:W4) (σ:St) (H:Hp) (x y:V) (v u:Value) (Q:VK),Inv X aa σ H s->RelV x v->RelV y u->r x y H Q ->
  wpAny (model X.prog X.w) X.A (f v u) (EP X aa σ Q) X.xe s
def UnR (X:Cx) (f:Value->Sem Value) (r:V->Hp->VK->Prop):Prop :=
 ∀(aa:LO) (s:W4) (σ:St) (H:Hp) (x:V) (v:Value) (Q:VK),Inv X aa σ H s->RelV x v->r x H Q ->
  wpAny (model X.prog X.w) X.A (f v) (EP X aa σ Q) X.xe s
def BZ (X:Cx) (f:Value) (r:Wy->Hp->VK->Prop):Prop :=
 ∀(aa:LO) (s:W4) (σ:St) (H:Hp) (xs:Wy) (us:Wx) (Q:VK),Inv X aa σ H s->Vals xs us->r xs H Q ->
  wpAny (model X.prog X.w) X.A (call f us) (EP X aa σ Q) X.xe s
def ja (r:R2) (ta tb:TE):TE:=λσ H Q=>ta σ H λx H1=>tb σ H1 λy H2=>r x y H2 Q
def tUn (r:V->Hp->VK->Prop) (ta:TE):TE:=λσ H Q=>ta σ H λx H1=>r x H1 Q
def rI (C:Int->Int->Prop) (g:Int->Int->V):R2:=λx y H Q=>ExI x y λi j=>C i j/\Q (g i j) H
def ie (g:Int->Int->V):R2:=λx y H Q=>ExI x y λi j=>Q (g i j) H
def rU (g:Int->V):V->Hp->VK->Prop:=λx H Q=>∃i,x=.int i/\Q (g i) H
section
variable {a b c:Expr}{ta tb tc:TE}
theorem Uf (ha:PE X a ta) (hb:PE X b tb) {R:V->V->Hp->Prop} (I:Inv X aa σ H s)
  (h:ta σ H λx H1=>tb σ H1 λy H2=>R x y H2) {Q:VS}{f:Value->Value->Sem Value}
  (hf:∀v u s2 x y H2,Inv X aa σ H2 s2->RelV x v->RelV y u->R x y H2->wpAny (model X.prog X.w) X.A (f v u) Q X.xe s2) :
  wpAny (model X.prog X.w) X.A (eval a X.env) (λv aI=>wpAny (model X.prog X.w) X.A (eval b X.env) (λu s₂=>wpAny (model X.prog X.w) X.A (f v u) Q X.xe s₂) X.xe aI) X.xe s:=by
 refine aL (ha aa s σ H _ I h) λv s1 ⟨x,H1,I1,r1,q1⟩=>?_;refine aL (hb aa s1 σ H1 _ I1 q1) λu s2 ⟨y,H2,I2,r2,q2⟩=>?_;exact hf v u s2 x y H2 I2 r1 r2 q2
theorem AW {op:Operator}{r:R2} (ho:cT X (binaryOp op) r) (ha:PE X a ta) (hb:PE X b tb):PE X (.BinOp a op b pos) (ja r ta tb):=by
 intro aa s σ H Q I h;exact wpAny_BinOp (Uf ha hb I h λv u s2 x y H2 I2 rx ry q=>ho aa s2 σ H2 x y v u Q I2 rx ry q)
theorem Kw {op:UnaryOp}{r:V->Hp->VK->Prop} (ho:UnR X (unaryOp op) r) (ha:PE X a ta):PE X (.UnaryOp op a pos) (tUn r ta):=by
 intro aa s σ H Q I h;exact UnaryOp_ (aL (ha aa s σ H _ I h) λv s1 ⟨x,H1,I1,r1,q1⟩=>ho aa s1 σ H1 x v Q I1 r1 q1)
theorem jd {f:Value->Value->Sem Value}{C:Int->Int->Prop}{g:Int->Int->Int}
  (rule:∀(i j:Int) (t u:Tok) (s:W4) (Q:VS) (E:VS),C i j->Q (.int (g i j) s.toks) { s with toks:=s.toks+1 }->wpAny (model X.prog X.w) X.A (f (.int i t) (.int j u)) Q E s) :
  cT X f (rI C λi j=>.int (g i j)):=by
 intro aa s σ H x y v u Q I rx ry h;obtain⟨i,j,rfl,rfl,hc,q⟩:=h;obtain⟨t,rfl⟩:=rx;obtain⟨t',rfl⟩:=ry;exact rule i j t t' s _ _ hc ⟨.int (g i j),H,I.tok _,⟨_,Zj⟩,q⟩
theorem Qd {f:Value->Value->Sem Value}{g:Int->Int->Int}
  (rule:∀(i j:Int) (t u:Tok) (s:W4) (Q:VS) (E:VS),Q (.int (g i j) s.toks) { s with toks:=s.toks+1 }->wpAny (model X.prog X.w) X.A (f (.int i t) (.int j u)) Q E s) :
  cT X f (ie λi j=>.int (g i j)):=by
 intro aa s σ H x y v u Q I rx ry h;obtain⟨i,j,rfl,rfl,q⟩:=h;obtain⟨t,rfl⟩:=rx;obtain⟨t',rfl⟩:=ry;exact rule i j t t' s _ _ ⟨.int (g i j),H,I.tok _,⟨_,Zj⟩,q⟩
theorem Sx {f:Value->Value->Sem Value}{g:Int->Int->Bool}
  (rule:∀(i j:Int) (t u:Tok) (s:W4) (Q:VS) (E:VS),Q (.bool (g i j)) s->wpAny (model X.prog X.w) X.A (f (.int i t) (.int j u)) Q E s) :
  cT X f (ie λi j=>.bl (g i j)):=by
 intro aa s σ H x y v u Q I rx ry h;obtain⟨i,j,rfl,rfl,q⟩:=h;obtain⟨t,rfl⟩:=rx;obtain⟨t',rfl⟩:=ry;exact rule i j t t' s _ _ ⟨.bl (g i j),H,I,Zj,q⟩
def WX (i j:Int):Prop:=0<j/\j<1073741824
def Ug (i j:Int):Prop:=0<=j/\j<=1000000/\i.natAbs<2 ^ 64
def CMul (i j:Int):Prop:=(-(2 ^ 64)<i/\i<2 ^ 64)\/(-(2 ^ 64)<j/\j<2 ^ 64)
theorem CMul.ok {i j:Int} (h:CMul i j):IntMulOk i j:=by
 rcases h with⟨h1,h2⟩ |⟨h1,h2⟩
 ·exact .of_left (intBits_le_64 h1 h2)
 ·exact .of_right (intBits_le_64 h1 h2)
theorem Mo (k:Nat):(0:Int)<=2 ^ k:=by
 rw[two_pow_cast];exact Z1 _
theorem Df:cT X (binaryOp .Add) (ie λi j=>.int (i+j)):=Qd λ_ _ _ _ _ _ _ q=>add_int q
theorem Js:cT X (binaryOp .Sub) (ie λi j=>.int (i - j)):=Qd λ_ _ _ _ _ _ _ q=>sub_int q
theorem HQ:cT X (binaryOp .Mult) (rI CMul λi j=>.int (i*j)):=jd λ_ _ _ _ _ _ _ hc q=>mul_int q hc.ok
theorem Jt:cT X (binaryOp .FloorDiv) (rI WX λi j=>.int (i / j)):=jd λi j _ _ _ _ _ hc q=>by
 have h1:(0:Int)<j:=hc.1;have h2:j<1073741824:=hc.2;exact floordiv_int qe (by rw[Int.fdiv_eq_ediv_of_nonneg i qe];exact q) (.inl (PyProof.noPylong_small qe))
theorem Ew:cT X (binaryOp .Mod) (rI (λ_ j=>0<j) λi j=>.int (i % j)):=jd λi j _ _ _ _ _ hc q=>by
 have h1:(0:Int)<j:=hc;exact mod_int' qe (by rw[Int.fmod_eq_emod_of_nonneg i qe];exact q)
theorem Mp:cT X (binaryOp .Pow) (rI Ug λi j=>.int (i ^ j.toNat)):=jd λ_ _ _ _ _ _ _ hc q=>pow_int_small hc.1 hc.2.1 hc.2.2 q
theorem F6:cT X (binaryOp .LShift) (rI Ug λi j=>.int (i*2 ^ j.toNat)):=jd λ_ _ _ _ _ _ _ hc q=>lshift_int_small hc.1 hc.2.1 hc.2.2 q
theorem Mq:cT X (binaryOp .RShift) (rI (λ_ j=>0<=j) λi j=>.int (i / 2 ^ j.toNat)):=jd λi j _ _ _ _ _ hc q =>
 rshift_int hc (by rw[Int.fdiv_eq_ediv_of_nonneg i (Mo _)];exact q)
theorem Cq:cT X (binaryOp .BitAnd) (ie λi j=>.int (Builtin.bitAnd i j)):=Qd λ_ _ _ _ _ _ _ q=>and_int q
theorem Qe:cT X (binaryOp .BitOr) (ie λi j=>.int (Builtin.bitOr i j)):=Qd λ_ _ _ _ _ _ _ q=>or_int q
theorem Uh:cT X (inplaceOp .BitOr) (ie λi j=>.int (Builtin.bitOr i j)):=Qd λ_ _ _ _ _ _ _ q=>ior_int q
theorem unI {f:Value->Sem Value}{g:Int->Int}
  (rule:∀(i:Int) (t:Tok) (s:W4) (Q:VS) (E:VS),Q (.int (g i) s.toks) { s with toks:=s.toks+1 }->wpAny (model X.prog X.w) X.A (f (.int i t)) Q E s) :
  UnR X f (rU λi=>.int (g i)):=by
 intro aa s σ H x v Q I rx h;obtain⟨i,rfl,q⟩:=h;obtain⟨t,rfl⟩:=rx;exact rule i t s _ _ ⟨.int (g i),H,I.tok _,⟨_,Zj⟩,q⟩
theorem Qf:UnR X (unaryOp .USub) (rU λi=>.int (-i)):=unI λ_ _ _ _ _ q=>neg_int q
theorem Mr:UnR X (unaryOp .Invert) (rU λi=>.int (Builtin.bitNot i)):=unI λ_ _ _ _ _ q=>invert_int q
end
noncomputable def Vw:V->V->Bool
 | .aK,.aK=>true | .aK,.int _=>true | .int _,.aK=>true | .aK,.bl _=>true | .bl _,.aK=>true | .aK,.str _=>true | .str _,.aK=>true
 | .int _,.int _=>true | .bl _,.bl _=>true | .str _,.str _=>true | .gO _,.gO _=>true
 | .int _,.str _=>true | .str _,.int _=>true | .bl _,.str _=>true | .str _,.bl _=>true
 |_,_=>false
def rEq:R2:=λx y H Q=>Vw x y=true/\Q (.bl (decide (x=y))) H
def rNe:R2:=λx y H Q=>Vw x y=true/\Q (.bl (!decide (x=y))) H
theorem N4 {i j:Int}:decide (V.int i=V.int j)=(i==j):=by
 rw[Bool.eq_iff_iff];simp
theorem Qg {i j:Bool}:decide (V.bl i=V.bl j)=(i==j):=by
 rw[Bool.eq_iff_iff];simp
theorem N5 {i j:Str}:decide (V.str i=V.str j)=(i==j):=by
 rw[Bool.eq_iff_iff];simp
theorem N6 {i j:Array UInt8}:decide (V.gO i=V.gO j)=(i.toList==j.toList):=by
 rw[Bool.eq_iff_iff];cases i;cases j;simp
section
variable {a b c:Expr}{ta tb tc:TE}
theorem Aq {Q:VK}{k k':Bool} (I:Inv X aa σ H s) (q:Q (.bl k) H) (e:k=k'):EP X aa σ Q (.bool k') s:=by
 subst e;exact⟨.bl k,H,I,Zj,q⟩
theorem DP:cT X (compareOp .Eq) rEq:=by
 intro aa s σ H x y v u Q I rx ry h;obtain⟨hs,q⟩:=h;cases x with
 |aK =>
  cases rx;cases y with
  |aK=>cases ry;exact PySem.EqNone.eq_none_none (Aq I q (by simp))
  |bl j=>cases ry;exact PySem.EqNone.eq_none_bool (Aq I q (by simp))
  |int j=>obtain⟨t',rfl⟩:=ry;exact PySem.EqNone.eq_none_int (Aq I q (by simp))
  |str j=>obtain⟨t',rfl⟩:=ry;exact PySem.EqNone.eq_none_str (Aq I q (by simp))
  |_=>exact absurd (show false=true from hs) Bool.false_ne_true
 |bl i =>
  cases rx;cases y with
  |aK=>cases ry;exact PySem.EqNone.eq_bool_none (Aq I q (by simp))
  |bl j=>cases ry;exact eq_bool (Aq I q Qg)
  |str j=>obtain⟨t',rfl⟩:=ry;exact PySem.EqMixed.eq_bool_str (Aq I q (by simp))
  |_=>exact absurd (show false=true from hs) Bool.false_ne_true
 |int i =>
  obtain⟨t,rfl⟩:=rx;cases y with
  |aK=>cases ry;exact PySem.EqNone.eq_int_none (Aq I q (by simp))
  |int j=>obtain⟨t',rfl⟩:=ry;exact eq_int (Aq I q N4)
  |str j=>obtain⟨t',rfl⟩:=ry;exact PySem.EqMixed.eq_int_str (Aq I q (by simp))
  |_=>exact absurd (show false=true from hs) Bool.false_ne_true
 |str i =>
  obtain⟨t,rfl⟩:=rx;cases y with
  |aK=>cases ry;exact PySem.EqNone.eq_str_none (Aq I q (by simp))
  |bl j=>cases ry;exact PySem.EqMixed.eq_str_bool (Aq I q (by simp))
  |int j=>obtain⟨t',rfl⟩:=ry;exact PySem.EqMixed.eq_str_int (Aq I q (by simp))
  |str j=>obtain⟨t',rfl⟩:=ry;exact eq_str (Aq I q N5)
  |_=>exact absurd (show false=true from hs) Bool.false_ne_true
 |gO i =>
  obtain⟨t,rfl⟩:=rx;cases y with
  |gO j=>obtain⟨t',rfl⟩:=ry;exact W.eq_bytes (Aq I q N6)
  |_=>exact absurd (show false=true from hs) Bool.false_ne_true
 |_=>cases y <;> exact absurd (show false=true from hs) Bool.false_ne_true
theorem CN:cT X (compareOp .NotEq) rNe:=by
 intro aa s σ H x y v u Q I rx ry h;obtain⟨hs,q⟩:=h;cases x with
 |aK =>
  cases rx;cases y with
  |aK=>cases ry;exact PySem.EqNone.ne_none_none (Aq I q (by simp))
  |bl j=>cases ry;exact PySem.EqNone.ne_none_bool (Aq I q (by simp))
  |int j=>obtain⟨t',rfl⟩:=ry;exact PySem.EqNone.ne_none_int (Aq I q (by simp))
  |str j=>obtain⟨t',rfl⟩:=ry;exact PySem.EqNone.ne_none_str (Aq I q (by simp))
  |_=>exact absurd (show false=true from hs) Bool.false_ne_true
 |bl i =>
  cases rx;cases y with
  |aK=>cases ry;exact PySem.EqNone.ne_bool_none (Aq I q (by simp))
  |bl j=>cases ry;exact ne_bool (Aq I q (congrArg not Qg))
  |str j=>obtain⟨t',rfl⟩:=ry;exact PySem.EqMixed.ne_bool_str (Aq I q (by simp))
  |_=>exact absurd (show false=true from hs) Bool.false_ne_true
 |int i =>
  obtain⟨t,rfl⟩:=rx;cases y with
  |aK=>cases ry;exact PySem.EqNone.ne_int_none (Aq I q (by simp))
  |int j=>obtain⟨t',rfl⟩:=ry;exact ne_int (Aq I q (congrArg not N4))
  |str j=>obtain⟨t',rfl⟩:=ry;exact PySem.EqMixed.ne_int_str (Aq I q (by simp))
  |_=>exact absurd (show false=true from hs) Bool.false_ne_true
 |str i =>
  obtain⟨t,rfl⟩:=rx;cases y with
  |aK=>cases ry;exact PySem.EqNone.ne_str_none (Aq I q (by simp))
  |bl j=>cases ry;exact PySem.EqMixed.ne_str_bool (Aq I q (by simp))
  |int j=>obtain⟨t',rfl⟩:=ry;exact PySem.EqMixed.ne_str_int (Aq I q (by simp))
  |str j=>obtain⟨t',rfl⟩:=ry;exact ne_str (Aq I q (congrArg not N5))
  |_=>exact absurd (show false=true from hs) Bool.false_ne_true
 |gO i =>
  obtain⟨t,rfl⟩:=rx;cases y with
  |gO j=>obtain⟨t',rfl⟩:=ry;exact W.ne_bytes (Aq I q (congrArg not N6))
  |_=>exact absurd (show false=true from hs) Bool.false_ne_true
 |_=>cases y <;> exact absurd (show false=true from hs) Bool.false_ne_true
theorem N7:cT X (compareOp .Lt) (ie λi j=>.bl (decide (i<j))):=Sx λ_ _ _ _ _ _ _ q=>lt_int q
theorem Cr:cT X (compareOp .LtE) (ie λi j=>.bl (decide (i<=j))):=Sx λ_ _ _ _ _ _ _ q=>le_int q
theorem JF:cT X (compareOp .Gt) (ie λi j=>.bl (decide (j<i))):=Sx λ_ _ _ _ _ _ _ q=>gt_int q
theorem Qh:cT X (compareOp .GtE) (ie λi j=>.bl (decide (j<=i))):=Sx λ_ _ _ _ _ _ _ q=>ge_int q
theorem AX (b:Expr) {op:CmpOp} (h:op≠ .In:=by decide) (h2:op≠ .NotIn:=by decide):behindInMarks op b=false:=by
 have e1:(op==CmpOp.In)=false:=by cases op <;> first |rfl |exact absurd rfl h
 have e2:(op==CmpOp.NotIn)=false:=by cases op <;> first |rfl |exact absurd rfl h2
 cases b <;> simp[behindInMarks,e1,e2]
theorem Dg {op:CmpOp}{r:R2} (ho:cT X (compareOp op) r) (ha:PE X a ta) (hb:PE X b tb) (hm:behindInMarks op b=false):PE X (.Compare a [op] [b] pos) (ja r ta tb):=by
 intro aa s σ H Q I h;exact wpAny_Compare1 (Uf ha hb I h λv u s2 x y H2 I2 rx ry q=>ho aa s2 σ H2 x y v u Q I2 rx ry q) hm
def Qi (t:TE):TT:=λσ H Q=>t σ H λx H'=>ExB x λk=>Q k H'
theorem AQ {op:CmpOp}{r:R2} (ho:cT X (compareOp op) r) (ha:PE X a ta) (hb:PE X b tb) (hm:behindInMarks op b=false):PT X (.Compare a [op] [b] pos) (Qi (ja r ta tb)):=by
 intro aa s σ H Q I h
 refine wpAny_isTrue_Compare1 (aL (ha aa s σ H _ I h) λv s1 ⟨x,H1,I1,r1,q1⟩=>aL (hb aa s1 σ H1 _ I1 q1) λu s2 ⟨y,H2,I2,r2,q2⟩ =>
  aL (ho aa s2 σ H2 x y v u _ I2 r1 r2 q2) λc s3 ⟨z,H3,I3,r3,k,e,q3⟩=>?_) hm
 subst e;cases r3;exact Z0 ⟨H3,I3,q3⟩
def Qj (r r':R2) (ta tb tc:TE):TE:=λσ H Q=>ta σ H λx H1=>tb σ H1 λy H2=>r x y H2 λz H3=>∃k,z=.bl k /\
 (if k=true then tc σ H3 λw' H4=>r' y w' H4 Q else Q (.bl false) H3)
theorem Kx {op op':CmpOp}{r r':R2} (ho:cT X (compareOp op) r) (gj:cT X (compareOp op') r') (ha:PE X a ta) (hb:PE X b tb) (hc:PE X c tc)
  (hm:lastMarks [op,op'] [b,c]=false:=by with_unfolding_all rfl):PE X (.Compare a [op,op'] [b,c] pos) (Qj r r' ta tb tc):=by
 intro aa s σ H Q I h
 refine Compare_chain (aL (ha aa s σ H _ I h) λv s1 ⟨x,H1,I1,r1,q1⟩=>chain_link (aL (hb aa s1 σ H1 _ I1 q1) λu s2 ⟨y,H2,I2,r2,q2⟩ =>
  aL (ho aa s2 σ H2 x y v u _ I2 r1 r2 q2) λd s3 ⟨z,H3,I3,r3,k,e,q3⟩=>?_)) hm
 subst e;cases r3;refine Z0 ?_;cases k with
 |false=>exact ite_ff ⟨.bl false,H3,I3,rfl,q3⟩
 |true=>exact ite_tt (chain_last (aL (hc aa s3 σ H3 _ I3 q3) λw' s4 ⟨z',H4,I4,r4,q4⟩=>gj aa s4 σ H4 y z' u w' Q I4 r2 r4 q4))
theorem Ct {op op':CmpOp}{r r':R2} (ho:cT X (compareOp op) r) (gj:cT X (compareOp op') r') (ha:PE X a ta) (hb:PE X b tb) (hc:PE X c tc)
  (hm:lastMarks [op,op'] [b,c]=false:=by with_unfolding_all rfl):PT X (.Compare a [op,op'] [b,c] pos) (Qi (Qj r r' ta tb tc)):=by
 intro aa s σ H Q I h
 refine isTrue_chain (aL (ha aa s σ H _ I h) λv s1 ⟨x,H1,I1,r1,q1⟩=>test_link (aL (hb aa s1 σ H1 _ I1 q1) λu s2 ⟨y,H2,I2,r2,q2⟩ =>
  aL (ho aa s2 σ H2 x y v u _ I2 r1 r2 q2) λd s3 ⟨z,H3,I3,r3,k,e,q3⟩=>?_)) hm
 subst e;cases r3;refine Z0 ?_;cases k with
 |false =>
  obtain⟨k',e',q'⟩:=q3;cases e';exact ite_ff ⟨H3,I3,q'⟩
 |true =>
  refine ite_tt (test_last (aL (hc aa s3 σ H3 _ I3 q3) λw' s4 ⟨z',H4,I4,r4,q4⟩=>aL (gj aa s4 σ H4 y z' u w' _ I4 r2 r4 q4) λd' s5 ⟨z2,H5,I5,r5,k2,e2,q5⟩=>?_));subst e2;cases r5;exact Z0 ⟨H5,I5,q5⟩
theorem HR:(sizeLine:Nat)<2 ^ 63:=by rw[sizeLine_eq];decide
theorem Bu {x:V} (r:Vals [x] us):∃u,us=[u]/\RelV x u:=by
 cases r with
 |cons r1 r2=>cases r2;exact⟨_,Zj,r1⟩
theorem HS {x y:V} (r:Vals [x,y] us):∃u w',us=[u,w']/\RelV x u/\RelV y w':=by
 cases r with
 |cons r1 r2 =>
  cases r2 with
  |cons r3 r4=>cases r4;exact⟨_,_,Zj,r1,r3⟩
theorem O1 (hc:X.calm=true):BZ X (.builtin "max") (λxs H Q=>∃i j,xs=[.int i,.int j]/\Q (.int (if j>i then j else i)) H):=by
 intro aa s σ H xs us Q I r h;obtain⟨i,j,rfl,q⟩:=h;obtain⟨u,w',rfl,⟨t,rfl⟩,⟨t',rfl⟩⟩:=HS r;refine max_two_ints (I.ok.hd hc) λh' tk k=>⟨_,H,I.kept k,?_,q⟩;by_cases hj:j>i
 ·rw[Zo hj,Zo hj];exact⟨_,Zj⟩
 ·rw[Zp hj,Zp hj];exact⟨_,Zj⟩
theorem O2 (hc:X.calm=true):BZ X (.builtin "min") (λxs H Q=>∃i j,xs=[.int i,.int j]/\Q (.int (if j<i then j else i)) H):=by
 intro aa s σ H xs us Q I r h;obtain⟨i,j,rfl,q⟩:=h;obtain⟨u,w',rfl,⟨t,rfl⟩,⟨t',rfl⟩⟩:=HS r;refine min_two_ints (I.ok.hd hc) λh' tk k=>⟨_,H,I.kept k,?_,q⟩;by_cases hj:j<i
 ·rw[Zo hj,Zo hj];exact⟨_,Zj⟩
 ·rw[Zp hj,Zp hj];exact⟨_,Zj⟩
theorem O3:BZ X (.type "int") (λxs H Q=>(∃i,xs=[.int i]/\Q (.int i) H)\/∃k,xs=[.bl k]/\Q (.int (if k then 1 else 0)) H):=by
 intro aa s σ H xs us Q I r h;rcases h with⟨i,rfl,q⟩ |⟨k,rfl,q⟩
 ·obtain⟨u,rfl,t,rfl⟩:=Bu r;exact call_int_int ⟨.int i,H,I,⟨_,Zj⟩,q⟩
 ·obtain⟨u,rfl,r1⟩:=Bu r;cases r1;exact call_int_bool ⟨.int (if k then 1 else 0),H,I.tok _,⟨_,Zj⟩,q⟩
theorem FR:BZ X (.type "str") (λxs H Q=>∃i,xs=[.int i]/\i.natAbs.log2<1920/\Q (.str (toString i)) H):=by
 intro aa s σ H xs us Q I r h;obtain⟨i,rfl,hz,q⟩:=h;obtain⟨u,rfl,t,rfl⟩:=Bu r;exact PySem.P.str_of_int hz ⟨.str _,H,I.tok _,⟨_,Zj⟩,q⟩
end
structure ObjM (h:Heap) (x dx C:W3) (mA:SV):Prop where
 obj:h.get? x=some (W.instObj C dx)
 ns:h.Ns1 dx mA
 ne:dx≠x
theorem JG {dx:W3}{mA:SV} (n:h.Ns1 dx mA):∃od,h.get? dx=some od/\∀name,W.lookIn name od=some (mA name):=by
 obtain⟨o,es,ep,ho,hd,hk,_,hm⟩:=n;refine⟨o,ho,λname=>?_⟩;have e:=hm name;unfold nsFind findBy at e;rw[←Array.find?_toList]at e;unfold W.lookIn;rw[hd]
 dsimp only
 split
 ·rename_i y q;rw[q]at e;exact congrArg some e
 ·rename_i q;rw[q]at e
  have a:es.toList.any (·.refKey)=false:=by
   rw[List.any_eq_false];intro y hy;obtain⟨z,t,dc⟩:=hk y (Array.mem_toList_iff.mp hy);simp[DictEntry.refKey,dc]
  have a':¬ es.toList.any (·.refKey)=true:=by rw[a];exact Bool.false_ne_true
  rw[Zp a'];exact congrArg some e
theorem ObjM.look {x dx:W3}{mA:SV} (I:ObjM h x dx C mA):∃od,W.InstAt h x (W.instObj C dx) C (some od)/\∀name,W.lookIn name od=some (mA name) :=
 let ⟨od,ho,hl⟩:=JG I.ns
 ⟨od,⟨I.obj,rfl,rfl,ho⟩,hl⟩
section
variable {prog:Program}{x dx:W3}{mA:SV}{name:Str}{v:Value}
theorem Sy {expr:Bool}{Q:VS} (X:K.In s.heap) (I:ObjM s.heap x dx C mA) (hg:W.plainGet K C name=true) (hh:W.hasDictIn K C=true)
  (ha:W.findIn K (.ref C) name=some none) (hv:mA name=some v) (hv':W.handedIn v=true) (h:Q v { s with toks:=s.toks+1 }) :
  wpAny (model prog w) A (getAttr (.ref x) name expr) Q E s:=by
 obtain⟨od,J,hl⟩:=I.look;exact W.get_value X J (W.plainGet_of hg).1 (W.findObj_own hh ha Zj (by rw[hl,hv])) hv' h
theorem Qk {pl:Sem Bool}{Q:Value×Wx->W4->Prop} (X:K.In s.heap) (I:ObjM s.heap x dx C mA) (hg:W.plainGet K C name=true)
  (hf:W.findIn K (.ref C) name=some (some (.ref f))) (ht:W.isFn K (.ref f)=true) (hv:mA name=none) (h:Q (.ref f,[.ref x]) s) :
  wpAny (model prog w) A (getMethod (.ref x) name pl) Q E s:=by
 obtain⟨od,J,hl⟩:=I.look;exact W.method_fn X J (W.plainGet_of hg).1 (W.plainGet_of hg).2 hf (beq_iff_eq.mp ht) (by show(W.lookIn name od).map (·.isSome)=some false;rw[hl,hv];rfl) h
theorem Sz {ns:Ww}{Q:Unit->W4->Prop} (X:K.In s.heap) (I:ObjM s.heap x dx C mA)
  (hs:W.findIn K (.ref C) "__setattr__" = some (some (.builtin "object.__setattr__"))) (hp:W.plainOver K C=true) (ht:W.takerIn K C name=some none) (hh:W.hasDictIn K C=true)
  (hw:PySem.Within mA ns) (hsz:ns.length<=sizeLine)
  (h:∀h',ObjM h' x dx C (λy=>if y=name then some v else mA y)->Heap.SameBut dx s.heap h'->Q () { s with heap:=h',toks:=s.toks+2 }) :
  wpAny (model prog w) A (setAttr (.ref x) name v) Q E s:=by
 obtain⟨od,J,hl⟩:=I.look;refine W.set_plain X J hs (W.osa_open (s:={ s with toks:=s.toks+1 }) (r:=none) X J hp ht λb=>?_);obtain⟨cd,hc,hd'⟩:=W.any_some hh;have hx:s.heap.get? x=some ⟨.ref C,some dx,.plain,#[]⟩:=I.obj;refine Zw (Zv (Zw (Zw (wpAny_loadPart hx (Zw (W.Looks.here (s:={ s with toks:=s.toks+1 }) (W.looks_clsIn X hc) ?_))))));rw[hd'];refine Zv (a:=some dx) (Zw (Zv (Zw ?_)));refine wpAny_nsSet1 (s:={ s with toks:=s.toks+1 }) I.ns λh' hn2 iP=>?_;obtain⟨oD,esD,epD,hoD,hdD,ig⟩:=hn2.count (PySem.Within.cons name v hw);refine Zw (wpAny_lookBehind hoD (by rw[hdD];exact pastItsLine_dict (Nat.le_trans ig (by rw[length_cons];omega))) ?_);exact Zv (h _ ⟨(iP.2 _ (Ne.symm I.ne)).trans I.obj,hn2,I.ne⟩ iP)
theorem HU {R:Result->W4->Prop}{vs:Wx}{kw:List (Str×Value)} (X:K.In s.heap) (hm:W.makesIn K C=true)
  (hi:W.findIn K (.ref C) "__init__" = some (some (.ref f))) (hf:W.typeIn K (.ref f)=some (.type "function"))
  (h:codeAny (model prog w) (A.under (.builtin "type.__call__" ⟨.ref C::vs,kw⟩)) (.call (.ref f) ⟨.ref (s.heap.objs.size+1)::vs,kw⟩) (W.InitBack (s.heap.objs.size+1) R)
   { s with heap:=(s.heap.push W.emptyDict).push (W.instObj C s.heap.objs.size) }) :
  codeAny (model prog w) A (.call (.ref C) ⟨vs,kw⟩) R s:=by
 obtain⟨hh,g,d,t,os⟩:=s;exact W.make_core (W.makes_of X hm) (W.looks_findIn X hi) (λself=>W.bind_fn X self hf) (.inl Zj) h
end
noncomputable def Bz (f:Str) (v:V):List (Str×V)->List (Str×V)
  | []=>[(f,v)]
  | (g,x)::r=>if g=f then (g,v)::r else (g,x)::Bz f v r
theorem Ai (f g:Str) (v:V):∀fs:List (Str×V),(Bz f v fs).lookup g=if g=f then some v else fs.lookup g
  | []=>by
    show List.lookup g [(f,v)]=_;by_cases h:g=f
    · have hb:(g==f)=true:=beq_iff_eq.mpr h
      simp only[List.lookup,hb,Zo h]
    · have hb:(g==f)=false:=beq_eq_false_iff_ne.mpr h
      simp only[List.lookup,hb,Zp h]
  | (k,x)::r=>by
    have ih:=Ai f g v r;rw[show Bz f v ((k,x)::r)=(if k=f then (k,v)::r else (k,x)::Bz f v r)from rfl];by_cases hk:k=f
    · rw[Zo hk]
      by_cases h:g=k
      · have hb:(g==k)=true:=beq_iff_eq.mpr h
        simp only[List.lookup,hb,Zo (h.trans hk)]
      · have hb:(g==k)=false:=beq_eq_false_iff_ne.mpr h
        simp only[List.lookup,hb,Zp (λe:g=f=>h (e.trans hk.symm))]
    · rw[Zp hk]
      by_cases h:g=k
      · have hb:(g==k)=true:=beq_iff_eq.mpr h
        simp only[List.lookup,hb,Zp (λe:g=f=>hk (h.symm.trans e))]
      · have hb:(g==k)=false:=beq_eq_false_iff_ne.mpr h
        simp only[List.lookup,hb];exact ih
theorem F7 (f:Str) (v:V):∀fs:List (Str×V),f∈(Bz f v fs).map (·.1)/\∀g,g∈fs.map (·.1)->g∈(Bz f v fs).map (·.1)
  | []=>⟨by simp[Bz],λg h=>by simp at h⟩
  | (k,x)::r=>by
    obtain⟨i1,i2⟩:=F7 f v r;rw[show Bz f v ((k,x)::r)=(if k=f then (k,v)::r else (k,x)::Bz f v r)from rfl];by_cases hk:k=f
    · rw[Zo hk]
      subst hk;exact⟨by simp,λg h=>by simpa using h⟩
    · rw[Zp hk]
      refine⟨?_,λg h=>?_⟩
      · rw[map_cons]
        exact ZS _ i1
      · rw[map_cons]at h ⊢
        rcases mem_cons.mp h with e |e
        · exact mem_cons.mpr (.inl e)
        · exact ZS _ (i2 g e)
theorem DF (f:Str) (v:V):∀fs:List (Str×V),(Bz f v fs).length<=fs.length+1
  | []=>by simp[Bz]
  | (k,x)::r=>by
    have ih:=DF f v r;rw[show Bz f v ((k,x)::r)=(if k=f then (k,v)::r else (k,x)::Bz f v r)from rfl];by_cases hk:k=f
    · rw[Zo hk,length_cons,length_cons];omega
    · rw[Zp hk,length_cons,length_cons];omega
theorem cW.some_of {v:V}{o:Option Value} (r:cW (some v) o):∃u,o=some u/\RelV v u:=by
 cases o with
 |none=>exact(show False from r).elim
 |some u=>exact⟨u,rfl,r⟩
theorem cW.none_of {o:Option Value} (r:cW none o):o=none:=by
 cases o with
 |none=>rfl
 |some u=>exact(show False from r).elim
theorem JH {v:V} (r:RelV v u):W.handedIn u=true:=by
 cases v with
 |aK=>cases (show u=Value.none from r);rfl
 |bl b=>cases (show u=Value.bool b from r);rfl
 |int i=>obtain⟨t,e⟩:=(show ∃t,u=Value.int i t from r);cases e;rfl
 |str x=>obtain⟨t,e⟩:=(show ∃t,u=Value.str x t from r);cases e;rfl
 |gO b=>obtain⟨t,e⟩:=(show ∃t,u=Value.bytes b t from r);cases e;rfl
 |iW b=>obtain⟨t,e⟩:=(show ∃t,u=Value.float b t from r);cases e;rfl
 |ref a=>cases (show u=Value.ref a from r);rfl
 |ty n=>cases (show u=Value.type n from r);rfl
section
variable {h':Heap}{dx:W3}{fs fs':List (Str×V)}
theorem Ed (aE:cV P w H h) (e:H a=some (.ins C dx fs)):∃mA,ObjM h a dx C mA/\(∀f,cW (fs.lookup f) (mA f))/\PySem.Within mA (fs.map (·.1))/\fs.length<=1000/\H dx=some (.own a):=by
 obtain⟨d,z,ne,ob,mA,n,r,q⟩:=(show aT P w H h a (.ins C dx fs)from aE a _ e);exact⟨mA,⟨ob,n,ne⟩,r,q,z,d⟩
end
structure gP (K:FG) (C:W3):Prop where
 pg:W.plainGet K C Str.empty=true
 hd:W.hasDictIn K C=true
 po:W.plainOver K C=true
 sa:W.findIn K (.ref C) "__setattr__" = some (some (.builtin "object.__setattr__"))
theorem gP.get (c:gP K C) (f:Str):W.plainGet K C f=true:=c.pg
def cI (K:FG) (C:W3) (f:Str):Prop:=W.findIn K (.ref C) f=some none
theorem cI.taker {f:Str} (n:cI K C f):W.takerIn K C f=some none:=by
 unfold W.takerIn;rw[show W.findIn K (.ref C) f=some none from n];rfl
structure Ql (K:FG) (C:W3) (m:Str) (f:W3):Prop where
 at_:W.findIn K (.ref C) m=some (some (.ref f))
 fn:W.isFn K (.ref f)=true
 kp:W.keepIn K (.ref f)=true
section
variable {dx:W3}{fs:List (Str×V)}{f:Str}{v:V}
theorem Ms {b:Bool}{Q:VS} (I:Inv X aa σ H s) (e:H a=some (.ins C dx fs)) (c:gP X.K C) (n:cI X.K C f) (l:fs.lookup f=some v)
  (h:∀u s',Inv X aa σ H s'->RelV v u->Q u s'):wpAny (model X.prog X.w) A (getAttr (.ref a) f b) Q E s:=by
 obtain⟨mA,O,r,_,_,_⟩:=Ed I.aE e;obtain⟨u,hu,ru⟩:=cW.some_of (v:=v) (o:=mA f) (by rw[←l];exact r f);exact Sy I.cC O (c.get f) c.hd n hu (JH ru) (h u _ (I.tok _) ru)
theorem HV {m:Str}{g:W3}{pl:Sem Bool}{Q:Value×Wx->W4->Prop} (I:Inv X aa σ H s) (e:H a=some (.ins C dx fs)) (c:gP X.K C) (k:Ql X.K C m g) (l:fs.lookup m=none)
  (h:Q (.ref g,[.ref a]) s):wpAny (model X.prog X.w) A (getMethod (.ref a) m pl) Q E s:=by
 obtain⟨mA,O,r,_,_,_⟩:=Ed I.aE e;have hn:mA m=none:=cW.none_of (by rw[←l];exact r m);exact Qk I.cC O (c.get m) k.at_ k.fn hn h
theorem Mu {y:V}{Q:Unit->W4->Prop} (I:Inv X aa σ H s) (e:H a=some (.ins C dx fs)) (c:gP X.K C) (n:cI X.K C f) (hl:fs.length<1000) (ry:RelV y u)
  (h:∀s',Inv X aa σ (upd H a (.ins C dx (Bz f y fs))) s'->Q () s'):wpAny (model X.prog X.w) A (setAttr (.ref a) f u) Q E s:=by
 obtain⟨mA,O,r,wi,_,ho⟩:=Ed I.aE e;have hz:(fs.map (·.1)).length<=sizeLine:=by rw[AE,sizeLine_eq];omega
 refine Sz I.cC O c.sa c.po n.taker c.hd wi hz λh' O' sb=>h _ ?_;have hd:∃o,h'.get? dx=some o:=let ⟨o,_,_,e',_⟩:=O'.ns;⟨o,e'⟩
 refine I.write (x:=a) (e:=dx) (by rw[e];exact True.intro) (.inr ho) (λb q hb z=>(sb.2 b hb).trans z) hd ?_;refine⟨by rw[AH O.ne];exact ho,?_,O.ne,O'.obj,_,O'.ns,λg=>?_,λg hg=>?_⟩
 ·have:=DF f y fs;omega
 ·show cW ((Bz f y fs).lookup g) (if g=f then some u else mA g);rw[Ai];by_cases q:g=f
  ·rw[Zo q,Zo q];exact ry
  ·rw[Zp q,Zp q];exact r g
 ·by_cases q:g=f
  ·rw[q];exact(F7 f y fs).1
  ·refine(F7 f y fs).2 g (wi g λz=>hg ?_);show(if g=f then some u else mA g)=none;rw[Zp q];exact z
theorem Inv.made (I:Inv X aa σ H s):Inv X aa σ (upd (upd H s.heap.objs.size (.own (s.heap.objs.size+1))) (s.heap.objs.size+1) (.ins C s.heap.objs.size []))
  { s with heap:=(s.heap.push W.emptyDict).push (W.instObj C s.heap.objs.size) }:=by
 have e1:(s.heap.push W.emptyDict).get? s.heap.objs.size=some W.emptyDict:=ZO s.heap rfl
 have e2:((s.heap.push W.emptyDict).push (W.instObj C s.heap.objs.size)).get? (s.heap.objs.size+1)=some (W.instObj C s.heap.objs.size):=by
  have:=ZO (s.heap.push W.emptyDict) (o:=W.instObj C s.heap.objs.size) rfl
  rwa[Heap.size_push]at this
 have e3:(s.heap.push W.emptyDict).Ns s.heap.objs.size (λ_=>none):=⟨W.emptyDict,#[],_,e1,rfl,(λe he=>absurd he (by simp)),λ_=>rfl⟩;have I1:=I.laid (a:=s.heap.objs.size) (o:=.own (s.heap.objs.size+1)) (h':=s.heap.push W.emptyDict) (t':=s.toks) (λb u q=>ZY _ q) (Zx _) ⟨_,e1⟩;refine I1.laid (a:=s.heap.objs.size+1) (o:=.ins C s.heap.objs.size []) (t':=s.toks) (λb u q=>ZY _ q) (Nat.le_of_eq (Heap.size_push _ _)) ?_;have ne:s.heap.objs.size≠s.heap.objs.size+1:=ZE (Nat.lt_succ_self _);refine⟨by rw[AH ne,AB],Nat.zero_le _,ne,e2,λ_=>none,(Heap.Ns1.of_empty e3).at λo q=>ZY _ q,λ_=>True.intro,λy hy=>absurd Zj hy⟩
theorem N8 {prog:Program}{env:Env}{f:Str}{Q:VS} (hb:attributeBase e f env (eval e env)=eval e env)
  (h:wpAny (model prog w) A (eval e env) (λo aI=>wpAny (model prog w) A (getAttr o f true) Q E aI) E s):wpAny (model prog w) A (eval (.Attribute e f pos) env) Q E s :=
 Attribute_any_ h (by rw[arm_eval_Attribute,hb])
end
inductive ExF (K:FG) (x:V) (H:Hp) (f:Str) (k:V->Prop):Prop where
 |mk (a C dx:W3) (fs:List (Str×V)) (v:V) (h1:x=.ref a) (h2:H a=some (.ins C dx fs)) (h3:gP K C) (h4:cI K C f) (h5:fs.lookup f=some v) (q:k v):ExF K x H f k
def Vx (K:FG) (ta:TE) (f:Str):TE:=λσ H Q=>ta σ H λx H1=>ExF K x H1 f λv=>Q v H1
def WY (K:FG) (ta tv:TE) (f:Str):TS:=λD σ H=>tv σ H λy H1=>ta σ H1 λx H2=>∃a C dx fs,x=.ref a/\H2 a=some (.ins C dx fs)/\gP K C/\cI K C f/\fs.length<1000 /\
 D.nx σ (upd H2 a (.ins C dx (Bz f y fs)))
section
variable {o value:Expr}{f:Str}{pos' tpos:Pos}{ta tv:TE}
theorem Bm (he:PE X e ta) (hb:attributeBase e f X.env (eval e X.env)=eval e X.env):PE X (.Attribute e f pos) (Vx X.K ta f):=by
 intro aa s σ H Q I h;refine N8 hb (aL (he aa s σ H _ I h) λu s1 ⟨x,H1,I1,rx,a,C,dx,fs,v,ex,ea,c,n,l,q⟩=>?_);subst ex;obtain rfl:u=Value.ref a:=rx;exact Ms I1 ea c n l λu' s2 I2 ru=>⟨v,H1,I2,ru,q⟩
theorem F8 (ha:PE X o ta) (hv:PE X value tv) (hs:swapsWith value (some (.Attribute o f pos')) pos.line X.env=pure false):PS X (.Assign [.Attribute o f pos'] value pos) (WY X.K ta tv f):=by
 intro aa s σ H D I h;refine plainObj_wpAny_Assign_Attribute (aL (hv aa s σ H _ I h) λu s1 ⟨y,H1,I1,ry,q⟩=>aL (ha aa s1 σ H1 _ I1 q) λov s2 ⟨x,H2,I2,rx,a,C,dx,fs,ex,ea,c,n,l,q2⟩=>?_) hs;subst ex;obtain rfl:ov=Value.ref a:=rx;exact Mu I2 ea c n l ry λs3 I3=>⟨σ,_,I3,q2⟩
end
section
variable {Q:VS}{c:Value}{b:Bool}
inductive cY (K:FG) (H:Hp):V->Value->Prop where
 |aK:cY K H .aK (.type "NoneType")
 |bl (x:Bool):cY K H (.bl x) (.type "bool")
 |int (i:Int):cY K H (.int i) (.type "int")
 |str (x:Str):cY K H (.str x) (.type "str")
 |iW (x:UInt64):cY K H (.iW x) (.type "float")
 |lst {a:W3}{xs:Wy} (e:H a=some (.lst xs)):cY K H (.ref a) (.type "list")
 |ef {a:W3}{o:Obj}{xs:Wy} (e:H a=some (.ef o (.lst xs))):cY K H (.ref a) (.type "list")
 |tup {a:W3}{xs:Wy} (e:H a=some (.tup xs)):cY K H (.ref a) (.type "tuple")
 |dK {a:W3}{kvs:LK} (e:H a=some (.dK kvs)):cY K H (.ref a) (.type "dict")
 |dT {a:W3}{kvs:List (List Key×V)} (e:H a=some (.dT kvs)):cY K H (.ref a) (.type "dict")
 |ins {a C dx:W3}{fs:List (Str×V)} (e:H a=some (.ins C dx fs)) (cl:gP K C) (ha:W.findIn K (.ref C) "__class__" = some (some (.builtin "object.__class__")))
   (hn:W.specialIn K (.builtin "object.__class__") "__get__" = some (some (.builtin "getset_descriptor.__get__"))) (htk:W.takesIn K (.builtin "object.__class__")=some true)
   (hm:W.mroIn K C (.type "object")=some true):cY K H (.ref a) (.ref C)
theorem JI {x:V}{t:Value} (I:Inv X aa σ H s) (rx:RelV x u) (ty:cY X.K H x t) (e:W.kitOne X.K t c=some b) (h:∀tk,Q (.bool b) { s with toks:=tk }) :
  wpAny (model X.prog X.w) A (call (.builtin "isinstance") [u,c]) Q E s:=by
 cases ty with
 |aK=>cases (show u=Value.none from rx);exact W.kia_one W.kitx_none I.cC True.intro e (λz=>nomatch z) h
 |bl y=>cases (show u=Value.bool y from rx);exact W.kia_one W.kitx_bool I.cC True.intro e (λz=>nomatch z) h
 |int i=>obtain⟨t,q⟩:=(show ∃t,u=Value.int i t from rx);cases q;exact W.kia_one W.kitx_int I.cC True.intro e (λz=>nomatch z) h
 |str y=>obtain⟨t,q⟩:=(show ∃t,u=Value.str y t from rx);cases q;exact W.kia_one W.kitx_str I.cC True.intro e (λz=>nomatch z) h
 |iW y=>obtain⟨t,q⟩:=(show ∃t,u=Value.float y t from rx);cases q;exact W.kia_one W.kitx_float I.cC True.intro e (λz=>nomatch z) h
 | @lst a xs ea =>
  cases (show u=Value.ref a from rx);obtain⟨_,_,n,_,h1⟩:=(show aT X.prog X.w H s.heap a (.lst xs)from I.aE a _ ea);exact W.kia_one W.kitx_list I.cC ⟨_,h1,rfl⟩ e (λz=>nomatch z) h
 | @ef a ob xs ea =>
  cases (show u=Value.ref a from rx);obtain⟨_,_,_,n,_,h1⟩:=(show aT X.prog X.w H s.heap a (.ef ob (.lst xs))from I.aE a _ ea);exact W.kia_one W.kitx_list I.cC ⟨_,h1,rfl⟩ e (λz=>nomatch z) h
 | @tup a xs ea =>
  cases (show u=Value.ref a from rx);obtain⟨_,_,_,p⟩:=(show aT X.prog X.w H s.heap a (.tup xs)from I.aE a _ ea);obtain⟨o,h1,h2,_⟩:=p;exact W.kia_one W.kitx_tuple I.cC ⟨o,h1,h2⟩ e (λz=>nomatch z) h
 | @dK a kvs ea =>
  cases (show u=Value.ref a from rx);obtain⟨_,_,vs,_,p⟩:=(show aT X.prog X.w H s.heap a (.dK kvs)from I.aE a _ ea);obtain⟨o,es,ep,h1,h2,_⟩:=p;exact W.kia_one W.kitx_dict I.cC ⟨o,h1,h2.1⟩ e (λz=>nomatch z) h
 | @dT a kvs ea =>
  cases (show u=Value.ref a from rx);obtain⟨_,_,xs,_,o,es,ep,h1,h2,_⟩:=(show aT X.prog X.w H s.heap a (.dT kvs)from I.aE a _ ea);exact W.kia_one W.kitx_dict I.cC ⟨o,h1,h2.1⟩ e (λz=>nomatch z) h
 | @ins a C dx fs ea cl ha hn htk hm =>
  cases (show u=Value.ref a from rx);obtain⟨mA,O,_⟩:=Ed I.aE ea;obtain⟨od,J,_⟩:=O.look;exact W.kia_one (W.kitx_own (cl.get _) cl.hd ha hn htk hm) I.cC J e (λz=>nomatch z) h
end
structure aH (k:Nat) (A:Around):Prop where
 hd:A.handled=none
 dp:A.depth+3*k+5<recursionLimit
 un:A.units+16*k+200<cLine
theorem aH.mono {j k:Nat} (r:aH k A) (h:j<=k):aH j A:=⟨r.hd,by have:=r.dp;omega,by have:=r.un;omega⟩
theorem aH.deeper {k:Nat}{A:Around} (r:aH (k+1) A) (env:Env):aH k (A.deeper env) :=
 ⟨r.hd,by have:=r.dp;show A.depth+1+3*k+5<_;omega,by have:=r.un;show A.units+3+16*k+200<_;omega⟩
theorem aH.in1 {k:Nat}{A:Around} (r:aH (k+1) A):aH k A.in1 :=
 ⟨r.hd,by have:=r.dp;show A.depth+3*k+5<_;omega,by have:=r.un;show A.units+1+16*k+200<_;omega⟩
theorem Mv {kw:List (Str×Value)}:(A.under (.builtin "type.__call__" ⟨.ref C::us,kw⟩)).depth=A.depth+1:=by
 first |rfl |simp[Around.under,Code.weight,Code.isCreation,Code.isGuard,Code.isCaller,Code.frames,Code.isFrame,guardIds]
theorem Mw {kw:List (Str×Value)}:(A.under (.builtin "type.__call__" ⟨.ref C::us,kw⟩)).units=A.units+1:=by
 first |rfl |simp[Around.under,Code.cUnits,Code.frames,Code.isFrame]
theorem aH.make {k:Nat} (r:aH (k+1) A) (C:W3) (us:Wx) (kw:List (Str×Value)):aH k (A.under (.builtin "type.__call__" ⟨.ref C::us,kw⟩)) :=
 ⟨r.hd,by have:=r.dp;rw[Mv];omega,by have:=r.un;rw[Mw];omega⟩
theorem aH.depth {k:Nat}{A:Around} (r:aH k A):A.depth<recursionLimit:=by have:=r.dp;omega
theorem aH.units {k:Nat}{A:Around} (r:aH k A):A.units+64<cLine:=by have:=r.un;omega
def CA:TA:=λ_ H Q=>Q [] H
def Ag (ta:TE) (tr:TA):TA:=λσ H Q=>ta σ H λx H1=>tr σ H1 λxs H2=>Q (x::xs) H2
section
variable {es:List Expr}{t:TA}
theorem AD:PA X [] CA:=λ_ _ _ _ H Q I h=>Calls.spliced_nil ⟨[],H,I,.nil,h⟩
theorem AA (ha:PE X e te) (hr:PA X es t) (hs:starEach (e::es) X.env=(false,eval e X.env)::starEach es X.env:=by rfl):PA X (e::es) (Ag te t):=by
 intro pos aa s σ H Q I h;rw[hs];show wpAny _ _ (spliced ((false,eval e X.env)::backTo pos (starEach es X.env))) _ _ s;refine Calls.spliced_cons (aL (ha aa s σ H _ I h) λu s1 ⟨x,H1,I1,r1,q1⟩=>?_);exact aL (hr pos aa s1 σ H1 _ I1 q1) λus s2 ⟨xs,H2,I2,r2,q2⟩=>⟨x::xs,H2,I2,.cons r1 r2,q2⟩
def Qm (t:TA):TE:=λσ H Q=>t σ H λxs H1=>xs.length<=sizeLine/\∀p,H1 p=none->Q (.ref p) (upd H1 p (.tup xs))
def S0 (t:TA):TE:=λσ H Q=>t σ H λxs H1=>xs.length<=sizeLine/\∀p,H1 p=none->Q (.ref p) (upd H1 p (.lst xs))
theorem BB {x1} (h:PA X es t):PE X (.Tuple es x1 pos) (Qm t):=by
 intro aa s σ H Q I hq;refine wpAny_Tuple_spliced (aL (h pos aa s σ H _ I hq) λus s1 ⟨xs,H1,I1,r,z,q⟩=>⟨by rw[←r.length];exact z,?_⟩);have hf:H1 s1.heap.objs.size=none:=I1.aE.fresh (Zx _);refine⟨.ref s1.heap.objs.size,upd H1 s1.heap.objs.size (.tup xs),I1.laid (t':=s1.toks) (λb u e=>ZY _ e) (Zx _) ?_,Zj,q _ hf⟩;exact⟨z,us,r,⟨_,ZO _ Zj,Zj,_,Zj⟩⟩
theorem A6 (h:PA X es t):PE X (.List es pos) (S0 t):=by
 intro aa s σ H Q I hq;refine wpAny_List_spliced (aL (h pos aa s σ H _ I hq) λus s1 ⟨xs,H1,I1,r,z,q⟩=>⟨by rw[←r.length];exact z,?_⟩);have hf:H1 s1.heap.objs.size=none:=I1.aE.fresh (Zx _);refine⟨.ref s1.heap.objs.size,upd H1 s1.heap.objs.size (.lst xs),I1.laid (t':=s1.toks) (λb u e=>ZY _ e) (Zx _) ?_,Zj,q _ hf⟩;exact⟨z,us,0,r,ZO _ Zj⟩
end
abbrev Sp:=Wy->Hp->VK->XK->Prop
abbrev fJ:=List Env->Hp->W4->XK->Value->W4->Prop
structure dz (P:Program) (w:World) (K:FG) (mg:SV) (base:Heap) (A:Around) (outer:List Env) (s:W4) (H:Hp):Prop where
 frames:A.frames=some outer
 mod:Mod K mg base
 bs:∀b o,base.get? b=some o->s.heap.get? b=some o/\H b=none
 f6:base.objs.size<=s.heap.objs.size
 cJ:s.heap.FunFrames base outer
 gz:∀b∈cQ outer,H b=none
 aE:cV P w H s.heap
 bare:AllBare s.gens
def CE (outer:List Env) (P:Program) (w:World) (H:Hp) (s:W4) (Q:VK) (u:Value) (s':W4):Prop :=
 ∃v H',s'.os=s.os/\AllBare s'.gens/\Un (cQ outer) [] H H' s.heap s'.heap/\cV P w H' s'.heap/\RelV v u/\Q v H'
def CR (CX:fJ) (outer:List Env) (P:Program) (w:World) (H:Hp) (s:W4) (Q:VK) (E:XK) (r:Result) (s':W4):Prop :=
 match r with
 | .ok (.ret u)=>CE outer P w H s Q u s'
 | .ok _=>False
 | .error e=>CX outer H s E e s'
structure aD (P:Program) (w:World) (K:FG) (mg:SV) (base:Heap) (CX:fJ) (k:Nat) (f:W3) (fd:FuncData) (ps:Ww) (sp:Sp):Prop where
 len:∀vs H Q E,sp vs H Q E->vs.length=ps.length
 run:∀(A:Around) (outer:List Env) (s:W4) (H:Hp) (args:Args) (us:Wx) (vs:Wy) (Q:VK) (E:XK),aH k A->dz P w K mg base A outer s H->BindsTo s fd args (ps.zip us)->Vals vs us->sp vs H Q E ->
  codeAny (model P w) A (.call (.ref f) args) (CR CX outer P w H s Q E) s
theorem dz.make {outer:List Env} (e:dz P w K mg base A outer s H) (C:W3) (us:Wx) (kw:List (Str×Value)) :
  dz P w K mg base (A.under (.builtin "type.__call__" ⟨.ref C::us,kw⟩)) outer s H:=⟨by first |exact e.frames | (simpa[Around.under,Code.envs,Code.isFrame,pushEnvs]using e.frames),e.mod,e.bs,e.f6,e.cJ,e.gz,e.aE,e.bare⟩
theorem dz.in1 {P:Program}{w:World}{K:FG}{mg:SV}{base:Heap}{A:Around}{outer:List Env}{s:W4}{H:Hp} (e:dz P w K mg base A outer s H) :
  dz P w K mg base A.in1 outer s H:=⟨e.frames,e.mod,e.bs,e.f6,e.cJ,e.gz,e.aE,e.bare⟩
section
variable {s':W4}
theorem Inv.fG (I:Inv X aa σ H s):dz X.prog X.w X.K X.mg X.base X.A X.stack s H :=
 ⟨I.ok.frames,I.ok.mod,I.bs,Nat.le_trans I.ok.f6 I.sz,I.stack,I.stkFree,I.aE,I.bare⟩
theorem Inv.after {Q:VK} (I:Inv X aa σ H s) (h:CE X.stack X.prog X.w H s Q u s'):EP X aa σ Q u s':=by
 obtain⟨v,H',os,bare,un,aE,r,q⟩:=h;obtain⟨hh,g,d,t,os'⟩:=s';obtain rfl:os'=s.os:=os;exact⟨v,H',I.call (h':=hh) (g':=g) (d':=d) (t':=t) (ch:=[]) un aE bare (λb z=>absurd z (by simp)),r,q⟩
end
def Gx (sp:Sp) (du:Wy) (E:XK) (t:TA):TE:=λσ H Q=>t σ H λvs H1=>sp (vs++du) H1 Q E
inductive ExM (C:W3) (m:Str) (x:V) (H:Hp) (k:Prop):Prop where
 |mk (a dx:W3) (fs:List (Str×V)) (h1:x=.ref a) (h2:H a=some (.ins C dx fs)) (h3:fs.lookup m=none) (q:k):ExM C m x H k
def UQ (C:W3) (m:Str) (sp:Sp) (du:Wy) (E:XK) (ta:TE) (t:TA):TE:=λσ H Q=>ta σ H λx H1=>ExM C m x H1 (t σ H1 λvs H2=>sp (x::(vs++du)) H2 Q E)
def Vy (C:W3) (sp:Sp) (du:Wy) (E:XK) (t:TA):TE:=λσ H Q=>t σ H λvs H1=>∀x dx,H1 x=none->H1 dx=none->dx≠x ->
 sp (.ref x::(vs++du)) (upd (upd H1 dx (.own x)) x (.ins C dx [])) (λv H2=>v=.aK/\Q (.ref x) H2) E
def Binds (K:FG) (fd:FuncData) (ps:Ww) (ds:Wx):Prop :=
 ∀(s:W4) (us:Wx),K.In s.heap->(us++ds).length=ps.length->BindsTo s fd ⟨us,[]⟩ (ps.zip (us++ds))
theorem Binds.all {fd:FuncData}{ps:Ww} (h:∀us:Wx,us.length=ps.length->bindArgs fd ⟨us,[]⟩=pure (ps.zip us)):Binds K fd ps []:=λs us _ hl=>by
 rw[Zs]at hl ⊢;exact .of_eq (h us hl)
def Be (CX:fJ) (X:Cx) (E:XK):Prop:=∀(aa:LO) (σ:St) (H:Hp) (s:W4) (e:Value) (s':W4),Inv X aa σ H s->CX X.stack H s E e s'->X.xe e s'
section
variable {CX:fJ}{k:Nat}{fd:FuncData}{ps:Ww}{sp:Sp}{du:Wy}{ds:Wx}{E:XK}{m:Str}{p apos:Pos}{o:Expr}{es:List Expr}{ta:TE}{t:TA}
theorem Ju {Q:VK}{vs:Wy} (F:aD X.prog X.w X.K X.mg X.base CX k f fd ps sp) (hr:aH k X.A) (hb:Binds X.K fd ps ds) (hd:Vals du ds) (hx:Be CX X E)
  (I:Inv X aa σ H s) (r:Vals vs us) (h:sp (vs++du) H Q E):wpAny (model X.prog X.w) X.A (call (.ref f) us) (EP X aa σ Q) X.xe s:=by
 have r2:Vals (vs++du) (us++ds):=r.append hd;have hl:(us++ds).length=ps.length:=by rw[←r2.length];exact F.len _ _ _ _ h
 refine wpAny_call (codeAny_mono (F.run X.A X.stack s H ⟨us,[]⟩ (us++ds) (vs++du) Q E hr I.fG (hb s us I.cC hl) r2 h) λr s' hq=>?_);cases r with
 |error e=>exact hx aa σ H s e s' I hq
 |ok fl =>
  cases fl with
  |ret u=>exact I.after hq
  |next=>exact False.elim hq
  |brk=>exact False.elim hq
  |cont=>exact False.elim hq
theorem AM (F:aD X.prog X.w X.K X.mg X.base CX k f fd ps sp) (hr:aH k X.A) (hg:Gl X x) (hm:X.mg x=some (.ref f)) (hk:W.keepIn X.K (.ref f)=true) (hb:Binds X.K fd ps ds) (hd:Vals du ds) (hx:Be CX X E)
  (ha:PA X (e::es) t) (dG:(x==("__debug__" : Str))=false:=by decide) (he:starEach (e::es) X.env=(false,eval e X.env)::starEach es X.env:=by rfl) (dA:(backTo pos (starEach es X.env)).any (·.1)=false:=by rfl) :
  PE X (.Call (.Name x p) (e::es) [] pos) (Gx sp du E t):=by
 intro aa s σ H Q I h;refine Z3 (Br I hg hm ?_ dG);refine W.callWith_K (h₀:=X.base) I.ok.mod.kin hk (aL (ha pos aa s σ H _ I h) λus s1 ⟨vs,H1,I1,r,q⟩=>⟨I1.cC,?_⟩) he dA;exact Ju F hr hb hd hx I1 r q
theorem S2 {pl:Sem Bool} (he:PE X o ta) (c:gP X.K C) (hm:Ql X.K C m f) (F:aD X.prog X.w X.K X.mg X.base CX k f fd ps sp) (hr:aH k X.A) (hb:Binds X.K fd ps ds) (hd:Vals du ds) (hx:Be CX X E) (ha:PA X (e::es) t)
  (hst:starEach (e::es) X.env=(false,eval e X.env)::starEach es X.env:=by rfl) (dA:(backTo pos (starEach es X.env)).any (·.1)=false:=by rfl)
  (ht:eval (.Call (.Attribute o m apos) (e::es) [] pos) X.env=(do
   let ov ←eval o X.env
   standAt apos.atName
   let (f,first) ←holding [ov] (getMethod ov m pl)
   callWith pos f first (backTo pos (starEach (e::es) X.env)) (backToKw pos (keywordEach [] X.env))):=by rfl) :
  PE X (.Call (.Attribute o m apos) (e::es) [] pos) (UQ C m sp du E ta t):=by
 intro aa s σ H Q I h;refine W.methodCall_KW (pl:=pl) (aL (he aa s σ H _ I h) λu s1 ⟨x,H1,I1,rx,a,dx,fs,ex,ea,l,q⟩=>?_) ht;subst ex;obtain rfl:u=Value.ref a:=rx;refine HV I1 ea c hm l ?_;refine W.callWith_K (first:=[.ref a]) (h₀:=X.base) I.ok.mod.kin hm.kp (aL (ha pos aa s1 σ H1 _ I1 q) λus s2 ⟨vs,H2,I2,r,q2⟩=>⟨I2.cC,?_⟩) hst dA;exact Ju (us:=.ref a::us) (vs:=.ref a::vs) F hr hb hd hx I2 (.cons Zj r) q2
theorem Aj {pl:Sem Bool} (he:PE X o ta) (c:gP X.K C) (hm:Ql X.K C m f) (F:aD X.prog X.w X.K X.mg X.base CX k f fd ps sp) (hr:aH k X.A) (hb:Binds X.K fd ps ds) (hd:Vals du ds) (hx:Be CX X E)
  (ht:eval (.Call (.Attribute o m apos) [] [] pos) X.env=(do
   let ov ←eval o X.env
   standAt apos.atName
   let (f,first) ←holding [ov] (getMethod ov m pl)
   callWith pos f first (backTo pos (starEach [] X.env)) (backToKw pos (keywordEach [] X.env))):=by rfl) :
  PE X (.Call (.Attribute o m apos) [] [] pos) (UQ C m sp du E ta CA):=by
 intro aa s σ H Q I h;refine W.methodCall_KW (pl:=pl) (aL (he aa s σ H _ I h) λu s1 ⟨x,H1,I1,rx,a,dx,fs,ex,ea,l,q⟩=>?_) ht;subst ex;obtain rfl:u=Value.ref a:=rx;refine HV I1 ea c hm l ?_;exact W.callWith_K0 (first:=[.ref a]) I1.cC hm.kp (Ju (us:=[.ref a]) (vs:=[.ref a]) F hr hb hd hx I1 (.cons Zj .nil) q)
structure Mk (K:FG) (C f:W3):Prop where
 makes:W.makesIn K C=true
 init:W.findIn K (.ref C) "__init__" = some (some (.ref f))
 fn:W.isFn K (.ref f)=true
 kp:W.keepIn K (.ref C)=true
theorem Qn {Q:VK}{vs:Wy} (M:Mk X.K C f) (F:aD X.prog X.w X.K X.mg X.base CX k f fd ps sp) (hr:aH (k+1) X.A) (hb:Binds X.K fd ps ds) (hd:Vals du ds)
  (hx:Be CX X E) (I:Inv X aa σ H s) (r:Vals vs us)
  (h:∀x dx,H x=none->H dx=none->dx≠x->sp (.ref x::(vs++du)) (upd (upd H dx (.own x)) x (.ins C dx [])) (λv H2=>v=.aK/\Q (.ref x) H2) E) :
  wpAny (model X.prog X.w) X.A (call (.ref C) us) (EP X aa σ Q) X.xe s:=by
 have hq:=h (s.heap.objs.size+1) s.heap.objs.size (I.aE.fresh (Nat.le_succ _)) (I.aE.fresh (Zx _)) (ZE (Nat.lt_succ_self _));have I2:=Inv.made (C:=C) I;have r2:Vals (V.ref (s.heap.objs.size+1)::(vs++du)) (Value.ref (s.heap.objs.size+1)::(us++ds)):=.cons rfl (r.append hd)
 have hl:(Value.ref (s.heap.objs.size+1)::us++ds).length=ps.length:=by
  have e:=r2.length;rw[F.len _ _ _ _ hq]at e;exact e.symm
 refine wpAny_call (HU (f:=f) I.cC M.makes M.init (beq_iff_eq.mp M.fn) (codeAny_mono (F.run _ X.stack _ _ ⟨Value.ref (s.heap.objs.size+1)::us,[]⟩ (Value.ref (s.heap.objs.size+1)::(us++ds)) _ _ E (hr.make C us [])
  (I2.fG.make C us []) (hb _ (Value.ref (s.heap.objs.size+1)::us) I2.cC hl) r2 hq) λr s' dZ=>?_))
 cases r with
 |error e=>exact hx aa σ _ _ e s' I2 dZ
 |ok fl =>
  cases fl with
  |ret u =>
   obtain⟨v,H',I3,rv,ev,q3⟩:=I2.after dZ;subst ev;exact⟨rv,⟨V.ref (s.heap.objs.size+1),H',I3,Zj,q3⟩⟩
  |next=>exact False.elim dZ
  |brk=>exact False.elim dZ
  |cont=>exact False.elim dZ
theorem N9 (M:Mk X.K C f) (F:aD X.prog X.w X.K X.mg X.base CX k f fd ps sp) (hr:aH (k+1) X.A) (hg:Gl X x) (hm:X.mg x=some (.ref C)) (hb:Binds X.K fd ps ds) (hd:Vals du ds) (hx:Be CX X E)
  (ha:PA X (e::es) t) (dG:(x==("__debug__" : Str))=false:=by decide) (he:starEach (e::es) X.env=(false,eval e X.env)::starEach es X.env:=by rfl) (dA:(backTo pos (starEach es X.env)).any (·.1)=false:=by rfl) :
  PE X (.Call (.Name x p) (e::es) [] pos) (Vy C sp du E t):=by
 intro aa s σ H Q I h;refine Z3 (Br I hg hm ?_ dG);refine W.callWith_K (h₀:=X.base) I.ok.mod.kin M.kp (aL (ha pos aa s σ H _ I h) λus s1 ⟨vs,H1,I1,r,q⟩=>⟨I1.cC,?_⟩) he dA;exact Qn M F hr hb hd hx I1 r q
end
def PK (X:Cx) (gc:List Keyword) (t:TA):Prop :=
 ∀(pos:Pos) (aa:LO) (s:W4) (σ:St) (H:Hp) (Q:Wy->Hp->Prop),Inv X aa σ H s->t σ H Q->wpAny (model X.prog X.w) X.A (evalAll ((backToKw pos (keywordEach gc X.env)).map (·.2))) (AP X aa σ Q) X.xe s
section
variable {CX:fJ}{k:Nat}{fd:FuncData}{ps ks:Ww}{sp:Sp}{E:XK}{m:Str}{p apos kpos:Pos}{o:Expr}{es:List Expr}{gc:List Keyword}{ta:TE}{t tk:TA}{nm:Option Str}
theorem HW:PK X [] CA:=λ_ _ _ _ H Q I h=>wpAny_evalAll_nil ⟨[],H,I,.nil,h⟩
theorem FS (ha:PE X e te) (hr:PK X gc t):PK X (⟨nm,e,kpos⟩::gc) (Ag te t):=by
 intro pos aa s σ H Q I h;show wpAny _ _ (evalAll ((do let v ←eval e X.env;standAt pos;pure v)::(backToKw pos (keywordEach gc X.env)).map (·.2))) _ _ s;refine wpAny_evalAll_cons (Zw (aL (ha aa s σ H _ I h) λu s1 ⟨x,H1,I1,r1,q1⟩=>Zw (wpAny_standAt (Zv ?_))));exact aL (hr pos aa s1 σ H1 _ I1 q1) λus s2 ⟨xs,H2,I2,r2,q2⟩=>⟨x::xs,H2,I2,.cons r1 r2,q2⟩
structure Jv (K:FG) (fd:FuncData) (ps ks:Ww) (g:Wx->Wx->Wx) (gV:Wy->Wy->Wy):Prop where
 to:∀(s:W4) (us ws:Wx),K.In s.heap->(g us ws).length=ps.length->BindsTo s fd ⟨us,ks.zip ws⟩ (ps.zip (g us ws))
 rel:∀ {vs:Wy}{us:Wx}{zs:Wy}{ws:Wx},Vals vs us->Vals zs ws->Vals (gV vs zs) (g us ws)
variable {g:Wx->Wx->Wx}{gV:Wy->Wy->Wy}
end
structure AK (N P:Ww) (sc:Scope):Prop where
 kind:sc.kind=.function
 co:sc.isCoroutine=false
 gen:sc.isGenerator=false
 nd:N.Nodup
 pre:N.take P.length=P
 par:∀x∈P,sc.names.lookup x=some .local\/sc.names.lookup x=some .cell
 nofree:∀y∈sc.names,y.2≠ .free
theorem cH {N P:Ww}{sc:Scope} (a:sc.kind=.function:=by exact rfl) (b:sc.isCoroutine=false:=by exact rfl) (c:sc.isGenerator=false:=by exact rfl) (d:N.Nodup:=by decide +kernel) (e:N.take P.length=P:=by exact rfl) (f:∀x∈P,sc.names.lookup x=some .local\/sc.names.lookup x=some .cell:=by decide +kernel) (g:∀y∈sc.names,y.2≠ .free:=by decide +kernel):AK N P sc:=⟨a,b,c,d,e,f,g⟩
theorem JJ {kindOf:Str->Option NameKind}{x:Str}:∀ {binds:List (Str×Value)}{m:SV},(∀v,(x,v)∉ binds)->bindL kindOf binds m x=m x
  | [],_,_=>rfl
  | (n,v)::r,m,h=>by
    unfold bindL;rw[JJ λw hw=>h w (ZS _ hw)];split
    · have:x≠n:=by rintro rfl;exact h v ZK
      simp[this]
    · rfl
theorem JK {kindOf:Str->Option NameKind}{x:Str}:∀ {binds:List (Str×Value)}{m:SV},(∀v,(x,v)∉ binds)->bindC kindOf binds m x=m x
  | [],_,_=>rfl
  | (n,v)::r,m,h=>by
    unfold bindC;rw[JK λw hw=>h w (ZS _ hw)];split
    · rfl
    · have:x≠n:=by rintro rfl;exact h v ZK
      simp[this]
theorem JL {kindOf:Str->Option NameKind}{x:Str}{v:Value}:∀ {P:Ww}{vs:Wx}{i:Nat}{m:SV},P.Nodup->P[i]?=some x->vs[i]?=some v->kindOf x=some .local ->
  bindL kindOf (P.zip vs) m x=some v
 | [],_,_,_,_,h,_,_=>by simp at h
 |_::_,[],_,_,_,_,h,_=>by simp at h
 |p::P,w::vs,0,m,nd,h1,h2,hk=>by
  simp at h1 h2;subst h1;subst h2;show bindL kindOf ((p,w)::P.zip vs) m p=_;unfold bindL;rw[JJ λv hv=>(Zr.mp nd).1 (of_mem_zip hv).1,Zo hk];simp
 |p::P,w::vs,i+1,m,nd,h1,h2,hk=>by
  show bindL kindOf ((p,w)::P.zip vs) m x=_;unfold bindL;exact JL (i:=i) (Zr.mp nd).2 (by simpa using h1) (by simpa using h2) hk
theorem JM {kindOf:Str->Option NameKind}{x:Str}{v:Value}:∀ {P:Ww}{vs:Wx}{i:Nat}{m:SV},P.Nodup->P[i]?=some x->vs[i]?=some v->kindOf x≠some .local ->
  bindC kindOf (P.zip vs) m x=some v
 | [],_,_,_,_,h,_,_=>by simp at h
 |_::_,[],_,_,_,_,h,_=>by simp at h
 |p::P,w::vs,0,m,nd,h1,h2,hk=>by
  simp at h1 h2;subst h1;subst h2;show bindC kindOf ((p,w)::P.zip vs) m p=_;unfold bindC;rw[JK λv hv=>(Zr.mp nd).1 (of_mem_zip hv).1,Zp hk];simp
 |p::P,w::vs,i+1,m,nd,h1,h2,hk=>by
  show bindC kindOf ((p,w)::P.zip vs) m x=_;unfold bindC;exact JM (i:=i) (Zr.mp nd).2 (by simpa using h1) (by simpa using h2) hk
noncomputable def Bo (N:Ww) (vs:Wy):St:=vs.map some++List.replicate (N.length - vs.length) none
noncomputable def BF (CX:fJ) (P:Program) (w:World) (K:FG) (mg:SV) (base:Heap) (N:Ww) (qual:Str) (scope:Scope) (f:W3) (cd:Value) (A:Around) (outer:List Env) (s:W4) (H:Hp) (E:XK):Cx where
 prog:=P
 w:=w
 K:=K
 mg:=mg
 base:=base
 A:=A.deeper (envOfC qual scope s.heap.objs.size f cd)
 N:=N
 aX:=s
 eD:=H
 env:=envOfC qual scope s.heap.objs.size f cd
 outer:=outer
 stack:=envOfC qual scope s.heap.objs.size f cd::outer
 ex:=[]
 calm:=true
 fn:=λ_=>true
 pn:=[]
 xe:=λe s'=>wpAny (model P w) (A.deeper (envOfC qual scope s.heap.objs.size f cd)) (leaving (envOfC qual scope s.heap.objs.size f cd) e) (λ_ iK=>CX outer H s E e iK) (λe' iK=>CX outer H s E e' iK) s'
theorem Ky {sc:Scope}{n:Nat} (h:sc.names.lookup x=some .cell):∃c,(cellsFrom n sc.names []).lookup x=some c:=by
 have q:=W.cellsFrom_some sc.names n [] (.inl h);exact Option.isSome_iff_exists.mp q
theorem F9 {CX:fJ}{ps:Ww}{qual:Str}{scope:Scope}{cd:Value}{outer:List Env}{s1:W4}{E:XK}{vs:Wy}
  (S:AK N ps scope) (hd:A.handled=none) (e0:dz P w K mg base A outer s H) (hl:vs.length=ps.length) (r:Vals vs us)
  (x:InCallC s s.heap.objs.size (bindL (envOfC qual scope s.heap.objs.size f cd).kindOf (ps.zip us) λ_=>none) (cellsFrom (s.heap.objs.size+1) scope.names []) (bindC (envOfC qual scope s.heap.objs.size f cd).kindOf (ps.zip us) λ_=>none) s1) :
  Inv (BF CX P w K mg base N qual scope f cd A outer s H E) [] (Bo N vs) H s1:=by
 have dA:ps.length<=N.length:=by have:=congrArg List.length S.pre;rw[Zz]at this;omega
 obtain⟨h1,tk,rfl,hk⟩:=x.done;have iN:∀b:W3,b∉ (BF CX P w K mg base N qual scope f cd A outer s H E).ex:=λb z=>absurd (show b∈([]:List W3)from z) (by simp)
 refine⟨⟨e0.mod,S.kind,Zj,Zj,Zx _,λy z c h1 h2=>?_,λy hy=>?_,λy c _ h=>?_,λ_=>hd,Around.frames_deeper e0.frames,.inr ⟨Zj,Zj⟩,λb z=>absurd z (iN b),e0.bs,e0.f6,λb _ _=>iN b,λb z=>absurd z (iN b),e0.cJ,e0.gz⟩,
  rfl,e0.bare,Un.kept hk,⟨_,x.toInCall.ns,λi y v h1 h2 h3=>?_⟩,λy c h=>⟨_,x.cell y c h⟩,e0.aE.fresh (Zx _),λy c h=>?_,λp hp=>absurd (show p∈([]:LO)from hp) (by simp),e0.aE.kept hk,?_⟩
 ·exact name_of_addr x.apart (PySem.mem_of_lookup h1) (PySem.mem_of_lookup h2)
 ·have hy:scope.names.lookup y=some .cell\/scope.names.lookup y=some .free:=hy;rcases hy with hy |hy
  ·exact Ky hy
  ·exact absurd Zj (S.nofree _ (PySem.mem_of_lookup hy))
 ·exact Nat.le_of_lt (x.above y c (PySem.mem_of_lookup h))
 ·have hi:i<vs.length:=by
   unfold Bo at h2;by_cases hi:i<vs.length
   ·exact hi
   ·rw[List.getElem?_append_right (by simpa using hi)]at h2;rw[List.getElem?_replicate]at h2;split at h2 <;> cases h2
  have ha:vs[i]?=some v:=by
   unfold Bo at h2;rw[List.getElem?_append_left (by simpa using hi),ZG]at h2;cases e:vs[i]? with
   |none=>rw[e]at h2;cases h2
   |some a=>rw[e]at h2;cases h2;rfl
  obtain⟨u,hu,rv⟩:=r.get ha
  have hp:ps[i]?=some y:=by
   rw[←S.pre,List.getElem?_take_of_lt qe];exact h1
  have ndP:ps.Nodup:=by rw[←S.pre];exact S.nd.sublist (List.take_sublist _ _)
  refine⟨u,rv,?_⟩;rcases S.par y (ZR hp)with k |k
  ·exact .inl ⟨k,JL ndP hp hu k⟩
  ·obtain⟨c,e⟩:=Ky (n:=s.heap.objs.size+1) k;refine .inr ⟨.inl k,c,e,?_⟩;have q:=x.cell y c e;rw[JM ndP hp hu (by show scope.names.lookup y≠_;rw[k];decide)]at q;exact q
 ·exact e0.aE.fresh (Nat.le_of_lt (x.above y c (PySem.mem_of_lookup h)))
 ·unfold Bo;show _=N.length;rw[ZJ,AE,List.length_replicate];omega
theorem Kz {CX:fJ}{k:Nat}{name qual:Str}{params:Arguments}{body:List Stmt}{scope:Scope}{dV kV doc pm ae ct oc:Value}{an od:Option W3}
  {eV:Array (Option Value)}{N ps:Ww}{sp:Sp} (lk:K.lookup f=some ⟨oc,od,.func (W.fnOf name qual params body scope dV kV doc pm an ae ct),eV⟩) (eo:W.codeIn K ae qual=true) (S:AK N ps scope)
  (len:∀vs H Q E,sp vs H Q E->vs.length=ps.length)
  (bn:∀(A:Around) (outer:List Env) (s:W4) (H:Hp) (vs:Wy) (Q:VK) (E:XK),aH k (A.deeper (envOfC qual scope s.heap.objs.size f ae))->sp vs H Q E ->
   ∃t,dP (BF CX P w K mg base N qual scope f ae A outer s H E) body t/\t { nx:=λ_ H'=>Q .aK H',rt:=Q } (Bo N vs) H) :
  aD P w K mg base CX (k+1) f (W.fnOf name qual params body scope dV kV doc pm an ae ct) ps sp:=by
 refine⟨len,λA outer s H args us vs Q E hr e0 hb r fv=>?_⟩;have hl:=len _ _ _ _ fv;have KX:K.In s.heap:=e0.mod.kin.keeps λb o e=>(e0.bs b o e).1;have lim:s.heap.NoLimit:=e0.mod.nolimit.keeps λb o e=>(e0.bs b o e).1
 have hkind:∀y∈ps.zip us,scope.names.lookup y.1=some .local\/(scope.names.lookup y.1=some .cell/\((cellsFrom (s.heap.objs.size+1) scope.names []).lookup y.1).isSome=true):=λ⟨n,v⟩ hy=>by
  rcases S.par n (of_mem_zip hy).1 with q |q
  ·exact .inl q
  ·exact .inr ⟨q,W.cellsFrom_some _ _ _ (.inl q)⟩
 refine codeAny_call_function hr.depth (KX _ _ lk) Zj S.co S.gen Zj (W.codeRec_of KX eo) (hb _ _ _ _ ?_);refine wpAny_newFunctionEnv_cells S.kind hkind λenv he s1 x=>?_;subst he;refine⟨lim.keeps x.toInCall.keep,codeAny_func ?_⟩;obtain⟨t,ht,hq⟩:=bn A outer s H vs Q E (hr.deeper _) fv;have I:Inv (BF CX P w K mg base N qual scope f ae A outer s H E) [] (Bo N vs) H s1:=F9 S hr.hd e0 hl r x;refine Zu (ht [] s1 (Bo N vs) H _ I hq) (λfl s' hs=>?_) λe s' hs=>hs
 have fin:∀ {aN:St}{H':Hp}{v:V}{u:Value},Inv (BF CX P w K mg base N qual scope f ae A outer s H E) [] aN H' s'->RelV v u->Q v H'->CE outer P w H s Q u s' :=
  λ{aN H' v u} J rv q=>⟨v,H',J.os,J.bare,J.base,J.aE,rv,q⟩
 cases fl with
 |ret u =>
  obtain⟨v,aN,H',J,rv,q⟩:=hs;exact fin J rv q
 |next =>
  obtain⟨aN,H',J,q⟩:=hs;exact fin (v:=V.aK) (u:=Value.none) J Zj q
 |brk =>
  obtain⟨_,_,_,q⟩:=hs;exact False.elim q
 |cont =>
  obtain⟨_,_,_,q⟩:=hs;exact False.elim q
section
variable {p:Pos}{es:List Expr}{t:TA}{id T:String}{r:Wy->Hp->VK->Prop}
def tCB (r:Wy->Hp->VK->Prop) (t:TA):TE:=λσ H Q=>t σ H λvs H1=>r vs H1 Q
theorem AZ (hc:BZ X (.builtin id) r) (hg:Gl X x) (hm:X.mg x=none) (hv:bootBuiltins x=some (.builtin id)) (ha:PA X (e::es) t) (hn:x≠ "__name__" := by decide) (dG:(x==("__debug__" : Str))=false:=by decide)
  (he:starEach (e::es) X.env=(false,eval e X.env)::starEach es X.env:=by rfl) (dA:(backTo pos (starEach es X.env)).any (·.1)=false:=by rfl):PE X (.Call (.Name x p) (e::es) [] pos) (tCB r t):=by
 intro aa s σ H Q I h;refine Z3 (Et I hg hm hv ?_ hn dG);exact PyProof.Rows.callWith_builtin1 (aL (ha pos aa s σ H _ I h) λus s1 ⟨vs,H1,I1,r1,q1⟩=>hc aa s1 σ H1 vs us Q I1 r1 q1) he dA
theorem BS (hc:BZ X (.type T) r) (hg:Gl X x) (hm:X.mg x=none) (hv:bootBuiltins x=some (.type T)) (ha:PA X (e::es) t) (hn:x≠ "__name__" := by decide) (dG:(x==("__debug__" : Str))=false:=by decide)
  (he:starEach (e::es) X.env=(false,eval e X.env)::starEach es X.env:=by rfl) (dA:(backTo pos (starEach es X.env)).any (·.1)=false:=by rfl):PE X (.Call (.Name x p) (e::es) [] pos) (tCB r t):=by
 intro aa s σ H Q I h;refine Z3 (Et I hg hm hv ?_ hn dG);exact PyProof.Rows.callWith_type1 (aL (ha pos aa s σ H _ I h) λus s1 ⟨vs,H1,I1,r1,q1⟩=>hc aa s1 σ H1 vs us Q I1 r1 q1) he dA
end
end L2
namespace HT
open PySem PyProof.Rows
section
variable {prog:Program}
theorem cat_tup {t b:W3}{vs ws:Wx}{Q:VS} (ht:IsTup s.heap t vs.toArray) (hb:IsTup s.heap b ws.toArray) (hv:vs≠ [])
  (h1:ws=[]->Q (.ref t) s) (h2:ws≠ []->Q (.ref s.heap.objs.size) { s with heap:=s.heap.push { cls:=.type "tuple", data:=.seq (vs++ws).toArray } })
  (hsz:vs.length+ws.length<=sizeLine):wpAny (model prog w) A (binaryOp .Add (.ref t) (.ref b)) Q E s:=by
 obtain⟨⟨cls,dd,data,sl⟩,ho,hc,n,hd⟩:=id ht;obtain⟨⟨cls2,dd2,data2,dQ⟩,ho2,gZ,n2,hd2⟩:=id hb;simp only at hc hd gZ hd2;subst hc hd gZ hd2;have e:vs.toArray++ws.toArray=(vs++ws).toArray:=by simp
 by_cases hw:ws=[]
 ·exact concat_meets ⟨_,ho,Zj⟩ ⟨_,ho2,Zj⟩ noFill_tuple_add seq_tuple_add PySem.F.slot_tuple_add PySem.F.entry_tuple_add (PySem.F.args_tuple_add_2 _ _)
   (tuple_addW1 t b vs.toArray ws.toArray n n2 dd dd2 sl dQ (by simpa using hv) (by simp[hw])) ⟨ho,ho2,h1 hw⟩
 ·refine concat_meets ⟨_,ho,Zj⟩ ⟨_,ho2,Zj⟩ noFill_tuple_add seq_tuple_add PySem.F.slot_tuple_add PySem.F.entry_tuple_add (PySem.F.args_tuple_add_2 _ _)
   (tuple_addW2 t b vs.toArray ws.toArray n n2 dd dd2 sl dQ (by simpa using hv) (by simpa using hw) (by rw[size_toArray,size_toArray];exact hsz)) ⟨ho,ho2,?_⟩
  rw[e];exact h2 hw
noncomputable def bY (n d:Nat):Option Int->Nat
 |none=>d
 |some v=>if v<0 then (v+(n:Int)).toNat else min v.toNat n
theorem Ui (n d:Nat) (hd:d<=n) (o:Option Int):bY n d o<=n:=by
 cases o with
 |none=>exact hd
 |some v =>
  show(if v<0 then (v+(n:Int)).toNat else min v.toNat n)<=n;by_cases hv:v<0
  ·rw[Zo hv];omega
  ·rw[Zp hv];exact Nat.min_le_right _ _
theorem OA (v:Int) (n d:Nat):(if v<0 then max (v+(n:Int)) 0 else min v (n:Int))=((bY n d (some v):Nat):Int):=by
 show(if v<0 then max (v+(n:Int)) 0 else min v (n:Int))=(((if v<0 then (v+(n:Int)).toNat else min v.toNat n):Nat):Int);by_cases hv:v<0
 ·simp only[Zo hv];omega
 ·simp only[Zp hv];omega
theorem Mx (lo hi:Option Int) (n:Nat):Builtin.Slice.sliceAdjust lo hi 1 (n:Int)=(((bY n 0 lo:Nat):Int),((bY n n hi:Nat):Int)):=by
 have h1:¬ ((1:Int)<0):=by omega
 unfold Builtin.Slice.sliceAdjust;simp only[h1,if_false];refine Prod.ext ?_ ?_
 ·cases lo with
  |none=>rfl
  |some v=>exact OA v n 0
 ·cases hi with
  |none=>rfl
  |some v=>exact OA v n n
theorem My (i j:Nat):Builtin.Slice.slicePlaces (i:Int) (j:Int) 1=j - i:=by
 unfold Builtin.Slice.slicePlaces;have h1:(1:Int)>0:=by omega
 simp only[h1,if_true,Int.ediv_one];split <;> omega
theorem HX {v:Value}{o:Option Int}{Q:Option Int->W4->Prop} (p:IsPart v o) (h:Q o s):wpAny (model prog w) A (Builtin.Slice.slicePartIndex v) Q E s:=by
 cases p with
 |none=>exact slicePart_none h
 |int i t=>exact slicePart_int h
theorem GA {sl:W3}{vl vu:Value}{lo hi:Option Int}{n:Nat}{Q:Int×Int×Nat->W4->Prop} (hs:s.heap.IsSliceOf sl vl vu .none) (pl:IsPart vl lo) (pu:IsPart vu hi)
  (h:Q (((bY n 0 lo:Nat):Int),1,bY n n hi - bY n 0 lo) s):wpAny (model prog w) A (Builtin.Slice.sliceApplied (.ref sl) (pure (n:Int))) Q E s:=by
 obtain⟨os,hos,bg,hds⟩:=id hs;unfold Builtin.Slice.sliceApplied Builtin.Slice.sliceFields;refine Zw (Zw (wpAny_field hos hds (x:=vl) rfl (Zw (wpAny_field hos hds (x:=vu) rfl (Zw (wpAny_field hos hds (x:=.none) rfl (Zv ?_)))))));refine Zw (slicePart_none ?_);show wpAny _ _ (if ((1:Int)==0)=true then _ else _) _ _ s;rw[Zp qc];refine Zw (HX pl (Zw (HX pu (Zw (Zv ?_)))));show wpAny _ _ (match Builtin.Slice.sliceAdjust lo hi 1 (n:Int)with | (lo,hi)=>pure (lo,(1:Int),Builtin.Slice.slicePlaces lo hi 1)) _ _ s;rw[Mx lo hi n];show wpAny _ _ (pure (((bY n 0 lo:Nat):Int),(1:Int),Builtin.Slice.slicePlaces ((bY n 0 lo:Nat):Int) ((bY n n hi:Nat):Int) 1)) _ _ s;rw[My];exact Zv h
theorem Qo (xs:Array Value) (i k:Nat):((List.range k).filterMap λ(m:Nat)=>xs[((i:Int)+(m:Int)*1).toNat]?).toArray=((xs.toList.drop i).take k).toArray:=by
 have e:(λ(m:Nat)=>xs[((i:Int)+(m:Int)*1).toNat]?)=λm=>xs[i+m]?:=by
  funext m;have:((i:Int)+(m:Int)*1).toNat=i+m:=by omega
  rw[this]
 rw[e];have:=pick_run xs i k;rw[List.filterMap_map]at this;have e2:((λx=>xs[x]?) ∘ λx=>i+x)=λm=>xs[i+m]?:=rfl;rw[e2]at this;rw[this]
theorem getItem_tuple_cut {t sl:W3}{ag:Array Value}{vl vu:Value}{lo hi:Option Int}{Q:VS} (ht:IsTup s.heap t ag) (hs:s.heap.IsSliceOf sl vl vu .none) (pl:IsPart vl lo) (pu:IsPart vu hi)
  (hw:¬ (bY ag.size 0 lo=0/\bY ag.size ag.size hi=ag.size))
  (h:Q (.ref s.heap.objs.size) { s with heap:=s.heap.push { cls:=.type "tuple", data:=.seq ((ag.toList.drop (bY ag.size 0 lo)).take (bY ag.size ag.size hi - bY ag.size 0 lo)).toArray } })
  (hsz:ag.size<=sizeLine):wpAny (model prog w) A (getItem (.ref t) (.ref sl)) Q E s:=by
 have cv:sizeOk (.seq ((ag.toList.drop (bY ag.size 0 lo)).take (bY ag.size ag.size hi - bY ag.size 0 lo)).toArray):=by
  show((ag.toList.drop (bY ag.size 0 lo)).take (bY ag.size ag.size hi - bY ag.size 0 lo)).toArray.size<=sizeLine;rw[size_toArray,Zz,length_drop,Array.length_toList];omega
 have hj:bY ag.size ag.size hi<=ag.size:=Ui _ _ (Zx _) hi;obtain⟨os,hos,bg,hds⟩:=id hs;have hTs:s.TypeIs (.ref sl) "slice" := ⟨os,hos,bg⟩;unfold getItem
 try with_reducible refine ZL ?_
 first |refine Zw (Zv ?_) |skip
 refine Zw (wpAny_sequenceKey ht.typeIs qc ?_)
 refine Zw (wpAny_callSpecial?_slot (name:=Str.ofString "__getitem__") ht.typeIs PyProof.Rows.slot_tuple_getitem
  (wpAny_call_entry PyProof.Rows.slot_tuple_getitem ht.typeIs entry_tuple_getitem ?_ (args_tuple_getitem _ _)))
 show wpAny _ _ (Builtin.Tuple.tupleItemsOf (.ref t) >>= _) _ _ s;refine Zw (tupleItemsOf_ ht ?_);refine Zw (wpAny_typeOf hTs ?_);rw[Zo qc];refine Zw (GA hs pl pu ?_)
 have hno:¬ ((((bY ag.size 0 lo:Nat):Int)==0&&(1:Int)==1&&(bY ag.size ag.size hi - bY ag.size 0 lo)==ag.size)=true):=by
  intro q;rw[Bool.and_eq_true,Bool.and_eq_true]at q;have q1:((bY ag.size 0 lo:Nat):Int)=0:=eq_of_beq q.1.1;have q2:bY ag.size ag.size hi - bY ag.size 0 lo=ag.size:=eq_of_beq q.2;exact hw ⟨qe,qe⟩
 show wpAny _ _ (if (((bY ag.size 0 lo:Nat):Int)==0&&(1:Int)==1&&(bY ag.size ag.size hi - bY ag.size 0 lo)==ag.size)=true then _ else _) _ _ s;rw[Zp hno,Qo]
 first
  |exact Zw (m:=Builtin.Tuple.tupleExact _) (wpAny_newObj_type (Zv ⟨_,rfl,Zv h⟩) cv)
  |exact Zw (m:=Builtin.Tuple.tupleExact _) (wpAny_newObj_type (Zw (Zv (Zv ⟨_,rfl,Zv h⟩))) cv)
  |exact Zw (Zw (m:=Builtin.Tuple.tupleExact _) (wpAny_newObj_type (Zv (Zv ⟨_,rfl,Zv h⟩)) cv))
  |exact Zw (Zw (m:=Builtin.Tuple.tupleExact _) (wpAny_newObj_type (Zv ⟨_,rfl,Zv h⟩) cv))
end
end HT
namespace L2
open PySem PySem.Spec PyProof.Rows
abbrev TO:=St->Hp->(Option Int->Hp->Prop)->Prop
def PO (X:Cx) (e:Option Expr) (t:TO):Prop :=
 ∀(aa:LO) (s:W4) (σ:St) (H:Hp) (Q:Option Int->Hp->Prop),Inv X aa σ H s->t σ H Q ->
  wpAny (model X.prog X.w) X.A (evalPart e X.env) (λu s'=>∃o H',Inv X aa σ H' s'/\IsPart u o/\Q o H') X.xe s
def S3:TO:=λ_ H Q=>Q none H
def Vz (t:TE):TO:=λσ H Q=>t σ H λx H1=>∃i,x=.int i/\Q (some i) H1
theorem Cu {ns:List Int}:∀ {us:Wx},Vals (ns.map V.int) us->IntsAre us ns:=by
 induction ns with
 |nil=>intro us r;rw[map_nil]at r;cases r;exact .nil
 |cons n ns ih =>
  intro us r;rw[map_cons]at r;cases r with
  |cons r1 r2 =>
   obtain⟨t,e⟩:=r1;subst e;exact .cons n t (ih r2)
section
variable {lo hi:Option Expr}{tl th:TO}{p2:Pos}
theorem Jw:PO X none S3:=by
 intro aa s σ H Q I h;rw[evalPart_none];exact Zv ⟨none,H,I,.none,h⟩
theorem Jx (h:PE X e te):PO X (some e) (Vz te):=by
 intro aa s σ H Q I hw;rw[evalPart_some];refine aL (h aa s σ H _ I hw) λu s1 ⟨x,H1,I1,r1,q1⟩=>?_;obtain⟨i,rfl,q⟩:=q1;obtain⟨t,rfl⟩:=r1;exact⟨some i,H1,I1,.int i t,q⟩
def SlR (X:Cx) (r:V->Option Int->Option Int->Hp->VK->Prop):Prop :=
 ∀(aa:LO) (s:W4) (σ:St) (H:Hp) (x:V) (v vl vu:Value) (lo hi:Option Int) (sl:W3) (Q:VK),Inv X aa σ H s->RelV x v->s.heap.IsSliceOf sl vl vu .none->IsPart vl lo->IsPart vu hi->r x lo hi H Q ->
  ∃T id,typeLookup (.type T) "__getitem__" = pure (some (.builtin id))/\s.TypeIs v T/\wpAny (model X.prog X.w) X.A (getItem v (.ref sl)) (EP X aa σ Q) X.xe s
def tSl (r:V->Option Int->Option Int->Hp->VK->Prop) (te:TE) (tl th:TO):TE:=λσ H Q=>te σ H λx H1=>tl σ H1 λl H2=>th σ H2 λu H3=>r x l u H3 Q
theorem HY {r:V->Option Int->Option Int->Hp->VK->Prop} (hr:SlR X r) (he:PE X e te) (hl:PO X lo tl) (hu:PO X hi th):PE X (.Subscript e (.Slice lo hi none p2) pos) (tSl r te tl th):=by
 intro aa s σ H Q I h;refine Subscript_ (aL (he aa s σ H _ I h) λv s1 ⟨x,H1,I1,r1,q1⟩=>?_);refine wpAny_Slice (aL (hl aa s1 σ H1 _ I1 q1) λvl s2 ⟨l,H2,I2,pl,q2⟩=>aL (hu aa s2 σ H2 _ I2 q2) λvu s3 ⟨u,H3,I3,pu,q3⟩=>?_);rw[evalPart_none];refine Zv ?_;have I4:Inv X aa σ H3 { s3 with heap:=s3.heap.push { cls:=.type "slice", data:=.fields #[vl,vu,.none] } }:=I3.kept (t':=s3.toks) λb ob q=>ZY _ q;obtain⟨T,id,hT,ht,hg⟩:=hr aa { s3 with heap:=s3.heap.push { cls:=.type "slice", data:=.fields #[vl,vu,.none] } } σ H3 x v vl vu l u s3.heap.objs.size Q I4 r1 (Heap.IsSliceOf.new ..) pl pu q3;show wpAny (model X.prog X.w) X.A (subscriptTail e (.Slice lo hi none p2) v (.ref s3.heap.objs.size)) (EP X aa σ Q) X.xe { s3 with heap:=s3.heap.push { cls:=.type "slice", data:=.fields #[vl,vu,.none] } };exact tail_any (ops:=[.ref s3.heap.objs.size,v]) ht hT hg (by with_unfolding_all rfl)
noncomputable def HZ (xs:Wy) (lo hi:Option Int):Wy:=(xs.drop (HT.bY xs.length 0 lo)).take (HT.bY xs.length xs.length hi - HT.bY xs.length 0 lo)
theorem Gy (xs:Wy) (lo hi:Option Int):(HZ xs lo hi).length<=xs.length:=by
 unfold HZ;rw[Zz,length_drop];omega
def WZ (K:FG):V->Option Int->Option Int->Hp->VK->Prop:=λx lo hi H Q=>∃a xs,x=.ref a/\bA K H a xs /\
 ¬ (HT.bY xs.length 0 lo=0/\HT.bY xs.length xs.length hi=xs.length)/\∀p,H p=none->Q (.ref p) (upd H p (.tup (HZ xs lo hi)))
theorem Uj:SlR X (WZ X.K):=by
 intro aa s σ H x v vl vu lo hi sl Q I rx hs pl pu h;obtain⟨a,xs,rfl,hx,hw,q⟩:=h;cases rx;obtain⟨its,r,ht,hz⟩:=I.tuple hx;have bh:its.toArray.size=xs.length:=by rw[size_toArray];exact r.length.symm
 refine⟨"tuple", _,PyProof.Rows.slot_tuple_getitem.lookup,ht.typeIs,?_⟩;refine HT.getItem_tuple_cut ht hs pl pu (by rw[bh];exact hw) ?_ (by rw[bh];exact hz);rw[bh];refine⟨.ref s.heap.objs.size,_,I.laid (t':=s.toks) (o:=.tup (HZ xs lo hi)) (λb ob q=>ZY _ q) (Zx _) ?_,Zj,q _ (I.aE.fresh (Zx _))⟩;exact⟨Nat.le_trans (Gy xs lo hi) hz,_,(r.drop (HT.bY xs.length 0 lo)).take (HT.bY xs.length xs.length hi - HT.bY xs.length 0 lo),IsTup.new _ _⟩
def OB (K:FG):R2:=λx y H Q=>∃a b xs ys,x=.ref a/\y=.ref b/\bA K H a xs/\bA K H b ys/\xs≠ []/\xs.length+ys.length<=sizeLine /\
 (ys=[]->Q (.ref a) H)/\(ys≠ []->∀p,H p=none->Q (.ref p) (upd H p (.tup (xs++ys))))
theorem Vals.nil_iff (r:Vals xs us):us=[] ↔ xs=[]:=by
 cases r with
 |nil=>simp
 |cons _ _=>simp
theorem S4:cT X (binaryOp .Add) (OB X.K):=by
 intro aa s σ H x y v u Q I rx ry h;obtain⟨a,b,xs,ys,rfl,rfl,ha,hb,hx,hz,q1,q2⟩:=h;cases rx;cases ry;obtain⟨its,r1,p1,_⟩:=I.tuple ha;obtain⟨its2,r2,p2,_⟩:=I.tuple hb;refine HT.cat_tup p1 p2 (λz=>hx (r1.nil_iff.mp z)) (λz=>⟨.ref a,H,I,Zj,q1 (r2.nil_iff.mp z)⟩) (λz=>?_) (by rw[←r1.length,←r2.length];exact hz);refine⟨.ref s.heap.objs.size,_,I.laid (t':=s.toks) (o:=.tup (xs++ys)) (λb ob q=>ZY _ q) (Zx _) ?_,Zj,q2 (λw=>z (r2.nil_iff.mpr w)) _ (I.aE.fresh (Zx _))⟩;exact⟨by rw[ZJ];exact hz,_,r1.append r2,IsTup.new _ _⟩
end
noncomputable def iy (n:Nat) (i:Int):Option Nat:=if 0<=i then (if i<n then some i.toNat else none)else if -(n:Int)<=i then some (i+n).toNat else none
noncomputable def g6 {α:Type} (xs:List α) (i:Int):Option α:=(iy xs.length i).bind λj=>xs[j]?
theorem OC {n:Nat}{i:Int}{j:Nat} (h:iy n i=some j):seqIndex? i n=some j/\j<n/\-(n:Int)<=i/\i<n:=by
 unfold iy at h;by_cases h0:0<=i
 ·rw[Zo h0]at h;by_cases h1:i<n
  ·rw[Zo h1]at h;have e:i.toNat=j:=Option.some.inj h;exact⟨by rw[seqIndex_of h0 h1,e],qe,qe,h1⟩
  ·rw[Zp h1]at h;cases h
 ·rw[Zp h0]at h;by_cases h1:-(n:Int)<=i
  ·rw[Zo h1]at h;have e:(i+n).toNat=j:=Option.some.inj h;exact⟨by rw[seqIndex_neg qe h1,e],qe,h1,qe⟩
  ·rw[Zp h1]at h;cases h
theorem OD {α:Type}{xs:List α}{i:Int}{v:α} (h:g6 xs i=some v):∃j,seqIndex? i xs.length=some j/\xs[j]?=some v/\j<xs.length/\-(xs.length:Int)<=i/\i<xs.length:=by
 unfold g6 at h;cases e:iy xs.length i with
 |none=>rw[e]at h;cases h
 |some j =>
  rw[e]at h;obtain⟨h1,h2,h3,h4⟩:=OC e;exact⟨j,h1,h,h2,h3,h4⟩
theorem Cc {α:Type}{xs:List α}{j:Nat}{v:α} (h:xs[j]?=some v):g6 xs (j:Int)=some v:=by
 have hj:j<xs.length:=(Z8.mp h).1
 have e:iy xs.length (j:Int)=some j:=by
  unfold iy;rw[Zo qe,Zo qe];simp
 unfold g6;rw[e];exact h
def OE (b:Expr):Prop:=∀o i,subscripted b false o i=operate [o,i] (getItem o i)
def IxR (X:Cx) (r:R2):Prop :=
 ∀(value slice:Expr) (aa:LO) (s:W4) (σ:St) (H:Hp) (x y:V) (v u:Value) (Q:VK),Inv X aa σ H s->RelV x v->RelV y u->r x y H Q ->
  subscripted slice false v u=operate [v,u] (getItem v u)->wpAny (model X.prog X.w) X.A (subscriptTail value slice v u) (EP X aa σ Q) X.xe s
def MtR (X:Cx) (id:String) (r:V->Wy->Hp->VK->Prop):Prop :=
 ∀(aa:LO) (s:W4) (σ:St) (H:Hp) (x:V) (xs:Wy) (v:Value) (us:Wx) (Q:VK),Inv X aa σ H s->RelV x v->Vals xs us->r x xs H Q ->
  wpAny (model X.prog X.w) X.A (call (.builtin id) (v::us)) (EP X aa σ Q) X.xe s
section
variable {a b:Expr}{ta tb:TE}
theorem Bp {r:R2} (hr:IxR X r) (ha:PE X a ta) (hb:PE X b tb) (hs:OE b):PE X (.Subscript a b pos) (ja r ta tb):=by
 intro aa s σ H Q I h;exact Subscript_ (Uf ha hb I h λv u s2 x y H2 I2 rx ry q=>hr a b aa s2 σ H2 x y v u Q I2 rx ry q (hs _ _))
inductive ExrIxL (K:FG) (x y:V) (H:Hp) (k:V->Prop):Prop where
 |mk (p:W3) (xs:Wy) (i:Int) (v:V) (h1:x=.ref p) (h2:y=.int i) (h3:aJ K H p xs) (h4:g6 xs i=some v) (q:k v):ExrIxL K x y H k
def V0 (K:FG):R2:=λx y H Q=>ExrIxL K x y H λv=>Q v H
inductive ExrIxT (K:FG) (x y:V) (H:Hp) (k:V->Prop):Prop where
 |mk (p:W3) (xs:Wy) (i:Int) (v:V) (h1:x=.ref p) (h2:y=.int i) (h3:bA K H p xs) (h4:g6 xs i=some v) (q:k v):ExrIxT K x y H k
def V1 (K:FG):R2:=λx y H Q=>ExrIxT K x y H λv=>Q v H
theorem S5:IxR X (V0 X.K):=by
 intro value slice aa s σ H x y v u Q I rx ry h hs;obtain⟨p,xs,i,z,rfl,rfl,hq,he,q⟩:=h;cases rx;obtain⟨t,rfl⟩:=ry;obtain⟨its,r,pl,hz⟩:=I.list hq;obtain⟨j,h1,h2,h3,h4,h5⟩:=OD he;obtain⟨w,ew,gB⟩:=r.get h2;have hl:=r.length;have hn:=HR;have fin:EP X aa σ Q w s:=⟨z,H,I,gB,q⟩;by_cases h0:0<=i
 ·have hj:i.toNat=j:=by
   rw[seqIndex_of h0 h5]at h1;exact Option.some.inj h1
  exact item_listR pl.isList h0 qe (by rw[hj];simpa using ew) fin hs
 ·have hj:(i+(its.toArray.size:Int)).toNat=j:=by
   rw[seqIndex_neg qe h4]at h1;rw[size_toArray,←hl];exact Option.some.inj h1
  exact subscriptTail_builtinR (x:=w) pl.isList.typeIs slot_list_getitem.lookup
   (wpAny_getItem_list_neg (Q:=λr s'=>r=w/\EP X aa σ Q r s') pl.isList qe (by rw[size_toArray] <;> omega) qe (by rw[hj];simpa using ew) ⟨rfl,fin⟩) hs
theorem Uk:IxR X (V1 X.K):=by
 intro value slice aa s σ H x y v u Q I rx ry h hs;obtain⟨p,xs,i,z,rfl,rfl,hq,he,q⟩:=h;cases rx;obtain⟨t,rfl⟩:=ry;obtain⟨its,r,pl,hz⟩:=I.tuple hq;obtain⟨j,h1,h2,h3,h4,h5⟩:=OD he;obtain⟨w,ew,gB⟩:=r.get h2;have hl:=r.length;have hn:=HR;have fin:EP X aa σ Q w s:=⟨z,H,I,gB,q⟩
 exact subscriptTail_builtinR (x:=w) pl.typeIs slot_tuple_getitem.lookup
  (getItem_tuple (j:=j) (Q:=λr s'=>r=w/\EP X aa σ Q r s') pl qe qe (by rw[size_toArray,←hl];exact h1) (by simpa using ew) ⟨rfl,fin⟩) hs
theorem Mz (its:Wx) (n j:Nat) (u:Value):Obj.mapSeq (·.setIfInBounds j u) { cls:=.type "list", data:=.seq its.toArray n }={ cls:=.type "list", data:=.seq (its.set j u).toArray n }:=by
 simp[Obj.mapSeq]
theorem Inv.lst {aa:LO}{σ:St}{H:Hp}{s:W4}{p:W3}{xs:Wy} (I:Inv X aa σ H s) (h:H p=some (.lst xs)) :
  ∃(its:Wx) (n:Nat),Vals xs its/\s.heap.get? p=some { cls:=.type "list", data:=.seq its.toArray n }/\xs.length<=sizeLine:=by
 obtain⟨z,its,n,r,e⟩:=I.aE p _ h;exact⟨its,n,r,e,z⟩
theorem Inv.lstUpd {p:W3}{ys:Wy}{its its':Wx}{n n':Nat}{f:Obj->Obj} (I:Inv X aa σ H s) (h:H p=some (.lst xs))
  (ho:s.heap.get? p=some { cls:=.type "list", data:=.seq its.toArray n }) (hf:f { cls:=.type "list", data:=.seq its.toArray n }={ cls:=.type "list", data:=.seq its'.toArray n' }) (r:Vals ys its') (hz:ys.length<=sizeLine) (t:Nat) :
  Inv X aa σ (upd H p (.lst ys)) { s with heap:=s.heap.update p f,toks:=t }:=by
 have e:(s.heap.update p f).get? p=some { cls:=.type "list", data:=.seq its'.toArray n' }:=by
  rw[ZV f ho (by rw[hf] <;> rfl),hf]
 refine I.write (x:=p) (e:=p) (by rw[h];trivial) (.inl Zj) (λb u hb q=>(ZX _ _ (Ne.symm hb)).trans q) ⟨_,e⟩ ?_;exact⟨hz,its',n',r,e⟩
def V2:V->V->V->Hp->(Hp->Prop)->Prop:=λo i v H Q=>∃p xs k j,o=.ref p/\i=.int k/\H p=some (.lst xs)/\iy xs.length k=some j/\Q (upd H p (.lst (xs.set j v)))
theorem K0:Vt X V2:=by
 intro aa s σ H o i v ov iv u Q I ro ri rv h;obtain⟨p,xs,k,j,rfl,rfl,hp,hj,q⟩:=h;cases ro;obtain⟨t,rfl⟩:=ri;obtain⟨its,n,r,ho,hz⟩:=I.lst hp;obtain⟨h1,h2,h3,h4⟩:=OC hj;have hl:=r.length;have hn:=HR
 have I':Inv X aa σ (upd H p (.lst (xs.set j v))) { s with heap:=s.heap.update p (Obj.mapSeq (·.setIfInBounds j u)) } :=
  I.lstUpd hp ho (Mz its n j u) (r.set rv j) (by rw[List.length_set];exact hz) s.toks
 by_cases h0:0<=k
 ·have hk:k.toNat=j:=by
   rw[seqIndex_of h0 h4]at h1;exact Option.some.inj h1
  exact W.ki_setAt ho h0 qe (by rw[size_toArray,←hl];exact h4) (by rw[hk];exact⟨_,I',q⟩)
 ·have hk:(k+(its.toArray.size:Int)).toNat=j:=by
   rw[seqIndex_neg qe h3]at h1;rw[size_toArray,←hl];exact Option.some.inj h1
  exact W.ki_setBack ho qe (by rw[size_toArray,←hl];exact h3) qe (by rw[hk];exact⟨_,I',q⟩)
theorem Jy (lo hi:Option Int) (n:Nat):(sliceBounds lo hi none n).1=((HT.bY n 0 lo:Nat):Int)/\(sliceBounds lo hi none n).2.1=((HT.bY n n hi:Nat):Int)/\(sliceBounds lo hi none n).2.2=1:=by
 refine⟨?_,?_,Zj⟩
 ·cases lo with
  |none=>simp[sliceBounds,HT.bY]
  |some i =>
   simp only[sliceBounds,HT.bY,Option.getD_none,show(1:Int)>0 by decide,if_true];by_cases h:i<0
   ·simp only[h,if_true] <;> omega
   ·simp only[h,if_false] <;> omega
 ·cases hi with
  |none=>simp[sliceBounds,HT.bY]
  |some i =>
   simp only[sliceBounds,HT.bY,Option.getD_none,show(1:Int)>0 by decide,if_true];by_cases h:i<0
   ·simp only[h,if_true] <;> omega
   ·simp only[h,if_false] <;> omega
theorem Ip (its:Wx) (lo hi:Option Int):slicePick its.toArray lo hi none=((its.drop (HT.bY its.length 0 lo)).take (HT.bY its.length its.length hi - HT.bY its.length 0 lo)).toArray:=by
 obtain⟨h1,h2,h3⟩:=Jy lo hi its.toArray.size;unfold slicePick;rw[h1,h2,h3];simp only[sliceRange_one,pick_run,size_toArray] <;> rfl
def Wa (K:FG):V->Option Int->Option Int->Hp->VK->Prop:=λx lo hi H Q=>∃a xs,x=.ref a/\aJ K H a xs/\∀p,H p=none->Q (.ref p) (upd H p (.lst (HZ xs lo hi)))
theorem OF:SlR X (Wa X.K):=by
 intro aa s σ H x v vl vu lo hi sl Q I rx hs pl pu h;obtain⟨a,xs,rfl,hx,q⟩:=h;cases rx;obtain⟨its,r,ht,hz⟩:=I.list hx;have bh:=r.length;refine⟨"list", _,slot_list_getitem.lookup,ht.isList.typeIs,?_⟩;refine wpAny_getItem_list_slice ht.isList hs pl pu .none (by simp) ?_ (by rw[size_toArray] <;> omega);rw[Ip,←bh];refine⟨.ref s.heap.objs.size,_,I.laid (t':=s.toks) (o:=.lst (HZ xs lo hi)) (λb ob q=>ZY _ q) (Zx _) ?_,Zj,q _ (I.aE.fresh (Zx _))⟩;exact⟨Nat.le_trans (Gy xs lo hi) hz,_,0,(r.drop (HT.bY xs.length 0 lo)).take (HT.bY xs.length xs.length hi - HT.bY xs.length 0 lo),ZO _ Zj⟩
noncomputable def FU:V->Bool
 | .aK=>true
 | .bl _=>true
 | .int _=>true
 | .str _=>true
 |_=>false
noncomputable def jj:V->V->Bool
 | .aK,.aK=>true
 | .bl a,.bl b=>a==b
 | .bl a,.int b=>(if a then 1 else 0)==b
 | .int a,.bl b=>a==(if b then 1 else 0)
 | .int a,.int b=>a==b
 | .str a,.str b=>a==b
 |_,_=>false
theorem Ul {y x:V}{v:Value} (ry:RelV y u) (rx:RelV x v) (fy:FU y=true) (fx:FU x=true):SeqAt.EqAt A s u v (jj y x):=by
 cases y with
 |aK =>
  cases ry;cases x with
  |aK=>cases rx;exact SeqAt.EqAt.same _
  |bl b=>cases rx;exact SeqAt.EqAt.none_bool b
  |int b=>obtain⟨t,rfl⟩:=rx;exact SeqAt.EqAt.none_int b t
  |str b=>obtain⟨t,rfl⟩:=rx;exact SeqAt.EqAt.none_str b t
  |_=>exact absurd (show false=true from fx) Bool.false_ne_true
 |bl a =>
  cases ry;cases x with
  |aK=>cases rx;exact SeqAt.EqAt.bool_none a
  |bl b=>cases rx;exact SeqAt.EqAt.bool_bool a b
  |int b=>obtain⟨t,rfl⟩:=rx;exact SeqAt.EqAt.bool_int a b t
  |str b=>obtain⟨t,rfl⟩:=rx;exact SeqAt.EqAt.bool_str a b t
  |_=>exact absurd (show false=true from fx) Bool.false_ne_true
 |int a =>
  obtain⟨t',rfl⟩:=ry;cases x with
  |aK=>cases rx;exact SeqAt.EqAt.int_none a t'
  |bl b=>cases rx;exact SeqAt.EqAt.int_bool a t' b
  |int b=>obtain⟨t,rfl⟩:=rx;exact SeqAt.EqAt.int_int a t' b t
  |str b=>obtain⟨t,rfl⟩:=rx;exact SeqAt.EqAt.int_str a t' b t
  |_=>exact absurd (show false=true from fx) Bool.false_ne_true
 |str a =>
  obtain⟨t',rfl⟩:=ry;cases x with
  |aK=>cases rx;exact SeqAt.EqAt.str_none a t'
  |bl b=>cases rx;exact SeqAt.EqAt.str_bool a t' b
  |int b=>obtain⟨t,rfl⟩:=rx;exact SeqAt.EqAt.str_int a t' b t
  |str b=>obtain⟨t,rfl⟩:=rx;exact SeqAt.EqAt.str_str a t' b t
  |_=>exact absurd (show false=true from fx) Bool.false_ne_true
 |_=>exact absurd (show false=true from fy) Bool.false_ne_true
noncomputable def iY (x:V) (u:Value):Bool:=match u with
 | .none=>jj .aK x
 | .bool b=>jj (.bl b) x
 | .int i _=>jj (.int i) x
 | .str z _=>jj (.str z) x
 |_=>false
theorem Qp {x y:V} (r:RelV y u) (f:FU y=true):iY x u=jj y x:=by
 cases y with
 |aK=>cases r;rfl
 |bl b=>cases r;rfl
 |int i=>obtain⟨t,rfl⟩:=r;rfl
 |str z=>obtain⟨t,rfl⟩:=r;rfl
 |_=>exact absurd (show false=true from f) Bool.false_ne_true
theorem Jz {x:V}:∀ {xs:Wy}{us:Wx},Vals xs us->xs.all FU=true->us.any (iY x)=xs.any λy=>jj y x
 |_,_,.nil,_=>rfl
 |y::xs,u::us,.cons r t,f=>by
  rw[all_cons,Bool.and_eq_true]at f;rw[any_cons,any_cons,Qp r f.1,Jz t f.2]
theorem Hi {A:Around}{s:W4}{x:V}{v:Value} (rx:RelV x v) (fx:FU x=true):∀ {xs:Wy}{us:Wx},Vals xs us->xs.all FU=true->∀u∈us,SeqAt.EqAt A s u v (iY x u)
 |_,_,.nil,_=>λu hu=>by cases hu
 |y::xs,u::us,.cons r t,f=>λu' hu=>by
  rw[all_cons,Bool.and_eq_true]at f;rcases mem_cons.mp hu with rfl |hu
  ·rw[Qp r f.1];exact Ul r rx f.1 fx
  ·exact Hi rx fx t f.2 u' hu
noncomputable def gU (x:V) (xs:Wy):Bool:=xs.any λy=>jj y x
def rIn (K:FG) (neg:Bool):R2:=λx y H Q=>∃p xs,y=.ref p/\(aJ K H p xs\/bA K H p xs)/\FU x=true/\xs.all FU=true/\Q (.bl (if neg then !gU x xs else gU x xs)) H
theorem JN:cT X (compareOp .In) (rIn X.K false):=by
 intro aa s σ H x y v u Q I rx ry h;obtain⟨p,xs,rfl,hq,fx,fs,q⟩:=h;cases ry;rcases hq with hq |hq
 ·obtain⟨its,r,pl,hz⟩:=I.list hq;refine SeqAt.in_listAt (iY x) pl.isList (λw hw=>Hi rx fx r fs w (by simpa using hw)) ⟨.bl _,H,I,Zj,?_⟩;rw[show its.toArray.any (iY x)=its.any (iY x) by simp,Jz r fs];exact q
 ·obtain⟨its,r,pl,hz⟩:=I.tuple hq;refine SeqAt.in_tupleAt (iY x) pl (λw hw=>Hi rx fx r fs w (by simpa using hw)) ⟨.bl _,H,I,Zj,?_⟩;rw[show its.toArray.any (iY x)=its.any (iY x) by simp,Jz r fs];exact q
theorem Dh:BZ X (.builtin "len") (λxs H Q=>∃p ys,xs=[.ref p]/\(aJ X.K H p ys\/bA X.K H p ys)/\Q (.int ys.length) H):=by
 intro aa s σ H xs us Q I r h;obtain⟨p,ys,rfl,hq,q⟩:=h;obtain⟨u,rfl,rx⟩:=Bu r;cases rx;have hn:=HR;rcases hq with hq |hq
 ·obtain⟨its,r',pl,hz⟩:=I.list hq;have bh:=r'.length;exact Calls.call_len_list pl.isList (by simp only[size_toArray] <;> omega) ⟨.int ys.length,H,I.tok _,⟨s.toks+1,by rw[size_toArray,bh]⟩,q⟩
 ·obtain⟨its,r',pl,hz⟩:=I.tuple hq;have bh:=r'.length;exact len_tuple pl (by simp only[size_toArray] <;> omega) ⟨.int ys.length,H,I.tok _,⟨s.toks+1,by rw[size_toArray,bh]⟩,q⟩
theorem J0:BZ X (.builtin "len") (λxs H Q=>∃z,xs=[.str z]/\z.length<=sizeLine/\Q (.int z.length) H):=by
 intro aa s σ H xs us Q I r h;obtain⟨z,rfl,hz,q⟩:=h;obtain⟨u,rfl,t,rfl⟩:=Bu r;have hn:=HR;exact len_str qe ⟨.int z.length,H,I.tok _,⟨_,Zj⟩,q⟩
theorem Iq:BZ X (.type "tuple") (λxs H Q=>∃p ys,xs=[.ref p]/\((aJ X.K H p ys/\∀l,H l=none->Q (.ref l) (upd H l (.tup ys)))\/(bA X.K H p ys/\Q (.ref p) H))):=by
 intro aa s σ H xs us Q I r h;obtain⟨p,ys,rfl,h⟩:=h;obtain⟨u,rfl,rx⟩:=Bu r;cases rx;rcases h with⟨hq,q⟩ |⟨hq,q⟩
 ·obtain⟨its,r',pl,hz⟩:=I.list hq;have bh:=r'.length;refine call_tuple_list pl.isList (λh' kp=>?_) (by simp only[size_toArray] <;> omega);have I1:Inv X aa σ H { s with heap:=h' }:=I.kept (t':=s.toks) kp
  have I2:Inv X aa σ (upd H h'.objs.size (.tup ys)) { s with heap:=h'.push { cls:=.type "tuple", data:=.seq its.toArray } } :=
   I1.laid (t':=s.toks) (λb o e=>ZY _ e) (Zx _) (show aT X.prog X.w _ _ _ (.tup ys)from⟨hz,its,r',IsTup.new _ _⟩)
  exact⟨.ref h'.objs.size,_,I2,Zj,q _ (I1.aE.fresh (Zx _))⟩
 ·obtain⟨its,r',pl,hz⟩:=I.tuple hq;exact call_tuple_same pl ⟨.ref p,H,I,Zj,q⟩
def tyV (K:FG) (T:String) (x:V) (H:Hp):Prop:=match x with
 | .str _=>T = "str"
 | .int _=>T = "int"
 | .ref p=>(T = "list" /\ ∃xs,aJ K H p xs)\/(T = "tuple" /\ ∃o,K.lookup p=some o/\o.cls=.type "tuple" /\ o.dict=none) \/
   (T = "dict" /\ ((∃kvs,H p=some (.dK kvs))\/∃kvs,H p=some (.dT kvs)))\/(T = "set" /\ ∃S n,H p=some (.set S n))
 |_=>False
theorem Qq {T:String}{x:V}{v:Value} (I:Inv X aa σ H s) (r:RelV x v) (ty:tyV X.K T x H) :
  s.TypeIs v T/\∀a,v=.ref a->∃ob,s.heap.get? a=some ob/\ob.dict=none:=by
 cases x with
 |str z =>
  obtain⟨t,rfl⟩:=r;cases (show T = "str" from ty);exact⟨typeIs_str s z t,λ_ e=>nomatch e⟩
 |int i =>
  obtain⟨t,rfl⟩:=r;cases (show T = "int" from ty);exact⟨typeIs_int s i t,λ_ e=>nomatch e⟩
 |ref p =>
  cases r;rcases ty with⟨rfl,xs,hq⟩ |⟨rfl,o,hk,hc,hd⟩ |⟨rfl,hk⟩ |⟨rfl,S,n,hk⟩
  ·obtain⟨its,_,pl,_⟩:=I.list hq;refine⟨pl.isList.typeIs,λa e=>?_⟩;cases e;obtain⟨o,n,e,c,hd,_⟩:=pl;exact⟨o,e,hd⟩
  ·refine⟨⟨o,I.cC p o hk,hc⟩,λa e=>?_⟩;cases e;exact⟨o,I.cC _ o hk,hd⟩
  ·have z:∃o,s.heap.get? p=some o/\o.ExactDict:=by
    rcases hk with⟨kvs,hk⟩ |⟨kvs,hk⟩
    ·obtain⟨_,_,_,_,o,_,_,e,ex,_⟩:=I.aE p _ hk;exact⟨o,e,ex⟩
    ·obtain⟨_,_,_,_,o,_,_,e,ex,_⟩:=I.aE p _ hk;exact⟨o,e,ex⟩
   obtain⟨o,e,ex⟩:=z;refine⟨⟨o,e,ex.1⟩,λa e2=>?_⟩;cases e2;exact⟨o,e,ex.2.1⟩
  ·obtain⟨o,_,_,_,e,ex,_⟩:=I.aE p _ hk;refine⟨⟨o,e,ex.1⟩,λa e2=>?_⟩;cases e2;exact⟨o,e,ex.2.1⟩
 |_=>exact False.elim ty
def Wc (K:FG) (T:String) (r:V->Wy->Hp->VK->Prop) (to:TE):TE:=λσ H Q=>to σ H λx H1=>tyV K T x H1/\r x [] H1 Q
def tBM (K:FG) (T:String) (r:V->Wy->Hp->VK->Prop) (to:TE) (t:TA):TE:=λσ H Q=>to σ H λx H1=>tyV K T x H1/\t σ H1 λxs H2=>r x xs H2 Q
variable {o:Expr}{es:List Expr}{to:TE}{t:TA}{name:Str}{apos bZ:Pos}{T id:String}{r:V->Wy->Hp->VK->Prop}
theorem Qr (pa:PlainAttrs T) (slot:Slot T name id) (hty:typeOf (.builtin id)=pure (.type "method_descriptor")) (hm:MtR X id r) (ho:PE X o to)
  (bw:attributeBase o name X.env (eval o X.env)=eval o X.env:=by rfl) (b8:(apos.endLine==bZ.line)=true:=by rfl):PE X (.Call (.Attribute o name apos) [] [] bZ) (Wc X.K T r to):=by
 intro aa s σ H Q I h;refine wpAny_Call_method0_late bw b8 (aL (ho aa s σ H _ I h) λv s1 ⟨x,H1,I1,r1,ty,q1⟩=>?_);obtain⟨h1,h2⟩:=Qq I1 r1 ty;exact⟨T,id,pa,slot,hty,h1,h2,Calls.callWith_builtin Zj (PySem.evalArgs_none (hm aa s1 σ H1 x [] v [] Q I1 r1 .nil q1))⟩
theorem Hj (pa:PlainAttrs T) (slot:Slot T name id) (hty:typeOf (.builtin id)=pure (.type "method_descriptor")) (hm:MtR X id r) (ho:PE X o to) (ha:PA X (e::es) t)
  (bw:attributeBase o name X.env (eval o X.env)=eval o X.env:=by rfl)
  (hfew:((backTo bZ (starEach (e::es) X.env)).all (λx=>!x.1)&&(backToKw bZ (keywordEach [] X.env)).all (λx=>x.1.isSome)
   && decide ((e::es).length+([]:List Keyword).length+(if ([]:List Keyword).isEmpty then 0 else 1)<30))=true:=by rfl)
  (b8:(apos.endLine==bZ.line)=true:=by rfl) (hs:starEach (e::es) X.env=(false,eval e X.env)::starEach es X.env:=by rfl) (hplain:(backTo bZ (starEach es X.env)).any (·.1)=false:=by rfl) :
  PE X (.Call (.Attribute o name apos) (e::es) [] bZ) (tBM X.K T r to t):=by
 intro aa s σ H Q I h;refine wpAny_Call_method_late bw hfew b8 Zj (aL (ho aa s σ H _ I h) λv s1 ⟨x,H1,I1,r1,ty,q1⟩=>?_);obtain⟨h1,h2⟩:=Qq I1 r1 ty;refine⟨T,id,pa,slot,hty,h1,h2,?_⟩;have hA:=ha bZ aa s1 σ H1 _ I1 q1;rw[hs]at hA ⊢;refine Calls.callWith_builtin (by show(false||(backTo bZ (starEach es X.env)).any (·.1))=false;rw[hplain] <;> rfl) (Calls.evalArgs_plain ?_);exact aL hA λus s2 ⟨vs,H2,I2,r2,q2⟩=>hm aa s2 σ H2 x vs v us Q I2 r1 r2 q2
end
def MtM (X:Cx) (id:String) (r:V->Wy->Hp->VK->Prop):Prop :=
 ∀(aa:LO) (s:W4) (σ:St) (H:Hp) (x:V) (xs:Wy) (v:Value) (us:Wx) (Q:VK),Inv X aa σ H s->RelV x v->Vals xs us->r x xs H Q ->
  wpAny (model X.prog X.w) X.A (call (.builtin id) (v::us)) (EP X aa σ Q) X.xe s
theorem Vals.one:∀ {x:V}{us:Wx},Vals [x] us->∃u,us=[u]/\RelV x u
 |_,_,.cons r .nil=>⟨_,rfl,r⟩
section
variable {l b:W3}{ys zs:Wy}
theorem Inv.lset {its its':Wx}{n:Nat}{f:Array Value->Array Value}{t':Nat} (I:Inv X aa σ H s) (hH:H l=some (.lst xs))
  (e:s.heap.get? l=some { cls:=.type "list", data:=.seq its.toArray n }) (hf:f its.toArray=its'.toArray) (hv:Vals ys its') (hz:ys.length<=sizeLine) :
  Inv X aa σ (upd H l (.lst ys)) { s with heap:=s.heap.update l (Obj.mapSeq f),toks:=t' }:=by
 have q:=PySem.IsL.update e f;rw[hf]at q;refine I.write (x:=l) (e:=l) (by rw[hH];exact trivial) (.inl Zj) (λb' u hb hu=>(ZX s.heap (Obj.mapSeq f) (Ne.symm hb)).trans hu) ⟨_,q⟩ ?_;exact⟨hz,its',_,hv,q⟩
theorem Inv.lnew {its:Wx}{t':Nat} (I:Inv X aa σ H s) (hv:Vals ys its) (hz:ys.length<=sizeLine) :
  Inv X aa σ (upd H s.heap.objs.size (.lst ys)) { s with heap:=s.heap.push { cls:=.type "list", data:=.seq its.toArray },toks:=t' } :=
 I.laid (λ_ _ q=>ZY _ q) (Zx _) ⟨hz,its,0,hv,ZO _ rfl⟩
theorem Inv.fresh (I:Inv X aa σ H s):H s.heap.objs.size=none:=I.aE.fresh (Zx _)
theorem Inv.lstM (I:Inv X aa σ H s) (hH:H l=some (.lst xs)):xs.length<=sizeLine/\∃(its:Wx) (n:Nat),Vals xs its/\xs.length=its.length/\s.heap.get? l=some { cls:=.type "list", data:=.seq its.toArray n }:=by
 obtain⟨z,its,n,r,e⟩:=I.aE l _ hH;exact⟨z,its,n,r,r.length,e⟩
end
section
def S6:V->Wy->Hp->VK->Prop:=λx vs H Q=>∃l xs y,x=.ref l/\vs=[y]/\H l=some (.lst xs)/\xs.length<sizeLine/\Q .aK (upd H l (.lst (xs++[y])))
theorem GG:MtM X "list.append" S6:=by
 intro aa s σ H x vs v us Q I rx rv h;obtain⟨l,xs,y,rfl,rfl,hH,hz,q⟩:=h;cases rx;obtain⟨u,rfl,ru⟩:=rv.one;obtain⟨z,its,n,r,hl,e⟩:=I.lstM hH;refine call_meets F.slot_list_append ⟨_,e,Zj⟩ F.entry_list_append (F.args_list_append_2 _ _) (PySem.list_append l its.toArray n u (by rw[size_toArray];omega)) ⟨e,?_⟩;refine⟨.aK,_,I.lset (its':=its++[u]) hH e (by simp) (r.append (.cons ru .nil)) ?_,Zj,q⟩;rw[ZJ,length_singleton];omega
def Wd:R2:=λx y H Q=>∃l b xs zs,x=.ref l/\y=.ref b/\H l=some (.lst xs)/\H b=some (.lst zs)/\xs.length+zs.length<=sizeLine/\∀p,H p=none->Q (.ref p) (upd H p (.lst (xs++zs)))
theorem CB:cT X (binaryOp .Add) Wd:=by
 intro aa s σ H x y v u Q I rx ry h;obtain⟨l,b,xs,zs,rfl,rfl,hH,hB,hz,q⟩:=h;cases rx;cases ry;obtain⟨z,its,n,r,hl,e⟩:=I.lstM hH;obtain⟨z2,its2,n2,r2,d9,e2⟩:=I.lstM hB;refine PySem.P.add_list e e2 ?_ (by rw[size_toArray,size_toArray];omega);have ea:its.toArray++its2.toArray=(its++its2).toArray:=by simp
 rw[ea];exact⟨.ref _,_,I.lnew (t':=s.toks) (r.append r2) (by rw[ZJ];omega),Zj,q _ I.fresh⟩
end
section
variable {κ:Type} [DecidableEq κ]
noncomputable def BK (kvs:List (κ×V)) (k:κ):Option V:=(kvs.find? λkv=>decide (kv.1=k)).map (·.2)
noncomputable def CO (kvs:List (κ×V)) (k:κ) (v:V):List (κ×V) :=
 if (kvs.any λkv=>decide (kv.1=k))=true then kvs.map (λkv=>if kv.1=k then (kv.1,v)else kv)else kvs++[(k,v)]
theorem EH {p:κ×V}{r:List (κ×V)}{k:κ} (e:p.1=k):BK (p::r) k=some p.2:=by simp[BK,find?_cons,e]
theorem EI {p:κ×V}{r:List (κ×V)}{k:κ} (e:¬ p.1=k):BK (p::r) k=BK r k:=by simp[BK,find?_cons,e]
theorem FV (k:κ):∀kvs:List (κ×V),(kvs.any λkv=>decide (kv.1=k))=(BK kvs k).isSome
 | []=>rfl
 |p::r=>by
  rw[any_cons];by_cases e:p.1=k
  ·simp only[EH e,ZM e,Bool.true_or,Option.isSome_some]
  ·rw[EI e,ZP e,Bool.false_or];exact FV k r
theorem CP (kvs:List (κ×V)) (k:κ) (v:V):(CO kvs k v).length<=kvs.length+1:=by
 unfold CO;split
 ·rw[AE];omega
 ·rw[ZJ,length_cons,length_nil];omega
theorem Hk {kvs:List (κ×V)}{k:κ} (v:V) (h:BK kvs k=none):CO kvs k v=kvs++[(k,v)]:=by
 unfold CO;rw[FV,h];exact Zp qc
theorem cW.isSome_eq {o:Option V}{u:Option Value} (r:cW o u):o.isSome=u.isSome:=by
 cases o with
 |none=>cases u with
  |none=>rfl
  |some _=>exact(show False from r).elim
 |some _=>cases u with
  |none=>exact(show False from r).elim
  |some _=>rfl
theorem cW.getD {o:Option V}{u:Option Value}{d:V}{d':Value} (r:cW o u) (rd:RelV d d'):RelV (o.getD d) (u.getD d'):=by
 cases o with
 |none=>cases u with
  |none=>exact rd
  |some _=>exact(show False from r).elim
 |some _=>cases u with
  |none=>exact(show False from r).elim
  |some _=>exact r
theorem KV.val {kvs:List (κ×V)}{vs:List (κ×Value)} (r:KV kvs vs) (k:κ):cW (BK kvs k) (valueAt vs k):=by
 unfold KV at r;induction r with
 |nil=>exact True.intro
 | @cons p q ps qs h t ih =>
  obtain⟨h1,h2⟩:=h;by_cases e:p.1=k
  ·have e':q.1=k:=h1.symm.trans e;have b:valueAt (q::qs) k=some q.2:=by simp[valueAt,find?_cons,e']
   rw[EH e,b];exact h2
  ·have e':¬ q.1=k:=λz=>e (h1.trans z);have b:valueAt (q::qs) k=valueAt qs k:=by simp[valueAt,find?_cons,e']
   rw[EI e,b];exact ih
theorem KV.any {kvs:List (κ×V)}{vs:List (κ×Value)} (r:KV kvs vs) (k:κ):(kvs.any λkv=>decide (kv.1=k))=vs.any λkv=>decide (kv.1=k):=by
 unfold KV at r;induction r with
 |nil=>rfl
 |cons h t ih=>rw[any_cons,any_cons,ih,h.1]
theorem KV.repl {kvs:List (κ×V)}{vs:List (κ×Value)} (r:KV kvs vs) (k:κ) {y:V} (ry:RelV y u) :
  KV (kvs.map λkv=>if kv.1=k then (kv.1,y)else kv) (vs.map λkv=>if kv.1=k then (kv.1,u)else kv):=by
 unfold KV at r ⊢;induction r with
 |nil=>exact .nil
 | @cons p q ps qs h t ih =>
  rw[map_cons,map_cons];refine .cons ?_ ih;obtain⟨h1,h2⟩:=h;by_cases e:p.1=k
  ·rw[Zo e,Zo (h1.symm.trans e)];exact⟨h1,ry⟩
  ·rw[Zp e,Zp (λz=>e (h1.trans z))];exact⟨h1,h2⟩
theorem KV.put {kvs:List (κ×V)}{vs:List (κ×Value)} (r:KV kvs vs) (k:κ) {y:V} (ry:RelV y u):KV (CO kvs k y) (stored vs k u):=by
 unfold CO stored;rw[r.any k];by_cases e:(vs.any λkv=>decide (kv.1=k))=true
 ·rw[Zo e,Zo e];exact r.repl k ry
 ·rw[Zp e,Zp e];exact Paired.snoc r ⟨Zj,ry⟩
theorem KV.length {kvs:List (κ×V)}{vs:List (κ×Value)} (r:KV kvs vs):kvs.length=vs.length:=Paired.length r
end
theorem En {k:Key} (r:RelV (kV k) u):(Af P w).is k u=true:=by
 cases k with
 |inl i=>obtain⟨t,e⟩:=(show ∃t,u=Value.int i t from r);subst e;exact Ks P w i t
 |inr x=>obtain⟨t,e⟩:=(show ∃t,u=Value.str x t from r);subst e;exact Kt P w x t
theorem JO {P:Program}{w:World}:∀ {ks:List Key}{us:Wx},Vals (ks.map kV) us->ItemsAre (Af P w) ks us
 | [],_,r=>by rw[map_nil]at r;cases r;exact .nil
 |k::ks,_,r=>by
  rw[map_cons]at r;cases r with
  |cons h t=>exact .cons (En h) (JO t)
abbrev KT (H:Hp):List (List Key×V)->List (List Key×W3×Value)->Prop:=Paired λp q=>p.1=q.1/\H q.2.1=some (.tup (p.1.map kV))/\RelV p.2 q.2.2
theorem KT.val {kvs:List (List Key×V)}{xs:List (List Key×W3×Value)} (r:KT H kvs xs) (k:List Key):cW (BK kvs k) ((atKey xs k).map (·.2)):=by
 induction r with
 |nil=>exact True.intro
 | @cons p q ps qs h t ih =>
  obtain⟨h1,_,h2⟩:=h;by_cases e:p.1=k
  ·have e':q.1=k:=h1.symm.trans e;have b:atKey (q::qs) k=some q.2:=by simp[atKey,find?_cons,e']
   rw[EH e,b];exact h2
  ·have e':¬ q.1=k:=λz=>e (h1.trans z);have b:atKey (q::qs) k=atKey qs k:=by simp[atKey,find?_cons,e']
   rw[EI e,b];exact ih
theorem KT.repl {kvs:List (List Key×V)}{xs:List (List Key×W3×Value)} (r:KT H kvs xs) (k:List Key) {y:V} (ry:RelV y u) :
  KT H (kvs.map λkv=>if kv.1=k then (kv.1,y)else kv) (xs.map (putAt k u)):=by
 induction r with
 |nil=>exact .nil
 | @cons p q ps qs h t ih =>
  rw[map_cons,map_cons];refine .cons ?_ ih;obtain⟨h1,h2,h3⟩:=h;unfold putAt;by_cases e:p.1=k
  ·rw[Zo e,Zo (h1.symm.trans e)];exact⟨h1,h2,ry⟩
  ·rw[Zp e,Zp (λz=>e (h1.trans z))];exact⟨h1,h2,h3⟩
theorem KT.put {kvs:List (List Key×V)}{xs:List (List Key×W3×Value)} (r:KT H kvs xs) (k:List Key) {b:W3}{y:V} (hb:H b=some (.tup (k.map kV))) (ry:RelV y u) :
  KT H (CO kvs k y) (storedH xs k b u):=by
 have e:(kvs.any λkv=>decide (kv.1=k))=(atKey xs k).isSome:=by
  rw[FV,(r.val k).isSome_eq,Option.isSome_map]
 unfold CO storedH;rw[e];by_cases q:(atKey xs k).isSome=true
 ·rw[Zo q,Zo q];exact r.repl k ry
 ·rw[Zp q,Zp q];exact Paired.snoc r ⟨Zj,hb,ry⟩
theorem KT.keeps {kvs:List (List Key×V)}{xs:List (List Key×W3×Value)} (r:KT H kvs xs) (ht:∀b ys,H b=some (.tup ys)->H' b=some (.tup ys)):KT H' kvs xs :=
 Paired.mapP r λ_ _ z=>⟨z.1,ht _ _ z.2.1,z.2.2⟩
section
theorem UR {u:HO} (ok:cV P w H h) (e:Rd H a u):aT P w H h a u:=e.ok ok
theorem DQ {kvs:LK} (ok:cV P w H h) (e:Rd H a (.dK kvs)):kvs.length<=sizeLine/\(a==sysModules)=false/\∃vs,KV kvs vs/\h.DictOf (Af P w) a vs :=
 show aT P w H h a (.dK kvs)from UR ok e
theorem OG {kvs:LK} (ok:cV P w H h) (e:H a=some (.dK kvs)):kvs.length<=sizeLine/\(a==sysModules)=false/\∃vs,KV kvs vs/\h.DictOf (Af P w) a vs:=DQ ok (.inl e)
theorem GH {ks:List Key} (ok:cV P w H h) (e:H a=some (.tup (ks.map kV))):(tupleKind (Af P w)).is h ks a:=by
 obtain⟨_,its,r,o,h1,h2,n,h3⟩:=(show aT P w H h a (.tup (ks.map kV))from ok a _ e);exact⟨o,its.toArray,n,h1,h2,h3,by simpa using JO r⟩
theorem Hl {kvs:List (List Key×V)} (ok:cV P w H h) (e:Rd H a (.dT kvs)):kvs.length<=sizeLine/\(a==sysModules)=false /\
  ∃xs,KT H kvs xs/\h.DictOfH (tupleKind (Af P w)) a xs:=by
 obtain⟨z,y,xs,r,o,es,ep,h1,h2,h3,h4,h5⟩:=(show aT P w H h a (.dT kvs)from UR ok e);refine⟨z,y,xs,r,o,es,ep,h1,h2,h3,h4,λx hx=>?_,h5⟩
 have all:∀ {l:List (List Key×V)}{m:List (List Key×W3×Value)},KT H l m->∀x∈m,(tupleKind (Af P w)).is h x.1 x.2.1:=by
  intro l m q;induction q with
  |nil=>intro x hx;exact nomatch hx
  | @cons p q ps qs hq t ih =>
   intro x hx;rcases mem_cons.mp hx with e |hx
   ·subst e;exact GH ok (by rw[←hq.1];exact hq.2.1)
   ·exact ih x hx
 exact all r x hx
theorem V3 {kvs:List (List Key×V)} (ok:cV P w H h) (e:H a=some (.dT kvs)):kvs.length<=sizeLine/\(a==sysModules)=false /\
  ∃xs,KT H kvs xs/\h.DictOfH (tupleKind (Af P w)) a xs:=Hl ok (.inl e)
end
def Ir (H:Hp) (a:W3) (y:V) (r:Option V):Prop :=
 (∃kvs k,Rd H a (.dK kvs)/\y=kV k/\r=BK kvs k)\/∃kvs k b,Rd H a (.dT kvs)/\y=.ref b/\H b=some (.tup (k.map kV))/\r=BK kvs k
def DPut (H:Hp) (a:W3) (y v:V) (H':Hp):Prop :=
 (∃kvs k,H a=some (.dK kvs)/\y=kV k/\kvs.length<sizeLine/\H'=upd H a (.dK (CO kvs k v))) \/
 ∃kvs k b,H a=some (.dT kvs)/\y=.ref b/\H b=some (.tup (k.map kV))/\kvs.length<sizeLine/\H'=upd H a (.dT (CO kvs k v))
theorem DPut.k {H:Hp}{a:W3}{kvs:LK}{k:Key}{v:V} (e:H a=some (.dK kvs)) (hl:kvs.length<sizeLine):DPut H a (kV k) v (upd H a (.dK (CO kvs k v))):=.inl ⟨kvs,k,e,rfl,hl,rfl⟩
section
variable {y v:V}{r:Value}{o:Option V}
theorem Inv.big (I:Inv X aa σ H s):sysModules<s.heap.objs.size:=by
 have h:mainGlobals<s.heap.objs.size:=(I.mod.glob.keeps I.bk).lt;exact Nat.lt_trans qc h
theorem O8 {Q:VS} (hu:A.units+1<cLine) (I:Inv X aa σ H s) (g:Ir H a y (some v)) (ry:RelV y u) (h:∀w' s',Inv X aa σ H s'->RelV v w'->Q w' s') :
  wpAny (model X.prog X.w) A (getItem (.ref a) u) Q E s:=by
 rcases g with⟨kvs,k,e,ey,l⟩ |⟨kvs,k,b,e,ey,eb,l⟩
 ·subst ey;obtain⟨z,hd,vs,rel,dd⟩:=DQ I.aE e;obtain⟨w',hw,gB⟩:=cW.some_of (v:=v) (o:=valueAt vs k) (by rw[l];exact rel.val k);exact wpAny_getItem_of (En ry) dd.mapOf hw (h w' _ (I.tok _) gB)
 ·subst ey;cases (show u=Value.ref b from ry);obtain⟨z,hd,xs,rel,dd⟩:=Hl I.aE e;obtain⟨w',hw,gB⟩:=cW.some_of (v:=v) (o:=(atKey xs k).map (·.2)) (by rw[l];exact rel.val k);obtain⟨p,hp,aq⟩:=Z6.mp hw;refine wpAny_getItem_heap (tupleKind_room_in1 hu) (GH I.aE eb) dd hp ?_;rw[aq];exact h w' _ (I.tok _) gB
theorem We {Q:VS} (hu:A.units+1<cLine) (I:Inv X aa σ H s) (g:Ir H a y o) (ry:RelV y u) (h:∀s',Inv X aa σ H s'->Q (.bool o.isSome) s') :
  wpAny (model X.prog X.w) A (compareOp .In u (.ref a)) Q E s:=by
 rcases g with⟨kvs,k,e,ey,l⟩ |⟨kvs,k,b,e,ey,eb,l⟩
 ·subst ey;obtain⟨z,hd,vs,rel,dd⟩:=DQ I.aE e;refine wpAny_in_of (En ry) hd dd.mapOf ?_;rw[←(rel.val k).isSome_eq,←l];exact h _ (I.tok _)
 ·subst ey;cases (show u=Value.ref b from ry);obtain⟨z,hd,xs,rel,dd⟩:=Hl I.aE e;refine wpAny_in_heap (tupleKind_room_in1 hu) (GH I.aE eb) hd dd ?_;have q:=(rel.val k).isSome_eq;rw[Option.isSome_map]at q;rw[←q,←l];exact h _ (I.tok _)
theorem S7 {Q:VS} (hu:A.units+1<cLine) (I:Inv X aa σ H s) (g:Ir H a y o) (ry:RelV y u) (h:∀s',Inv X aa σ H s'->Q (.bool (!o.isSome)) s') :
  wpAny (model X.prog X.w) A (compareOp .NotIn u (.ref a)) Q E s:=by
 rcases g with⟨kvs,k,e,ey,l⟩ |⟨kvs,k,b,e,ey,eb,l⟩
 ·subst ey;obtain⟨z,hd,vs,rel,dd⟩:=DQ I.aE e;refine wpAny_notIn_of (En ry) hd dd.mapOf ?_;rw[←(rel.val k).isSome_eq,←l];exact h _ (I.tok _)
 ·subst ey;cases (show u=Value.ref b from ry);obtain⟨z,hd,xs,rel,dd⟩:=Hl I.aE e;refine wpAny_notIn_heap (tupleKind_room_in1 hu) (GH I.aE eb) hd dd ?_;have q:=(rel.val k).isSome_eq;rw[Option.isSome_map]at q;rw[←q,←l];exact h _ (I.tok _)
theorem Ee {h':Heap}{t':Nat}{ob:HO} (I:Inv X aa σ H s) (mu:Mut (H a)) (hs:Heap.SameBut a s.heap h') (he:∃q,h'.get? a=some q) (new:aT X.prog X.w (upd H a ob) h' a ob) :
  Inv X aa σ (upd H a ob) { s with heap:=h',toks:=t' } :=
 I.write (x:=a) (e:=a) mu (.inl rfl) (λb q hb z=>(hs.2 b hb).trans z) he new
theorem J1 {h':Heap}{kvs:LK}{vs:List (Key×Value)} (z:kvs.length<=sizeLine) (hd:(a==sysModules)=false) (rel:KV kvs vs) (dd:h'.DictOf (Af P w) a vs) :
  aT P w H' h' a (.dK kvs):=⟨z,hd,vs,rel,dd⟩
theorem PB {Q:Unit->W4->Prop} (hu:A.units+1<cLine) (I:Inv X aa σ H s) (g:DPut H a y v H') (ry:RelV y u) (rv:RelV v r) (h:∀s',Inv X aa σ H' s'->Q () s') :
  wpAny (model X.prog X.w) A (setItem (.ref a) u r) Q E s:=by
 rcases g with⟨kvs,k,e,ey,l,eH⟩ |⟨kvs,k,b,e,ey,eb,l,eH⟩
 ·subst ey eH;obtain⟨z,hd,vs,rel,dd⟩:=OG I.aE e;have hz:vs.length<=sizeLine:=by rw[←rel.length];exact z
  have hl:(CO kvs k v).length<=sizeLine:=by have:=CP kvs k v;omega
  refine wpAny_setItem_pairs (hsz:=hz) (En ry) dd λh' gF hs=>h _ ?_;have he:∃q,h'.get? a=some q:=let ⟨q,_,_,hq,_⟩:=gF;⟨q,hq⟩
  exact Ee I (by rw[e];exact True.intro) hs he (J1 hl hd (rel.put k rv) gF)
 ·subst ey eH;cases (show u=Value.ref b from ry);obtain⟨z,hd,xs,rel,dd⟩:=V3 I.aE e;have hz:xs.length<=sizeLine:=by rw[←Paired.length rel];exact z
  have hl:(CO kvs k v).length<=sizeLine:=by have:=CP kvs k v;omega
  refine wpAny_setItem_heap (hsz:=hz) (tupleKind_room_in1 hu) (GH I.aE eb) dd λh' gF hs=>h _ ?_;obtain⟨q,es,ep,hq,h2,h3,h4,_,h5⟩:=gF;refine Ee I (by rw[e];exact True.intro) hs ⟨q,hq⟩ ⟨hl,hd,_,(rel.put k eb rv).keeps λc ys ec=>?_,q,es,ep,hq,h2,h3,h4,h5⟩;rw[AH (QS ec e (λz=>nomatch z))];exact ec
end
def V4 (i:Expr):Prop:=∀ov iv,subscripted i false ov iv=operate [ov,iv] (getItem ov iv)
theorem S8 {prog:Program}{env:Env}{value slice:Expr}{T id:String}{Q:VS}
  (hl:typeLookup (.type T) "__getitem__" = pure (some (.builtin id))) (hs:V4 slice)
  (h:wpAny (model prog w) A (eval value env) (λo aI=>wpAny (model prog w) A (eval slice env) (λi s₂=>s₂.TypeIs o T/\wpAny (model prog w) A (getItem o i) Q E s₂) E aI) E s) :
  wpAny (model prog w) A (eval (.Subscript value slice pos) env) Q E s:=by
 refine Subscript_ (Zu h (λo aI eO=>Zu eO (λi s₂ h₂=>?_) λ_ _ x=>x) λ_ _ x=>x);obtain⟨hT,h₂⟩:=h₂;unfold subscriptTail;refine Zw ?_;rw[getitemInPython_of_ne hT.not_modules];refine Zw (wpAny_specialOf hT hl ?_)
 have fin:wpAny (model prog w) A (subscripted slice false o i) (λr s₃=>wpAny (model prog w) A (letTemporaryGo value o r >>= λ_=>pure r) Q E s₃) E s₂:=by
  rw[hs o i];exact wpAny_operating (Zu h₂ (λr s₃ h₃=>Zw (wpAny_letTemporaryGo (Zv h₃))) λ_ _ x=>x)
 first
  |exact Zv (Zw fin)
  |exact Zw (Zv (Zw fin))
  |exact Zw fin
theorem K1 {y:V}{o:Option V} (I:Inv X aa σ H s) (g:Ir H a y o):s.TypeIs (.ref a) "dict" := by
 rcases g with⟨kvs,k,e,_,_⟩ |⟨kvs,k,b,e,_,_,_⟩
 ·obtain⟨_,_,vs,_,dd⟩:=DQ I.aE e;exact dd.typeIs
 ·obtain⟨_,_,xs,_,dd⟩:=Hl I.aE e;exact dd.typeIs
inductive ExD (x:V) (H:Hp) (y:V) (k:V->Prop):Prop where
 |mk (a:W3) (v:V) (h1:x=.ref a) (h2:Ir H a y (some v)) (q:k v):ExD x H y k
def V5 (td ty:TE):TE:=λσ H Q=>td σ H λx H1=>ty σ H1 λy H2=>ExD x H2 y λv=>Q v H2
def Wg (ty td:TE):TE:=λσ H Q=>ty σ H λy H1=>td σ H1 λx H2=>∃a o,x=.ref a/\Ir H2 a y o/\Q (.bl o.isSome) H2
def S9 (ty td:TE):TE:=λσ H Q=>ty σ H λy H1=>td σ H1 λx H2=>∃a o,x=.ref a/\Ir H2 a y o/\Q (.bl (!o.isSome)) H2
def V6 (td ty tv:TE):TS:=λD σ H=>tv σ H λv H1=>td σ H1 λx H2=>ty σ H2 λy H3=>∃a H4,x=.ref a/\DPut H3 a y v H4/\D.nx σ H4
section
variable {o i value:Expr}{pos' tpos:Pos}{td ty tv:TE}
theorem Bs (hu:X.A.units+1<cLine) (ho:PE X o td) (hi:PE X i ty) (hs:V4 i):PE X (.Subscript o i pos) (V5 td ty):=by
 intro aa s σ H Q I h;refine S8 PySem.F.slot_dict_getitem.lookup hs (aL (ho aa s σ H _ I h) λu s1 ⟨x,H1,I1,rx,q1⟩=>aL (hi aa s1 σ H1 _ I1 q1) λiv s2 ⟨y,H2,I2,ry,a,v,ex,g,q2⟩=>?_);subst ex;obtain rfl:u=Value.ref a:=rx;exact⟨K1 I2 g,O8 hu I2 g ry λw' s3 I3 gB=>⟨v,H2,I3,gB,q2⟩⟩
theorem Hm (hu:X.A.units+1<cLine) (hi:PE X i ty) (ho:PE X o td):PC X .In i o (Wg ty td):=by
 intro aa s σ H Q I h;refine aL (hi aa s σ H _ I h) λiv s1 ⟨y,H1,I1,ry,q1⟩=>aL (ho aa s1 σ H1 _ I1 q1) λu s2 ⟨x,H2,I2,rx,a,ov,ex,g,q2⟩=>?_;subst ex;obtain rfl:u=Value.ref a:=rx;exact We hu I2 g ry λs3 I3=>⟨.bl ov.isSome,H2,I3,Zj,q2⟩
theorem PD (hu:X.A.units+1<cLine) (hi:PE X i ty) (ho:PE X o td):PC X .NotIn i o (S9 ty td):=by
 intro aa s σ H Q I h;refine aL (hi aa s σ H _ I h) λiv s1 ⟨y,H1,I1,ry,q1⟩=>aL (ho aa s1 σ H1 _ I1 q1) λu s2 ⟨x,H2,I2,rx,a,ov,ex,g,q2⟩=>?_;subst ex;obtain rfl:u=Value.ref a:=rx;exact S7 hu I2 g ry λs3 I3=>⟨.bl (!ov.isSome),H2,I3,Zj,q2⟩
theorem J3 (hu:X.A.units+1<cLine) (ho:PE X o td) (hi:PE X i ty) (hv:PE X value tv) (hs:swapsWith value (some (.Subscript o i pos')) pos.line X.env=pure false) :
  PS X (.Assign [.Subscript o i pos'] value pos) (V6 td ty tv):=by
 intro aa s σ H D I h;refine wpAny_Assign_Subscript (aL (hv aa s σ H _ I h) λr s1 ⟨v,H1,I1,rv,q1⟩=>aL (ho aa s1 σ H1 _ I1 q1) λu s2 ⟨x,H2,I2,rx,q2⟩=>aL (hi aa s2 σ H2 _ I2 q2) λiv s3 ⟨y,H3,I3,ry,a,H4,ex,g,q3⟩=>?_) hs;subst ex;obtain rfl:u=Value.ref a:=rx;exact PB hu I3 g ry rv λs4 I4=>⟨σ,H4,I4,q3⟩
end
theorem Hn (h:Heap) (hb:sysModules<h.objs.size):aT P w H (h.push { cls:=.type "dict", data:=.dict #[] }) h.objs.size (.dK []) :=
 ⟨Nat.zero_le _,beq_eq_false_iff_ne.mpr (Ne.symm (ZE hb)),[],.nil,Heap.DictOf.new h⟩
def Um:TE:=λ_ H Q=>∀p,H p=none->Q (.ref p) (upd H p (.dK []))
section
theorem FW:PE X (.Dict [] [] pos) Um:=λaa s σ H Q I h =>
 wpAny_Dict_empty ⟨.ref s.heap.objs.size,_,I.laid (a:=s.heap.objs.size) (o:=.dK []) (t':=s.toks) (λ_ _ q=>ZY _ q) (Zx _) (Hn s.heap I.big),rfl,h _ (I.aE.fresh (Zx _))⟩
end
def M0:List (TE×TE)->St->Hp->(List (V×V)->Hp->Prop)->Prop
  | [],_,H,Q=>Q [] H
  | (tk,tv)::r,σ,H,Q=>tk σ H λx H1=>tv σ H1 λy H2=>M0 r σ H2 λps H3=>Q ((x,y)::ps) H3
abbrev VV:List (V×V)->List (Value×Value)->Prop:=Paired λp q=>RelV p.1 q.1/\RelV p.2 q.2
def PPs (X:Cx) (pos:Pos) (keys:List (Option Expr)) (values:List Expr) (iI:List (TE×TE)):Prop :=
 ∀(aa:LO) (s:W4) (σ:St) (H:Hp) (Q:List (V×V)->Hp->Prop),Inv X aa σ H s->M0 iI σ H Q ->
  wpAny (model X.prog X.w) X.A (evalPairs (pairTrees keys values X.env pos)) (λvs s'=>∃ps H',Inv X aa σ H' s'/\VV ps vs/\Q ps H') X.xe s
theorem TB:PPs X pos [] [] []:=λaa s σ H Q I h=>pairTrees_nil_walk ⟨[],H,I,.nil,h⟩
theorem FX {k v:Expr}{ks:List (Option Expr)}{vs:List Expr}{tk tv:TE}{iI:List (TE×TE)} (hk:PE X k tk) (hv:PE X v tv) (hr:PPs X pos ks vs iI) :
  PPs X pos (some k::ks) (v::vs) ((tk,tv)::iI):=λaa s σ H Q I h =>
 pairTrees_cons_walk (aL (hk aa s σ H _ I h) λu s1 ⟨x,H1,I1,rx,q1⟩=>aL (hv aa s1 σ H1 _ I1 q1) λw2 s2 ⟨y,H2,I2,ry,q2⟩ =>
  aL (hr aa s2 σ H2 _ I2 q2) λws s3 ⟨ps,H3,I3,rel,q3⟩=>⟨(x,y)::ps,H3,I3,.cons ⟨rx,ry⟩ rel,q3⟩)
noncomputable def GJ (kvs more:LK):LK:=more.foldl (λacc kv=>CO acc kv.1 kv.2) kvs
theorem KV.merge:∀ {more:LK}{rs:List (Key×Value)}{kvs:LK}{vs:List (Key×Value)},KV more rs->KV kvs vs->KV (GJ kvs more) (merged vs rs):=by
 intro more rs kvs vs r;unfold KV at r;induction r generalizing kvs vs with
 |nil=>intro q;exact q
 | @cons p q ps qs h t ih =>
  intro r0
  have e:KV (CO kvs p.1 p.2) (stored vs q.1 q.2):=by
   have:=r0.put p.1 h.2;rw[←h.1];exact this
  exact ih e
theorem Eo:∀(more kvs:LK),(GJ kvs more).length<=kvs.length+more.length
 | [],kvs=>by show kvs.length<=kvs.length+0;omega
 |p::r,kvs=>by
  have h1:=Eo r (CO kvs p.1 p.2);have h2:=CP kvs p.1 p.2;show(GJ (CO kvs p.1 p.2) r).length<=_;rw[length_cons];omega
theorem Ho {P:Program}{w:World}:∀ {kvs:LK}{ws:List (Value×Value)},VV (kvs.map λkv=>(kV kv.1,kv.2)) ws->∃rs,Carries (Af P w) ws rs/\KV kvs rs
 | [],_,r=>by rw[map_nil]at r;cases r;exact⟨[],True.intro,.nil⟩
 |p::kvs,_,r=>by
  rw[map_cons]at r;cases r with
  | @cons a b as bs h t =>
   obtain⟨rs,c,q⟩:=Ho (P:=P) (w:=w) t;obtain⟨b1,b2⟩:=b;exact⟨(p.1,b2)::rs,⟨En h.1,Zj,c⟩,.cons ⟨Zj,h.2⟩ q⟩
def V7 (iI:List (TE×TE)):TE:=λσ H Q=>∀p,H p=none->M0 iI σ (upd H p (.dK [])) λps H2=>H2 p=some (.dK [])/\∃kvs:LK,ps=kvs.map (λkv=>(kV kv.1,kv.2))/\kvs.length<=15/\Q (.ref p) (upd H2 p (.dK (GJ [] kvs)))
theorem TC {keys:List (Option Expr)}{values:List Expr}{iI:List (TE×TE)} (h:PPs X pos keys values iI) (bx:keys.all (·.isSome)=true) (hl:keys.length=values.length) (h0:keys≠ [])
  (h15:keys.length<=15):PE X (.Dict keys values pos) (V7 iI):=by
 intro aa s σ H Q I q;have hn:=I.aE.fresh (Zx s.heap.objs.size);have I1:=I.laid (a:=s.heap.objs.size) (o:=.dK []) (h':=s.heap.push { cls:=.type "dict", data:=.dict #[] }) (t':=s.toks) (λ_ _ q=>ZY _ q) (Zx _) (Hn s.heap I.big);refine wpAny_Dict_walk (knd:=Af X.prog X.w) bx hl h0 h15 (aL (h aa _ σ _ _ I1 (q _ hn)) λws s2 ⟨ps,H2,I2,rel,e,kvs,ep,lk,q2⟩=>?_);subst ep;obtain⟨rs,c,rk⟩:=Ho (P:=X.prog) (w:=X.w) rel;obtain⟨z,hd,vs0,r0,dd⟩:=OG I2.aE e;cases r0;refine⟨rs,c,dd,λh' gF hs=>⟨.ref s.heap.objs.size,_,?_,Zj,q2⟩⟩
 have hz:(GJ [] kvs).length<=sizeLine:=by
  have h1:=Eo kvs [];rw[length_nil]at h1;rw[sizeLine_eq];omega
 have he:∃q,h'.get? s.heap.objs.size=some q:=let ⟨q,_,_,hq,_⟩:=gF;⟨q,hq⟩
 exact Ee I2 (by rw[e];exact True.intro) hs he (J1 hz hd (rk.merge .nil) gF)
structure M1 (X:Cx) (o:Expr) (m:Str) (apos:Pos) (e:Expr) (bZ:Pos):Prop where
 base:attributeBase o m X.env (eval o X.env)=eval o X.env
 few:((backTo bZ (starEach [e] X.env)).all (λx=>!x.1)&&(backToKw bZ (keywordEach [] X.env)).all (λx=>x.1.isSome)
  && decide (([e]:List Expr).length+([]:List Keyword).length+(if ([]:List Keyword).isEmpty then 0 else 1)<30))=true
 line:(apos.endLine==bZ.line)=true
 trees:backTo bZ (starEach [e] X.env)=[(false,eval e X.env)]
def IsD (H:Hp) (a:W3):Prop:=(∃kvs,Rd H a (.dK kvs))\/∃kvs,Rd H a (.dT kvs)
theorem M6 (I:Inv X aa σ H s) (d:IsD H a) :
  s.TypeIs (.ref a) "dict" /\ (∀b,Value.ref a=.ref b->∃ob,s.heap.get? b=some ob/\ob.dict=none)/\(a==sysModules)=false:=by
 rcases d with⟨kvs,e⟩ |⟨kvs,e⟩
 ·obtain⟨_,hd,vs,_,dd⟩:=DQ I.aE e;refine⟨dd.typeIs,λb q=>?_,hd⟩;cases q;obtain⟨ob,_,_,h1,h2,_⟩:=dd;exact⟨ob,h1,h2.2.1⟩
 ·obtain⟨_,hd,xs,_,dd⟩:=Hl I.aE e;refine⟨dd.typeIs,λb q=>?_,hd⟩;cases q;obtain⟨ob,_,_,h1,h2,_⟩:=dd;exact⟨ob,h1,h2.2.1⟩
section
variable {y d:V}{r:Value}{o:Option V}
theorem Uo {Q:VS} (hu:A.units+1<cLine) (I:Inv X aa σ H s) (g:Ir H a y o) (ry:RelV y u) (h:∀w' s',Inv X aa σ H s'->RelV (o.getD .aK) w'->Q w' s') :
  wpAny (model X.prog X.w) A (call (.builtin "dict.get") [.ref a,u]) Q E s:=by
 rcases g with⟨kvs,k,e,ey,l⟩ |⟨kvs,k,b,e,ey,eb,l⟩
 ·subst ey;obtain⟨z,hd,vs,rel,dd⟩:=DQ I.aE e;refine call_meetsIn PySem.F.slot_dict_get dd.typeIs PySem.F.entry_dict_get (PySem.F.args_dict_get_2 _ _) (meets_dict_get (Af X.prog X.w) a (En ry) hd) ⟨_,dd.mapOf,h _ _ (I.tok _) ?_⟩;rw[l];exact(rel.val k).getD rfl
 ·subst ey;cases (show u=Value.ref b from ry);obtain⟨z,hd,xs,rel,dd⟩:=Hl I.aE e;refine call_meetsIn PySem.F.slot_dict_get dd.typeIs PySem.F.entry_dict_get (PySem.F.args_dict_get_2 _ _) (meetsH_dict_get (tupleKind (Af X.prog X.w)) a b hd) ⟨tupleKind_room_in1 hu,k,xs,GH I.aE eb,dd,h _ _ (I.tok _) ?_⟩;rw[l];exact(rel.val k).getD rfl
end
def Up (td ty:TE):TE:=λσ H Q=>td σ H λx H1=>∃a,x=.ref a/\IsD H1 a/\ty σ H1 λy H2=>∃o,Ir H2 a y o/\Q (o.getD .aK) H2
section
variable {o f:Expr}{apos bZ:Pos}{td ty tx:TE}
theorem Qs (hu:X.A.units+1<cLine) (ho:PE X o td) (he:PE X e ty) (m:M1 X o "get" apos e bZ):PE X (.Call (.Attribute o "get" apos) [e] [] bZ) (Up td ty):=by
 intro aa s σ H Q I h;refine wpAny_Call_method m.base m.few m.line PySem.F.plainAttrs_dict PySem.F.slot_dict_get PySem.F.type_dict_get (aL (ho aa s σ H _ I h) λu s1 ⟨x,H1,I1,rx,a,ex,d,q1⟩=>?_);subst ex;obtain rfl:u=Value.ref a:=rx;obtain⟨t1,t2,_⟩:=M6 I1 d;refine⟨t1,t2,?_⟩;rw[m.trees];refine Calls.callWith_builtin Zj (Calls.evalArgs_plain (Calls.spliced_cons (aL (he aa s1 σ H1 _ I1 q1) λiv s2 ⟨y,H2,I2,ry,ov,g,q2⟩=>Calls.spliced_nil ?_)));exact Uo hu I2 g ry λw' s3 I3 gB=>⟨_,H2,I3,gB,q2⟩
end
end L2
namespace Att
open PySem PySem.W PySem.Calls PyProof.Rows
theorem HC {P:Params}:∀(ns:List Int) (vs:Wx),WellAll P h vs (ns.map WData.int)->IntsAre vs ns:=by
 intro ns;induction ns with
 |nil =>
  intro vs w;rw[map_nil]at w;cases w;exact .nil
 |cons n ns ih =>
  intro vs w;rw[map_cons]at w;cases w with
  |cons a b =>
   cases a;exact .cons _ _ (ih _ b)
theorem PF {l:OpenLaw}{n:Nat} (hn:l.most=some n) {P:Params}{args:List WData}{vals:Wx}
    (cc:l.row.toRowW.claim.pre args=true) (hwl:WellAll P h vals args) :
    ∃a vs ns,vals=[Value.ref a]/\args=[WData.list (ns.map WData.int)]/\h.get? a=some { cls:=.type "list", data:=.seq vs.toArray }/\IntsAre vs ns/\ns.length<=n:=by
  have ak:WShape.hasAll [] args [.list .int]=true:=(pre_splitW cc).1;have hc:l.pre.holds [] { args:=args }=true:=(pre_splitW cc).2;obtain⟨d,r,rfl,h1,h2⟩:=hasAllW_cons ak;obtain rfl:=hasAllW_nil h2;obtain⟨xs,rfl,h3⟩:=hasW_list h1;obtain⟨ns,rfl⟩:=items_int h3
  have bh:ns.length<=n:=by
    unfold OpenLaw.pre at hc
    have h4:(WTm.not (.lt (.lit (.int (n:Int))) (.len (.arg 0)))).holds [] { args:=[.list (ns.map .int)] }=true:=by
      have h4:=(holds_andW hc).1;rw[hn]at h4;exact h4
    have h5:=condW_of h4 (w_not (w_lt w_lit (w_len_list (w_arg rfl))));rw[AE]at h5;refine Nat.le_of_not_lt λq=>?_;have q':(n:Int)<((ns.length:Nat):Int):=by omega
    first
      | (rw[ZM q']at h5;exact absurd h5 qc)
      | (simp at h5;omega)
  cases hwl with
  |cons w1 w2 =>
    cases w2;cases w1 with
    |list ho bx=>exact⟨_,_,ns,rfl,rfl,ho,HC ns _ bx,bh⟩
theorem PJ (l:OpenLaw) (args:List WData):l.row.toRowW.claim.post args (.bool true) args=true :=
 postW_of (r:=l.row.toRowW) (X:=(true==true))
  (show WShape.has [] (.bool true) .bool=true by first |rfl |decide |simp[WShape.has,WShape.arms,WShape.armsAll])
  (show(WTm.eq .res (.lit (.bool true))).value [] { args:=args,res:=some (.bool true),after:=args }=some (.bool (true==true))from w_eq_bool (w_res rfl) w_lit) rfl
theorem attach_call {l:OpenLaw}{n:Nat}{q:Program}{loose:Ww}{XP:(Str->Option Value)->Heap->Prop}{YP:World->Heap->Prop}{d:DefRec}
  (hn:l.most=some n) (hdf:d.params.defaults=[])
  (call:∀(w:World) (aX aI:W4) (mg mb:SV) (fa:W3) (o:Obj) (pm cd doc:Value) (a:W3) (vs:Wx) (ns:List Int),
   Ground q loose [] XP w aX mg mb aI.heap->YP w aI.heap ->
   aI.heap.get? fa=some o->o.data=.func (docDef d.name d.params d.body d.scope pm cd doc)->aI.heap.CodeRec cd d.name->mg d.name=some (.ref fa) ->
   aI.heap.get? a=some { cls:=.type "list", data:=.seq vs.toArray }->IntsAre vs ns->ns.length<=n->aI.gens=#[] ->
   codeAny (model l.prog w) callerA (.call (.ref fa) ⟨[.ref a],[]⟩) (λr s'=>r=.ok (.ret (.bool true))/\OldK aI.heap s'.heap/\s'.os=aI.os/\AllBare s'.gens) aI) :
  WalkO q loose XP YP l.row.toRowW d [] (λf vs=>PySem.call f vs):=by
 intro w aX aI mg mb G Y fa o pm cd doc dV kV ho hd eo hD hmg hg args vals as cc hlay hrd hwl hlo;obtain rfl:dV=.none:=Dflts.none hD hdf;obtain rfl:kV=.none:=Dflts.noKw hD;obtain⟨a,vs,ns,rfl,rfl,de,bq,bh⟩:=PF hn cc hwl;refine enter_call (codeAny_mono (call w aX aI mg mb fa o pm cd doc a vs ns G Y ho (fd_plain hd) eo hmg de bq bh hg) λr s' hq=>?_);obtain⟨rfl,h2,h3,h4⟩:=hq;exact⟨.inl ⟨.bool true,.bool true,[],rfl,λ_=>rfl,.bool true,PJ l _,λ_=>⟨List.Pairwise.nil,λ_ hm=>(nomatch hm)⟩⟩,h2,h3,h4⟩
end Att
namespace L2
open PySem PySem.Spec PyProof.Rows
theorem DR:∀ {vs:Wx}{ns:List Int},IntsAre vs ns->Vals (ns.map V.int) vs
 |_,_,.nil=>.nil
 |_,_,.cons n t h=>.cons ⟨t,rfl⟩ (DR h)
noncomputable def inClass (s:Stmt) (j:Nat):Stmt:=match s with
 | .ClassDef _ _ _ body _ _ _ _ _ _ _=>body.getD j (.Pass ⟨0,0,0,0⟩)
 |_=>.Pass ⟨0,0,0,0⟩
noncomputable def defArgs (s:Stmt):Arguments:=match s with
 | .FunctionDef _ a _ _ _ _ _ _ _ _=>a
 |_=>{ posonlyargs:=[],args:=[],vararg:=none,kwonlyargs:=[],kw_defaults:=[],kwarg:=none,defaults:=[] }
noncomputable def defBody (s:Stmt):List Stmt:=match s with
 | .FunctionDef _ _ b _ _ _ _ _ _ _=>b
 |_=>[]
noncomputable def defScope (s:Stmt):Scope:=match s with
 | .FunctionDef _ _ _ _ _ _ sc _ _ _=>sc
 |_=>{ kind:=.function,names:=[],isGenerator:=false,isCoroutine:=false }
abbrev aP:fJ:=λ_ _ _ _ _ _=>False
abbrev E0:XK:=λ_ _ _=>False
theorem AL:Be aP X E0:=λ_ _ _ _ _ _ _ h=>h.elim
structure aZ (K:FG) (x qual:Str) (st:Stmt) (f:W3) (fd:FuncData):Prop where
 ex:∃(oc:Value) (od:Option W3) (kV doc pm:Value) (an:Option W3) (ae ct:Value) (eV:Array (Option Value)),
  fd=W.fnOf x qual (defArgs st) (defBody st) (defScope st) .none kV doc pm an ae ct/\K.lookup f=some ⟨oc,od,.func fd,eV⟩/\W.codeIn K ae qual=true
 kp:W.keepIn K (.ref f)=true
section
theorem aZ.ok {qual:Str}{st:Stmt}{fd:FuncData}{ps:Ww}{k:Nat}{sp:Sp} (F:aZ K x qual st f fd) (S:AK N ps (defScope st)) (len:∀vs H Q E,sp vs H Q E->vs.length=ps.length)
  (bn:∀(ae:Value) (A:Around) (outer:List Env) (s:W4) (H:Hp) (vs:Wy) (Q:VK) (E:XK),aH k (A.deeper (envOfC qual (defScope st) s.heap.objs.size f ae))->sp vs H Q E ->
   ∃t,dP (BF aP P w K mg base N qual (defScope st) f ae A outer s H E).fY (defBody st) t/\t { nx:=λ_ H'=>Q .aK H',rt:=Q } (Bo N vs) H):aD P w K mg base aP (k+1) f fd ps sp:=by
 obtain⟨oc,od,kV,doc,pm,an,ae,ct,eV,rfl,lk,eo⟩:=F.ex;refine Kz lk eo S len λA outer s H vs Q E hr fv=>?_;obtain⟨t,h,q⟩:=bn ae A outer s H vs Q E hr fv;exact⟨t,h.fY,q⟩
structure BdC (P:Program) (w:World) (K:FG) (mg:SV) (base:Heap) (f:W3) (qual:Str) (st:Stmt) (N ps:Ww) (k:Nat) (vs:Wy) (H:Hp) (Q:VK) (E:XK):Prop where
 len:vs.length=ps.length
 ok:∀(ae:Value) (A:Around) (outer:List Env) (s:W4),aH k (A.deeper (envOfC qual (defScope st) s.heap.objs.size f ae)) ->
  ∃t,dP (BF aP P w K mg base N qual (defScope st) f ae A outer s H E |>.fY) (defBody st) t/\t { nx:=λ_ H'=>Q .aK H',rt:=Q } (Bo N vs) H
theorem aZ.m {qual:Str}{st:Stmt}{fd:FuncData}{ps:Ww}{k:Nat}{sp:Sp} (F:aZ K x qual st f fd) (S:AK N ps (defScope st)) (h:∀vs H Q E,sp vs H Q E->BdC P w K mg base f qual st N ps k vs H Q E) :
  aD P w K mg base aP (k+1) f fd ps sp:=F.ok S (λvs H Q E q=>(h vs H Q E q).len) λc A o s H vs Q E r q=>(h vs H Q E q).ok c A o s r
theorem aZ.binds {qual:Str}{st:Stmt}{fd:FuncData}{ps:Ww} (F:aZ K x qual st f fd)
  (h:∀(kV doc pm:Value) (an:Option W3) (ae ct:Value) (us:Wx),us.length=ps.length->bindArgs (W.fnOf x qual (defArgs st) (defBody st) (defScope st) .none kV doc pm an ae ct) ⟨us,[]⟩=pure (ps.zip us)):Binds K fd ps []:=by
 obtain⟨oc,od,kV,doc,pm,an,ae,ct,eV,rfl,lk,eo⟩:=F.ex;exact .all (h kV doc pm an ae ct)
theorem fun_mk {qual:Str}{st:Stmt}{oc:Value}{od an:Option W3}{eV:Array (Option Value)}{kV doc pm ae ct:Value} (l:K.lookup f=some ⟨oc,od,.func (W.fnOf x qual (defArgs st) (defBody st) (defScope st) .none kV doc pm an ae ct),eV⟩)
  (c:W.codeIn K ae qual=true) (k:W.keepIn K (.ref f)=true):aZ K x qual st f (W.fnOf x qual (defArgs st) (defBody st) (defScope st) .none kV doc pm an ae ct):=⟨⟨oc,od,kV,doc,pm,an,ae,ct,eV,rfl,l,c⟩,k⟩
end
theorem Ca {k:Nat} (hr:aH k A):A.units+1<cLine:=Nat.lt_of_le_of_lt (Nat.add_le_add_left (by decide:1<=64) _) hr.units
theorem Ac {n:Nat} (h:n<=1000):n<sizeLine:=Nat.lt_of_le_of_lt h qc
section
theorem pv (i:Nat) (hN:X.N[i]?=some x:=by rfl) (hv:Vis X.env.scope x:=by first |exact Or.inl rfl |exact Or.inr (Or.inl rfl) |exact Or.inr (Or.inr rfl)) (hd:(x==("__debug__" : Str))=false:=by decide)
  (eo:(x==("__classdict__" : Str))=false:=by decide):PE X (.Name x pos) (D9 i):=QU hN hv hd eo
end
theorem An {A B:Prop} (h:B):if false=true then A else B:=by
 rw[Zp Bool.false_ne_true];exact h
theorem Ay {A B:Prop} (h:A):if true=true then A else B:=by
 rw[Zo rfl];exact h
theorem BI {c A B:Prop} [Decidable c] (h1:c->A) (h2:¬ c->B):if c then A else B:=by
 by_cases h:c
 ·rw[Zo h];exact h1 h
 ·rw[Zp h];exact h2 h
theorem K2 {c A B:Prop} [Decidable c] (hc:c) (h:B):if (!decide c)=true then A else B:=by
 rw[ZM hc];exact An h
def aA (H H':Hp):Prop:=∀b o,H b=some o->H' b=some o
theorem aA.refl (H:Hp):aA H H:=λ_ _ h=>h
theorem aA.trans {H1 H2:Hp} (a:aA H H1) (b:aA H1 H2):aA H H2:=λc o h=>b c o (a c o h)
theorem aA.seq (e:aA H H') (h:aJ K H a xs):aJ K H' a xs:=by
 rcases h with (h |⟨o,h⟩) |h
 ·exact .inl (.inl (e _ _ h))
 ·exact .inl (.inr ⟨o,e _ _ h⟩)
 ·exact .inr h
section
variable {κ:Type} [DecidableEq κ]
theorem TD {kvs:List (κ×V)}{k:κ}{v:V} (h:BK kvs k=some v):k∈kvs.map (·.1):=by
 have q:(kvs.any λkv=>decide (kv.1=k))=true:=by
  rw[FV,h]
  all_goals rfl
 obtain⟨p,hp,e⟩:=any_eq_true.mp q;exact Zq.mpr ⟨p,hp,ZW e⟩
theorem OH:∀ {l:List κ}{k:κ},l.Nodup->¬ k∈l->(l++[k]).Nodup
 | [],k,_,_=>by simp
 |a::r,k,h,hk=>by
  obtain⟨h1,h2⟩:=Zr.mp h;show(a::(r++[k])).Nodup;refine Zr.mpr ⟨λm=>?_,OH h2 λm=>hk (mem_cons.mpr (Or.inr m))⟩;rcases mem_append.mp m with q |q
  ·exact h1 q
  ·exact hk (mem_cons.mpr (Or.inl (ZI.mp q).symm))
end
end L2
end
section
variable {X:L2.Cx}{H:L2.Hp}{H':L2.Hp}{s:PySem.Shared}{pos:PySem.Pos}{σ:L2.St}{P:PySem.Program}{w:PySem.World}{A:PySem.Around}{aa:LO}{x:PySem.Str}{a:PySem.Addr}{K:FG}{C:PySem.Addr}{E:VS}{h:PySem.Heap}{us:List PySem.Value}{f:PySem.Addr}{u:PySem.Value}{xs:List L2.V}{e:PySem.Expr}{te:L2.TE}{base:PySem.Heap}{N:List PySem.Str}{mg:SV}
section
namespace L2
open PySem PySem.Spec PyProof.Rows
theorem Inv.track {o:HO} (I:Inv X aa σ H s) (hn:H a=none) (hL:a≠X.env.locals) (h1:a∈X.ex\/X.aX.heap.objs.size<=a)
  (h2:∀x c,X.env.cells.lookup x=some c->c≠a) (h3:∀p∈X.pn++aa,p.1≠a) (new:aT X.prog X.w (upd H a o) s.heap a o):Inv X aa σ (upd H a o) s:=by
 have bc:∀b u,H b=some u->b≠a:=λb u e=>AJ e hn
 refine I.step (h':=s.heap) (H':=upd H a o) (g':=s.gens) (t':=s.toks) (d':=s.drawn) (ch:=[a])
  (λb hb=>by have e:b=a:=by simpa using hb
             subst e;exact⟨h1,hL,h2,h3⟩)
  (λb o _ _ _ e _=>e) (λb o _ _ _ e _=>⟨o.slots,e⟩) (λb o hc e n=>by rw[AH (by simpa using hc)];exact n)
  (λb o _ e=>⟨o,e⟩) (λb xs e=>by rw[AH (bc b _ e)];exact e) (λb o u e=>by rw[AH (bc b _ e)];exact e)
  (λb ps e=>⟨#[],by rw[AH (bc b _ e),e];simp⟩) (λm h=>h) (λb u e=>?_) I.bare
 by_cases hb:b=a
 ·subst hb;rw[AB]at e;cases e;exact new
 ·rw[AH hb]at e;exact(I.aE b u e).eG (λc v _ q=>q) (λc q=>by rw[AH (bc c _ q)];exact q) λc xs q=>by rw[AH (bc c _ q)];exact q
structure aY (jc sc:Scope) (N N':Ww) (ix:List (Option Nat)):Prop where
 kind:sc.kind=.function
 nocell:∀y∈sc.names,y.2≠ .cell
 free:∀y∈sc.names,y.2=.free->jc.names.lookup y.1=some .cell\/jc.names.lookup y.1=some .free
 loc:∀y∈sc.names,y.2=.local->sc.names.lookup y.1=some .local
 len:ix.length=N'.length
 slot:∀(j:Nat) (x:Str) (i:Nat),N'[j]?=some x->ix[j]?=some (some i)->N[i]?=some x/\sc.names.lookup x=some .free
noncomputable def US (sc:Scope) (N:Ww) (x:Str):Option Nat->Bool
 |none=>true
 |some i=>decide (N[i]?=some x)&&decide (sc.names.lookup x=some .free)
noncomputable def Di (sc:Scope) (N:Ww):Ww->List (Option Nat)->Bool
 | [],[]=>true
 |x::r,o::os=>US sc N x o&&Di sc N r os
 |_,_=>false
noncomputable def Hq (jc sc:Scope) (N N':Ww) (ix:List (Option Nat)):Bool :=
 decide (sc.kind=.function)&&(sc.names.all λy=>decide (y.2≠ .cell)&&(decide (y.2≠ .free) ||decide (jc.names.lookup y.1=some .cell) ||decide (jc.names.lookup y.1=some .free)) &&
  (decide (y.2≠ .local) ||decide (sc.names.lookup y.1=some .local)))&&Di sc N N' ix
theorem Hr {sc:Scope}{N:Ww}:∀ {N':Ww}{ix:List (Option Nat)},Di sc N N' ix=true->ix.length=N'.length
 | [],[],_=>rfl
 | [],_::_,h=>by simp[Di]at h
 |_::_,[],h=>by simp[Di]at h
 |x::r,o::os,h=>by
  simp only[Di,Bool.and_eq_true]at h;simp only[length_cons,Hr h.2]
theorem JP {sc:Scope}{N:Ww}:∀ {N':Ww}{ix:List (Option Nat)},Di sc N N' ix=true->∀(j:Nat) (x:Str) (i:Nat),N'[j]?=some x->ix[j]?=some (some i)->N[i]?=some x/\sc.names.lookup x=some .free
 | [],_,_,_,_,_,e,_=>by simp at e
 |_::_,[],h,_,_,_,_,_=>by simp[Di]at h
 |y::r,o::os,h,j,x,i,e1,e2=>by
  simp only[Di,Bool.and_eq_true]at h;cases j with
  |zero =>
   simp only[List.getElem?_cons_zero,Option.some.injEq]at e1 e2;subst e1 e2;have h1:=h.1;simp only[US,Bool.and_eq_true,decide_eq_true_eq]at h1;exact h1
  |succ j =>
   simp only[List.getElem?_cons_succ]at e1 e2;exact JP h.2 j x i e1 e2
theorem aY.of {jc sc:Scope}{N':Ww}{ix:List (Option Nat)} (h:Hq jc sc N N' ix=true):aY jc sc N N' ix:=by
 simp only[Hq,Bool.and_eq_true,decide_eq_true_eq,List.all_eq_true,Bool.or_eq_true]at h;obtain⟨⟨h1,h2⟩,h3⟩:=h;refine⟨h1,λy hy=>(h2 y hy).1.1,λy hy e=>?_,λy hy e=>?_,Hr h3,JP h3⟩
 ·rcases (h2 y hy).1.2 with (z |z) |z
  ·exact absurd e z
  ·exact .inl z
  ·exact .inr z
 ·rcases (h2 y hy).2 with z |z
  ·exact absurd e z
  ·exact z
noncomputable abbrev Ex (env:Env):Str×NameKind->Str×NameKind:=λ(n,k)=>if (k==NameKind.free&&env.scope.kind == .function&&env.kindOf n==some .cell)then (n,NameKind.cell)else (n,k)
theorem K3 (env:Env) (y:Str×NameKind):(Ex env y).1=y.1:=by
 obtain⟨n,k⟩:=y;simp only[Ex];split <;> rfl
theorem PL (env:Env) (n:Str):(Ex env (n,.free)).2=.cell\/(Ex env (n,.free)).2=.free:=by
 simp only[Ex];split
 ·exact .inl rfl
 ·exact .inr rfl
theorem TF (env:Env) (y:Str×NameKind) (h:y.2≠ .free):Ex env y=y:=by
 obtain⟨n,k⟩:=y;have e:(k==NameKind.free)=false:=by simpa using h
 simp only[Ex,e,Bool.false_and,Bool.false_eq_true,if_false]
theorem Ep {env:Env}:∀ {names:List (Str×NameKind)}{x:Str},names.lookup x=some .free->(names.map (Ex env)).lookup x=some .cell\/(names.map (Ex env)).lookup x=some .free
  | [],_,h=>by simp at h
  | (n,k)::r,x,h=>by
    rw[map_cons]
    have e:Ex env (n,k)=(n,(Ex env (n,k)).2):=by
      have:=K3 env (n,k);exact Prod.ext this rfl
    rw[e];cases hx:x==n with
    |true =>
      simp only[Zy,hx]at h ⊢;cases h;rcases PL env n with z |z
      · rw[z];exact .inl rfl
      · rw[z];exact .inr rfl
    |false =>
      simp only[Zy,hx]at h ⊢;exact Ep h
theorem Gz {env:Env}:∀ {names:List (Str×NameKind)}{x:Str},(∀y∈names,y.2≠ .cell)->((names.map (Ex env)).lookup x=some .cell\/(names.map (Ex env)).lookup x=some .free)->(x,NameKind.free)∈names
  | [],_,_,h=>by simp at h
  | (n,k)::r,x,hc,h=>by
    rw[map_cons]at h;have e:Ex env (n,k)=(n,(Ex env (n,k)).2):=Prod.ext (K3 env (n,k)) rfl;rw[e]at h;cases hx:x==n with
    |true =>
      simp only[Zy,hx]at h;have exn:x=n:=by simpa using hx
      subst exn;by_cases hk:k=.free
      · subst hk;exact ZK
      · rw[TF env (x,k) hk]at h
        rcases h with z |z
        · have:k=.cell:=by simpa using z
          exact absurd this (hc (x,k) ZK)
        · have:k=.free:=by simpa using z
          exact absurd this hk
    |false =>
      simp only[Zy,hx]at h;exact ZS _ (Gz (λy hy=>hc y (ZS _ hy)) h)
theorem J4 {env:Env}{f:Str×NameKind->List (Str×W3)->Sem (ForInStep (List (Str×W3)))}
  (h1:∀y acc,y.2≠ .free->f y acc=pure (.yield acc)) (h2:∀y acc c,y.2=.free->env.cells.lookup y.1=some c->f y acc=pure (.yield ((y.1,c)::acc))) :
  ∀(names:List (Str×NameKind)) (acc:List (Str×W3)),(∀y∈names,y.2=.free->∃c,env.cells.lookup y.1=some c)->(∀x c,acc.lookup x=some c->env.cells.lookup x=some c) ->
   ∃cl,forIn names acc f=(pure cl:Sem _)/\(∀x c,cl.lookup x=some c->env.cells.lookup x=some c)/\(∀y∈names,y.2=.free->∃c,cl.lookup y.1=some c)/\∀x c,acc.lookup x=some c->∃c',cl.lookup x=some c'
 | [],acc,_,ha=>⟨acc,rfl,ha,λ_ hy=>(nomatch hy),λx c e=>⟨c,e⟩⟩
 |y::r,acc,hn,ha=>by
  have hr:∀z∈r,z.2=.free->∃c,env.cells.lookup z.1=some c:=λz hz=>hn z (ZS _ hz);by_cases hy:y.2=.free
  ·obtain⟨c,hc⟩:=hn y ZK hy
   obtain⟨cl,e,p1,p2,p3⟩:=J4 h1 h2 r ((y.1,c)::acc) hr λx d e=>by
    cases hx:x==y.1 with
    |true =>
     simp only[Zy,hx,Option.some.injEq]at e;have:x=y.1:=by simpa using hx
     rw[this,←e];exact hc
    |false =>
     simp only[Zy,hx]at e;exact ha x d e
   refine⟨cl,by rw[List.forIn_cons,h2 y acc c hy hc,pure_bind];exact e,p1,λz hz hf=>?_,λx d e=>?_⟩
   ·rcases mem_cons.mp hz with rfl |hz
    ·exact p3 z.1 c (by simp[Zy])
    ·exact p2 z hz hf
   ·cases hx:x==y.1 with
    |true=>exact p3 x c (by simp[Zy,hx])
    |false=>exact p3 x d (by simp only[Zy,hx];exact e)
  ·obtain⟨cl,e,p1,p2,p3⟩:=J4 h1 h2 r acc hr ha;refine⟨cl,by rw[List.forIn_cons,h1 y acc hy,pure_bind];exact e,p1,λz hz hf=>?_,p3⟩;rcases mem_cons.mp hz with rfl |hz
   ·exact absurd hf hy
   ·exact p2 z hz hf
theorem TH {env:Env}{scope:Scope} (hn:∀y∈scope.names,y.2=.free->∃c,env.cells.lookup y.1=some c) :
  ∃cl,closureFor scope env=pure cl/\(∀x c,cl.lookup x=some c->env.cells.lookup x=some c)/\∀y∈scope.names,y.2=.free->∃c,cl.lookup y.1=some c:=by
 obtain⟨cl,e,p1,p2,_⟩:=J4 (env:=env) (f:=λ(x:Str×NameKind) (r:List (Str×W3))=>if (x.2==NameKind.free)=true then (cellOf env x.1 >>= λa=>pure (ForInStep.yield ((x.1,a)::r)))else pure (ForInStep.yield r)) (λy acc hy=>by
  have:(y.2==NameKind.free)=false:=by simpa using hy
  rw[this,Zp Bool.false_ne_true]) (λy acc c hy hc=>by
  have h0:(y.2==NameKind.free)=true:=by rw[hy];rfl
  rw[Zo h0];simp only[cellOf,hc]
  rfl) scope.names [] hn λx c e=>by simp at e
 refine⟨cl,?_,p1,p2⟩;have e0:closureFor scope env=(forIn scope.names [] (λ(x:Str×NameKind) (r:List (Str×W3))=>if (x.2==NameKind.free)=true then (cellOf env x.1 >>= λa=>pure (ForInStep.yield ((x.1,a)::r)))else pure (ForInStep.yield r)) >>= λcs=>pure cs):=rfl;rw[e0,e];rfl
noncomputable def Ar (X:Cx) (N':Ww) (scope:Scope) (cl:List (Str×W3)) (s:W4) (H:Hp) (C:W3) (fp:List W3) (pn:LO):Cx where
 prog:=X.prog
 w:=X.w
 K:=X.K
 mg:=X.mg
 base:=X.base
 A:=X.A
 N:=N'
 aX:=s
 eD:=H
 env:=compEnvC scope cl C X.env
 outer:=X.stack
 stack:=X.stack
 ex:=fp
 fn:=λ_=>false
 calm:=X.calm
 pn:=pn
 xe:=λ_ _=>False
noncomputable def Cw (ix:List (Option Nat)) (σ:St):St:=ix.map λo=>o.bind λi=>(σ[i]?).join
theorem TJ {ix:List (Option Nat)}{j:Nat}{v:V} (h:(Cw ix σ)[j]?=some (some v)):∃i,ix[j]?=some (some i)/\σ[i]?=some (some v):=by
 unfold Cw at h;rw[ZG]at h;cases e:ix[j]? with
 |none=>rw[e]at h;cases h
 |some o =>
  rw[e]at h;simp only[Option.map_some,Option.some.injEq]at h;cases o with
  |none=>cases h
  |some i =>
   refine⟨i,rfl,?_⟩;simp only[Option.bind_some]at h;cases q:σ[i]? with
   |none=>rw[q]at h;cases h
   |some u=>rw[q]at h;simp only[Option.join_some]at h;rw[h]
section
variable {N':Ww}{ix:List (Option Nat)}{scope:Scope}{cl:List (Str×W3)}{fp:List W3}
theorem TK (I:Inv X aa σ H s) (hf:aY X.env.scope scope X.N N' ix) (c1:∀x c,cl.lookup x=some c->X.env.cells.lookup x=some c) (c2:∀y∈scope.names,y.2=.free->∃c,cl.lookup y.1=some c)
  (hC:s.heap.objs.size<=C) (gu:∀b∈fp,EB X aa H b) (hlt:∀b∈fp,b<s.heap.objs.size):(Ar X N' scope cl s H C fp (X.pn++aa)).Ok where
 mod:=I.mod
 kind:=hf.kind
 glob:=I.ok.glob
 blt:=I.ok.blt
 above:=hC
 inj:=λx y c e1 e2=>I.ok.inj x y c (c1 x c e1) (c1 y c e2)
 has:=λx h=>by
  have hm:(x,NameKind.free)∈scope.names:=Gz (env:=X.env) hf.nocell h;exact c2 (x,.free) hm rfl
 ip:=λx c h=>by cases h
 hd:=I.ok.hd
 frames:=I.ok.frames
 fq:=.inl rfl
 exf:=λb hb=>⟨ZE (Z2 (hlt b hb) hC),λx c e=>(gu b hb).2.2.2.2.1 x c (c1 x c e)⟩
 bs:=I.bs
 f6:=Nat.le_trans I.ok.f6 I.sz
 eW:=λb o e hb=>by
  rcases (gu b hb).2.2.2.1 with z |z
  ·exact I.ok.eW b o e z
  ·exact absurd (Z2 (Z2 (lt_size e) I.ok.f6) z) (ZH _)
 eY:=λb hb z=>by
  rcases mem_cons.mp (I.stkSub b z)with e |e
  ·exact(gu b hb).2.1 e
  ·exact(gu b hb).2.2.1 e
 cJ:=I.stack
 gz:=I.stkFree
theorem M7 (I:Inv X aa σ H s) (hf:aY X.env.scope scope X.N N' ix) (c1:∀x c,cl.lookup x=some c->X.env.cells.lookup x=some c) (c2:∀y∈scope.names,y.2=.free->∃c,cl.lookup y.1=some c)
  (hC:s.heap.objs.size<=C) (gu:∀b∈fp,EB X aa H b) (hlt:∀b∈fp,b<s.heap.objs.size) {eO:Heap}{tk:Nat}{m:SV} (old:∀b o,s.heap.get? b=some o->eO.get? b=some o) (jg:eO.Ns C m) :
  Inv (Ar X N' scope cl s H C fp (X.pn++aa)) [] (Cw ix σ) H { s with heap:=eO,toks:=tk } where
 ok:=TK I hf c1 c2 hC gu hlt
 os:=rfl
 bare:=I.bare
 base:=Un.kept old
 loc:=⟨m,jg,λj x v e1 e2 e3=>by
  obtain⟨i,ei,ev⟩:=TJ e2;obtain⟨hN,cm⟩:=hf.slot j x i e1 ei;obtain⟨mX,_,hl⟩:=I.loc
  have hm:(x,NameKind.free)∈scope.names:=by
   have:∀ {l:List (Str×NameKind)}{k:NameKind},l.lookup x=some k->(x,k)∈l:=λ{l k}=>by
    induction l with
    |nil=>intro e;simp at e
    |cons y r ih =>
     intro e;obtain⟨n,kk⟩:=y;cases hx:x==n with
     |true =>
      simp only[Zy,hx,Option.some.injEq]at e;have:x=n:=by simpa using hx
      subst this e;exact ZK
     |false =>
      simp only[Zy,hx]at e;exact ZS _ (ih e)
   exact this cm
  have hk:=hf.free _ hm rfl;obtain⟨u,r,q⟩:=hl i x v hN ev (.inr hk);refine⟨u,r,.inr ⟨Ep (env:=X.env) cm,?_⟩⟩;obtain⟨c,hc⟩:=c2 _ hm rfl;refine⟨c,hc,?_⟩;rcases q with⟨k,_⟩ |⟨_,c',iT,z⟩
  ·have k':X.env.scope.names.lookup x=some .local:=k;rcases hk with a |a <;> (rw[k']at a;cases a)
  ·rw[c1 x c hc]at iT;cases iT
   exact z.keeps old⟩
 cell:=λx c e=>by
  obtain⟨v,z⟩:=I.cell x c (c1 x c e);exact⟨v,z.keeps old⟩
 free:=I.aE.fresh hC
 bP:=λx c e=>I.bP x c (c1 x c e)
 pin:=λp hp=>by
  have hp':p∈X.pn++aa:=by
   have z:=hp;rw[Zs]at z;exact z
  obtain⟨e,n,ne,nf,d⟩:=I.pin p hp';refine⟨old _ _ e,n,ZE (Z2 (lt_size e) hC),λz=>?_,d⟩;rcases mem_cons.mp (I.stkSub p.1 z)with q |q
  ·exact ne q
  ·exact nf q
 aE:=I.aE.kept old
 len:=by
  show(Cw ix σ).length=N'.length;unfold Cw;rw[AE];exact hf.len
theorem PM {pins':LO}{aN:St}{s':W4} (I:Inv X aa σ H s) (gu:∀b∈fp,EB X aa H b) (J:Inv (Ar X N' scope cl s H C fp (X.pn++aa)) pins' aN H' s'):Inv X aa σ H' s' :=
 I.call' (ch:=fp) J.os J.base J.aE J.bare λb hb=>⟨(gu b hb).2.2.2.1,(gu b hb).2.1,(gu b hb).2.2.2.2.1,(gu b hb).2.2.2.2.2⟩
end
def iq (X:Cx) (ifs:List Expr) (t:TT):Prop :=
 ∀(aa:LO) (s:W4) (σ:St) (H:Hp) (Q:Bool->Hp->Prop),Inv X aa σ H s->t σ H Q ->
  wpAny (model X.prog X.w) X.A (forIn ifs true λc r=>if r=true then do let ok ←isTrue c X.env (eval c X.env);pure (ForInStep.yield ok)else pure (ForInStep.yield r)) (TP X aa σ Q) X.xe s
def Wh:TT:=λ_ H Q=>Q true H
theorem B3:iq X [] Wh:=λaa s σ H Q I h=>wpAny_tests_nil ⟨H,I,h⟩
theorem B4 {c:Expr}{t:TT} (h:PT X c t):iq X [c] t:=λaa s σ H Q I q=>wpAny_tests_one (h aa s σ H Q I q)
def Dj (wi:TI) (g:TG) (tt:TT) (te:TE) (ix:List (Option Nat)) (R:Wy->Hp->Prop):St->Hp->Prop:=λσ H=>wi σ H λJ H1=>∃W:Nat->Nat->Wy->Hp->Prop,(∃m,W 0 m [] H1)/\∀i m ys H,W i m ys H ->
 (J.stop i H/\ys.length<=sizeLine/\R ys H) \/
 (J.go i H/\∃N:Wy->Hp->Prop,(∀cS H',N cS H'->cS.length<=sizeLine/\∃m',m'<m/\W (i+1) m' cS H') /\
  ∀x H',J.gG i H x H'->g x (Cw ix σ) H' λbV H2=>tt bV H2 λb H3=>if b=true then te bV H3 λy H4=>N (ys++[y]) H4 else N ys H3)
def PGk (X:Cx) (tg:Expr) (ix:List (Option Nat)) (g:TG):Prop :=
 ∀(aa:LO) (s:W4) (σ:St) (H:Hp) (v:V) (u:Value) (Q:St->Hp->Prop),Inv X aa (Cw ix σ) H s->RelV v u->g v (Cw ix σ) H Q ->
  wpAny (model X.prog X.w) X.A (assign tg X.env u) (λ_ s'=>∃aN H',Inv X aa aN H' s'/\(∀(j:Nat) (v:V),(Cw ix σ)[j]?=some (some v)->aN[j]?=some (some v))/\Q aN H') X.xe s
theorem Hs {fm:List (Option Nat)} (h:PG X (.Name x pos) (Cn 0)):PGk X (.Name x pos) (none::fm) (Cn 0):=by
 intro aa s σ H v u Q I r q;refine aL (h aa s _ H v u (λaN H'=>(∀(j:Nat) (v:V),(Cw (none::fm) σ)[j]?=some (some v)->aN[j]?=some (some v))/\Q aN H') I r ⟨λj w e=>?_,q⟩) λ_ s' ⟨aN,H',I',k,q⟩=>⟨aN,H',I',k,q⟩;cases j with
 |zero=>cases e
 |succ j=>exact e
theorem K7 {tg:Expr}{fm:List (Option Nat)} (h:PG X tg (Sv K 2 (HN (Cn 0) (HN (Cn 1) Su)))):PGk X tg (none::none::fm) (Sv K 2 (HN (Cn 0) (HN (Cn 1) Su))):=by
 intro aa s σ H v u Q I r q;obtain⟨a,xs,e1,e2,e3,v1,r1,e4,v2,r2,e5,e6,q⟩:=q;refine aL (h aa s _ H v u (λaN H'=>(∀(j:Nat) (v:V),(Cw (none::none::fm) σ)[j]?=some (some v)->aN[j]?=some (some v))/\Q aN H') I r ⟨a,xs,e1,e2,e3,v1,r1,e4,v2,r2,e5,e6,λj w e=>?_,q⟩) λ_ s' ⟨aN,H',I',k,q⟩=>⟨aN,H',I',k,q⟩
 match j with
 |0=>cases e
 |1=>cases e
 |j+2=>exact e
structure UT (RD:Cx->Prop) (P:Program) (w:World) (K:FG) (tg:Expr) (J:It) (fp:List W3) (it:W3) (tn:Nat->Heap->Prop):Prop where
 obj:∀i h,tn i h->∀b∈fp,∃o,h.get? b=some o/\∀v,o.data≠ .cell v
 keep:∀i h h',tn i h->(∀b∈fp,∀o,h.get? b=some o->h'.get? b=some o)->tn i h'
 item:∀(X:Cx),X.prog=P->X.w=w->X.K=K->RD X->∀(i:Nat) (aa:LO) (s:W4) (σ:St) (H:Hp) (E:VS),Inv X aa σ H s->(∀b∈fp,EB X aa H b)->tn i s.heap->J.go i H ->
  wpAny (model P w) X.A (pyNext (.ref it)) (λr s1=>∃u,r=some u/\wpAny (model P w) X.A (letOwnedTupleGo tg (.ref it) u) (λ_ s2=>∃x H',Inv X aa σ H' s2/\RelV x u/\J.gG i H x H'/\tn (i+1) s2.heap/\∀b∈fp,H' b=none) E s1) E s
 done:∀(X:Cx),X.prog=P->X.w=w->X.K=K->RD X->∀(i:Nat) (aa:LO) (s:W4) (σ:St) (H:Hp) (E:VS),Inv X aa σ H s->(∀b∈fp,EB X aa H b)->tn i s.heap->J.stop i H ->
  wpAny (model P w) X.A (pyNext (.ref it)) (λr s1=>r=none/\Inv X aa σ H s1) E s
 self:∀(A:Around) (i:Nat) (s:W4) (Q:VS) (E:VS),tn i s.heap->Q (.ref it) s->wpAny (model P w) A (pyIter (.ref it)) Q E s
def PIg (RD:Cx->Prop) (X:Cx) (tg iter:Expr) (wi:TI):Prop:=∀(aa:LO) (s:W4) (σ:St) (H:Hp) (R:It->Hp->Prop),Inv X aa σ H s->wi σ H R ->
 wpAny (model X.prog X.w) X.A (eval iter X.env) (λv s1=>wpAny (model X.prog X.w) X.A (pyIter v) (λitv s2=>∃(it:W3) (fp:List W3) (tn:Nat->Heap->Prop) (J:It) (H':Hp),itv=.ref it/\Inv X aa σ H' s2/\UT RD X.prog X.w X.K tg J fp it tn/\tn 0 s2.heap/\(∀b∈fp,EB X aa H' b)/\R J H') X.xe s1) X.xe s
theorem PI.g {tg iter:Expr}{wi:TI} (h:PI X tg iter wi):PIg (λX=>X.calm=true) X tg iter wi:=λaa s σ H R I q =>
 aL (h aa s σ H R I q) λv s1 z=>aL z λitv s2 ⟨it,fp,tn,J,H',e,I',T,r⟩=>⟨it,fp,tn,J,H',e,I',⟨T.obj,T.keep,T.item,T.done,T.self⟩,r⟩
section
variable {tg iter elt:Expr}{ifs:List Expr}{scope:Scope}{pos':Pos}{N':Ww}{ix:List (Option Nat)}{wi:TI}{g:TG}{tt:TT}
theorem GP {α:Type}{M:Model}{t:Sem α}{Q:α->W4->Prop} (h:wpAny M A t Q (λ_ _=>False) s):wpAny M A t Q E s :=
 Zu h (λ_ _ q=>q) λ_ _ z=>z.elim
theorem JQ {RD:Cx->Prop}{use:Option (Value->Sem Unit)}{Qv:VS} (hf:aY X.env.scope scope X.N N' ix) (hc:∀cl s H C fp aa,RD (Ar X N' scope cl s H C fp (X.pn++aa))) (hi:PIg RD X tg iter wi)
  (hg:∀cl s H C fp pn,PGk (Ar X N' scope cl s H C fp pn) tg ix g) (ht:∀cl s H C fp pn,iq (Ar X N' scope cl s H C fp pn) ifs tt) (he:∀cl s H C fp pn,PE (Ar X N' scope cl s H C fp pn) elt te)
  (hs:∀x,foldedSetIterable iter X.env x=pure x) {aa:LO}{s:W4}{σ:St}{H:Hp}{R:Wy->Hp->Prop} (I:Inv X aa σ H s) (h:Dj wi g tt te ix R σ H)
  (hpost:∀s' ys H' D C m,Inv X aa σ (upd H' D (.lst ys)) s'->R ys H'->H' D=none->s'.heap.Ns C m->X.aX.heap.objs.size<=C->C≠X.env.locals->(∀x c,X.env.cells.lookup x=some c->c≠C)->(∀p∈X.pn++aa,p.1≠C) ->
   upd H' D (.lst ys) C=none->compPost (model X.prog X.w) X.A X.xe use Qv (.ref D) C (.ok .next) s') :
  wpAny (model X.prog X.w) X.A (comprehension (.ListComp elt [⟨tg,iter,ifs,0⟩] scope pos) scope X.env pos' (newList []) false (eval iter X.env) use) Qv X.xe s:=by
 obtain⟨cl,hclos,c1,c2⟩:=TH (env:=X.env) (scope:=scope) λy hy hyf=>by
  have:=hf.free y hy hyf;exact I.ok.has y.1 this
 refine wpAny_comprehension_free (use:=use) Zj hs hclos hf.kind hf.loc (aL (hi aa s σ H _ I h) λv s1 h1=>aL h1 λitv s2 h2=>?_);obtain⟨it,fp,tn,J,H2,e,I2,T,gR,f2,W,⟨m0,w0⟩,turn⟩:=h2;subst e
 have hlt:∀b∈fp,b<s2.heap.objs.size:=λb hb=>by
  obtain⟨o,e,_⟩:=T.obj _ _ gR b hb;exact lt_size e
 refine wpAny_newObj_type (wpAny_newFunctionEnv hf.nocell (by intro y hy;simp at hy) (λeO hns₁ hsb₁=>?_) hf.kind)
 dsimp only at hns₁ hsb₁ ⊢
 generalize hH2:s2.heap.push { cls:=.type "list", dict:=none,data:=.seq ([]:Wx).toArray }=HP at hns₁ hsb₁ ⊢;have hC:HP.objs.size=s2.heap.objs.size+1:=by rw[←hH2,Heap.size_push]
 have hDC:s2.heap.objs.size≠HP.objs.size:=by rw[hC];exact ZE (Nat.lt_succ_self _)
 have hCle:s2.heap.objs.size<=HP.objs.size:=by rw[hC];exact Nat.le_succ _
 have hCne:∀b,b<s2.heap.objs.size->b≠HP.objs.size:=λb hb=>by rw[hC];exact ZE (Nat.lt_succ_of_lt hb)
 have old:∀b o,s2.heap.get? b=some o->eO.get? b=some o:=λb o e=>hsb₁.extBut b o (hCne b (lt_size e)) (ZY _ (hH2 ▸ ZY _ e));have ce:eO.get? s2.heap.objs.size=some { cls:=.type "list", dict:=none,data:=.seq ([]:Wx).toArray }:=hsb₁.extBut _ _ hDC (ZY _ (hH2 ▸ ZO _ rfl));generalize hCC:HP.objs.size=C at *;generalize iE:s2.heap.objs.size=D at *;have IX:=M7 (N':=N') (fp:=fp) I2 hf c1 c2 (by rw[iE];exact hCle) f2 (by rw[iE];exact hlt) (tk:=s2.toks+([]:List (Str×Value)).length) old hns₁;have hDn:H2 D=none:=I2.aE.fresh (by rw[iE];exact Zx _)
 have hDfs:D∉ cQ X.stack:=λz=>by
  rcases mem_cons.mp (I2.stkSub D z)with q |q
  ·have:=I2.lt;rw[←q,iE]at this;exact ZH _ this
  ·exact I2.nofs (by rw[iE];exact Zx _) q
 have cellLt:∀x c,X.env.cells.lookup x=some c->c<D:=λx c e=>by
  obtain⟨v,z⟩:=I2.cell x c e;rw[←iE];exact z.lt
 have pinLt:∀p∈X.pn++aa,p.1<D:=λp hp=>by rw[←iE];exact lt_size (I2.pin p hp).1
 have s0D:X.aX.heap.objs.size<=D:=by rw[←iE];exact I2.sz
 have locLt:X.env.locals<D:=by rw[←iE];exact I2.lt
 let X':Cx:=Ar X N' scope cl s2 H2 C fp (X.pn++aa)
 have stat:∀ {H':Hp}{ob:Obj},(∀b∈fp,H' b=none)->∀b∈fp,EB X' [(D,ob)] H' b:=λ{H' ob} hn b hb=>by
  refine⟨hn b hb,ZE (Z2 (hlt b hb) hCle),λz=>?_,.inl hb,λx c e=>(f2 b hb).2.2.2.2.1 x c (c1 x c e),λp hp=>?_⟩
  ·exact IX.ok.eY b hb z
  ·rcases mem_append.mp hp with z |z
   ·exact(f2 b hb).2.2.2.2.2 p z
   ·have e:p=(D,ob):=by simpa using z
    subst e;exact Nat.ne_of_gt (hlt b hb)
 have pinD:∀ {aN:St}{H':Hp}{s':W4}{ob:Obj},Inv X' [] aN H' s'->s'.heap.get? D=some ob->H' D=none->(∀v,ob.data≠ .cell v)->Inv X' [(D,ob)] aN H' s':=λ{aN H' s' ob} Ia e n d =>
  Ia.pins_of λp hp=>by
   have q:p=(D,ob):=by simpa using hp
   subst q;exact⟨e,n,hDC,hDfs,d⟩
 have loop:∀s3:W4,s3={ s2 with heap:=eO,toks:=s2.toks+([]:List (Str×Value)).length } ->
   codeAny (model X.prog X.w) X.A (.compLoop (.ListComp elt [⟨tg,iter,ifs,0⟩] scope pos) 0 (.ref it) (.ref D) (compEnvC scope cl C X.env)) (compPost (model X.prog X.w) X.A X.xe use Qv (.ref D) C) s3:=by
  rintro s3 rfl
  refine codeAny_loop Zj (λn s'=>∃i ys its k H',Inv X' [(D,({ cls:=.type "list", data:=.seq (List.toArray its) k }:Obj))] (Cw ix σ) H' s'/\tn i s'.heap/\(∀b∈fp,H' b=none)/\W i n ys H'/\Vals ys its)
   (λn s4 hI=>?_) m0 ⟨0,[],[],_,H2,pinD IX ce hDn (λv z=>by cases z),T.keep _ _ _ gR (λb _ o e=>old b o e),λb hb=>(f2 b hb).1,w0,.nil⟩
  obtain⟨i,ys,its,k,H4,I4,st4,fr4,w4,rv⟩:=hI;show wpAny _ X.A ((compTurn (.ListComp elt [⟨tg,iter,ifs,0⟩] scope pos) 0 (.ref it) (.ref D) (compEnvC scope cl C X.env)).onRaise (λx=>do noteFrame x (compEnvC scope cl C X.env);theTreesLotGoes x)) _ _ s4;refine wpAny_noted ?_;rw[compTurn_list];refine GP ?_;rcases turn i n ys H4 w4 with⟨stop,hz,r⟩ |⟨go,N,hN,step⟩
  ·refine Zw (wpAny_standAt (Zw (aL (T.done X' Zj Zj Zj (hc _ _ _ _ _ _) i _ s4 _ H4 _ I4 (stat fr4) st4 stop) λr' s5 ⟨hr,I5⟩=>?_)));subst hr;have pD:=I5.pin (D,_) (ZU _ ZK);have Ib:Inv X aa σ H4 s5:=PM I2 f2 I5;have Ic:Inv X aa σ (upd H4 D (.lst ys)) s5:=Ib.track pD.2.1 (Nat.ne_of_gt locLt) (.inr s0D) (λx c e=>ZE (cellLt x c e)) (λp hp=>ZE (pinLt p hp)) ⟨hz,its,k,rv,pD.1⟩;obtain⟨m5,n5,_⟩:=I5.loc
   refine Zv (hpost s5 ys H4 D C m5 Ic r pD.2.1 n5 (Nat.le_trans s0D hCle) (Nat.ne_of_gt (Z2 locLt hCle)) (λx c e=>ZE (Z2 (cellLt x c e) hCle))
    (λp hp=>ZE (Z2 (pinLt p hp) hCle)) ?_)
   rw[AH (Ne.symm hDC)];exact I5.free
  ·refine Zw (wpAny_standAt (Zw (aL (T.item X' Zj Zj Zj (hc _ _ _ _ _ _) i _ s4 _ H4 _ I4 (stat fr4) st4 go) λr' s5 ⟨u,hr,h5⟩=>?_)));subst hr;refine Zw (aL h5 λ_ s6 ⟨x,H6,I6,r6,y6,st6,fr6⟩=>?_);have I6':=I6.pinned (stat fr6) (T.obj _ _ st6);refine Zw (aL (hg _ _ _ _ _ _ _ s6 _ H6 x u _ I6' r6 (step x H6 y6)) λ_ s7 ⟨f7,H7,I7,k7,q7⟩=>?_);refine Zw (aL (ht _ _ _ _ _ _ _ s7 f7 H7 _ I7 q7) λb s8 ⟨H8,I8,q8⟩=>?_)
   have again:∀ {H9:Hp}{s9:W4}{cS:Wy}{its':Wx}{k':Nat},Inv X' ([(D,({ cls:=.type "list", data:=.seq (List.toArray its') k' }:Obj))]++Ev fp s6.heap) f7 H9 s9->Vals cS its' ->
     (∃m',m'<n/\W (i+1) m' cS H9)->∃m,m<n/\∃i ys its k H',Inv X' [(D,({ cls:=.type "list", data:=.seq (List.toArray its) k }:Obj))] (Cw ix σ) H' s9/\tn i s9.heap/\(∀b∈fp,H' b=none)/\W i m ys H'/\Vals ys its:=by
    intro H9 s9 cS its' k' I9 rv' ⟨m',hm,w9⟩;refine⟨m',hm,i+1,cS,its',k',H9,I9.unpinned.weak (I4.len.trans I9.len.symm) k7,T.keep _ _ _ st6 λb hb o e=>(I9.pin (b,o) (ZU _ (ZU _ (De hb e)))).1,λb hb=>?_,w9,rv'⟩;obtain⟨o,e,d⟩:=T.obj _ _ st6 b hb;exact(I9.pin (b,o) (ZU _ (ZU _ (De hb e)))).2.1
   cases b with
   |false =>
    rw[Zp Bool.false_ne_true]at q8;exact Zv ⟨Zj,again I8 rv (hN _ _ q8).2⟩
   |true =>
    rw[Zo rfl]at q8;refine Zw (Zw (aL (he _ _ _ _ _ _ _ s8 f7 H8 _ I8 q8) λy s9 ⟨z,H9,I9,r9,q9⟩=>?_))
    have hz:ys.length<sizeLine:=by
     have:=(hN _ _ q9).1;rw[ZJ,length_singleton]at this;omega
    have pD:=I9.pin (D,_) (ZU _ (ZQ _ ZK));have bh:=rv.length;refine Zw (call_meets F.slot_list_append ⟨_,pD.1,Zj⟩ F.entry_list_append (F.args_list_append_2 _ _) (PySem.list_append D its.toArray k y (by rw[size_toArray];omega)) ⟨pD.1,Zv (Zv ⟨Zj,?_⟩)⟩);have eq':its.toArray.push y=(its++[y]).toArray:=by simp
    obtain⟨k',q⟩:∃k',(s9.heap.update D (Obj.mapSeq (·.push y))).get? D=some { cls:=.type "list", data:=.seq (its++[y]).toArray k' }:=⟨_,by rw[←eq'];exact PySem.IsL.update pD.1 (·.push y)⟩;have Iw:Inv X' (Ev fp s6.heap) f7 H9 s9:=I9.pins_of λp hp=>I9.pin p (ZU _ (ZU _ hp))
    have It:Inv X' (Ev fp s6.heap) f7 H9 { s9 with heap:=s9.heap.update D (Obj.mapSeq (·.push y)),toks:=s9.toks }:=Iw.turned (it:=D) (λb o hb e=>(ZX s9.heap (Obj.mapSeq (·.push y)) (Ne.symm hb)).trans e) pD.2.1 hDC
     (.inr (by show s2.heap.objs.size<=D;rw[iE];exact Zx _)) (λx c e=>ZE (cellLt x c (c1 x c e))) (λp hp=>by
      rcases mem_append.mp hp with z' |z'
      ·exact ZE (pinLt p z')
      ·exact ZE (hlt p.1 (JE z').1))
    refine again (its':=its++[y]) (k':=k') (It.pins_of λp hp=>?_) (rv.append (.cons r9 .nil)) (hN _ _ q9).2;rcases mem_append.mp hp with z' |z'
    ·have e:p=(D,({ cls:=.type "list", data:=.seq (its++[y]).toArray k' }:Obj)):=by simpa using z'
     subst e;exact⟨q,pD.2.1,hDC,hDfs,λv z=>by cases z⟩
    ·exact It.pin p (ZU _ z')
 exact codeAny_compStart_list (loop _ Zj) (T.self _ 0 _ _ _ (T.keep _ _ _ gR λb _ o e=>old b o e) (loop _ Zj))
theorem JR {RD:Cx->Prop} (hf:aY X.env.scope scope X.N N' ix) (hc:∀cl s H C fp aa,RD (Ar X N' scope cl s H C fp (X.pn++aa))) (hi:PIg RD X tg iter wi)
  (hg:∀cl s H C fp pn,PGk (Ar X N' scope cl s H C fp pn) tg ix g) (ht:∀cl s H C fp pn,iq (Ar X N' scope cl s H C fp pn) ifs tt) (he:∀cl s H C fp pn,PE (Ar X N' scope cl s H C fp pn) elt te)
  (hs:∀x,foldedSetIterable iter X.env x=pure x:=by intro _;rfl) :
  PE X (.ListComp elt [⟨tg,iter,ifs,0⟩] scope pos) (λσ H Q=>Dj wi g tt te ix (λys H'=>∀p,H' p=none->Q (.ref p) (upd H' p (.lst ys))) σ H):=by
 intro aa s σ H Q I h;rw[eval_ListComp];refine JQ (use:=none) hf hc hi hg ht he hs I h λs' ys H' D C m I' r hD hn h1 h2 h3 h4 h5=>?_;refine⟨m,hn,λh'' hs''=>⟨.ref D,_,I'.turned (it:=C) (t':=s'.toks) (λb o hb e=>(hs''.2 b hb).trans e) h5 h2 (.inr h1) h3 h4,Zj,r D hD⟩⟩
theorem K8 (hf:aY X.env.scope scope X.N N' ix) (hc:X.calm=true) (hi:PI X tg iter wi)
  (hg:∀cl s H C fp pn,PGk (Ar X N' scope cl s H C fp pn) tg ix g) (ht:∀cl s H C fp pn,iq (Ar X N' scope cl s H C fp pn) ifs tt) (he:∀cl s H C fp pn,PE (Ar X N' scope cl s H C fp pn) elt te)
  (hs:∀x,foldedSetIterable iter X.env x=pure x:=by intro _;rfl) :
  PE X (.ListComp elt [⟨tg,iter,ifs,0⟩] scope pos) (λσ H Q=>Dj wi g tt te ix (λys H'=>∀p,H' p=none->Q (.ref p) (upd H' p (.lst ys))) σ H):=JR hf (λ_ _ _ _ _ _=>hc) hi.g hg ht he hs
theorem LA {i:Nat}{py f9:Pos} (hN:X.N.Nodup) (gq:X.N[i]?=some x) (hx:X.env.scope.names.lookup x=some .local) (hsw:swapsWith (.ListComp elt [⟨tg,iter,ifs,0⟩] scope pos) (some (.Name x py)) f9.line X.env=pure true)
  (hf:aY X.env.scope scope X.N N' ix) (hc:X.calm=true) (hi:PI X tg iter wi)
  (hg:∀cl s H C fp pn,PGk (Ar X N' scope cl s H C fp pn) tg ix g) (ht:∀cl s H C fp pn,iq (Ar X N' scope cl s H C fp pn) ifs tt) (he:∀cl s H C fp pn,PE (Ar X N' scope cl s H C fp pn) elt te)
  (hs:∀x,foldedSetIterable iter X.env x=pure x:=by intro _;rfl) :
  PS X (.Assign [.Name x py] (.ListComp elt [⟨tg,iter,ifs,0⟩] scope pos) f9) (λD σ H=>Dj wi g tt te ix (λys H'=>∀p,H' p=none->D.nx (σ.set i (some (.ref p))) (upd H' p (.lst ys))) σ H):=by
 intro aa s σ H D I h;rw[exec_Assign_Name_used _ _ _ _ hsw];refine Zw (wpAny_standAt (Zw ?_));show wpAny _ X.A (do let _ ←comprehension (.ListComp elt [⟨tg,iter,ifs,0⟩] scope pos) scope X.env _ (newList []) false (eval iter X.env) (some (assign (.Name x py) X.env))) _ _ s;refine Zw (aL (JQ (use:=some (assign (.Name x py) X.env)) (Qv:=λ_ s'=>SP X aa D .next s') hf (λ_ _ _ _ _ _=>hc) hi.g hg ht he hs I h λs' ys H' Da C m I' r hD hn h1 h2 h3 h4 h5=>?_) λ_ s' hq=>Zv (Zv hq));show wpAny _ X.A (assign (.Name x py) X.env (.ref Da)) _ _ _;refine wpAny_assign_Name (JC (v:=.ref Da) I' hN gq (.inl hx) Zj (λiK I'' ⟨a,hsb,ha⟩=>?_) (.inr hx))
 have hCa:C≠a:=by
  rcases ha with z |z
  ·rw[z];exact h2
  ·exact(h3 x a z).symm
 refine⟨m,hn.sameBut hsb hCa,λh'' hs''=>?_⟩;exact⟨_,_,I''.turned (it:=C) (t':=iK.toks) (λb o hb e=>(hs''.2 b hb).trans e) h5 h2 (.inr h1) h3 h4,r Da hD⟩
end
abbrev g2 (K:FG):TG:=Sv K 2 (HN (Cn 0) (HN (Cn 1) Su))
section
variable {iter elt:Expr}{ifs:List Expr}{scope:Scope}{px py pt:Pos}{wi:TI}{tt:TT}{y:Str}{kt:Nat}
theorem Bf (Nc:Ww) (fm:List (Option Nat)) (hf:Hq X.env.scope scope X.N (x::Nc) (none::fm)=true) (gp:(x::Nc).Nodup) (hx:scope.names.lookup x=some .local) (hc:X.calm=true) (hi:PI X (.Name x px) iter wi)
  (ht:∀cl s H C fp pn,iq (Ar X (x::Nc) scope cl s H C fp pn) ifs tt) (he:∀cl s H C fp pn,PE (Ar X (x::Nc) scope cl s H C fp pn) elt te) (hs:∀x,foldedSetIterable iter X.env x=pure x:=by intro _;rfl) :
  PE X (.ListComp elt [⟨.Name x px,iter,ifs,0⟩] scope pos) (λσ H Q=>Dj wi (Cn 0) tt te (none::fm) (λys H'=>∀p,H' p=none->Q (.ref p) (upd H' p (.lst ys))) σ H) :=
 K8 (aY.of hf) hc hi (λcl s H C fp pn=>Hs (AT (i:=0) gp rfl (.inl (Z5 hx)) (.inr (Z5 hx)))) ht he hs
theorem FY (Nc:Ww) (fm:List (Option Nat)) (hf:Hq X.env.scope scope X.N (x::y::Nc) (none::none::fm)=true) (gp:(x::y::Nc).Nodup) (hx:scope.names.lookup x=some .local) (hy:scope.names.lookup y=some .local) (hc:X.calm=true)
  (hi:PI X (.Tuple [.Name x px,.Name y py] kt pt) iter wi)
  (ht:∀cl s H C fp pn,iq (Ar X (x::y::Nc) scope cl s H C fp pn) ifs tt) (he:∀cl s H C fp pn,PE (Ar X (x::y::Nc) scope cl s H C fp pn) elt te) (hs:∀x,foldedSetIterable iter X.env x=pure x:=by intro _;rfl) :
  PE X (.ListComp elt [⟨.Tuple [.Name x px,.Name y py] kt pt,iter,ifs,0⟩] scope pos) (λσ H Q=>Dj wi (g2 X.K) tt te (none::none::fm) (λys H'=>∀p,H' p=none->Q (.ref p) (upd H' p (.lst ys))) σ H) :=
 K8 (aY.of hf) hc hi (λcl s H C fp pn=>K7 (Bd (X:=Ar X (x::y::Nc) scope cl s H C fp pn) hc (AV (AT (i:=0) gp rfl (.inl (Z5 hx)) (.inr (Z5 hx)))
  (AV (AT (i:=1) gp rfl (.inl (Z5 hy)) (.inr (Z5 hy))) BE)))) ht he hs
theorem FZ {i:Nat}{z:Str}{pz f9:Pos} (hN:X.N.Nodup) (gq:X.N[i]?=some z) (hz:X.env.scope.names.lookup z=some .local) (Nc:Ww) (fm:List (Option Nat)) (hf:Hq X.env.scope scope X.N (x::Nc) (none::fm)=true) (gp:(x::Nc).Nodup)
  (hx:scope.names.lookup x=some .local) (hc:X.calm=true) (hi:PI X (.Name x px) iter wi)
  (ht:∀cl s H C fp pn,iq (Ar X (x::Nc) scope cl s H C fp pn) ifs tt) (he:∀cl s H C fp pn,PE (Ar X (x::Nc) scope cl s H C fp pn) elt te)
  (hsw:swapsWith (.ListComp elt [⟨.Name x px,iter,ifs,0⟩] scope pos) (some (.Name z pz)) f9.line X.env=pure true:=by rfl) (hs:∀x,foldedSetIterable iter X.env x=pure x:=by intro _;rfl) :
  PS X (.Assign [.Name z pz] (.ListComp elt [⟨.Name x px,iter,ifs,0⟩] scope pos) f9) (λD σ H=>Dj wi (Cn 0) tt te (none::fm) (λys H'=>∀p,H' p=none->D.nx (σ.set i (some (.ref p))) (upd H' p (.lst ys))) σ H) :=
 LA hN gq hz hsw (aY.of hf) hc hi (λcl s H C fp pn=>Hs (AT (i:=0) gp rfl (.inl (Z5 hx)) (.inr (Z5 hx)))) ht he hs
theorem LB {i:Nat}{z:Str}{pz f9:Pos} (hN:X.N.Nodup) (gq:X.N[i]?=some z) (hz:X.env.scope.names.lookup z=some .local) (Nc:Ww) (fm:List (Option Nat)) (hf:Hq X.env.scope scope X.N (x::y::Nc) (none::none::fm)=true) (gp:(x::y::Nc).Nodup)
  (hx:scope.names.lookup x=some .local) (hy:scope.names.lookup y=some .local) (hc:X.calm=true) (hi:PI X (.Tuple [.Name x px,.Name y py] kt pt) iter wi)
  (ht:∀cl s H C fp pn,iq (Ar X (x::y::Nc) scope cl s H C fp pn) ifs tt) (he:∀cl s H C fp pn,PE (Ar X (x::y::Nc) scope cl s H C fp pn) elt te)
  (hsw:swapsWith (.ListComp elt [⟨.Tuple [.Name x px,.Name y py] kt pt,iter,ifs,0⟩] scope pos) (some (.Name z pz)) f9.line X.env=pure true:=by rfl) (hs:∀x,foldedSetIterable iter X.env x=pure x:=by intro _;rfl) :
  PS X (.Assign [.Name z pz] (.ListComp elt [⟨.Tuple [.Name x px,.Name y py] kt pt,iter,ifs,0⟩] scope pos) f9) (λD σ H=>Dj wi (g2 X.K) tt te (none::none::fm) (λys H'=>∀p,H' p=none->D.nx (σ.set i (some (.ref p))) (upd H' p (.lst ys))) σ H) :=
 LA hN gq hz hsw (aY.of hf) hc hi (λcl s H C fp pn=>K7 (Bd (X:=Ar X (x::y::Nc) scope cl s H C fp pn) hc (AV (AT (i:=0) gp rfl (.inl (Z5 hx)) (.inr (Z5 hx)))
  (AV (AT (i:=1) gp rfl (.inl (Z5 hy)) (.inr (Z5 hy))) BE)))) ht he hs
end
theorem BU {g:TG}{tt:TT}{ix:List (Option Nat)}{R:Wy->Hp->Prop}{H1:Hp} (Pv:Nat->Wy->Hp->Prop) (h0:Pv 0 [] H1) (hl:∀i ys H,i<=xs.length->Pv i ys H->aJ K H a xs) (hz:∀i ys H,Pv i ys H->ys.length<=1000)
  (hs:∀i x ys H,xs[i]?=some x->Pv i ys H->g x (Cw ix σ) H λbV H2=>tt bV H2 λb H3=>if b=true then te bV H3 λy H4=>Pv (i+1) (ys++[y]) H4 else Pv (i+1) ys H3) (hd:∀ys H,Pv xs.length ys H->R ys H) :
  ∃W:Nat->Nat->Wy->Hp->Prop,(∃m,W 0 m [] H1)/\∀i m ys H,W i m ys H ->
   ((g8 K a).stop i H/\ys.length<=sizeLine/\R ys H) \/
   ((g8 K a).go i H/\∃N:Wy->Hp->Prop,(∀cS H',N cS H'->cS.length<=sizeLine/\∃m',m'<m/\W (i+1) m' cS H') /\
    ∀x H',(g8 K a).gG i H x H'->g x (Cw ix σ) H' λbV H2=>tt bV H2 λb H3=>if b=true then te bV H3 λy H4=>N (ys++[y]) H4 else N ys H3):=by
 refine⟨λi m ys H=>m=xs.length - i/\i<=xs.length/\Pv i ys H,⟨_,Zj,Nat.zero_le _,h0⟩,?_⟩;rintro i m ys H ⟨rfl,hi,hp⟩;by_cases hlt:i<xs.length
 ·have hx:xs[i]?=some xs[i]:=Z7 hlt;refine .inr ⟨⟨xs,xs[i],hl i ys H hi hp,hx⟩,Pv (i+1),λcS H' q=>⟨Nat.le_of_lt (Ac (hz _ cS H' q)),xs.length - (i+1),qe,Zj,hlt,q⟩,?_⟩;rintro x H' ⟨rfl,hy⟩
  have ex:x=xs[i]:=by
   have:=hy xs (hl i ys H' hi hp);rw[hx]at this;exact(Option.some.inj this).symm
  subst ex;exact hs i xs[i] ys H' hx hp
 ·have e:i=xs.length:=by omega
  subst e;exact .inl ⟨⟨xs,hl _ ys H hi hp,Zx _⟩,Nat.le_of_lt (Ac (hz _ ys H hp)),hd ys H hp⟩
theorem Ht {g:TG}{tt:TT}{ix:List (Option Nat)}{R:Wy->Hp->Prop}{H1:Hp} (Pv:Nat->Wy->Hp->Prop) (h0:Pv 0 [] H1) (hl:∀i ys H,i<=xs.length->Pv i ys H->bA K H a xs) (hz:∀i ys H,Pv i ys H->ys.length<=1000)
  (hs:∀i x ys H,xs[i]?=some x->Pv i ys H->g x (Cw ix σ) H λbV H2=>tt bV H2 λb H3=>if b=true then te bV H3 λy H4=>Pv (i+1) (ys++[y]) H4 else Pv (i+1) ys H3) (hd:∀ys H,Pv xs.length ys H->R ys H) :
  ∃W:Nat->Nat->Wy->Hp->Prop,(∃m,W 0 m [] H1)/\∀i m ys H,W i m ys H ->
   ((Itt K a).stop i H/\ys.length<=sizeLine/\R ys H) \/
   ((Itt K a).go i H/\∃N:Wy->Hp->Prop,(∀cS H',N cS H'->cS.length<=sizeLine/\∃m',m'<m/\W (i+1) m' cS H') /\
    ∀x H',(Itt K a).gG i H x H'->g x (Cw ix σ) H' λbV H2=>tt bV H2 λb H3=>if b=true then te bV H3 λy H4=>N (ys++[y]) H4 else N ys H3):=by
 refine⟨λi m ys H=>m=xs.length - i/\i<=xs.length/\Pv i ys H,⟨_,Zj,Nat.zero_le _,h0⟩,?_⟩;rintro i m ys H ⟨rfl,hi,hp⟩;by_cases hlt:i<xs.length
 ·have hx:xs[i]?=some xs[i]:=Z7 hlt;refine .inr ⟨⟨xs,xs[i],hl i ys H hi hp,hx⟩,Pv (i+1),λcS H' q=>⟨Nat.le_of_lt (Ac (hz _ cS H' q)),xs.length - (i+1),qe,Zj,hlt,q⟩,?_⟩;rintro x H' ⟨rfl,hy⟩
  have ex:x=xs[i]:=by
   have:=hy xs (hl i ys H' hi hp);rw[hx]at this;exact(Option.some.inj this).symm
  subst ex;exact hs i xs[i] ys H' hx hp
 ·have e:i=xs.length:=by omega
  subst e;exact .inl ⟨⟨xs,hl _ ys H hi hp,Zx _⟩,Nat.le_of_lt (Ac (hz _ ys H hp)),hd ys H hp⟩
theorem Cy {lo:Int}{n:Nat}{g:TG}{tt:TT}{ix:List (Option Nat)}{R:Wy->Hp->Prop}{H1:Hp} (Pv:Nat->Wy->Hp->Prop) (h0:Pv 0 [] H1) (hz:∀i ys H,Pv i ys H->ys.length<=1000)
  (hs:∀(i:Nat) ys H,i<n->Pv i ys H->g (.int (lo+i)) (Cw ix σ) H λbV H2=>tt bV H2 λb H3=>if b=true then te bV H3 λy H4=>Pv (i+1) (ys++[y]) H4 else Pv (i+1) ys H3) (hd:∀ys H,Pv n ys H->R ys H) :
  ∃W:Nat->Nat->Wy->Hp->Prop,(∃m,W 0 m [] H1)/\∀i m ys H,W i m ys H ->
   ((i7 lo n).stop i H/\ys.length<=sizeLine/\R ys H) \/
   ((i7 lo n).go i H/\∃N:Wy->Hp->Prop,(∀cS H',N cS H'->cS.length<=sizeLine/\∃m',m'<m/\W (i+1) m' cS H') /\
    ∀x H',(i7 lo n).gG i H x H'->g x (Cw ix σ) H' λbV H2=>tt bV H2 λb H3=>if b=true then te bV H3 λy H4=>N (ys++[y]) H4 else N ys H3):=by
 refine⟨λi m ys H=>m=n - i/\i<=n/\Pv i ys H,⟨_,Zj,Nat.zero_le _,h0⟩,?_⟩;rintro i m ys H ⟨rfl,hi,hp⟩;by_cases hlt:i<n
 ·refine .inr ⟨hlt,Pv (i+1),λcS H' q=>⟨Nat.le_of_lt (Ac (hz _ cS H' q)),n - (i+1),qe,Zj,hlt,q⟩,?_⟩;rintro x H' ⟨rfl,rfl⟩;exact hs i ys H' hlt hp
 ·have e:i=n:=by omega
  subst e;exact .inl ⟨Zx _,Nat.le_of_lt (Ac (hz _ ys H hp)),hd ys H hp⟩
section
variable {o:Obj}{kvs:LK}
theorem Inv.newOk (I:Inv X aa σ H s) {p:W3} (hp:s.heap.objs.size<=p):H p=none/\p≠X.env.locals/\X.aX.heap.objs.size<=p/\(∀x c,X.env.cells.lookup x=some c->c≠p)/\∀q∈X.pn++aa,q.1≠p :=
 ⟨I.aE.fresh hp,Nat.ne_of_gt (Z2 I.lt hp),Nat.le_trans I.sz hp,λx c e=>by
  obtain⟨v,z⟩:=I.cell x c e
  exact ZE (Z2 z.lt hp),λq hq=>ZE (Z2 (lt_size (I.pin q hq).1) hp)⟩
theorem Inv.freeze (I:Inv X aa σ H s) (h:H a=some (.dK kvs)):∃o,Inv X aa σ (upd H a (.ef o (.dK kvs))) s:=by
 obtain⟨z,y,vs,r,ob,es,ep,e,rest⟩:=I.aE a _ h;refine⟨ob,?_⟩;exact I.write (x:=a) (e:=a) (o:=.ef ob (.dK kvs)) (h':=s.heap) (t':=s.toks) (by rw[h];exact trivial) (.inl Zj) (λb u _ q=>q) ⟨ob,e⟩ ⟨e,z,y,vs,r,ob,es,ep,e,rest⟩
theorem Hu {sts:List Stmt}{t:TS} (h:dP X sts t):dP X sts (λD σ H=>∃a kvs,H a=some (.dK kvs)/\∀o,t D σ (upd H a (.ef o (.dK kvs)))):=by
 intro aa s σ H D I ⟨a,kvs,e,k⟩;obtain⟨o,I'⟩:=I.freeze e;exact h aa s σ _ D I' (k o)
noncomputable def Qt (o:Obj):Nat:=match o.data with
 | .dict _ ep=>ep
 |_=>0
theorem Hv (I:Inv X aa σ H s) (h:H a=some (.ef o (.dK kvs))):kvs.length<=sizeLine/\(a==sysModules)=false/\∃vs,KV kvs vs/\s.heap.DictAt (Af X.prog X.w) a vs (Qt o):=by
 obtain⟨e,z,y,vs,r,ob,es,ep,e2,ex,d,rest⟩:=I.aE a _ h;rw[e]at e2;cases e2;refine⟨z,y,vs,r,o,es,e,ex,?_,rest⟩;show o.data=.dict es (Qt o);unfold Qt;rw[d]
end
theorem KV.get {κ:Type}:∀ {kvs:List (κ×V)}{vs:List (κ×Value)}{i:Nat}{kv:κ×V},KV kvs vs->kvs[i]?=some kv->∃v,vs[i]?=some (kv.1,v)/\RelV kv.2 v
 |_,_,_,_,.nil,e=>by simp at e
 |_,_,0,_,.cons r _,e=>by
  simp only[List.getElem?_cons_zero,Option.some.injEq]at e;subst e;rename_i q _ _ _;exact⟨q.2,by rw[r.1];rfl,r.2⟩
 |_,_,i+1,kv,.cons _ t,e=>by
  obtain⟨u,h1,h2⟩:=KV.get (i:=i) (kv:=kv) (show KV _ _ from t) (by simpa using e);exact⟨u,by simpa using h1,h2⟩
theorem Fa {k:Key} (h:(Af P w).is k u=true):RelV (kV k) u:=by
 rcases A8 (show HL k u=true from h)with⟨i,t,rfl,rfl⟩ |⟨x,t,rfl,rfl⟩
 ·exact⟨t,Zj⟩
 ·exact⟨t,Zj⟩
noncomputable def Iti (a:W3) (o:Obj) (kvs:LK):It:=⟨λi H=>H a=some (.ef o (.dK kvs))/\i<kvs.length,λi H x H'=>∃p kv,H p=none/\x=.ref p/\kvs[i]?=some kv/\H'=upd H p (.tup [kV kv.1,kv.2]),
 λi H=>H a=some (.ef o (.dK kvs))/\kvs.length<=i⟩
theorem M8 {elts:List Expr}{k0:Nat} (a it:W3) (o:Obj) (kvs:LK) :
  Mj P w K (.Tuple elts k0 pos) (Iti a o kvs) [it] it (λi h=>∃ok ov,IsItemIter h it a i kvs.length (Qt o) ok ov) where
 mem:=by simp
 obj:=λi h st b hb=>by
  have e:b=it:=by simpa using hb
  subst e;obtain⟨ok,ov,e⟩:=st;exact⟨_,e,λv z=>by cases z⟩
 keep:=λi h h' st k=>by
  obtain⟨ok,ov,e⟩:=st;exact⟨ok,ov,k it (by simp) _ e⟩
 item:=by
  intro X hP hw hK hc i aa s σ H E I hf st hg;subst hP hw hK;obtain⟨hfz,hi⟩:=hg;obtain⟨z,y,vs,rel,dd⟩:=Hv I hfz;obtain⟨ok,ov,st⟩:=st;have bh:=rel.length;obtain⟨kv,gX⟩:∃kv,kvs[i]?=some kv:=⟨_,Z7 hi⟩;obtain⟨v,hv,rv⟩:=KV.get rel gX;obtain⟨f0,f1,f2,f3,f4,f5⟩:=hf it (by simp);rw[bh]at st;have hlt:it<s.heap.objs.size:=lt_size st;refine wpAny_pyNext_items_item st dd hv λkey h' dc eQ hp hsz keep=>?_;have I1:Inv X aa σ H { s with heap:=h' }:=I.turned (t':=s.toks) keep f0 f1 f3 f4 f5;obtain⟨n1,n2,n3,n4,n5⟩:=I.newOk (Zx s.heap.objs.size);have I2:Inv X aa σ (upd H s.heap.objs.size (.tup [kV kv.1,kv.2])) { s with heap:=h' }:=I1.track n1 n2 (.inr n3) n4 n5 ⟨by show 2<=sizeLine;decide,[key,v],.cons (Fa dc) (.cons rv .nil),_,hp,rfl,_,rfl⟩;have fi:(upd H s.heap.objs.size (.tup [kV kv.1,kv.2])) it=none:=by rw[AH (ZE hlt)];exact f0
  refine⟨.ref s.heap.objs.size,Zj,wpAny_letOwnedTupleGo_items eQ λh'' st'' sb=>?_⟩;refine⟨.ref s.heap.objs.size,_,I2.turned (it:=it) (t':=s.toks) (λb o hb e=>(sb.2 b hb).trans e) fi f1 f3 f4 f5,Zj,⟨_,kv,n1,Zj,gX,Zj⟩,⟨key,v,by rw[bh];exact st''⟩,λb hb=>?_⟩;have e:b=it:=by simpa using hb
  rw[e];exact fi
 done:=by
  intro X hP hw hK hc i aa s σ H E I hf st hg;subst hP hw hK;obtain⟨hfz,hi⟩:=hg;obtain⟨z,y,vs,rel,dd⟩:=Hv I hfz;obtain⟨ok,ov,st⟩:=st;have bh:=rel.length;rw[bh]at st;obtain⟨f0,f1,f2,f3,f4,f5⟩:=hf it (by simp);exact wpAny_pyNext_items_end (I.ok.hd hc) st dd (List.getElem?_eq_none_iff.mpr qe) λh' eb=>⟨Zj,I.turned (t':=s.toks) (λb o hb e=>eb b o hb e) f0 f1 f3 f4 f5⟩
 self:=λ_ _ _ _ _ st h=>by
  obtain⟨ok,ov,e⟩:=st;exact W.kcp_self e h
def Uq (to:TE):TI:=λσ H R=>to σ H λx H1=>∃a o kvs,x=.ref a/\H1 a=some (.ef o (.dK kvs))/\R (Iti a o kvs) H1
theorem Qu {elts:List Expr}{k0:Nat}{o:Expr}{to:TE}{apos bZ:Pos} (ho:PE X o to) (bw:attributeBase o "items" X.env (eval o X.env)=eval o X.env:=by rfl) (b8:(apos.endLine==bZ.line)=true:=by rfl) :
  PI X (.Tuple elts k0 pos) (.Call (.Attribute o "items" apos) [] [] bZ) (Uq to):=by
 intro aa s σ H R I h;refine wpAny_Call_method0_late bw b8 (aL (ho aa s σ H _ I h) λv s1 ⟨x,H1,I1,r1,a,ob,kvs,ex,hfz,q⟩=>?_);subst ex;cases r1;obtain⟨t1,t2,_⟩:=M6 I1 (.inl ⟨kvs,.inr ⟨ob,hfz⟩⟩);obtain⟨z,y,vs,rel,dd⟩:=Hv I1 hfz;refine⟨"dict", "dict.items", PySem.F.plainAttrs_dict,PySem.F.slot_dict_items,PySem.F.type_dict_items,t1,t2,Calls.callWith_builtin rfl (PySem.evalArgs_none (call_meetsIn PySem.F.slot_dict_items t1 PySem.F.entry_dict_items (PySem.F.args_dict_items_1 _) (meets_dict_items (Af X.prog X.w) a y) ⟨⟨vs,dd.dictOf⟩,?_⟩))⟩;have I2:Inv X aa σ H1 { s1 with heap:=s1.heap.push { cls:=.type "dict_items", data:=.fields #[.ref a] } }:=I1.kept (t':=s1.toks) λb o e=>ZY _ e;refine wpAny_pyIter_items (knd:=Af X.prog X.w) (d:=a) (kvs:=vs) (ep:=Qt ob) ⟨_,ZO _ rfl,rfl,rfl⟩ (dd.push _) ?_;refine⟨_,[_],_,_,H1,rfl,I2.kept (t':=s1.toks) λb o e=>ZY _ e,M8 a _ ob kvs,⟨.none,.none,by rw[rel.length];exact ZO _ rfl⟩,λb hb=>?_,q⟩;have e:b=(s1.heap.push { cls:=.type "dict_items", data:=.fields #[.ref a] }).objs.size:=by simpa using hb
 subst e;exact I2.eJ (Zx _) (I2.aE.fresh (Zx _))
noncomputable def Ite (K:FG) (a:W3):It:=⟨λi H=>∃xs x,aJ K H a xs/\xs[i]?=some x,λi H x H'=>∃p y,H p=none/\x=.ref p/\(∀xs,aJ K H a xs->xs[i]?=some y)/\H'=upd H p (.tup [.int i,y]),λi H=>∃xs,aJ K H a xs/\xs.length<=i⟩
theorem PN {elts:List Expr}{k0:Nat} (a e it:W3) (bc:e≠it) :
  Mj P w K (.Tuple elts k0 pos) (Ite K a) [e,it] e (λi h=>∃old,IsEnum h e it i old/\h.IsListIter it a i) where
 mem:=by simp
 obj:=λi h st b hb=>by
  obtain⟨old,e1,o,e2,c,d⟩:=st;have ik:b=e\/b=it:=by simpa using hb
  rcases ik with rfl |rfl
  ·exact⟨_,e1,λv z=>by cases z⟩
  ·exact⟨o,e2,λv z=>by rw[d]at z;cases z⟩
 keep:=λi h h' st k=>by
  obtain⟨old,e1,e2⟩:=st;exact⟨old,k e (by simp) _ e1,e2.at λo q=>k it (by simp) o q⟩
 item:=by
  intro X hP hw hK hc i aa s σ H E I hf st hg;subst hP hw hK;obtain⟨xs,x,hq,hx⟩:=hg;obtain⟨its,rv,p,hz⟩:=I.list hq;obtain⟨u,hu,ru⟩:=rv.get hx;obtain⟨old,s1,s2⟩:=st;obtain⟨f0,f1,f2,f3,f4,f5⟩:=hf e (by simp);obtain⟨g0,g1,g2,g3,g4,g5⟩:=hf it (by simp);have hlt:e<s.heap.objs.size:=lt_size s1;have hlt2:it<s.heap.objs.size:=by obtain⟨o,q,_⟩:=id s2;exact lt_size q
  refine wpAny_pyNext_enum_item s1 s2 p.isList (x:=u) (by simpa using hu) bc λh' eQ st2' hp hsz keep=>?_
  have I1:Inv X aa σ H { s with heap:=h',toks:=s.toks+1 }:=by
   refine I.step (H':=H) (g':=s.gens) (d':=s.drawn) (ch:=[e,it]) (λb hb=>?_) (λb o _ _ hb q _=>keep b o (by simp at hb;exact hb.1) (by simp at hb;exact hb.2) q) (λb o _ _ hb q _=>⟨o.slots,keep b o (by simp at hb;exact hb.1) (by simp at hb;exact hb.2) q⟩)
    (λ_ _ _ _ n=>n) (λb o hb q=>⟨o,keep b o (by simp at hb;exact hb.1) (by simp at hb;exact hb.2) q⟩) (λ_ _ q=>q) (λ_ _ _ q=>q) (λb ps q=>⟨#[],by rw[q];simp⟩) (λm hm=>?_) (λb u q=>?_) I.bare
   ·have ik:b=e\/b=it:=by simpa using hb
    rcases ik with rfl |rfl
    ·exact⟨f3,f1,f4,f5⟩
    ·exact⟨g3,g1,g4,g5⟩
   ·obtain⟨oL,es,ep,gW,r⟩:=hm;exact⟨oL,es,ep,keep _ oL (Ne.symm f1) (Ne.symm g1) gW,r⟩
   ·have ne1:∀c v,H c=some v->c≠e/\c≠it:=λc v q=>⟨AJ q f0,AJ q g0⟩;refine(I.aE b u q).eG (λc v hc q'=>keep c v ?_ ?_ q') (λ_ q=>q) λ_ _ q=>q
    ·rcases hc with z |z
     ·rw[z];exact(ne1 b u q).1
     ·exact(ne1 c _ z).1
    ·rcases hc with z |z
     ·rw[z];exact(ne1 b u q).2
     ·exact(ne1 c _ z).2
  obtain⟨n1,n2,n3,n4,n5⟩:=I.newOk (Zx s.heap.objs.size);have I2:Inv X aa σ (upd H s.heap.objs.size (.tup [.int i,x])) { s with heap:=h',toks:=s.toks+1 }:=I1.track n1 n2 (.inr n3) n4 n5 ⟨by show 2<=sizeLine;decide,[.int i s.toks,u],.cons ⟨_,rfl⟩ (.cons ru .nil),_,hp,rfl,_,rfl⟩;have fe:(upd H s.heap.objs.size (.tup [.int i,x])) e=none:=by rw[AH (ZE hlt)];exact f0
  have fi:(upd H s.heap.objs.size (.tup [.int i,x])) it=none:=by rw[AH (ZE hlt2)];exact g0
  refine⟨.ref s.heap.objs.size,Zj,wpAny_letOwnedTupleGo_enum eQ λh'' st'' sb=>?_⟩;refine⟨.ref s.heap.objs.size,_,I2.turned (it:=e) (t':=s.toks+1) (λb o hb q=>(sb.2 b hb).trans q) fe f1 f3 f4 f5,Zj,⟨_,x,n1,Zj,λys hy=>by rw[I.list_inj hy hq];exact hx,Zj⟩,⟨_,by exact_mod_cast st'',st2'.extBut sb.extBut (Ne.symm bc)⟩,λb hb=>?_⟩;have ik:b=e\/b=it:=by simpa using hb
  rcases ik with rfl |rfl
  ·exact fe
  ·exact fi
 done:=by
  intro X hP hw hK hc i aa s σ H E I hf st hg;subst hP hw hK;obtain⟨xs,hq,hx⟩:=hg;obtain⟨its,rv,p,hz⟩:=I.list hq;obtain⟨old,s1,s2⟩:=st;obtain⟨g0,g1,g2,g3,g4,g5⟩:=hf it (by simp);have hl:=rv.length;exact wpAny_pyNext_enum_end (I.ok.hd hc) s1 s2 p.isList (by simp;omega) λh' eb=>⟨Zj,I.turned (t':=s.toks) (λb o hb e=>eb b o hb e) g0 g1 g3 g4 g5⟩
 self:=λ_ _ _ _ _ st h=>by
  obtain⟨old,e1,_⟩:=st;exact wpAny_pyIter_enum e1 h
def V8 (K:FG) (tl:TA):TI:=λσ H R=>tl σ H λvs H1=>∃a,vs=[.ref a]/\(∃xs,aJ K H1 a xs)/\R (Ite K a) H1
theorem OI {elts:List Expr}{k0:Nat}{p bZ:Pos}{l:Expr}{tl:TA} (hg:Gl X "enumerate") (hm:X.mg "enumerate" = none) (hl:PA X [l] tl) (hs:starEach [l] X.env=[(false,eval l X.env)]:=by rfl) :
  PI X (.Tuple elts k0 pos) (.Call (.Name "enumerate" p) [l] [] bZ) (V8 X.K tl):=by
 intro aa s σ H R I h;refine Z3 (Et (u:=.type "enumerate") I hg hm qb ?_);refine PyProof.Rows.callWith_type1 (aL (hl bZ aa s σ H _ I h) λus s1 ⟨vs,H1,I1,r1,a,ev,⟨xs,hq⟩,q⟩=>?_) hs rfl;subst ev;obtain⟨u,rfl,ru⟩:=Bu r1;cases ru;obtain⟨its,rv,pl,hz⟩:=I1.list hq;refine call_enumerate_list pl.isList λh' he hi hsz keep=>?_;refine wpAny_pyIter_enum he ?_;have I2:Inv X aa σ H1 { s1 with heap:=h' }:=I1.kept (t':=s1.toks) keep;refine⟨_,[s1.heap.objs.size+1,s1.heap.objs.size],_,_,H1,rfl,I2,PN a _ _ (Nat.succ_ne_self _),⟨_,he,hi⟩,λb hb=>?_,q⟩;have ik:b=s1.heap.objs.size+1\/b=s1.heap.objs.size:=by simpa using hb
 rcases ik with rfl |rfl
 ·exact I1.eJ (Nat.le_succ _) (I1.aE.fresh (Nat.le_succ _))
 ·exact I1.eJ (Zx _) (I1.aE.fresh (Zx _))
noncomputable def Its (x:Str):It:=⟨λi _=>i<x.cps.size,λi H v H'=>H'=H/\∃c,x.cps[i]?=some c/\v=.str ⟨#[c]⟩,λi _=>x.cps.size<=i⟩
theorem Qw {n:Str} (it:W3) (x:Str) (t:Tok) :
  Mj P w K (.Name n pos) (Its x) [it] it (λi h=>h.IsStrIter it "str_ascii_iterator" x t i) where
 mem:=by simp
 obj:=λi h st b hb=>by
  have e:b=it:=by simpa using hb
  subst e;obtain⟨o,e,c,d⟩:=st;exact⟨o,e,λv z=>by rw[d]at z;cases z⟩
 keep:=λi h h' st k=>by
  obtain⟨o,e,r⟩:=st;exact⟨o,k it (by simp) o e,r⟩
 item:=by
  intro X hP hw hK hc i aa s σ H E I hf st hg;subst hP hw hK;have hi:i<x.cps.size:=hg;obtain⟨f0,f1,f2,f3,f4,f5⟩:=hf it (by simp);refine wpAny_pyNext_ascii_item st (Array.getElem?_eq_getElem hi) λh' eQ sb=>?_;refine⟨_,Zj,Zv ⟨.str ⟨#[x.cps[i]]⟩,H,I.turned (t':=s.toks+1) (λb o hb e=>(sb.2 b hb).trans e) f0 f1 f3 f4 f5,⟨_,Zj⟩,⟨Zj,_,Array.getElem?_eq_getElem hi,Zj⟩,eQ,λb hb=>(hf b hb).1⟩⟩
 done:=by
  intro X hP hw hK hc i aa s σ H E I hf st hg;subst hP hw hK;have hi:x.cps.size<=i:=hg;obtain⟨f0,f1,f2,f3,f4,f5⟩:=hf it (by simp);exact wpAny_pyNext_ascii_end (I.ok.hd hc) st (Array.getElem?_eq_none hi) λh' eb=>⟨Zj,I.turned (t':=s.toks) (λb o hb e=>eb b o hb e) f0 f1 f3 f4 f5⟩
 self:=λ_ _ _ _ _ st h=>wpAny_pyIter_striter_ascii st h
def Wi (ts:TE):TI:=λσ H R=>ts σ H λv H1=>∃x,v=.str x/\x.cps.all (· < 128)=true/\R (Its x) H1
theorem Ur {n:Str}{ts:TE} (he:PE X e ts):PI X (.Name n pos) e (Wi ts):=by
 intro aa s σ H R I h;refine aL (he aa s σ H _ I h) λv s1 ⟨z,H1,I1,r1,x,ez,ha,q⟩=>?_;subst ez;obtain⟨t,rfl⟩:=r1;refine wpAny_pyIter_ascii ha ?_;refine⟨s1.heap.objs.size,[s1.heap.objs.size],_,_,H1,Zj,I1.kept (t':=s1.toks) λb o e=>ZY _ e,Qw _ x t,⟨_,ZO _ Zj,Zj,Zj⟩,λb hb=>?_,q⟩;have e:b=s1.heap.objs.size:=by simpa using hb
 subst e;exact I1.eJ (Zx _) (I1.aE.fresh (Zx _))
theorem Iu:entryFor table "proto.unchain" = some Builtin.«proto.unchain»:=entryFor_of_tree qd
section
variable {prog:Program}
theorem TL {α:Type}{c e:W3}{oc oe:Obj}{vc ve:Array Value}{Q:α->W4->Prop} (hh:A.handled=some (.ref c)) (hce:c≠e) (hc:s.heap.get? c=some oc) (hdc:oc.data=.fields vc) (h2:vc[2]?=some .none)
  (he:s.heap.get? e=some oe) (iC:oe.data=.fields ve) (hz:2<ve.size) (h:E (.ref e) { s with heap:=s.heap.update e (Obj.mapFields (·.setIfInBounds 2 (.ref c))) }):wpAny (model prog w) A (raiseNew (.ref e):Sem α) Q E s:=by
 unfold raiseNew;refine Zw (wpAny_handled ?_);rw[hh]
 dsimp only
 rw[Zo (show(Value.ref c != Value.ref e)=true by simp[hce])];refine Zw (ZL (wpAny_runValue (codeAny_builtin Iu ?_)));unfold Builtin.«proto.unchain»
 dsimp only
 refine Zw (wpAny_field hc hdc h2 ?_);rw[Zo qc];refine Zv ?_;show wpAny _ _ _ _ _ _;have up:=wpAny_setField (M:=model prog w) (A:=A) (E:=E) (x:=Value.ref c) (Q:=λ_ s'=>E (.ref e) s') he iC hz h;unfold setField at up;exact Zw (Zu up (λ_ s' z=>wpAny_throw z) λ_ _ z=>z)
theorem D5 {it l c:W3}{i:Nat}{xs:Array Value}{oc:Obj}{vc:Array Value}{Q:Option Value->W4->Prop} (hh:A.handled=some (.ref c)) (hc:s.heap.get? c=some oc) (hdc:oc.data=.fields vc) (h2:vc[2]?=some .none) (hci:c≠it)
  (hI:s.heap.IsListIter it l i) (hL:s.heap.IsList l xs) (hx:xs[i]?=none) (fin:∀h',Heap.ExtBut it s.heap h'->Q none { s with heap:=h' }):wpAny (model prog w) A (pyNext (.ref it)) Q E s:=by
 obtain⟨o,ho,oc1,hd⟩:=id hI;obtain⟨ol,hol,_,nl,hdl⟩:=hL;unfold pyNext;refine Zw (wpAny_attempt (wpAny_callSpecial?_slot (name:=Str.ofString "__next__") hI.typeIs slot_listiter_next (wpAny_call_entry slot_listiter_next hI.typeIs entry_listiter_next ?_ (args_listiter_next _))));show wpAny _ _ (field (.ref it) 0 >>= _) _ _ s;refine Zw (wpAny_field (x:=.ref l) ho hd Zj ?_);show wpAny _ _ (if (Value.ref l==Value.none)=true then _ else _) _ _ s;rw[Zp (by simp:¬ (Value.ref l==Value.none)=true)];show wpAny _ _ (field (.ref it) 1 >>= _) _ _ s;refine Zw (wpAny_field (x:=.int i 0) ho hd Zj ?_);show wpAny _ _ (seqItems? (.ref l) >>= _) _ _ s;refine Zw (wpAny_seqItems hol hdl ?_);simp only[Int.toNat_natCast,hx];refine Zw (wpAny_rule (Zw (wpAny_setField ho hd (by simp) ?_)));show wpAny _ _ (newExc (.type "StopIteration") [] >>= raiseNew) _ _ _;refine Zw ?_;simp only[newExc,newTuple];refine Zw (wpAny_newObj_type ?_ (by size_fits));refine Zw (m:=firstArgMember _ _) (wpAny_of_eq (a:=Value.none) (by first |rfl | (simp only[firstArgMember];rfl)) (wpAny_newObj_type ?_ (by size_fits)));have k1:=(ZX s.heap (Obj.mapFields (·.setIfInBounds 0 Value.none)) (Ne.symm hci)).trans hc;refine TL (c:=c) (show A.in1.handled=_ from hh) (λz=>?_) (ZY _ (ZY _ k1)) hdc h2 (ZO _ Zj) Zj (by simp;omega) ?_
 ·have:=lt_size (ZY { cls:=.type "tuple", data:=.seq #[] } k1);rw[z]at this;exact absurd this (ZH _)
 ·refine Zw (wpAny_isInstance (T := "StopIteration") (b:=true) ⟨_,ZV _ (ZO _ Zj) Zj,Zj⟩ isSubtype_stop ?_);refine Zv (fin _ λb u hb z=>?_);have z1:=(ZX s.heap (Obj.mapFields (·.setIfInBounds 0 Value.none)) (Ne.symm hb)).trans z;have z2:=ZY { cls:=.type "tuple", data:=.seq #[] } z1;rw[ZX _ _ (Nat.ne_of_gt (lt_size z2))];exact ZY _ z2
end
def Sft (X:Cx):Prop:=∃e oe vs,X.A.handled=some (.ref e)/\(e,oe)∈X.pn/\oe.data=.fields vs/\vs[2]?=some .none
def g7 (X:Cx):Prop:=X.calm=true\/Sft X
theorem g7.comp {N':Ww}{scope:Scope}{cl:List (Str×W3)}{fp:List W3} (h:g7 X):g7 (Ar X N' scope cl s H C fp (X.pn++aa)):=by
 rcases h with h |⟨e,oe,vs,a,b,c,d⟩
 ·exact .inl h
 ·exact .inr ⟨e,oe,vs,a,ZQ _ b,c,d⟩
section
theorem Qx {it l:W3}{i:Nat}{xs:Array Value}{Q:Option Value->W4->Prop} (hc:g7 X) (I:Inv X aa σ H s) (hf:EB X aa H it) (hI:s.heap.IsListIter it l i) (hL:s.heap.IsList l xs) (hx:xs[i]?=none)
  (fin:∀h',Heap.ExtBut it s.heap h'->Q none { s with heap:=h' }):wpAny (model X.prog X.w) X.A (pyNext (.ref it)) Q E s:=by
 rcases hc with hc |⟨e,oe,vs,a,b,c,d⟩
 ·exact wpAny_pyNext_list_end (I.ok.hd hc) hI hL hx fin
 ·exact D5 a (I.pin (e,oe) (ZQ _ b)).1 c d (hf.2.2.2.2.2 (e,oe) (ZQ _ b)) hI hL hx fin
end
theorem M9 {tg:Expr} (a it:W3):UT g7 P w K tg (g8 K a) [it] it (λi h=>h.IsListIter it a i):=by
 have T:=JD (P:=P) (w:=w) (K:=K) (tg:=tg) a it;refine⟨T.obj,T.keep,?_,?_,T.self⟩
 ·intro X hP hw hK hc i aa s σ H E I hf st hg;subst hP hw hK;obtain⟨xs,x,hq,hx⟩:=hg;obtain⟨its,rv,p,hz⟩:=I.list hq;obtain⟨u,hu,ru⟩:=rv.get hx;obtain⟨f0,f1,f2,f3,f4,f5⟩:=hf it (by simp);refine wpAny_pyNext_list_item st p.isList (x:=u) (by simpa using hu) λh' eQ sb=>?_;obtain⟨o,e,c,d⟩:=id eQ;exact⟨u,Zj,N3 (s:={ s with heap:=h' }) e c d qc ⟨x,H,I.turned (t':=s.toks) (λb o hb e=>(sb.2 b hb).trans e) f0 f1 f3 f4 f5,ru,⟨Zj,λys hy=>by rw[I.list_inj hy hq];exact hx⟩,eQ,λb hb=>(hf b hb).1⟩⟩
 ·intro X hP hw hK hc i aa s σ H E I hf st hg;subst hP hw hK;obtain⟨xs,hq,hx⟩:=hg;obtain⟨its,rv,p,hz⟩:=I.list hq;have f:=hf it (by simp);have hl:=rv.length;exact Qx hc I f st p.isList (by simp;omega) λh' eb=>⟨Zj,I.turned (t':=s.toks) (λb o hb e=>eb b o hb e) f.1 f.2.1 f.2.2.2.1 f.2.2.2.2.1 f.2.2.2.2.2⟩
section
variable {iter elt:Expr}{ifs:List Expr}{scope:Scope}{px:Pos}{wi:TI}{tt:TT}
theorem Qy {tg l:Expr}{tl:TE} (hl:PE X l tl):PIg g7 X tg l (Qa X.K tl):=by
 intro aa s σ H R I h;refine aL (hl aa s σ H _ I h) λv s1 ⟨x,H1,I1,r1,a,e,⟨xs,hq⟩,q⟩=>?_;subst e;cases r1;obtain⟨its,rv,p,hz⟩:=I1.list hq;refine wpAny_pyIter_list p.isList ⟨s1.heap.objs.size,[s1.heap.objs.size],_,_,H1,Zj,I1.kept (t':=s1.toks) λb o e=>ZY _ e,M9 a _,⟨_,ZO _ Zj,Zj,Zj⟩,λb hb=>?_,q⟩;obtain rfl:b=s1.heap.objs.size:=by simpa using hb
 exact I1.eJ (Zx _) (I1.aE.fresh (Zx _))
theorem PP (Nc:Ww) (fm:List (Option Nat)) (hf:Hq X.env.scope scope X.N (x::Nc) (none::fm)=true) (gp:(x::Nc).Nodup) (hx:scope.names.lookup x=some .local) (hc:g7 X) (hi:PIg g7 X (.Name x px) iter wi)
  (ht:∀cl s H C fp pn,iq (Ar X (x::Nc) scope cl s H C fp pn) ifs tt) (he:∀cl s H C fp pn,PE (Ar X (x::Nc) scope cl s H C fp pn) elt te) (hs:∀x,foldedSetIterable iter X.env x=pure x:=by intro _;rfl) :
  PE X (.ListComp elt [⟨.Name x px,iter,ifs,0⟩] scope pos) (λσ H Q=>Dj wi (Cn 0) tt te (none::fm) (λys H'=>∀p,H' p=none->Q (.ref p) (upd H' p (.lst ys))) σ H) :=
 JR (aY.of hf) (λ_ _ _ _ _ _=>hc.comp) hi (λcl s H C fp pn=>Hs (AT (i:=0) gp rfl (.inl (Z5 hx)) (.inr (Z5 hx)))) ht he hs
end
theorem NA {p:W3}{its:Wx} (hc:g7 X) (I:Inv X aa σ H s) (pl:s.heap.IsList p its.toArray):∃fp St,Walks X.prog X.w X.A.in1 s.heap.objs.size fp [s.heap.objs.size] its.toArray.size (λi v=>its.toArray[i]?=some v) St /\
  St 0 (s.heap.push { cls:=.type "list_iterator", data:=.fields #[.ref p,.int 0 0] })/\∀b∈fp,b<s.heap.objs.size+1:=by
 have hp:p<s.heap.objs.size:=by obtain⟨o,e,_⟩:=id pl;exact lt_size e
 have iJ:(s.heap.push { cls:=.type "list_iterator", data:=.fields #[.ref p,.int 0 0] }).IsListIter s.heap.objs.size p 0/\(s.heap.push { cls:=.type "list_iterator", data:=.fields #[.ref p,.int 0 0] }).IsList p its.toArray :=
  ⟨⟨_,ZO _ rfl,rfl,rfl⟩,pl.at λo e=>ZY _ e⟩
 rcases hc with hc |⟨e,oe,vs,a,b,c,d⟩
 ·refine⟨_,_,Walks.list (A:=X.A.in1) (show X.A.in1.handled=none from I.ok.hd hc) _ p (ZE hp) its.toArray,iJ,λb hb=>?_⟩;have z:b=s.heap.objs.size\/b=p:=by simpa using hb
  rcases z with rfl |rfl
  ·exact Nat.lt_succ_self _
  ·exact Nat.lt_succ_of_lt hp
 ·have he:=(I.pin (e,oe) (ZQ _ b)).1;have hlt:=lt_size he;refine⟨[s.heap.objs.size,p,e],λi h=>(h.IsListIter s.heap.objs.size p i/\h.IsList p its.toArray)/\h.get? e=some oe,⟨λb hb=>by simp at hb;simp[hb],λi h h' st k=>⟨⟨st.1.1.at λo z=>k _ (by simp) o z,st.1.2.at λo z=>k _ (by simp) o z⟩,k e (by simp) oe st.2⟩,?_,?_,λ_ _ _ _ st hQ=>wpAny_pyIter_listiter st.1.1 hQ⟩,⟨iJ,ZY _ he⟩,λb hb=>?_⟩
  ·intro i s1 Q E hi st hQ;refine wpAny_pyNext_list_item st.1.1 st.1.2 (x:=its.toArray[i]) (by simp[hi]) λh' t1 t2=>?_;exact hQ _ h' s1.toks (by simp[hi]) ⟨⟨t1,st.1.2.extBut t2.extBut (ZE hp)⟩,t2.extBut e oe (ZE hlt) st.2⟩ λb o hb z=>t2.extBut b o (λy=>hb (by simp[y])) z
  ·intro s1 Q E st hQ;exact D5 (show X.A.in1.handled=_ from a) st.2 c d (ZE hlt) st.1.1 st.1.2 (by simp) λh' z=>hQ h' s1.toks λb o hb y=>z b o (λy'=>hb (by simp[y'])) y
  ·have z:b=s.heap.objs.size\/b=p\/b=e:=by simpa using hb
   rcases z with rfl |rfl |rfl
   ·exact Nat.lt_succ_self _
   ·exact Nat.lt_succ_of_lt hp
   ·exact Nat.lt_succ_of_lt hlt
noncomputable def OJ (a p:W3):HO:=.ext λh=>h.IsItemsView p a
noncomputable def OK (a p:W3):HO:=.ext λh=>h.IsValuesView p a
section
variable {o:Expr}{to:TE}{name:Str}{apos bZ:Pos}{id:String}{r:V->Wy->Hp->VK->Prop}
theorem NB (slot:Slot "dict" name id) (hty:typeOf (.builtin id)=pure (.type "method_descriptor")) (hm:MtR X id r) (ho:PE X o to)
  (bw:attributeBase o name X.env (eval o X.env)=eval o X.env:=by rfl) (b8:(apos.endLine==bZ.line)=true:=by rfl) :
  PE X (.Call (.Attribute o name apos) [] [] bZ) (λσ H Q=>to σ H λx H1=>∃a,x=.ref a/\IsD H1 a/\r x [] H1 Q):=by
 intro aa s σ H Q I h;refine wpAny_Call_method0_late bw b8 (aL (ho aa s σ H _ I h) λv s1 ⟨x,H1,I1,r1,a,ex,d,q1⟩=>?_);subst ex;cases r1;obtain⟨t1,t2,_⟩:=M6 I1 d;exact⟨"dict", id,PySem.F.plainAttrs_dict,slot,hty,t1,t2,Calls.callWith_builtin Zj (PySem.evalArgs_none (hm aa s1 σ H1 (.ref a) [] (.ref a) [] Q I1 Zj .nil q1))⟩
theorem Qz:MtR X "dict.items" (λx xs H Q=>∃a kvs,x=.ref a/\xs=[]/\Rd H a (.dK kvs)/\∀p,H p=none->Q (.ref p) (upd H p (OJ a p))):=by
 intro aa s σ H x xs v us Q I rx rs h;obtain⟨a,kvs,rfl,rfl,hd,q⟩:=h;cases rx;cases rs;obtain⟨z,y,vs,rel,dd⟩:=DQ I.aE hd;refine call_meetsIn PySem.F.slot_dict_items dd.typeIs PySem.F.entry_dict_items (PySem.F.args_dict_items_1 _) (meets_dict_items (Af X.prog X.w) a y) ⟨⟨vs,dd⟩,?_⟩;refine⟨.ref s.heap.objs.size,_,I.laid (t':=s.toks) (o:=OJ a s.heap.objs.size) (λb o e=>ZY _ e) (Zx _) ⟨⟨_,ZO _ Zj,Zj,Zj⟩,⟨_,ZO _ Zj⟩,λh1 h2 z k=>?_⟩,Zj,q _ (I.aE.fresh (Zx _))⟩;obtain⟨ob,e,r⟩:=z;exact⟨ob,k ob e,r⟩
theorem JS:MtR X "dict.values" (λx xs H Q=>∃a kvs,x=.ref a/\xs=[]/\Rd H a (.dK kvs)/\∀p,H p=none->Q (.ref p) (upd H p (OK a p))):=by
 intro aa s σ H x xs v us Q I rx rs h;obtain⟨a,kvs,rfl,rfl,hd,q⟩:=h;cases rx;cases rs;obtain⟨z,y,vs,rel,dd⟩:=DQ I.aE hd;refine call_meetsIn PySem.F.slot_dict_values dd.typeIs PySem.F.entry_dict_values (PySem.F.args_dict_values_1 _) (meets_dict_values (Af X.prog X.w) a y) ⟨⟨vs,dd⟩,?_⟩;refine⟨.ref s.heap.objs.size,_,I.laid (t':=s.toks) (o:=OK a s.heap.objs.size) (λb o e=>ZY _ e) (Zx _) ⟨⟨_,ZO _ Zj,Zj,Zj⟩,⟨_,ZO _ Zj⟩,λh1 h2 z k=>?_⟩,Zj,q _ (I.aE.fresh (Zx _))⟩;obtain⟨ob,e,r⟩:=z;exact⟨ob,k ob e,r⟩
theorem Ci {α β:Type}{F:α->β->Prop}:∀ {xs:List α}{ys:List β},xs.length=ys.length->(∀(j:Nat) x y,xs[j]?=some x->ys[j]?=some y->F x y)->Paired F xs ys
 | [],[],_,_=>.nil
 | [],_::_,h,_=>by simp at h
 |_::_,[],h,_=>by simp at h
 |x::xs,y::ys,h,k=>.cons (k 0 x y rfl rfl) (Ci (by simpa using h) λj a b ea eb=>k (j+1) a b (by simpa using ea) (by simpa using eb))
theorem NC (hc:X.calm=true):BZ X (.type "list") (λxs H Q=>∃a kvs,xs=[.ref a]/\Rd H a (.dK kvs)/\∀l,H l=none->Q (.ref l) (upd H l (.lst (kvs.map λkv=>kV kv.1)))):=by
 intro aa s σ H xs us Q I r h;obtain⟨a,kvs,rfl,hd,q⟩:=h;obtain⟨u,rfl,ru⟩:=Bu r;cases ru;obtain⟨z,y,vs,rel,dd⟩:=DQ I.aE hd;obtain⟨ep,da⟩:=dd.dictAt;have hl:=rel.length;refine W.kdl_call (W.kdl_dict (knd:=Af X.prog X.w) (kvs:=vs) (ep:=ep) y) (I.ok.hd hc) da (by rw[←hl];exact z) λh' tk acc c' keep e hit=>?_;refine⟨.ref s.heap.objs.size,_,I.laid (t':=tk) keep (Zx _) (show aT X.prog X.w _ h' _ (.lst (kvs.map λkv=>kV kv.1))from⟨by rw[AE];exact z,acc.toList,c',?_,by rw[Array.toArray_toList];exact e⟩),Zj,q _ (I.aE.fresh (Zx _))⟩
 refine Ci (by have e0:acc.toList.length=acc.size:=by simp
               rw[AE,e0,hit.1,hl]) λj v w' ev ew=>?_
 rw[Array.getElem?_toList]at ew;obtain⟨k,x,ex,hk⟩:=hit.2 j w' ew;rw[ZG]at ev;cases e2:kvs[j]? with
 |none=>rw[e2]at ev;cases ev
 |some kv =>
  rw[e2]at ev;simp only[Option.map_some,Option.some.injEq]at ev;obtain⟨v2,d8,_⟩:=KV.get rel e2;rw[ex]at d8;simp only[Option.some.injEq,Prod.mk.injEq]at d8;rw[←ev,←d8.1];exact Fa hk
theorem Hw (hc:X.calm=true):BZ X (.type "list") (λxs H Q=>∃p a kvs,xs=[.ref p]/\H p=some (OK a p)/\Rd H a (.dK kvs)/\∀l,H l=none->Q (.ref l) (upd H l (.lst (kvs.map (·.2))))):=by
 intro aa s σ H xs us Q I r h;obtain⟨p,a,kvs,rfl,hp,hd,q⟩:=h;obtain⟨u,rfl,ru⟩:=Bu r;cases ru;obtain⟨z,y,vs,rel,dd⟩:=DQ I.aE hd;obtain⟨ep,da⟩:=dd.dictAt;obtain⟨hv,_⟩:=I.aE p _ hp;have hl:=rel.length;refine W.kdl_call (W.kdl_values (knd:=Af X.prog X.w) (d:=a) (kvs:=vs) (ep:=ep)) (I.ok.hd hc) ⟨hv,da⟩ (by rw[←hl];exact z) λh' tk acc c' keep e hit=>?_;refine⟨.ref s.heap.objs.size,_,I.laid (t':=tk) keep (Zx _) (show aT X.prog X.w _ h' _ (.lst (kvs.map (·.2)))from⟨by rw[AE];exact z,acc.toList,c',?_,by rw[Array.toArray_toList];exact e⟩),Zj,q _ (I.aE.fresh (Zx _))⟩
 refine Ci (by have e0:acc.toList.length=acc.size:=by simp
               rw[AE,e0,hit.1,hl]) λj v w' ev ew=>?_
 rw[Array.getElem?_toList]at ew;obtain⟨k,ex⟩:=hit.2 j w' ew;rw[ZG]at ev;cases e2:kvs[j]? with
 |none=>rw[e2]at ev;cases ev
 |some kv =>
  rw[e2]at ev;simp only[Option.map_some,Option.some.injEq]at ev;obtain⟨v2,d8,rv2⟩:=KV.get rel e2;rw[ex]at d8;simp only[Option.some.injEq,Prod.mk.injEq]at d8;rw[←ev,d8.2];exact rv2
theorem Fb (hc:X.calm=true):BZ X (.builtin "sorted") (λxs H Q=>∃a kvs,xs=[.ref a]/\Rd H a (.dK kvs)/\kvs.length<64/\(∀kv∈kvs,∃i,kv.1=Sum.inl i) /\
  ∀(l:W3) (ns:List Int),H l=none->ns.Perm (kvs.map λkv=>match kv.1 with |Sum.inl i=>i |Sum.inr _=>0)->ns.Pairwise (· <= ·)->Q (.ref l) (upd H l (.lst (ns.map V.int)))):=by
 intro aa s σ H xs us Q I r h;obtain⟨a,kvs,rfl,hd,h64,hk,q⟩:=h;obtain⟨u,rfl,ru⟩:=Bu r;cases ru;obtain⟨z,y,vs,rel,dd⟩:=DQ I.aE hd;obtain⟨ep,da⟩:=dd.dictAt;have hl:=rel.length;refine Calls.call_function_entry kind_sorted plain_sorted entry_sorted (args_sorted1 _) ?_;unfold Builtin.«sorted»;refine Zw (m:=checkCount "sorted" 1 1 _) (Zv ?_);refine Zw (W.kdu_collect (A:=X.A.in1) (W.kdl_dict (knd:=Af X.prog X.w) (kvs:=vs) (ep:=ep) y) (I.ok.hd hc) da (by rw[←hl];exact z) λh' tk acc keep hit=>?_)
 have a0:acc.toList.length=kvs.length:=by
  have e0:acc.toList.length=acc.size:=by simp
  rw[e0,hit.1,hl]
 refine Zw (wpAny_newList ?_ (by rw[a0];exact z))
 have bq:IntsAre acc.toList (kvs.map λkv=>match kv.1 with |Sum.inl i=>i |Sum.inr _=>0):=by
  refine Cu (Ci (by rw[AE,AE,a0]) λj v w' ev ew=>?_);rw[Array.getElem?_toList]at ew;obtain⟨k,x,ex,hkk⟩:=hit.2 j w' ew;rw[ZG,ZG]at ev;cases e2:kvs[j]? with
  |none=>rw[e2]at ev;cases ev
  |some kv =>
   rw[e2]at ev;simp only[Option.map_some,Option.some.injEq]at ev;obtain⟨v2,d8,_⟩:=KV.get rel e2;rw[ex]at d8;simp only[Option.some.injEq,Prod.mk.injEq]at d8;obtain⟨i,hi⟩:=hk kv (ZR e2);rw[d8.1,hi]at hkk;rw[←ev,hi];exact Fa hkk
 have I1:Inv X aa σ H { s with heap:=h',toks:=tk }:=I.kept keep;have gW:(h'.push { cls:=.type "list", data:=.seq acc.toList.toArray }).get? h'.objs.size=some (seqObj "list" acc.toList.toArray 0):=ZO _ rfl;refine Zw (ZL (wpAny_call_entry slot_list_sort ⟨_,gW,Zj⟩ entry_list_sort (list_sort_tree gW bq (by rw[a0];exact h64) λout ns' a1 a2 a3=>⟨_,Zj,?_⟩) (args_list_sort _)));refine Zv ⟨_,Zj,?_⟩;have hn:H h'.objs.size=none:=I1.aE.fresh (Zx _);have bh:ns'.length=kvs.length:=by rw[a2.length_eq,AE]
 refine⟨.ref h'.objs.size,_,I1.laid (t':=tk) (o:=.lst (ns'.map V.int)) (h':=sortedHeap (h'.push { cls:=.type "list", data:=.seq acc.toList.toArray }) h'.objs.size acc.toList out) (λb o e=>?_) (Zx _) ⟨by rw[AE,bh];exact z,out.toList,?_⟩,Zj,q _ ns' hn a2 a3⟩
 ·rw[sortedHeap_old (ZE (lt_size e)) (lt_size (ZY _ e))];exact ZY _ e
 ·obtain⟨c,hcx⟩:=sortedHeap_at (out:=out) gW;exact⟨c,DR a1,by rw[Array.toArray_toList];exact hcx⟩
end
section
theorem Hx (hc:X.calm=true):BZ X (.builtin "all") (λxs H Q=>∃(p:W3) (bs:List Bool),xs=[.ref p]/\aJ X.K H p (bs.map V.bl)/\Q (.bl (bs.all id)) H):=by
 intro aa s σ H xs us Q I r h;obtain⟨p,bs,rfl,hq,q⟩:=h;obtain⟨u,rfl,ru⟩:=Bu r;cases ru;obtain⟨its,rv,pl,hz⟩:=I.list hq;have hp:p<s.heap.objs.size:=by obtain⟨o,n,e,_⟩:=id pl;exact lt_size e
 have bh:bs.length=its.length:=by have:=rv.length;rw[AE]at this;exact this
 refine call_all_walk (wpAny_pyIter_list pl.isList ?_);refine⟨_,_,_,_,_,_,λi=>bs.getD i false,Zj,Walks.list (A:=X.A.in1) (show X.A.in1.handled=none from I.ok.hd hc) _ p (ZE hp) its.toArray,⟨⟨_,ZO _ Zj,Zj,Zj⟩,pl.isList.at λo e=>ZY _ e⟩,λi v s' Q' E' hP hQ=>?_,λh' tk keep=>?_⟩
 ·have hv:its[i]?=some v:=by simpa using hP
  have hi:i<its.length:=(Z8.mp hv).1;have hb:bs[i]?=some (bs[i]'qe):=Z7 qe;obtain⟨u',hu',ru'⟩:=rv.get (i:=i) (x:=V.bl (bs[i]'qe)) (by rw[ZG,hb];rfl);rw[hv]at hu';cases hu';cases (show v=Value.bool _ from ru');refine Z0 ?_;have hQ':Q' (bs.getD i false) s':=hQ;rw[getD_eq_getElem?_getD,hb]at hQ';exact hQ'
 ·have I1:Inv X aa σ H { s with heap:=h',toks:=tk }:=I.kept λb o e=>keep b o (by simp;exact ZE (lt_size e)) (ZY _ e);refine⟨.bl _,H,I1,Zj,?_⟩
  have e:(List.range its.toArray.size).all (λi=>bs.getD i false)=bs.all id:=by
   rw[size_toArray,←bh,Bool.eq_iff_iff,List.all_eq_true,List.all_eq_true];constructor
   ·intro h b hb;obtain⟨i,hi,rfl⟩:=List.mem_iff_getElem.mp hb;have:=h i (mem_range.mpr hi);rw[getD_eq_getElem?_getD,Z7 hi]at this;exact this
   ·intro h i hi;have gq:=mem_range.mp hi;rw[getD_eq_getElem?_getD,Z7 gq];exact h _ (getElem_mem gq)
  rw[e];exact q
theorem EJ (ns:List Int):∀k,k<=ns.length->preSum (λi=>ns.getD i 0) k=(ns.take k).sum
 |0,_=>by simp[preSum]
 |k+1,h=>by
  have ih:=EJ ns k qe;have hk:k<ns.length:=by omega
  simp only[preSum,ih];rw[ZF,Z7 hk,sum_append];simp[getD_eq_getElem?_getD,Z7 hk]
theorem JT (hc:g7 X):BZ X (.builtin "sum") (λxs H Q=>∃(p:W3) (ns:List Int),xs=[.ref p]/\aJ X.K H p (ns.map V.int)/\(∀n∈ns,0<=n)/\ns.sum<2 ^ 62/\Q (.int ns.sum) H):=by
 intro aa s σ H xs us Q I r h;obtain⟨p,ns,rfl,hq,hnn,hsum,q⟩:=h;obtain⟨u,rfl,ru⟩:=Bu r;cases ru;obtain⟨its,rv,pl,hz⟩:=I.list hq;have hp:p<s.heap.objs.size:=by obtain⟨o,n,e,_⟩:=id pl;exact lt_size e
 have bh:ns.length=its.length:=by have:=rv.length;rw[AE]at this;exact this
 have tk0:∀k,0<=(ns.take k).sum:=λk=>by
  have:∀l:List Int,(∀n∈l,0<=n)->0<=l.sum:=λl=>by
   induction l with
   |nil=>intro _;simp
   |cons a r ih=>intro h;rw[sum_cons];have:=h a ZK;have:=ih λn hn=>h n (ZS _ hn);omega
  exact this _ λn hn=>hnn n (List.mem_of_mem_take hn)
 have tkle:∀k,(ns.take k).sum<=ns.sum:=λk=>by
  have e:ns.sum=(ns.take k).sum+(ns.drop k).sum:=by rw[←sum_append,List.take_append_drop]
  have:∀l:List Int,(∀n∈l,0<=n)->0<=l.sum:=λl=>by
   induction l with
   |nil=>intro _;simp
   |cons a r ih=>intro h;rw[sum_cons];have:=h a ZK;have:=ih λn hn=>h n (ZS _ hn);omega
  have:=this _ λn hn=>hnn n (List.mem_of_mem_drop (i:=k) hn);omega
 refine call_sum_walk (wpAny_pyIter_list pl.isList ?_);obtain⟨fp,St,W,iJ,gu⟩:=NA hc I pl.isList;refine⟨_,_,_,_,_,_,λi=>ns.getD i 0,Zj,W,iJ,λb hb=>?_,λi v hP=>?_,λj hj=>?_,λh' tk t' keep=>?_⟩
 ·have hs:(s.heap.push { cls:=.type "list_iterator", data:=.fields #[.ref p,.int 0 0] }).objs.size=s.heap.objs.size+1:=Heap.size_push ..;show b<(s.heap.push { cls:=.type "list_iterator", data:=.fields #[.ref p,.int 0 0] }).objs.size;rw[hs];exact gu b hb
 ·have hv:its[i]?=some v:=by simpa using hP
  have hi:i<its.length:=(Z8.mp hv).1;have hb:ns[i]?=some (ns[i]'qe):=Z7 qe;obtain⟨u',hu',t,ru'⟩:=rv.get (i:=i) (x:=V.int (ns[i]'qe)) (by rw[ZG,hb];rfl);rw[hv]at hu';cases hu';refine⟨t,?_⟩;show v=Value.int (ns.getD i 0) t;rw[ru',getD_eq_getElem?_getD,hb];rfl
 ·have hj':j<ns.length:=by rw[size_toArray]at hj;omega
  rw[EJ ns (j+1) qe];have h1:=tk0 (j+1);have h2:=tkle (j+1);have h3:ns.getD j 0=ns[j]:=by rw[getD_eq_getElem?_getD,Z7 hj'];rfl
  have h4:=hnn _ (getElem_mem hj');have h5:(ns.take (j+1)).sum=(ns.take j).sum+ns[j]:=by rw[ZF,Z7 hj',sum_append];simp
  have h6:=tk0 j;show InLong (ns.getD j 0)/\InLong _;unfold InLong;rw[h3];omega
 ·have I1:Inv X aa σ H { s with heap:=h',toks:=tk }:=I.kept λb o e=>keep b o (by simp;exact ZE (lt_size e)) (ZY _ e);refine⟨.int ns.sum,H,I1,⟨t',?_⟩,q⟩;rw[size_toArray,←bh,EJ ns ns.length (Zx _),ZD]
theorem Q0 (hc:X.calm=true):BZ X (.builtin "sum") (λxs H Q=>∃(p:W3) (ns:List Int),xs=[.ref p]/\aJ X.K H p (ns.map V.int)/\(∀n∈ns,0<=n)/\ns.sum<2 ^ 62/\Q (.int ns.sum) H):=JT (.inl hc)
theorem Fc:MtR X "int.bit_length" (λx xs H Q=>∃i,x=.int i/\xs=[]/\Q (.int (Builtin.Int.intBits i)) H):=by
 intro aa s σ H x xs v us Q I rx rs h;obtain⟨i,rfl,rfl,q⟩:=h;obtain⟨t,rfl⟩:=rx;cases rs;exact call_int_bit_length ⟨.int _,H,I.tok _,⟨_,Zj⟩,q⟩
theorem JU:cT X (compareOp .LtE) (λx y H Q=>∃i j,x=.str i/\y=.str j/\Q (.bl (!decide (j.cps.toList<i.cps.toList))) H):=by
 intro aa s σ H x y v u Q I rx ry h;obtain⟨i,j,rfl,rfl,q⟩:=h;obtain⟨t,rfl⟩:=rx;obtain⟨t',rfl⟩:=ry;exact PySem.P.le_str (Aq I q Zj)
theorem Ix:MtR X "dict.setdefault" (λx xs H Q=>∃a kvs k v,x=.ref a/\xs=[kV k,v]/\H a=some (.dK kvs)/\kvs.length<sizeLine /\
  (∀w,BK kvs k=some w->Q w H)/\(BK kvs k=none->Q v (upd H a (.dK (CO kvs k v))))):=by
 intro aa s σ H x xs u us Q I rx rs h;obtain⟨a,kvs,k,v,rfl,rfl,hd,hl,q1,q2⟩:=h;cases rx;obtain⟨uk,uv,rfl,rk,rv⟩:=HS rs;obtain⟨z,y,vs,rel,dd⟩:=OG I.aE hd;refine call_meetsIn PySem.F.slot_dict_setdefault dd.typeIs PySem.F.entry_dict_setdefault (PySem.F.args_dict_setdefault_3 _ _ _) (PySem.kt_meets_setdefault (Af X.prog X.w) a (En rk) y uv) ⟨vs,dd,by rw[←rel.length];exact z,λw' hw=>?_,λhn h' gF hs=>?_⟩
 ·have rr:=rel.val k;rw[hw]at rr;cases e:BK kvs k with
  |none=>rw[e]at rr;exact False.elim rr
  |some w=>rw[e]at rr;exact⟨w,H,I.tok _,rr,q1 w e⟩
 ·have rr:=rel.val k;rw[hn]at rr
  have e:BK kvs k=none:=by
   cases e:BK kvs k with
   |none=>rfl
   |some w=>rw[e]at rr;exact False.elim rr
  have he:∃q,h'.get? a=some q:=let ⟨q,_,_,hq,_⟩:=gF;⟨q,hq⟩
  have iA:(CO kvs k v).length<=sizeLine:=by have:=CP kvs k v;omega
  exact⟨v,_,Ee I (by rw[hd];exact True.intro) hs he (J1 iA y (rel.put k rv) gF),rv,q2 e⟩
theorem Q3:BZ X (.builtin "isinstance") (λxs H Q=>∃v T t b,xs=[v,.ty T]/\cY X.K H v t/\W.kitOne X.K t (.type T)=some b/\Q (.bl b) H):=by
 intro aa s σ H xs us Q I r h;obtain⟨v,T,t,b,rfl,ty,hk,q⟩:=h;obtain⟨u,uT,rfl,ru,ruT⟩:=HS r;cases (show uT=Value.type T from ruT);exact JI I ru ty hk λtk=>⟨.bl b,H,I.tok tk,Zj,q⟩
end
noncomputable def LD (d:Int):List Int->Int
 | []=>d
 |n::r=>r.foldl max n
theorem JV (d:Int) (ns:List Int) (n:Int) (h:ns≠ []):LD d (ns++[n])=max (LD d ns) n:=by
 cases ns with
 |nil=>exact absurd rfl h
 |cons a r=>show(r++[n]).foldl max a=_;rw[foldl_append];rfl
theorem PQ (a v:Value):argsOk "max" ⟨[a],[(Str.ofString "default", v)]⟩:=by unfold argsOk;kernel_rfl
section
variable {prog:Program}{R:Result->W4->Prop}{p I S:W3}{its:Wx}{ns:List Int}{d:Value}
noncomputable def Q4:Option (Int×Tok)->Array Value
 |none=>#[]
 |some (m,t)=>#[.int m t,.int m t]
theorem PR (hh:A.handled=none) (bq:IntsAre its ns) (hpI:p≠I) (il:S≠I) (hpS:p≠S)
  (hR:∀h' tk v,(∀b o,b≠I->b≠S->s.heap.get? b=some o->h'.get? b=some o)->(ns=[]->v=d)->(ns≠ []->∃t,v=.int (LD 0 ns) t)->R (.ok (.ret v)) { s with heap:=h',toks:=tk }) :
  ∀(k i:Nat) (h:Heap) (tk c:Nat) (b:Option (Int×Tok)),its.length - i=k->i<=its.length->h.IsListIter I p i->h.IsList p its.toArray->h.get? S=some { cls:=.type "list", data:=.seq (Q4 b) c } ->
   (b=none->i=0)->(∀m t,b=some (m,t)->0<i/\m=LD 0 (ns.take i))->(∀b' o,b'≠I->b'≠S->s.heap.get? b'=some o->h.get? b'=some o) ->
   codeAny (model prog w) A (.builtin "max.loop" ⟨[.ref I,.none,.ref S],[(Str.ofString "default", d)]⟩) R { s with heap:=h,toks:=tk }:=by
 have bv:(toString "max" ++ toString ".loop" : String) = "max.loop" := by decide
 have bh:=bq.length;intro k;induction k with
 |zero =>
  intro i h tk c b hk hi hit hl hS hb0 iU keep;have e:i=its.length:=by omega
  refine codeAny_builtin PySem.F.entry_max_loop ?_;rw[Around.under_plainId PySem.F.plain_max_loop _];show wpAny _ A.in1 (seqItems? (.ref S) >>= _) _ _ _;refine Zw (wpAny_seqItems hS rfl ?_);show wpAny _ A.in1 (tryCatch (pyNext (.ref I)) _ >>= _) _ _ _;refine Zw (wpAny_tryCatch (wpAny_pyNext_list_end (show A.in1.handled=none from hh) hit hl (by simp;omega) λh' eb=>?_));cases b with
  |none =>
   have hn:ns=[]:=by
    have:=hb0 rfl;exact List.eq_nil_of_length_eq_zero qe
   exact Zw (wpAny_rule (Zv (hR h' tk d (λb o h1 h2 q=>eb b o h1 (keep b o h1 h2 q)) (λ_=>rfl) λz=>absurd hn z)))
  |some mt =>
   obtain⟨m,t⟩:=mt;obtain⟨hpos,hm⟩:=iU m t rfl
   have bc:ns≠ []:=λz=>by
    have:its.length=0:=by rw[bh,z];rfl
    omega
   show wpAny _ A.in1 (updateSeq S (λ_=>#[]) >>= _) _ _ _;refine Zw (wpAny_updateSeq (eb S _ il hS) Zj (Zw (wpAny_letGo (Zv ?_))) dQ);refine hR _ tk _ (λb o h1 h2 q=>(ZX _ _ (Ne.symm h2)).trans (eb b o h1 (keep b o h1 h2 q))) (λz=>absurd z bc) λ_=>⟨t,?_⟩;rw[hm,e,bh,ZD]
 |succ k ih =>
  intro i h tk c b hk hi hit hl hS hb0 iU keep;have hlt:i<its.length:=by omega
  have hv:its[i]?=some its[i]:=Z7 hlt
  obtain⟨n,t,hn,hvt⟩:∃n t,ns[i]?=some n/\its[i]=.int n t:=by
   have gM:i<ns.length:=by omega
   obtain⟨u,hu,t,ru⟩:=(DR bq).get (i:=i) (x:=V.int ns[i]) (by rw[ZG,Z7 gM];rfl);rw[hv]at hu;exact⟨ns[i],t,Z7 gM,(Option.some.inj hu).trans ru⟩
  refine codeAny_builtin PySem.F.entry_max_loop ?_;rw[Around.under_plainId PySem.F.plain_max_loop _];show wpAny _ A.in1 (seqItems? (.ref S) >>= _) _ _ _;refine Zw (wpAny_seqItems hS Zj ?_);show wpAny _ A.in1 (tryCatch (pyNext (.ref I)) _ >>= _) _ _ _;refine Zw (wpAny_tryCatch (wpAny_pyNext_list_item hit hl (x:=.int n t) (by simpa[hvt]using hv) λh' dY sb=>?_));have hS':h'.get? S=some { cls:=.type "list", data:=.seq (Q4 b) c }:=(sb.2 S il).trans hS;have iA:h'.IsList p its.toArray:=hl.at λo q=>(sb.2 p hpI).trans q;have keep':∀b' o,b'≠I->b'≠S->s.heap.get? b'=some o->h'.get? b'=some o:=λb' o h1 h2 q=>(sb.2 b' h1).trans (keep b' o h1 h2 q);have etk:ns.take (i+1)=ns.take i++[n]:=by rw[ZF,hn];rfl
  have store:∀c0,(∀v,v=Value.int n t->(h'.update S (Obj.mapSeq λ_=>#[v,v])).get? S=some { cls:=.type "list", data:=.seq (Q4 (some (n,t))) c0 })->n=LD 0 (ns.take (i+1)) ->
    codeAny (model prog w) A (.builtin "max.loop" ⟨[.ref I,.none,.ref S],[(Str.ofString "default", d)]⟩) R { s with heap:=h'.update S (Obj.mapSeq λ_=>#[.int n t,.int n t]),toks:=tk }:=λc0 e0 em =>
   ih (i+1) _ tk c0 (some (n,t)) qe hlt (dY.at λo q=>(ZX _ _ il).trans q) (iA.at λo q=>(ZX _ _ (Ne.symm hpS)).trans q) (e0 _ rfl) (λz=>by cases z)
    (λm t' z=>by cases z;exact⟨Nat.succ_pos _,em⟩) λb' o h1 h2 q=>(ZX _ _ (Ne.symm h2)).trans (keep' b' o h1 h2 q)
  cases b with
  |none =>
   have hi0:=hb0 rfl;show wpAny _ A.in1 (updateSeq S (λ_=>#[Value.int n t,Value.int n t]) >>= _) _ _ _;refine Zw (wpAny_updateSeq hS' Zj ?_);rw[bv];refine Zv ⟨plainId_quiet PySem.F.plain_max_loop _,store _ (λv e=>by subst e;exact get?_update_seq hS' λ_=>#[_,_]) ?_⟩;rw[etk,hi0];rfl
  |some mt =>
   obtain⟨m,t0⟩:=mt;obtain⟨hpos,hm⟩:=iU m t0 rfl
   have bc:ns.take i≠ []:=λz=>by
    have:=congrArg List.length z;rw[Zz,length_nil]at this;omega
   show wpAny _ A.in1 (tryCatch (holding [Value.int n t,Value.int n t] (richCompare .Gt (.int n t) (.int m t0) >>= _)) _ >>= _) _ _ _
   refine Zw (wpAny_tryCatch (ZL (Zw (CmpOf.ints_gt (P:=λi v=>(i=0/\v=.int n t)\/(i=1/\v=.int m t0)) (λi=>if i=0 then n else m) (λi v h=>by
    rcases h with⟨rfl,rfl⟩ |⟨rfl,rfl⟩
    ·exact⟨t,Zj⟩
    ·exact⟨t0,Zj⟩) 0 1 _ _ _ _ _ (.inl ⟨Zj,Zj⟩) (.inr ⟨Zj,Zj⟩) ?_))))
   refine Zw (ZL (Z0 ?_));refine Zw (wpAny_letGo (Zv ?_));by_cases hgt:n>m
   ·have e1:(λ(i j:Nat)=>decide ((if i=0 then n else m)>if j=0 then n else m)) 0 1=true:=ZM hgt;rw[e1];simp only[if_true];refine Zw (wpAny_updateSeq hS' Zj (Zw (wpAny_letGo ?_)) dQ);rw[bv];refine Zv ⟨plainId_quiet PySem.F.plain_max_loop _,store _ (λv e=>by subst e;exact get?_update_seq hS' λ_=>#[_,_]) ?_⟩;rw[etk,JV 0 _ n bc,←hm];omega
   ·have e1:(λ(i j:Nat)=>decide ((if i=0 then n else m)>if j=0 then n else m)) 0 1=false:=ZP hgt;rw[e1];simp only[Bool.false_eq_true,if_false];refine Zw (wpAny_letGo ?_);rw[bv]
    refine Zv ⟨plainId_quiet PySem.F.plain_max_loop _,ih (i+1) _ tk c (some (m,t0)) qe hlt dY iA hS' (λz=>by cases z) (λm' t' z=>by
     cases z;refine⟨Nat.succ_pos _,?_⟩;rw[etk,JV 0 _ n bc,←hm]
     omega) keep'⟩
end
section
variable {c:Expr}{tc:TE}{p kp:Pos}
theorem OL (hc:X.calm=true) (hg:Gl X "max") (hm:X.mg "max" = none) (he:PE X e te) (hcc:PE X c tc) (hs:starEach [e] X.env=(false,eval e X.env)::starEach [] X.env:=by rfl)
  (iP:backTo pos (starEach [e] X.env)=(false,eval e X.env)::backTo pos (starEach [] X.env):=by rfl) :
  PE X (.Call (.Name "max" p) [e] [⟨some "default", c,kp⟩] pos) (λσ H Q=>te σ H λx H1=>tc σ H1 λy H2=>∃(a:W3) (ns:List Int) (d:Int),x=.ref a/\y=.int d/\aJ X.K H2 a (ns.map V.int)/\(ns=[]->Q (.int d) H2)/\(ns≠ []->Q (.int (LD 0 ns)) H2)):=by
 intro aa s σ H Q I h;refine Z3 (Et (u:=.builtin "max") I hg hm boot_max ?_)
 let R3:V->V->Hp->Prop:=λx y H2=>∃(a:W3) (ns:List Int) (d:Int),x=.ref a/\y=.int d/\aJ X.K H2 a (ns.map V.int)/\(ns=[]->Q (.int d) H2)/\(ns≠ []->Q (.int (LD 0 ns)) H2)
 refine callWith_kw (aL ((AA he AD hs:PA X [e] (Ag te CA)) pos aa s σ H (λvs H1=>match vs with | [x]=>tc σ H1 (λy H2=>R3 x y H2) |_=>False) I h) λus s1 ⟨vs,H1,I1,r1,q1⟩=>?_) iP (by rw[iP];rfl)
 match vs,r1,q1 with
 | [x],r1,q1 =>
  refine aL ((FS (nm:=some "default") (kpos:=kp) hcc HW:PK X [⟨some "default", c,kp⟩] (Ag tc CA)) pos aa s1 σ H1 (λvs H2=>match vs with | [y]=>R3 x y H2 |_=>False) I1 q1) λus2 s2 ⟨vs2,H2,I2,r2,q2⟩=>?_
  match vs2,r2,q2 with
  | [y],r2,q2 =>
   obtain⟨a,ns,d,rfl,rfl,hq,k1,k2⟩:=q2;obtain⟨u,rfl,ru⟩:=Bu r1;cases ru;obtain⟨ud,rfl,td,rud⟩:=Bu r2;subst rud;obtain⟨its,rv,pl,hz⟩:=I2.list hq;have hp:a<s2.heap.objs.size:=by obtain⟨o,n,e,_⟩:=id pl;exact lt_size e
   show wpAny _ _ (call (.builtin "max") [.ref a] [(Str.ofString "default", .int d td)]) _ _ _;refine PyProof.Rows.kmk_tree PySem.F.kind_max PySem.F.plain_max PySem.F.entry_max (PQ _ _) ?_;show wpAny _ X.A.in1 (Builtin.Builtins.bindParams "max" ["key", "default"] 0 ⟨[],[(Str.ofString "default", .int d td)]⟩ >>= _) _ _ _;refine Zw (wpAny_of_eq (show Builtin.Builtins.bindParams "max" ["key", "default"] 0 ⟨[],[(Str.ofString "default", Value.int d td)]⟩=pure [none,some (.int d td)]from Zj) ?_);refine Zw (Zv ?_);refine Zw (wpAny_pyIter_list pl.isList ?_);refine Zw (wpAny_newList ?_ (Nat.zero_le _));have bv:(toString "max" ++ toString ".loop" : String) = "max.loop" := by decide
   rw[bv];have hS:(s2.heap.push { cls:=.type "list_iterator", data:=.fields #[.ref a,.int 0 0] }).objs.size=s2.heap.objs.size+1:=Heap.size_push ..
   refine Zv ⟨plainId_quiet PySem.F.plain_max_loop _,PR (its:=its) (ns:=ns) (s:=s2) (I.ok.hd hc) (Cu rv) (ZE hp) (by rw[hS];exact Nat.succ_ne_self _) (by rw[hS];exact ZE (Nat.lt_succ_of_lt hp))
    (λh' tk v keep e1 e2=>?_) _ 0 _ _ 0 none rfl (Nat.zero_le _) ⟨_,ZY _ (ZO _ rfl),rfl,rfl⟩ (pl.isList.at λo q=>ZY _ (ZY _ q)) (ZO _ rfl) (λ_=>rfl) (λm t z=>by cases z) λb o h1 h2 q=>ZY _ (ZY _ q)⟩
   have I3:Inv X aa σ H2 { s2 with heap:=h',toks:=tk }:=I2.kept λb o q=>keep b o (ZE (lt_size q)) (by rw[hS];exact ZE (Nat.lt_succ_of_lt (lt_size q))) q;by_cases hn:ns=[]
   ·rw[e1 hn];exact⟨.int d,H2,I3,⟨td,Zj⟩,k1 hn⟩
   ·obtain⟨t,ev⟩:=e2 hn;rw[ev];exact⟨.int _,H2,I3,⟨t,Zj⟩,k2 hn⟩
end
def aB (H:Hp):List W3->List (V×V)->Prop:=Paired λb p=>H b=some (.tup [p.1,p.2])
theorem aB.same {as:List W3}{ps:List (V×V)} (s:∀b o,H b=some o->H' b=some o) (h:aB H as ps):aB H' as ps:=Paired.mapP h λ_ _ e=>s _ _ e
theorem Inv.trackTups {as:List W3}{ps:List (V×V)} (hr:Paired (λa (p:V×V)=>∃its,Vals [p.1,p.2] its/\IsTup s.heap a its.toArray) as ps):∀(H:Hp),Inv X aa σ H s->as.Pairwise (· < ·) ->
  (∀a∈as,H a=none/\a≠X.env.locals/\X.aX.heap.objs.size<=a/\(∀x c,X.env.cells.lookup x=some c->c≠a)/\∀q∈X.pn++aa,q.1≠a)->∃H',Inv X aa σ H' s/\aA H H'/\aB H' as ps:=by
 induction hr with
 |nil=>intro H I _ _;exact⟨H,I,aA.refl H,.nil⟩
 | @cons a p as ps h hr ih =>
  intro H I hp aE;obtain⟨its,hv,ht⟩:=h;obtain⟨p1,p2⟩:=pairwise_cons.mp hp;obtain⟨o1,o2,o3,o4,o5⟩:=aE a ZK;have I1:Inv X aa σ (upd H a (.tup [p.1,p.2])) s:=I.track o1 o2 (.inr o3) o4 o5 ⟨by show 2<=sizeLine;decide,its,hv,ht⟩;have s1:aA H (upd H a (.tup [p.1,p.2])):=λb u e=>by rw[AH (AJ e o1)];exact e
  obtain⟨H',I',s',t'⟩:=ih _ I1 p2 (λb hb=>by
   obtain⟨q1,q2⟩:=aE b (ZS _ hb)
   exact⟨by rw[AH (Nat.ne_of_gt (p1 b hb))];exact q1,q2⟩)
  exact⟨H',I',s1.trans s',.cons (s' _ _ AB) t'⟩
theorem ND (hc:X.calm=true):BZ X (.type "list") (λxs H Q=>∃p a kvs,xs=[.ref p]/\H p=some (OJ a p)/\Rd H a (.dK kvs) /\
  ∀l as H',aA H H'->H l=none->H' l=some (.lst (as.map V.ref))->aB H' as (kvs.map λkv=>(kV kv.1,kv.2))->Q (.ref l) H'):=by
 intro aa s σ H xs us Q I r h;obtain⟨p,a,kvs,rfl,hp,hd,q⟩:=h;obtain⟨u,rfl,ru⟩:=Bu r;cases ru;obtain⟨z,y,vs,rel,dd⟩:=DQ I.aE hd;obtain⟨ep,da⟩:=dd.dictAt;obtain⟨hv,_⟩:=I.aE p _ hp;have hl:=rel.length;refine W.kdx_call (knd:=Af X.prog X.w) (kvs:=vs) (ep:=ep) (I.ok.hd hc) hv da (by rw[←hl];exact z) λh' tk acc c as keep e bh G ce=>?_;have I1:Inv X aa σ H { s with heap:=h',toks:=tk }:=I.kept keep;obtain⟨n1,n2,n3,n4,n5⟩:=I.newOk (Zx s.heap.objs.size);have el:acc=(as.map Value.ref).toArray:=by rw[←ce]
 have I2:Inv X aa σ (upd H s.heap.objs.size (.lst (as.map V.ref))) { s with heap:=h',toks:=tk }:=I1.track n1 n2 (.inr n3) n4 n5 ⟨by rw[AE,bh,←hl];exact z,as.map Value.ref,c,Ci (by rw[AE,AE]) λj v w' ev ew=>by
  rw[ZG]at ev ew;cases e2:as[j]? with
  |none=>rw[e2]at ev;cases ev
  |some b=>rw[e2]at ev ew;cases ev;cases ew;rfl,by rw[←el];exact e⟩
 have hpp:Paired (λa (p:V×V)=>∃its,Vals [p.1,p.2] its/\IsTup h' a its.toArray) as (kvs.map λkv=>(kV kv.1,kv.2)):=(Ci (by rw[AE,bh,hl]) λj b pr eb iF=>by
   obtain⟨key,k,x,ex,hk,ho⟩:=G.pairs j b eb;rw[ZG]at iF;cases e2:kvs[j]? with
   |none=>rw[e2]at iF;cases iF
   |some kv =>
    rw[e2]at iF;simp only[Option.map_some,Option.some.injEq]at iF;obtain⟨v2,d8,rv2⟩:=KV.get rel e2;rw[ex]at d8;simp only[Option.some.injEq,Prod.mk.injEq]at d8;subst iF;refine⟨[key,x],.cons ?_ (.cons ?_ .nil),_,ho,Zj,_,Zj⟩
    ·show RelV (kV kv.1) key;rw[←d8.1];exact Fa hk
    ·show RelV kv.2 x
     rw[d8.2];exact rv2)
 obtain⟨H',I',s',t'⟩:=Inv.trackTups (s:={ s with heap:=h',toks:=tk }) hpp _ I2 G.rise (λb hb=>by
   have hgt:=G.above b hb;obtain⟨m1,m2,m3,m4,m5⟩:=I.newOk (Nat.le_of_lt hgt)
   exact⟨by rw[AH (Nat.ne_of_gt hgt)];exact m1,m2,m3,m4,m5⟩)
 exact⟨.ref s.heap.objs.size,H',I',Zj,q _ as H' (λb u e=>s' b u (by rw[AH (AJ e n1)];exact e)) n1 (s' _ _ AB) t'⟩
mutual
def BW (K:FG) (H:Hp):PyData->V->Prop
 | .none,v=>v=.aK
 | .bool b,v=>v=.bl b
 | .int i,v=>v=.int i
 | .str x,v=>v=.str x
 | .list ds,v=>∃a xs,v=.ref a/\aJ K H a xs/\Ax K H ds xs
 | .tuple ds,v=>∃a xs,v=.ref a/\bA K H a xs/\Ax K H ds xs
 | .dict _,_=>False
def Ax (K:FG) (H:Hp):List PyData->Wy->Prop
 | [],xs=>xs=[]
 |d::ds,xs=>∃x r,xs=x::r/\BW K H d x/\Ax K H ds r
end
section
mutual
theorem Inv.reads (I:Inv X aa σ H s):∀(d:PyData) (v:V) (u:Value),RelV v u->BW X.K H d v->∃as,Reads s.heap u d as
 | .none,v,u,r,h=>by
  have e:v=.aK:=by simpa[BW]using h
  subst e;cases r;exact⟨_,.none⟩
 | .bool b,v,u,r,h=>by
  have e:v=.bl b:=by simpa[BW]using h
  subst e;cases r;exact⟨_,.bool b⟩
 | .int i,v,u,r,h=>by
  have e:v=.int i:=by simpa[BW]using h
  subst e;obtain⟨t,rfl⟩:=r;exact⟨_,.int i t⟩
 | .str x,v,u,r,h=>by
  have e:v=.str x:=by simpa[BW]using h
  subst e;obtain⟨t,rfl⟩:=r;exact⟨_,.str x t⟩
 | .list ds,v,u,r,h=>by
  rw[BW]at h;obtain⟨a,xs,rfl,hq,hd⟩:=h;cases r;obtain⟨its,rv,⟨o,n,e,c,_,dd⟩,_⟩:=I.list hq;obtain⟨as,hr⟩:=I.readsAll ds xs its rv hd;exact⟨_,.list e c dd (by simpa using hr)⟩
 | .tuple ds,v,u,r,h=>by
  rw[BW]at h;obtain⟨a,xs,rfl,hq,hd⟩:=h;cases r;obtain⟨its,rv,⟨o,e,c,n,dd⟩,_⟩:=I.tuple hq;obtain⟨as,hr⟩:=I.readsAll ds xs its rv hd;exact⟨_,.tuple e c dd (by simpa using hr)⟩
 | .dict kvs,v,u,r,h=>by
  rw[BW]at h;exact h.elim
theorem Inv.readsAll (I:Inv X aa σ H s):∀(ds:List PyData) (xs:Wy) (us:Wx),Vals xs us->Ax X.K H ds xs->∃as,ReadsAll s.heap us ds as
 | [],xs,us,r,h=>by
  have e:xs=[]:=by simpa[Ax]using h
  subst e;cases r;exact⟨_,.nil⟩
 |d::ds,xs,us,r,h=>by
  rw[Ax]at h;obtain⟨x,xr,rfl,h1,h2⟩:=h;cases r with
  |cons p q =>
   obtain⟨as,h3⟩:=I.reads d x _ p h1;obtain⟨bs,h4⟩:=I.readsAll ds xr _ q h2;exact⟨_,.cons h3 h4⟩
end
end
section
theorem Us (K:FG) (hK:X.K=K) (hu:X.A.units+64<cLine):cT X (compareOp .Eq) (λx y H Q=>∃dx dy,BW K H dx x/\BW K H dy y/\SeqAt.shaped dx=true/\SeqAt.shaped dy=true/\Q (.bl (PyData.eqv dx dy)) H):=by
 subst hK;intro aa s σ H x y v u Q I rx ry h;obtain⟨dx,dy,h1,h2,s1,s2,q⟩:=h;obtain⟨as,r1⟩:=I.reads dx x v rx h1;obtain⟨bs,r2⟩:=I.reads dy y u ry h2;exact eq_dataH r1 r2 s1 s2 hu ⟨.bl _,H,I,Zj,q⟩
theorem EK (K:FG) (hK:X.K=K) (hu:X.A.units+64<cLine):cT X (compareOp .NotEq) (λx y H Q=>∃dx dy,BW K H dx x/\BW K H dy y/\SeqAt.shaped dx=true/\SeqAt.shaped dy=true/\Q (.bl (!PyData.eqv dx dy)) H):=by
 subst hK;intro aa s σ H x y v u Q I rx ry h;obtain⟨dx,dy,h1,h2,s1,s2,q⟩:=h;obtain⟨as,r1⟩:=I.reads dx x v rx h1;obtain⟨bs,r2⟩:=I.reads dy y u ry h2;exact ne_dataH r1 r2 s1 s2 hu ⟨.bl _,H,I,Zj,q⟩
theorem Ut (K:FG) (hK:X.K=K) (hu:X.A.units+64<cLine):cT X (compareOp .Eq) (λx y H Q=>∃(a b:W3) (ns ms:List Int),x=.ref a/\y=.ref b/\aJ K H a (ns.map V.int)/\aJ K H b (ms.map V.int)/\Q (.bl (decide (ns=ms))) H):=by
 subst hK;intro aa s σ H x y v u Q I rx ry h;obtain⟨a,b,ns,ms,rfl,rfl,h1,h2,q⟩:=h;cases rx;cases ry;obtain⟨is1,r1,p1,_⟩:=I.list h1;obtain⟨is2,r2,p2,_⟩:=I.list h2;exact W.ke_eq_ints p1.isList p2.isList (Cu r1) (Cu r2) hu ⟨.bl _,H,I,Zj,q⟩
def Q5 (C:W3) (sp:Sp) (gV:Wy->Wy->Wy) (E:XK) (t tk:TA):TE:=λσ H Q=>t σ H λvs H1=>tk σ H1 λzs H2=>∀x dx,H2 x=none->H2 dx=none->dx≠x ->
 sp (gV (.ref x::vs) zs) (upd (upd H2 dx (.own x)) x (.ins C dx [])) (λv H3=>v=.aK/\Q (.ref x) H3) E
variable {k:Nat}{fd:FuncData}{ps ks:Ww}{sp:Sp}{p:Pos}{es:List Expr}{gc:List Keyword}{t tk:TA}{g:Wx->Wx->Wx}{gV:Wy->Wy->Wy}
theorem Hy (M:Mk X.K C f) (F:aD X.prog X.w X.K X.mg X.base aP k f fd ps sp) (hr:aH (k+1) X.A) (hg:Gl X x) (hm:X.mg x=some (.ref C)) (hb:Jv X.K fd ps ks g gV)
  (ha:PA X (e::es) t) (hkw:PK X gc tk) (bx:(backToKw pos (keywordEach gc X.env)).all (·.1.isSome)=true:=by rfl) (hks:(backToKw pos (keywordEach gc X.env)).filterMap (·.1)=ks:=by rfl)
  (dG:(x==("__debug__" : Str))=false:=by decide) (he:starEach (e::es) X.env=(false,eval e X.env)::starEach es X.env:=by rfl)
  (dA:((backTo pos (starEach (e::es) X.env)).any (·.1)||(backToKw pos (keywordEach gc X.env)).any (·.1.isNone))=false:=by rfl) :
  PE X (.Call (.Name x p) (e::es) gc pos) (Q5 C sp gV E0 t tk):=by
 intro aa s σ H Q I h;refine Z3 (Br I hg hm ?_ dG);refine W.callWith_KW (h₀:=X.base) I.ok.mod.kin M.kp bx (aL (ha pos aa s σ H _ I h) λus s1 ⟨vs,H1,I1,r,q⟩=>?_) dA he;refine aL (hkw pos aa s1 σ H1 _ I1 q) λws s2 ⟨zs,H2,I2,rz,q2⟩=>⟨I2.cC,?_⟩;rw[hks];have hq:=q2 (s2.heap.objs.size+1) s2.heap.objs.size (I2.aE.fresh (Nat.le_succ _)) (I2.aE.fresh (Zx _)) (ZE (Nat.lt_succ_self _));have I3:=Inv.made (C:=C) I2;have r2:Vals (gV (V.ref (s2.heap.objs.size+1)::vs) zs) (g (Value.ref (s2.heap.objs.size+1)::us) ws):=hb.rel (.cons rfl r) rz;have hl:(g (Value.ref (s2.heap.objs.size+1)::us) ws).length=ps.length:=by rw[←r2.length];exact F.len _ _ _ _ hq
 refine wpAny_call (HU (f:=f) I2.cC M.makes M.init (beq_iff_eq.mp M.fn) (codeAny_mono (F.run _ X.stack _ _ ⟨Value.ref (s2.heap.objs.size+1)::us,ks.zip ws⟩ _ _ _ E0 (hr.make C us (ks.zip ws)) (I3.fG.make C us (ks.zip ws)) (hb.to _ _ _ I3.cC hl) r2 hq) λr' s' dZ=>?_));cases r' with
 |error e=>exact dZ.elim
 |ok fl =>
  cases fl with
  |ret u =>
   obtain⟨v,H',I4,rv,ev,q3⟩:=I3.after dZ;subst ev;exact⟨rv,⟨V.ref (s2.heap.objs.size+1),H',I4,Zj,q3⟩⟩
  |next=>exact False.elim dZ
  |brk=>exact False.elim dZ
  |cont=>exact False.elim dZ
def Wj (i j:Int):Prop:=Builtin.Int.intBits i<=2 ^ 20/\Builtin.Int.intBits j<=2 ^ 20
theorem J5:cT X (binaryOp .Mult) (rI Wj λi j=>.int (i*j)):=jd λ_ _ _ _ _ _ _ hc q=>mul_int q (IntMulOk.of_bits hc.1 hc.2)
def V9 (i j:Int):Prop:=0<j/\Builtin.divisionGoesByPylong i j=false
theorem Q6:cT X (binaryOp .FloorDiv) (rI V9 λi j=>.int (i / j)):=jd λi j _ _ _ _ _ hc q=>by
 have h1:(0:Int)<j:=hc.1;exact floordiv_int qe (by rw[Int.fdiv_eq_ediv_of_nonneg i qe];exact q) (.inl hc.2)
end
section
variable {prog:Program}{x y:W3}{ox oy:Obj}{od od':Option Obj}
theorem J6 {M:Model}{args:Wx}{Q:Option Value->W4->Prop} (X:K.In s.heap) (I:W.InstAt s.heap x ox C od) (hs:W.findIn K (.ref C) "__ne__" = some (some (.builtin "object.__ne__")))
  (h:wpAny M A (call (.builtin "object.__ne__") (.ref x::args)) (λv=>Q (some v)) E s):wpAny M A (callSpecialIfBound? (.ref x) "__ne__" args) Q E s:=by
 simp only[callSpecialIfBound?,bindSpecialIfBound?];refine ZL (Zw (Zw (Zw (I.type.here ((W.looks_findIn X hs).here ?_)))));simp only[PySem.F.cmp_object.ne.bind];refine Zw (wpAny_askSetting (wpAny_ite ?_));have fin:wpAny M A (call (.builtin "object.__ne__") ([.ref x]++args) >>= λv=>pure (some v)) Q E s:=Zw (Zu h (λv s' h'=>Zv h') λ_ _ h'=>h');split
 ·exact Zw (Zv (Zv fin))
 ·exact wpAny_tryCatch (Zw (Zv (Zv fin)))
theorem LF {Q:VS} (hu:A.units+1<cLine) (X:K.In s.heap) (I:W.InstAt s.heap x ox C od) (hm:W.mroIn K C (.type "object")=some true) (hr:W.findIn K (.ref C) "__eq__" = some (some (.ref f))) (hf:W.isFn K (.ref f)=true)
    (h:wpAny (model prog w) A.in1 (call (.ref f) [.ref x,.ref y]) (λv s'=>∃b,v=.bool b/\Q (.bool (!b)) s') E s):wpAny (model prog w) A (call (.builtin "object.__ne__") [.ref x,.ref y]) Q E s:=by
  refine wpAny_call (codeAny_call_builtin PySem.F.cmp_object.ne.plain PySem.F.cmpEntry_ne (W.check_slot (i := "object.__ne__") (owner := "object") (n := "__ne__") qb qb (I.type.andThen (W.looks_mroIn X hm)) (PySem.F.cmpArgs_ne _ _) ?_));unfold Builtin.«object.__ne__»
  repeat (first
    |with_reducible refine wpAny_cRoomFor (by show A.in1.units<cLine;exact hu) ?_
    | (refine Zw (m:=callSpecialIfBound? (.ref x) (Str.ofString "__eq__") [.ref y])
        (W.ifBound_K X I hr hf (Zu h (λr s' hr=>by
          obtain⟨b,rfl,hq⟩:=hr
          repeat (first |exact hq |exact⟨_,rfl,hq⟩ |exact Zv ⟨_,rfl,hq⟩ | (refine Zw (m:=truthy (.bool _)) (Z0 ?_)) |wp_step)) λ_ _ e=>e)))
    |wp_step)
theorem Uu {Q:VS} (hu:A.units+1<cLine) (X:K.In s.heap) (I:W.InstAt s.heap x ox C od) (J:W.InstAt s.heap y oy C od') (hm:W.mroIn K C (.type "object")=some true)
  (hn:W.findIn K (.ref C) "__ne__" = some (some (.builtin "object.__ne__"))) (hr:W.findIn K (.ref C) "__eq__" = some (some (.ref f))) (hf:W.isFn K (.ref f)=true)
  (h:wpAny (model prog w) A.in1 (call (.ref f) [.ref x,.ref y]) (λv s'=>∃b,v=.bool b/\Q (.bool (!b)) s') E s):wpAny (model prog w) A (compareOp .NotEq (.ref x) (.ref y)) Q E s:=by
 show wpAny _ _ (richCompare .NotEq (.ref x) (.ref y)) _ _ _
 have one:wpAny (model prog w) A (tryCompare (.ref x) (cmpInfo .NotEq).2.1 (.ref y)) (λr s'=>∃v,r=some v/\Q v s') E s:=by
  unfold tryCompare;refine Zw (J6 X I hn (LF hu X I hm hr hf (Zu h (λv s' hv=>?_) λ_ _ e=>e)));obtain⟨b,rfl,hq⟩:=hv;exact⟨b,Zj,Zv ⟨_,Zj,hq⟩⟩
 unfold richCompare;simp only[oneThing_ref];refine ZL (Zw (wpAny_cRoomFor (Nat.lt_of_succ_lt hu) ?_));refine Zw (I.type.here (Zw (J.type.here ?_)));rw[Zp (by simp)];refine Zw (Zv ?_);simp only[Bool.false_eq_true,if_false];refine Zw (Zu one (λr s' z=>?_) λ_ _ e=>e);obtain⟨v,rfl,hq⟩:=z;exact Zv hq
end
section
variable {k:Nat}{fd:FuncData}{sp:Sp}
def WA (sp:Sp) (a b:W3) (H:Hp) (Q:VK):Prop:=sp [.ref a,.ref b] H (λv H'=>∃t:Bool,v=.bl t/\Q (.bl t) H') E0
theorem Uv {b:W3}{Q:VK} (F:aD X.prog X.w X.K X.mg X.base aP k f fd ["self", "other"] sp) (hr:aH k A) (hA:dz X.prog X.w X.K X.mg X.base A X.stack s H) (hb:Binds X.K fd ["self", "other"] []) (I:Inv X aa σ H s) (h:WA sp a b H Q) :
  wpAny (model X.prog X.w) A (call (.ref f) [.ref a,.ref b]) (λv s'=>∃t:Bool,v=.bool t/\EP X aa σ Q (.bool t) s') E s:=by
 refine wpAny_call (codeAny_mono (F.run A X.stack s H ⟨[.ref a,.ref b],[]⟩ [.ref a,.ref b] [.ref a,.ref b] _ E0 hr hA (hb s [.ref a,.ref b] I.cC rfl) (.cons rfl (.cons rfl .nil)) h) λr' s' hq=>?_);cases r' with
 |error e=>exact hq.elim
 |ok fl =>
  cases fl with
  |ret u =>
   obtain⟨v,H',I',rv,t,ev,q'⟩:=I.after hq;subst ev;cases rv;exact⟨t,Zj,.bl t,H',I',Zj,q'⟩
  |next=>exact False.elim hq
  |brk=>exact False.elim hq
  |cont=>exact False.elim hq
theorem Q7 (F:aD X.prog X.w X.K X.mg X.base aP k f fd ["self", "other"] sp) (hr:aH (k+1) X.A) (hb:Binds X.K fd ["self", "other"] []) (hm:Ql X.K C "__eq__" f) (hn:W.findIn X.K (.ref C) "__ne__" = some (some (.builtin "object.__ne__"))) (ho:W.mroIn X.K C (.type "object")=some true) :
  cT X (compareOp .NotEq) (λx y H Q=>∃a dx fs b dy gs,x=.ref a/\y=.ref b/\H a=some (.ins C dx fs)/\H b=some (.ins C dy gs)/\WA sp a b H (λv H'=>∃t:Bool,v=.bl t/\Q (.bl (!t)) H')):=by
 intro aa s σ H x y v u Q I rx ry h;obtain⟨a,dx,fs,b,dy,gs,rfl,rfl,ha,hy,q⟩:=h;cases rx;cases ry;obtain⟨mA,om,_⟩:=Ed I.aE ha;obtain⟨od,ia,_⟩:=om.look;obtain⟨mB,ob,_⟩:=Ed I.aE hy;obtain⟨odb,ib,_⟩:=ob.look;have run:=Uv (E:=X.xe) F hr.in1 I.fG.in1 hb I q;have hu:X.A.units+1<cLine:=Nat.lt_of_le_of_lt (Nat.add_le_add_left qc _) hr.units;refine Uu hu I.cC ia ib ho hn hm.at_ hm.fn (aL run λv s' hv=>?_);obtain⟨t,rfl,v',H',I',rv,t',e,q⟩:=hv;subst e;cases rv;exact⟨t,Zj,.bl _,H',I',Zj,q⟩
end
structure Hz (fs:List W3) (e:W3) (oe:Obj) (vs:Array Value) (old:W3->Prop) (h h':Heap):Prop where
 tb:∃T oT ts,h.objs.size<=T/\h'.get? T=some oT/\oT.data=.fields ts/\ts[3]?=some .none/\h'.get? e=some { oe with data:=.fields (vs.setIfInBounds 1 (.ref T)) }
 keep:∀b o,h.get? b=some o->b≠e->¬ old b->b∉ fs->h'.get? b=some o
 slot:∀b o,h.get? b=some o->b≠e->¬ old b->b∈fs->∃sl,h'.get? b=some { o with slots:=sl }
 there:∀b o,h.get? b=some o->∃o',h'.get? b=some o'
section
variable {M:Model}
theorem Dk {o:Obj}{vs:Array Value} (hd:o.data=.fields vs) (f:Array Value->Array Value):Obj.mapFields f o={ o with data:=.fields (f vs) }:=by
 obtain⟨c,d,dt,sl⟩:=o;cases hd;rfl
theorem PU {b:W3}{f:Obj->Obj} (hf:∀o,h.get? a=some o->(f o).isFreed=false):∀o,h.get? b=some o->∃o',(h.update a f).get? b=some o':=λo ho=>by
 by_cases q:b=a
 ·subst q;exact⟨_,ZV f ho (hf o ho)⟩
 ·exact⟨o,(ZX _ _ (Ne.symm q)).trans ho⟩
theorem OM {env:Env}{outer:List Env}{L e:W3}{oe:Obj}{vs:Array Value}{head:Value}{hadNext:Bool}{Q:Unit->W4->Prop}
  (hfr:A.frames=some (env::outer)) (hl:s.heap.FunFrames base (env::outer)) (hf:env.frame=some L) (he:s.heap.get? e=some oe) (hd:oe.data=.fields vs) (hsz:1<vs.size)
  (h:∀h',Hz (cQ (env::outer)) e oe vs (λ_=>False) s.heap h'->Q () { s with heap:=h' }) :
  wpAny M A (do let a ←frameOf env;let pl ←entryPlaceOf L hadNext;let b ←EntryCells.newEntry head a .none (rawInt L) .none pl;setField (.ref e) 1 b) (λ_ s'=>wpAny M A (setFlight (.ref e) none) Q E s') E s:=by
 have hene:e∉ cQ (env::outer):=λhm=>by
  obtain⟨_,o,ho,hnf⟩:=hl.mem hm;rw[he]at ho;cases ho;exact hnf vs hd
 refine Zw (wpAny_frameOf_fun hfr hl hf λh1 x1=>Zw (wpAny_entryPlaceOf λpl dA=>?_));unfold EntryCells.newEntry newFields;refine Zw (wpAny_newObj_type ?_ (dA.sizeOk5 _ _ _ _ _));generalize hpg:([head,Value.ref L,.none,rawInt L,.none]++(if pl.isEmpty then List.replicate 6 Value.none else pl)).toArray=pg;have iz:3<pg.size:=by rw[←hpg];simp only[size_toArray,ZJ,length_cons,length_nil];omega
 have e1:h1.get? e=some oe:=(x1.2.1 e hene).trans he;have e2:=ZY (h:=h1) ⟨.type "traceback", none,.fields pg,#[]⟩ e1;refine wpAny_setField e2 hd hsz ?_;have ne:h1.objs.size≠e:=Nat.ne_of_gt (lt_size e1);have d3:=Obj.data_mapFields hd (·.setIfInBounds 1 (Value.ref h1.objs.size));have e3:=ZV (Obj.mapFields (·.setIfInBounds 1 (Value.ref h1.objs.size))) e2 (Obj.isFreed_of_fields d3);have t3:=(ZX (h1.push ⟨.type "traceback", none,.fields pg,#[]⟩) (Obj.mapFields (·.setIfInBounds 1 (Value.ref h1.objs.size))) (Ne.symm ne)).trans (ZO h1 rfl);unfold setFlight;refine Zw (wpAny_field e3 d3 (x:=.ref h1.objs.size) (by simp[hsz]) ?_);rw[Zo (show(Value.ref h1.objs.size != Value.none)=true from by simp)];refine wpAny_setField t3 Zj iz (h _ ?_)
 have other:∀b o,b≠e->h1.get? b=some o->∀(g:Obj->Obj),(((h1.push ⟨.type "traceback", none,.fields pg,#[]⟩).update e (Obj.mapFields (·.setIfInBounds 1 (Value.ref h1.objs.size)))).update h1.objs.size g).get? b=some o:=λb o hb hlt g=>by
  rw[ZX _ _ (Nat.ne_of_gt (lt_size hlt)),ZX _ _ (Ne.symm hb)];exact ZY _ hlt
 refine⟨⟨h1.objs.size,_,_,Nat.le_of_eq x1.1.symm,ZV _ t3 (Obj.isFreed_of_fields (Obj.data_mapFields Zj _)),Obj.data_mapFields Zj _,by simp[iz],?_⟩,λb o hb n1 _ n3=>?_,λb o hb n1 _ n3=>?_,λb o hb=>?_⟩
 ·rw[ZX _ _ ne,e3,Dk hd]
 ·have iU:h1.get? b=some o:=(x1.2.1 b n3).trans hb;exact other b o n1 iU _
 ·obtain⟨sl,hs⟩:=x1.2.2 b o hb;exact⟨sl,other b _ n1 hs _⟩
 ·obtain⟨sl,hs⟩:=x1.2.2 b o hb;by_cases q:b=e
  ·subst q;exact⟨_,(ZX _ _ ne).trans e3⟩
  ·exact⟨_,other b _ q hs _⟩
theorem LG {env:Env}{outer:List Env}{L e:W3}{oe:Obj}{vs:Array Value}{Q:Unit->W4->Prop}
  (hfr:A.frames=some (env::outer)) (hl:s.heap.FunFrames base (env::outer)) (hf:env.frame=some L) (he:s.heap.get? e=some oe) (hd:oe.data=.fields vs) (h1:vs[1]?=some .none)
  (h:∀h',Hz (cQ (env::outer)) e oe vs (λ_=>False) s.heap h'->Q () { s with heap:=h' }):wpAny M A (leaving env (.ref e)) Q E s:=by
 unfold leaving noteFrame;simp only[hf];refine Zw (Zw (wpAny_field he hd h1 ?_));rw[Zp qc];exact OM hfr hl hf he hd (Z9.mp h1).1 h
theorem JW {env:Env}{outer:List Env}{L e T:W3}{oe oT:Obj}{vs ts:Array Value}{Q:Unit->W4->Prop}
  (hfr:A.frames=some (env::outer)) (hl:s.heap.FunFrames base (env::outer)) (hf:env.frame=some L) (he:s.heap.get? e=some oe) (hd:oe.data=.fields vs) (h1:vs[1]?=some (.ref T)) (hTe:T≠e)
  (hT:s.heap.get? T=some oT) (gk:oT.data=.fields ts) (h3:ts[3]?=some .none)
  (h:∀h',Hz (cQ (env::outer)) e oe vs (·=T) s.heap h'->Q () { s with heap:=h' }):wpAny M A (noteFrame (.ref e) env) (λ_ s2=>wpAny M A (setFlight (.ref e) none) Q E s2) E s:=by
 unfold noteFrame;simp only[hf];refine Zw (wpAny_field he hd h1 ?_);rw[Zo (show(Value.ref T != Value.none)=true from by simp)];refine Zw (wpAny_field hT gk h3 ?_);rw[Zp (show ¬ ((Value.none==rawInt L)=true)from by simp[rawInt])];refine Zw (wpAny_setField hT gk (Z9.mp h3).1 ?_);have far:∀b,b≠T->(s.heap.update T (Obj.mapFields (·.setIfInBounds 3 Value.none))).get? b=s.heap.get? b:=λb hb=>ZX _ _ (Ne.symm hb)
 have nr:∀b o,s.heap.get? b=some o->(∀vs,o.data≠ .fields vs)->b≠T:=λb o hb hn q=>by
  subst q;rw[hT]at hb;cases hb;exact hn ts gk
 refine OM (hfr:=hfr) (hl.of_keeps λb o hb hn=>⟨o,(far b (nr b o hb hn)).trans hb,Zj⟩) hf ((far e (Ne.symm hTe)).trans he) hd (Z9.mp h1).1 λh' x=>h h' ?_
 have fr:∀o,s.heap.get? T=some o->(Obj.mapFields (·.setIfInBounds 3 Value.none) o).isFreed=false:=λo ho=>by
  rw[hT]at ho;cases ho;exact Obj.isFreed_of_fields (Obj.data_mapFields gk _)
 obtain⟨T',oT',ts',a1,a2⟩:=x.tb;refine⟨⟨T',oT',ts',by rw[Heap.size_update]at a1;exact a1,a2⟩,λb o hb n1 n2 n3=>x.keep b o ((far b n2).trans hb) n1 (λz=>z) n3,λb o hb n1 n2 n3=>x.slot b o ((far b n2).trans hb) n1 (λz=>z) n3,λb o hb=>?_⟩;obtain⟨o',gj⟩:=PU fr o hb;exact x.there b o' gj
theorem NE {env:Env}{outer:List Env}{L e T:W3}{oe oT:Obj}{vs ts:Array Value}{Q:Unit->W4->Prop}
  (hfr:A.frames=some (env::outer)) (hl:s.heap.FunFrames base (env::outer)) (hf:env.frame=some L) (he:s.heap.get? e=some oe) (hd:oe.data=.fields vs) (h1:vs[1]?=some (.ref T)) (hTe:T≠e)
  (hT:s.heap.get? T=some oT) (gk:oT.data=.fields ts) (h3:ts[3]?=some .none)
  (h:∀h',Hz (cQ (env::outer)) e oe vs (·=T) s.heap h'->Q () { s with heap:=h' }):wpAny M A (leaving env (.ref e)) Q E s:=by
 unfold leaving;exact Zw (JW hfr hl hf he hd h1 hTe hT gk h3 h)
end
noncomputable def Ey (e C:W3) (dx:Option W3):HO:=.ext λh=>∃oe vs,h.get? e=some oe/\oe.cls=.ref C/\oe.dict=dx/\oe.data=.fields vs/\5<vs.size/\vs[2]?=some .none
structure Q8 (P:Program) (w:World) (l:List Env) (H:Hp) (s:W4) (e C:W3) (dx:Option W3) (H':Hp) (s':W4):Prop where
 os:s'.os=s.os
 bare:AllBare s'.gens
 un:Un (cQ l) [] H H' s.heap s'.heap
 aE:cV P w H' s'.heap
 at_:H' e=some (Ey e C dx)
def Tb0 (e:W3) (s':W4):Prop:=∃oe vs,s'.heap.get? e=some oe/\oe.data=.fields vs/\vs[1]?=some .none
def Tb1 (e:W3) (H':Hp) (s s':W4) (fl:Value):Prop:=∃oe vs T oT ts,s'.heap.get? e=some oe/\oe.data=.fields vs/\vs[1]?=some (.ref T)/\T≠e/\s'.heap.get? T=some oT/\oT.data=.fields ts/\ts[3]?=some fl/\H' T=none/\s.heap.get? T=none
def Fly (P:Program) (w:World) (l:List Env) (H:Hp) (s:W4) (e C:W3) (dx:Option W3) (H':Hp) (s':W4):Prop:=Q8 P w l H s e C dx H' s'/\Tb1 e H' s s' .none
def eN (P:Program) (w:World):fJ:=λouter H s E e s'=>∃ea C dx H',e=.ref ea/\Fly P w outer H s ea C dx H' s'/\E (.ref C) dx H'
theorem ON {base h h':Heap}{fs:List W3}{H H':Hp} (u:Un fs [] H H' h h'):∀ {l:List Env},(∀b∈cQ l,b∈fs)->(∀b∈cQ l,H b=none)->h.FunFrames base l->h'.FunFrames base l
 | [],_,_,_=>trivial
 |env::r,hs,hn,⟨hk,⟨L,o,hf,hb,ho,hd⟩,hr⟩=>by
  have hL:L∈cQ (env::r):=by unfold cQ;rw[ZN,hf];exact ZK
  have sub:∀b∈cQ r,b∈cQ (env::r):=λb z=>by unfold cQ;rw[ZN,hf];exact ZS _ z
  obtain⟨sl,e⟩:=u.slot L o ho (hn L hL) (hs L hL) (by simp);exact⟨hk,⟨L,_,hf,hb,e,hd⟩,ON u (λb z=>hs b (sub b z)) (λb z=>hn b (sub b z)) hr⟩
section
variable {H1 H2:Hp}{s1 s2:W4}{e:W3}{dx:Option W3}
structure NF (X:Cx):Prop where
 fq:X.stack=X.env::X.outer
 fr:X.env.frame=some X.env.locals
 ex:X.ex=[]
theorem LH {fs:List W3}{oe:Obj}{vs:Array Value}{old:W3->Prop}{h':Heap} (ok:cV P w H2 h) (L:Hz fs e oe vs old h h') (hf:∀b∈fs,H2 b=none) (ho:∀b,old b->H2 b=none)
  (he:h.get? e=some oe) (hd:oe.data=.fields vs) (at_:H2 e=some (Ey e C dx)):cV P w H2 h':=λb u q=>by
 have kp:∀c v,c≠e->(∃z,H2 c=some z)->h.get? c=some v->h'.get? c=some v:=λc v n ⟨z,hz⟩ hv=>L.keep c v hv n (λy=>by rw[ho c y]at hz;cases hz) λy=>by rw[hf c y]at hz;cases hz
 by_cases hb:b=e
 ·subst hb;rw[at_]at q;cases q;obtain⟨⟨oe',vs',a1,a2,a3,a4,a5,a6⟩,_,st⟩:=ok _ _ at_;rw[he]at a1;cases a1;rw[hd]at a4;cases a4;obtain⟨T,oT,ts,b1,b2,b3,b4,b5⟩:=L.tb;exact⟨⟨_,_,b5,a2,a3,Zj,by rw[Array.size_setIfInBounds];exact a5,by rw[Array.getElem?_setIfInBounds_ne qc];exact a6⟩,⟨_,b5⟩,st⟩
 ·refine(ok b u q).eG (λc v hc r=>?_) (λ_ z=>z) λ_ _ z=>z;rcases hc with rfl |hc
  ·exact kp c v hb ⟨u,q⟩ r
  ·refine kp c v (λz=>?_) ⟨_,hc⟩ r;subst z;rw[at_]at hc;cases hc
theorem LI {oe:Obj}{vs:Array Value}{old:W3->Prop}{h':Heap} (O:NF X) (I:Inv X aa σ H1 s1) (F:Q8 X.prog X.w X.stack H1 s1 e C dx H2 s2) (he:s2.heap.get? e=some oe) (hd:oe.data=.fields vs) (h1:1<vs.size)
  (hold:∀b,old b->H2 b=none/\s1.heap.get? b=none) (L:Hz (cQ X.stack) e oe vs old s2.heap h'):Fly X.prog X.w X.outer X.eD X.aX e C dx H2 { s2 with heap:=h' }:=by
 have b0:Un (cQ X.outer) [] X.eD H1 X.aX.heap s1.heap:=by have:=I.base;rw[O.ex]at this;exact this
 have free2:∀b∈cQ X.stack,H2 b=none:=λb hb=>by
  obtain⟨_,o,ho,_⟩:=I.stack.mem hb;exact F.un.free b o ho (I.stkFree b hb) (by simp)
 have ne:∀b,H2 b=none->b≠e:=λb n z=>by subst z;rw[F.at_]at n;cases n
 have out:∀b o,X.aX.heap.get? b=some o->b∉ cQ X.outer->b∉ cQ X.stack:=λb o hb hn z=>by
  rw[O.fq]at z;unfold cQ at z;rw[ZN,O.fr]at z;rcases mem_cons.mp z with z |z
  ·exact absurd (Z2 (lt_size hb) I.ok.above) (by rw[z];exact ZH _)
  ·exact hn z
 have up:∀b,b∈cQ X.outer->b∈cQ X.stack:=λb hb=>by
  rw[O.fq];unfold cQ;rw[ZN,O.fr];exact ZS _ hb
 have nold:∀b o,X.aX.heap.get? b=some o->¬ old b:=λb o hb z=>by
  obtain⟨o',gj⟩:=b0.there b o hb (by simp);rw[(hold b z).2]at gj;cases gj
 have und:Un (cQ X.outer) [] X.eD H2 X.aX.heap h':=by
  refine⟨λb o q n hb _=>?_,λb o q n hb _=>?_,λb o q n _=>?_,λb o q _=>?_,λb xs q=>F.un.eF b xs (b0.eF b xs q),λb o xs q=>F.un.eB b o xs (b0.eB b o xs q),λb ps q=>?_⟩
  ·have q1:=b0.keep b o q n hb (by simp);have n1:=b0.free b o q n (by simp);have q2:=F.un.keep b o q1 n1 (out b o q hb) (by simp);exact L.keep b o q2 (ne b (F.un.free b o q1 n1 (by simp))) (nold b o q) (out b o q hb)
  ·obtain⟨sl,q1⟩:=b0.slot b o q n hb (by simp);have n1:=b0.free b o q n (by simp);obtain⟨dQ,q2⟩:=F.un.slot b _ q1 n1 (up b hb) (by simp);obtain⟨jb,q3⟩:=L.slot b _ q2 (ne b (F.un.free b _ q1 n1 (by simp))) (nold b o q) (up b hb);exact⟨jb,q3⟩
  ·obtain⟨o1,q1⟩:=b0.there b o q (by simp);exact F.un.free b o1 q1 (b0.free b o q n (by simp)) (by simp)
  ·obtain⟨o1,q1⟩:=b0.there b o q (by simp);obtain⟨o2,q2⟩:=F.un.there b o1 q1 (by simp);exact L.there b o2 q2
  ·obtain⟨m1,e1⟩:=b0.eh b ps q;obtain⟨m2,e2⟩:=F.un.eh b _ e1;exact⟨m1++m2,by rw[e2,Array.append_assoc]⟩
 refine⟨⟨F.os.trans I.os,F.bare,und,LH F.aE L free2 (λb z=>(hold b z).1) he hd F.at_,F.at_⟩,?_⟩;obtain⟨T,oT,ts,b1,b2,b3,b4,b5⟩:=L.tb;have hT:s2.heap.get? T=none:=Heap.get?_none_of_le b1;refine⟨_,_,T,oT,ts,b5,Zj,by simp[h1],λz=>?_,b2,b3,b4,F.aE.fresh b1,?_⟩
 ·subst z;rw[he]at hT;cases hT
 ·cases q:X.aX.heap.get? T with
  |none=>rfl
  |some o =>
   obtain⟨o1,q1⟩:=b0.there T o q (by simp);obtain⟨o2,q2⟩:=F.un.there T o1 q1 (by simp);rw[hT]at q2;cases q2
theorem Ez (I:Inv X aa σ H1 s1) (F:Q8 X.prog X.w X.stack H1 s1 e C dx H2 s2):s2.heap.FunFrames X.base X.stack:=ON F.un (λ_ z=>z) I.stkFree I.stack
theorem IA {E':VS} (O:NF X) (I:Inv X aa σ H1 s1) (F:Fly X.prog X.w X.stack H1 s1 e C dx H2 s2) :
  wpAny (model X.prog X.w) X.A (leaving X.env (.ref e)) (λ_ s3=>Fly X.prog X.w X.outer X.eD X.aX e C dx H2 s3) E' s2:=by
 obtain⟨B,oe,vs,T,oT,ts,a1,a2,a3,a4,a5,a6,a7,a8,a9⟩:=F;have fr:=Ez I B;have hA:=I.ok.frames;rw[O.fq]at fr hA;refine NE hA fr O.fr a1 a2 a3 a4 a5 a6 a7 λh' L=>?_;rw[←O.fq]at L;exact LI O I B a1 a2 (Z9.mp a3).1 (λb z=>by subst z;exact⟨a8,a9⟩) L
theorem NG {E':VS} (O:NF X) (I:Inv X aa σ H1 s1) (B:Q8 X.prog X.w X.stack H1 s1 e C dx H2 s2) (T:Tb0 e s2) :
  wpAny (model X.prog X.w) X.A (leaving X.env (.ref e)) (λ_ s3=>Fly X.prog X.w X.outer X.eD X.aX e C dx H2 s3) E' s2:=by
 obtain⟨oe,vs,a1,a2,a3⟩:=T;have fr:=Ez I B;have hA:=I.ok.frames;rw[O.fq]at fr hA;refine LG hA fr O.fr a1 a2 a3 λh' L=>?_;rw[←O.fq]at L;exact LI O I B a1 a2 (Z9.mp a3).1 (λb z=>z.elim) L
end
theorem TM {CX:fJ}{qual:Str}{scope:Scope}{cd:Value}{outer:List Env}{E:XK} :
  NF (BF CX P w K mg base N qual scope f cd A outer s H E):=⟨rfl,rfl,rfl⟩
theorem UU {qual:Str}{scope:Scope}{cd:Value}{outer:List Env}{E:XK} :
  Be (eN P w) (BF (eN P w) P w K mg base N qual scope f cd A outer s H E) E:=by
 rintro aa σ H1 s1 e s2 I ⟨ea,C,dx,H2,rfl,F,q⟩;exact Zu (IA (X:=BF (eN P w) P w K mg base N qual scope f cd A outer s H E) TM I F) (λ_ s3 G=>⟨ea,C,dx,H2,Zj,G,q⟩) λ_ _ z=>z
def Q9 (X:Cx) (E:XK):Prop:=∀(aa:LO) (σ:St) (H:Hp) (s:W4) (e C:W3) (dx:Option W3) (H':Hp) (s':W4),Inv X aa σ H s->Q8 X.prog X.w X.stack H s e C dx H' s'->Tb0 e s'->E (.ref C) dx H'->X.xe (.ref e) s'
theorem J7 {qual:Str}{scope:Scope}{cd:Value}{outer:List Env}{E:XK} :
  Q9 (BF (eN P w) P w K mg base N qual scope f cd A outer s H E) E:=by
 intro aa σ H1 s1 ea C dx H2 s2 I F T q;exact Zu (NG (X:=BF (eN P w) P w K mg base N qual scope f cd A outer s H E) TM I F T) (λ_ s3 G=>⟨ea,C,dx,H2,Zj,G,q⟩) λ_ _ z=>z
structure LJ (B:String) (bm:Wx):Prop where
 b:bm.contains (.type B)=true
 base:bm.contains (.type "BaseException")=true
 na:bm.contains (.type "AttributeError")=false
 nn:bm.contains (.type "NameError")=false
section
variable {M:Model}{g:Array GenState}{d:Drawn}{t:Nat}{os:OsState}
variable {nm qn:Str}{N:W3}{bs bm jk:Wx}{bi:Bool}{sn:Ww}{sub:Wx}{ab:Bool}{col:Option Bool}{dd:Option W3}{k0 k1 k2 k3 k5:Option Value}{B newId cN:String}
theorem NH (F:ExcBaseFacts B newId cN jk) (T:LJ B bm) {rest:Wx}{Q:Unit->W4->Prop} (oC:h.get? C=some (excClassObj nm qn C N bs bm bi sn sub ab col dd k0 k1 k2 k3 k5 newId))
  (fin:Q () ⟨h,g,d,t,os⟩):wpAny M A (checkBuiltinCall newId ⟨.ref C::rest,[]⟩) Q E ⟨h,g,d,t,os⟩:=by
 have c1:(Value.ref C::bm).contains (.type B)=true:=by rw[contains_cons,T.b];simp
 have st:=F.noStar;simp only[checkBuiltinCall,F.newKind,F.newSplit,F.newRow]
 repeat (first |refine ZZ oC ?_ | (refine Z4 oC ?_;rw[c1]) |refine wpAny_staticBase_exc oC ?_ |refine wpAny_madeBy_exc oC ?_ |simp only[bne_self_eq_false,Bool.false_eq_true,if_false] |wp_step)
 exact fin
end
section
variable {prog:Program}{R:Result->W4->Prop}{g:Array GenState}{d:Drawn}{t:Nat}{os:OsState}
variable {nm qn:Str}{N:W3}{bs bm jk:Wx}{bi:Bool}{sn:Ww}{sub:Wx}{ab:Bool}{col:Option Bool}{dd:Option W3}{k0 k1 k2 k3 k5:Option Value}{B newId cN:String}
noncomputable abbrev NI (C:W3) (h:Heap):Obj:={ cls:=.ref C,data:=.fields #[.ref h.objs.size,.none,.none,.none,.bool false,.none] }
noncomputable abbrev EL (C:W3) (rest:Wx) (h:Heap):Heap:=(h.push { cls:=.type "tuple", data:=.seq rest.toArray }).push (NI C h)
theorem RB (F:ExcBaseFacts B newId cN jk) (T:LJ B bm) {rest:Wx} (oC:h.get? C=some (excClassObj nm qn C N bs bm bi sn sub ab col dd k0 k1 k2 k3 k5 newId))
  (fin:R (.ok (.ret (.ref (h.objs.size+1)))) ⟨EL C rest h,g,d,t,os⟩) (hz:rest.length<=sizeLine):codeAny (model prog w) A (.builtin newId ⟨.ref C::rest,[]⟩) R ⟨h,g,d,t,os⟩:=by
 have e1:=F.ends;have c1:(Value.ref C::bm).contains (.type B)=true:=by rw[contains_cons,T.b];simp
 have c2:(Value.ref C::bm).contains (.type "AttributeError")=false:=by rw[contains_cons,T.na];rfl
 have c3:(Value.ref C::bm).contains (.type "NameError")=false:=by rw[contains_cons,T.nn];rfl
 refine codeAny_builtinAt F.entry ?_;unfold Builtin.«BaseException.__new__»;refine PySem.wpAt_bind ?_;show PySem.wpAt _ _ _ (stack >>= _) _ _ _;refine PySem.wpAt_bind (PySem.wpAt_stack λp below=>PySem.wpAt_of_wpAny ?_)
 wp_walk
 refine PySem.wpAt_of_wpAny ?_;rw[F.owner]
 repeat (first |with_reducible refine wpAny_madeHere_exc F.canon oC ?_ |with_reducible refine ZZ oC ?_ | (with_reducible refine Z4 oC ?_;first |rw[c1] |rw[c2] |rw[c3]) |wp_step)
 show R _ _;rw[Heap.size_push];exact fin
theorem NJ (F:ExcBaseFacts B newId cN jk) (T:LJ B bm) {rest:Wx}{fI:W3}{oI:Obj}{Q:Fin->W4->Prop}
  (oC:h.get? C=some (excClassObj nm qn C N bs bm bi sn sub ab col dd k0 k1 k2 k3 k5 newId)) (li:W.Looks (model prog w) h (typeLookup (.ref C) "__init__") (some (.ref fI))) (oF:h.get? fI=some oI) (cF:oI.cls=.type "function") (hz:rest.length<=sizeLine)
  (fin:wpAny (model prog w) A (call (.ref fI) (.ref (h.objs.size+1)::rest)) (λr s'=>r=.none/\Q (.done (.ret (.ref (h.objs.size+1)))) s') E ⟨EL C rest h,g,d,t,os⟩) :
  wpAny (model prog w) A (Builtin.«type.__call__» ⟨.ref C::rest,[]⟩) Q E ⟨h,g,d,t,os⟩:=by
 repeat (first |with_reducible refine ZZ oC ?_ |with_reducible refine wpAny_madeBy_exc oC ?_ |wp_step)
 refine codeAny_call_builtin_code (Code.quiet_builtin _ F.quiet) (NH F T oC (RB F T oC ?_ hz));show wpAny _ _ _ _ _ _;have kp:∀b o,h.get? b=some o->(EL C rest h).get? b=some o:=λb o z=>ZY _ (ZY _ z);have oC1:=kp _ _ oC;have ge:(EL C rest h).get? (h.objs.size+1)=some (NI C h):=by unfold EL;heap_get
 have c1:(Value.ref C::bm).contains (.ref C)=true:=by simp
 unfold isInstance
 repeat (first |with_reducible refine ZZ ge ?_ | (with_reducible refine Z4 oC1 ?_;rw[c1]) |wp_step)
 refine li A _ E ⟨EL C rest h,g,d,t,os⟩ kp ?_;refine ZL (Zw ?_);unfold bindSpecial;refine Zw (wpAny_typeOf (T := "function") ⟨_,kp _ _ oF,cF⟩ ?_);rw[Zo qc];refine Zv (Zw (Zu fin (λr s' z=>?_) λ_ _ x=>x));obtain⟨rfl,hQ⟩:=z
 wp_walk
 exact hQ
theorem PV (F:ExcBaseFacts B newId cN jk) (T:LJ B bm) {rest:Wx}{fI:W3}{oI:Obj}{Q:VS}
  (oC:h.get? C=some (excClassObj nm qn C N bs bm bi sn sub ab col dd k0 k1 k2 k3 k5 newId)) (li:W.Looks (model prog w) h (typeLookup (.ref C) "__init__") (some (.ref fI))) (oF:h.get? fI=some oI) (cF:oI.cls=.type "function") (hz:rest.length<=sizeLine)
  (fin:wpAny (model prog w) (A.under (.builtin "type.__call__" ⟨.ref C::rest,[]⟩)) (call (.ref fI) (.ref (h.objs.size+1)::rest)) (λr s'=>r=.none/\Q (.ref (h.objs.size+1)) s') E ⟨EL C rest h,g,d,t,os⟩) :
  wpAny (model prog w) A (call (.ref C) rest) Q E ⟨h,g,d,t,os⟩:=by
 have f1:=tc_lookup;have f2:=tc_bind (.ref C);have hT:(⟨h,g,d,t,os⟩:W4).TypeIs (.ref C) "type" := ⟨_,oC,rfl⟩;refine wpAny_call (codeAny_of_tree ?_);show wpAny _ _ (callAny (.ref C) _) _ _ _
 repeat (any_goals (first |assumption |with_reducible refine ZZ oC ?_ |wp_step))
 refine⟨Zj,?_⟩;exact codeAny_call_builtin_at (Code.quiet_builtin _ qb) entry_typeCall (wpAny_check_type_call_sub oC (NJ F T oC li oF cF hz fin))
end
noncomputable def El (e C:W3) (dx:Option W3):HO:=.ext λh=>∃oe vs,h.get? e=some oe/\oe.cls=.ref C/\oe.dict=dx/\oe.data=.fields vs/\vs.size=6/\vs[1]?=some .none/\vs[2]?=some .none
noncomputable def A1 (K:FG) (C:W3):Bool:=match K.lookup C with
 |some ⟨.type "type", _,.cls cd,sl⟩=>(match cd.mro,sl.toList with
  | .ref C'::bm,[_,_,_,_,some (.builtin n),_]=>C'==C && !cd.hasDel&&n == "ValueError.__new__" && bm.contains (.type "BaseException")&&bm.contains (.type "ValueError") && !bm.contains (.type "AttributeError") && !bm.contains (.type "NameError")
  |_,_=>false)
 |_=>false
theorem HF (X:K.In h) (q:A1 K C=true):∃nm qn N bs bm bi sn sub ab col dd k0 k1 k2 k3 k5,h.get? C=some (excClassObj nm qn C N bs bm bi sn sub ab col dd k0 k1 k2 k3 k5 "ValueError.__new__")/\LJ "ValueError" bm:=by
 unfold A1 at q;split at q
 ·rename_i dd cd sl ho;split at q
  ·rename_i C' bm k0 k1 k2 k3 n k5 hm hs;simp only[Bool.and_eq_true,beq_iff_eq,Bool.not_eq_true']at q;obtain⟨⟨⟨⟨⟨⟨rfl,hdel⟩,rfl⟩,hb⟩,ht⟩,ha⟩,hn⟩:=q;obtain⟨nm,bs,mro,ns,qn,hd,sn,sub,ab,col,del⟩:=cd
   dsimp only at hm hdel
   subst hm hdel;obtain⟨l⟩:=sl;simp only at hs;subst hs;exact⟨nm,qn,ns,bs,bm,hd,sn,sub,ab,col,dd,k0,k1,k2,k3,k5,X _ _ ho,⟨ht,hb,ha,hn⟩⟩
  ·cases q
 ·cases q
structure MkX (K:FG) (C f:W3):Prop where
 cls:A1 K C=true
 init:W.findIn K (.ref C) "__init__" = some (some (.ref f))
 fn:W.isFn K (.ref f)=true
 fo:∃o,K.lookup f=some o/\o.cls=.type "function"
 kp:W.keepIn K (.ref C)=true
section
variable {CX:fJ}{k:Nat}{fd:FuncData}{ps:Ww}{sp:Sp}{du:Wy}{ds:Wx}{E:XK}{m:Str}{p apos:Pos}{o:Expr}{es:List Expr}{t:TA}
theorem PX (C:W3) (rest:Wx) (h:Heap):(EL C rest h).get? (h.objs.size+1)=some (NI C h):=by unfold EL;heap_get
theorem Inv.madeX (I:Inv X aa σ H s) (rest:Wx):Inv X aa σ (upd H (s.heap.objs.size+1) (El (s.heap.objs.size+1) C none)) { s with heap:=EL C rest s.heap }:=by
 have kp:∀b o,s.heap.get? b=some o->(EL C rest s.heap).get? b=some o:=λb o z=>ZY _ (ZY _ z);refine I.laid (t':=s.toks) kp (Nat.le_succ _) ?_;have ge:=PX C rest s.heap;exact⟨⟨_,_,ge,Zj,Zj,Zj,Zj,Zj,Zj⟩,⟨_,ge⟩,λh1 h2 ⟨oe,vs,a,r⟩ k=>⟨oe,vs,k _ a,r⟩⟩
theorem PY {Q:VK}{vs:Wy} (M:MkX X.K C f) (F:aD X.prog X.w X.K X.mg X.base CX k f fd ps sp) (hr:aH (k+1) X.A) (hb:Binds X.K fd ps ds) (hd:Vals du ds) (hx:Be CX X E) (I:Inv X aa σ H s) (r:Vals vs us) (hz:vs.length<=1000)
  (h:∀x,H x=none->sp (.ref x::(vs++du)) (upd H x (El x C none)) (λv H2=>v=.aK/\Q (.ref x) H2) E):wpAny (model X.prog X.w) X.A (call (.ref C) us) (EP X aa σ Q) X.xe s:=by
 have hq:=h (s.heap.objs.size+1) (I.aE.fresh (Nat.le_succ _));have I2:=Inv.madeX (C:=C) I us;have r2:Vals (V.ref (s.heap.objs.size+1)::(vs++du)) (Value.ref (s.heap.objs.size+1)::(us++ds)):=.cons rfl (r.append hd)
 have hl:(Value.ref (s.heap.objs.size+1)::us++ds).length=ps.length:=by
  have e:=r2.length;rw[F.len _ _ _ _ hq]at e;exact e.symm
 obtain⟨nm,qn,N,bs,bm,bi,sn,sub,ab,col,dd,k0,k1,k2,k3,k5,oC,T⟩:=HF I.cC M.cls;obtain⟨oF,lF,cF⟩:=M.fo;obtain⟨hh,g,d,tk,os⟩:=s;refine PV PySem.F.excBase_ValueError T oC (W.looks_findIn I.cC M.init) (I.cC _ _ lF) cF (by rw[←r.length];exact Nat.le_of_lt (Ac hz)) ?_;refine wpAny_call (codeAny_mono (F.run _ X.stack _ _ ⟨_,[]⟩ (Value.ref (hh.objs.size+1)::(us++ds)) _ _ E (hr.make C us []) (I2.fG.make C us []) (hb _ (Value.ref (hh.objs.size+1)::us) I2.cC hl) r2 hq) λr s' dZ=>?_);cases r with
 |error e=>exact hx aa σ _ _ e s' I2 dZ
 |ok fl =>
  cases fl with
  |ret u =>
   obtain⟨v,H',I3,rv,ev,q3⟩:=I2.after dZ;subst ev;exact⟨rv,⟨V.ref (hh.objs.size+1),H',I3,Zj,q3⟩⟩
  |next=>exact False.elim dZ
  |brk=>exact False.elim dZ
  |cont=>exact False.elim dZ
def J8 (C:W3) (sp:Sp) (du:Wy) (E:XK) (t:TA):TE:=λσ H Q=>t σ H λvs H1=>vs.length<=1000/\∀x,H1 x=none->sp (.ref x::(vs++du)) (upd H1 x (El x C none)) (λv H2=>v=.aK/\Q (.ref x) H2) E
theorem Fd (M:MkX X.K C f) (F:aD X.prog X.w X.K X.mg X.base CX k f fd ps sp) (hr:aH (k+1) X.A) (hg:Gl X x) (hm:X.mg x=some (.ref C)) (hb:Binds X.K fd ps ds) (hd:Vals du ds) (hx:Be CX X E)
  (ha:PA X (e::es) t) (dG:(x==("__debug__" : Str))=false:=by decide) (he:starEach (e::es) X.env=(false,eval e X.env)::starEach es X.env:=by rfl) (dA:(backTo pos (starEach es X.env)).any (·.1)=false:=by rfl) :
  PE X (.Call (.Name x p) (e::es) [] pos) (J8 C sp du E t):=by
 intro aa s σ H Q I h;refine Z3 (Br I hg hm ?_ dG);refine W.callWith_K (h₀:=X.base) I.ok.mod.kin M.kp (aL (ha pos aa s σ H _ I h) λus s1 ⟨vs,H1,I1,r,q⟩=>⟨I1.cC,?_⟩) he dA;exact PY M F hr hb hd hx I1 r q.1 q.2
def J9 (C:W3) (te:TE) (E:XK):TS:=λ_ σ H=>te σ H λv H1=>∃e dx,v=.ref e/\H1 e=some (El e C dx)/\E (.ref C) dx (upd H1 e (Ey e C dx))
theorem PZ {H1:Hp}{e:W3}{dx:Option W3} (ok:cV P w H1 h) (at_:H1 e=some (El e C dx)):cV P w (upd H1 e (Ey e C dx)) h:=by
 obtain⟨⟨oe,vs,a1,a2,a3,a4,a5,a6,a7⟩,_,_⟩:=ok _ _ at_;refine ok.write (x:=e) (e:=e) (by rw[at_];exact True.intro) (.inl Zj) (λb u _ q=>q) ⟨_,a1⟩ ⟨⟨oe,vs,a1,a2,a3,a4,qe,a7⟩,⟨_,a1⟩,λh1 h2 ⟨oe,vs,a,r⟩ k=>⟨oe,vs,k _ a,r⟩⟩
end
section
variable {M:Model}{env:Env}
theorem LL {x:Sem Value}{Q:Flow->W4->Prop} (hh:A.handled=none)
  (h:wpAny M A x (λv s1=>∃e oe vs,v=.ref e/\s1.heap.get? e=some oe/\oe.cls=.ref C/\oe.data=.fields vs/\vs[1]?=some .none /\
   (∃nm qn N bs bm bi sn sub ab col dd k0 k1 k2 k3 k5 nid,s1.heap.get? C=some (excClassObj nm qn C N bs bm bi sn sub ab col dd k0 k1 k2 k3 k5 nid)/\bm.contains (.type "BaseException")=true)/\E (.ref e) s1) E s) :
  wpAny M A (raiseStmt env (some x) none) Q E s:=by
 unfold raiseStmt;refine Zw (Zu h (λv s1 z=>?_) λ_ _ y=>y);obtain⟨e,oe,vs,rfl,he,br,hd,h1,⟨nm,qn,N,bs,bm,bi,sn,sub,ab,col,dd,k0,k1,k2,k3,k5,nid,oC,hb⟩,hE⟩:=z;have c1:(Value.ref C::bm).contains (.type "BaseException")=true:=by rw[contains_cons,hb,Bool.or_true]
 obtain⟨hp,g,d,tk,os⟩:=s1
 repeat (first | (with_reducible refine ZZ he ?_;rw[br]) |with_reducible refine ZZ oC ?_ | (with_reducible refine Z4 oC ?_;rw[c1]) |wp_step)
 rw[hd];refine Zv ?_;rw[h1];refine Zv ?_;rw[Zp qc];exact Zv (wpAny_raiseNew_none hh hE)
end
section
variable {E:XK}{o:Expr}
theorem Fe (hR:Q9 X E) (hc:X.calm=true) (hC:A1 X.K C=true) (he:PE X o te):PS X (.Raise (some o) none pos) (J9 C te E):=by
 intro aa s σ H D I h;rw[arm_exec_Raise];refine Zw (wpAny_standAt (LL (C:=C) (I.ok.hd hc) (Zw (Zu (he aa s σ H _ I h) (λv s1 z=>Zw (wpAny_standAt (Zv ?_))) λ_ _ y=>y))));obtain⟨u,H1,I1,ru,e,dx,rfl,at_,q⟩:=z;obtain rfl:v=.ref e:=ru;obtain⟨⟨oe,vs,a1,a2,a3,a4,a5,a6,a7⟩,_,_⟩:=I1.aE _ _ at_;obtain⟨nm,qn,N,bs,bm,bi,sn,sub,ab,col,dd,k0,k1,k2,k3,k5,oC,T⟩:=HF I1.cC hC;refine⟨e,oe,vs,Zj,a1,a2,a4,a6,⟨nm,qn,N,bs,bm,bi,sn,sub,ab,col,dd,k0,k1,k2,k3,k5,_,oC,T.base⟩,?_⟩;refine hR aa σ H1 s1 e C dx _ s1 I1 ⟨Zj,I1.bare,Un.write (x:=e) (e:=e) (by rw[at_];exact True.intro) (.inl Zj) (λb u _ r=>r) ⟨_,a1⟩,PZ I1.aE at_,AB⟩ ⟨oe,vs,a1,a4,a6⟩ q
end
section
variable {prog:Program}{g:Array GenState}{d:Drawn}{t:Nat}{os:OsState}
variable {nm qn:Str}{N:W3}{bs bm jk:Wx}{bi:Bool}{sn:Ww}{sub:Wx}{ab:Bool}{col:Option Bool}{dd:Option W3}{k0 k1 k2 k3 k5:Option Value}{B newId cN:String}
theorem LM (F:ExcBaseFacts B newId cN jk) (T:LJ B bm) {M:Model}{e:W3}{oe:Obj}{rest:Wx}{Q:Unit->W4->Prop}
  (oC:h.get? C=some (excClassObj nm qn C N bs bm bi sn sub ab col dd k0 k1 k2 k3 k5 newId)) (he:h.get? e=some oe) (br:oe.cls=.ref C) (fin:Q () ⟨h,g,d,t,os⟩) :
  wpAny M A (checkBuiltinCall cN ⟨.ref e::rest,[]⟩) Q E ⟨h,g,d,t,os⟩:=by
 have c1:(Value.ref C::bm).contains (.type B)=true:=by rw[contains_cons,T.b];simp
 have st:=F.noStar;simp only[checkBuiltinCall,F.initKind,F.initSplit,F.initRow]
 repeat (first | (with_reducible refine ZZ he ?_;rw[br]) |with_reducible refine ZZ oC ?_ | (with_reducible refine Z4 oC ?_;rw[c1]) |wp_step)
 refine wpAny_onRaise ?_;rw[show ∀(a b:String) (n:Nat),Bind.check ⟨.positional, "*", B,.self,[⟨"args", .varPos,false⟩]⟩ a b n (List.map (λx=>x.fst) ({ pos:=Value.ref e::rest }:Args).kw)=pure ()from λa b n=>check_star_args _ _ _ _ _ _];exact Zv fin
theorem NK (F:ExcBaseFacts B newId cN jk) (T:LJ B bm) {e:W3}{oe:Obj}{vs:Array Value}{v0:Value}{rest:Wx}{Q:VS}
  (oC:h.get? C=some (excClassObj nm qn C N bs bm bi sn sub ab col dd k0 k1 k2 k3 k5 newId)) (he:h.get? e=some oe) (br:oe.cls=.ref C) (hd:oe.data=.fields vs) (h0:vs[0]?=some v0) (hz:rest.length<=sizeLine)
  (fin:Q .none ⟨(h.push { cls:=.type "tuple", data:=.seq rest.toArray }).update e (Obj.mapFields (·.setIfInBounds 0 (.ref h.objs.size))),g,d,t,os⟩) :
  wpAny (model prog w) A (call (.builtin cN) (.ref e::rest)) Q E ⟨h,g,d,t,os⟩:=by
 refine wpAny_call (codeAny_call_builtin F.init.plain F.initEntry (LM F T oC he br ?_));have e1:=ZY { cls:=.type "tuple", data:=.seq rest.toArray } he;unfold Builtin.«BaseException.__init__»
 wp_walk
 rw[hd];refine Zv ?_;rw[h0];refine Zv (Zw (wpAny_setField e1 hd (Z9.mp h0).1 ?_))
 have done:∀ {E':VS},wpAny (model prog w) A.in1 (match v0 with |Value.ref _=>letGo [v0] |_=>pure ()) (λ_ s'=>Q .none s') E' ⟨(h.push { cls:=.type "tuple", data:=.seq rest.toArray }).update e (Obj.mapFields (·.setIfInBounds 0 (.ref h.objs.size))),g,d,t,os⟩:=λ{E'}=>by
  cases v0 <;> first |exact Zv fin | (wp_walk;exact fin)
 exact Zu done (λ_ s' q=>Zv q) λ_ _ z=>z
end
theorem RC {o:HO} (h:H a=some o):upd H a o=H:=by
 funext b;unfold upd;split
 ·rename_i e;rw[e,h]
 ·rfl
theorem Pa {x:V}:∀ {us:Wx},Vals (x::xs) us->∃u ls,us=u::ls/\RelV x u/\Vals xs ls
 |_::_,.cons a b=>⟨_,_,rfl,a,b⟩
section
variable {es:List Expr}{t:TA}{np apos:Pos}
def Uw (K:FG) (t:TA):TE:=λσ H Q=>t σ H λvs H1=>∃a C dx rest,vs=.ref a::rest/\rest.length<=1000/\A1 K C=true/\H1 a=some (El a C dx)/\Q .aK H1
theorem TN:typeOf (.type "ValueError")=pure (.type "type"):=by kernel_rfl
theorem TQ:Manifest.isStub "ValueError" = false:=by decide +kernel
theorem TR (K:FG):W.findCls K (.type "ValueError") (.type "type") "__init__" = some (.val (.builtin "ValueError.__init__")):=by kernel_rfl
theorem TU:W.handedIn (.builtin "ValueError.__init__")=true:=by decide +kernel
theorem OO:bootBuiltins "ValueError" = some (.type "ValueError"):=by decide +kernel
theorem RE {pl:Sem Bool} (hg:Gl X "ValueError") (hm:X.mg "ValueError" = none) (ha:PA X (e::es) t) (he:starEach (e::es) X.env=(false,eval e X.env)::starEach es X.env:=by rfl) (dA:(backTo pos (starEach es X.env)).any (·.1)=false:=by rfl)
  (ht:eval (.Call (.Attribute (.Name "ValueError" np) "__init__" apos) (e::es) [] pos) X.env=(do
   let ov ←eval (.Name "ValueError" np) X.env
   standAt apos.atName
   let (f,first) ←holding [ov] (getMethod ov "__init__" pl)
   callWith pos f first (backTo pos (starEach (e::es) X.env)) (backToKw pos (keywordEach [] X.env))):=by rfl) :
  PE X (.Call (.Attribute (.Name "ValueError" np) "__init__" apos) (e::es) [] pos) (Uw X.K t):=by
 intro aa s σ H Q I h;refine W.methodCall_KW (pl:=pl) ?_ ht;refine Et (u:=.type "ValueError") I hg hm OO ?_;obtain⟨m,Fm⟩:=I.fr;have L1:=λ(Q':Value×Wx->W4->Prop) hq=>W.method_type (prog:=X.prog) (w:=X.w) (A:=X.A) (E:=X.xe) (K:=X.K) (T := "ValueError") (name := "__init__") (pl:=pl) (v:=.builtin "ValueError.__init__") (Q:=Q') Fm I.ok.mod.kin TN TQ (TR X.K) TU hq;refine L1 _ ?_;refine PyProof.Rows.callWith_builtin1 (aL (ha pos aa _ σ H _ (I.tok _) h) λus s1 ⟨vs,H1,I1,r1,a,C,dx,rest,ev,hz,hC,at_,q⟩=>?_) he dA;subst ev;obtain⟨nm,qn,N,bs,bm,bi,sn,sub,ab,col,dd,k0,k1,k2,k3,k5,oC,T⟩:=HF I1.cC hC;obtain⟨⟨oe,ws,a1,a2,a3,a4,a5,a6,a7⟩,_,st⟩:=I1.aE _ _ at_;obtain⟨u0,ls,eu,ra,rr⟩:=Pa r1;subst eu
 ·obtain rfl:=ra;obtain⟨hp,g,d,tk,os⟩:=s1;refine NK PySem.F.excBase_ValueError T oC a1 a2 a4 (v0:=ws[0]'qe) (by rw[Array.getElem?_eq_getElem]) (by rw[←rr.length];exact Nat.le_of_lt (Ac hz)) ?_;have J:=I1.kept (h':=hp.push { cls:=.type "tuple", data:=.seq ls.toArray }) (t':=tk) λb u z=>ZY _ z;have e1:=ZY { cls:=.type "tuple", data:=.seq ls.toArray } a1;have e2:=ZV (Obj.mapFields (·.setIfInBounds 0 (.ref hp.objs.size))) e1 (Obj.isFreed_of_fields (Obj.data_mapFields a4 _));rw[Dk a4]at e2
  have J2:=J.write (x:=a) (e:=a) (o:=El a C dx) (t':=tk) (by rw[at_];exact True.intro) (.inl rfl) (λb u n z=>(ZX _ _ (Ne.symm n)).trans z) ⟨_,e2⟩
   ⟨⟨_,_,e2,a2,a3,rfl,by rw[Array.size_setIfInBounds];exact a5,by rw[Array.getElem?_setIfInBounds_ne qc];exact a6,by rw[Array.getElem?_setIfInBounds_ne qc];exact a7⟩,⟨_,e2⟩,st⟩
  rw[RC at_]at J2;exact⟨.aK,H1,J2,Zj,q⟩
end
noncomputable def IB (P:Program) (w:World) (K:FG) (mg:SV) (base:Heap) (N:Ww) (qual:Str) (scope:Scope) (f:W3) (cd:Value) (A:Around) (outer:List Env) (s:W4) (H:Hp) (e:W3) (oe:Obj):Cx :=
 { BF aP P w K mg base N qual scope f cd A outer s H (λ_ _ _=>False)with calm:=false,pn:=[(e,oe)],xe:=λ_ _=>False }
structure RoomS (k:Nat) (A:Around):Prop where
 dp:A.depth+3*k+5<recursionLimit
 un:A.units+16*k+200<cLine
theorem RoomS.deeper {k:Nat}{A:Around} (r:RoomS (k+1) A) (env:Env):RoomS k (A.deeper env):=⟨by have:=r.dp;show A.depth+1+3*k+5<_;omega,by have:=r.un;show A.units+3+16*k+200<_;omega⟩
theorem NL {ps:Ww}{qual:Str}{scope:Scope}{cd:Value}{outer:List Env}{s1:W4}{vs:Wy}{e:W3}{oe:Obj}
  (S:AK N ps scope) (e0:dz P w K mg base A outer s H) (hl:vs.length=ps.length) (r:Vals vs us) (he:s.heap.get? e=some oe) (hn:H e=none) (ho:e∉ cQ outer) (hd:∀v,oe.data≠ .cell v)
  (x:InCallC s s.heap.objs.size (bindL (envOfC qual scope s.heap.objs.size f cd).kindOf (ps.zip us) λ_=>none) (cellsFrom (s.heap.objs.size+1) scope.names []) (bindC (envOfC qual scope s.heap.objs.size f cd).kindOf (ps.zip us) λ_=>none) s1) :
  Inv (IB P w K mg base N qual scope f cd A outer s H e oe) [] (Bo N vs) H s1:=by
 have A0:∃A0:Around,A0.handled=none/\A0.frames=A.frames:=⟨{ A with handled:=none },rfl,rfl⟩;obtain⟨A0,h1,h2⟩:=A0;have I:=F9 (CX:=aP) (E:=λ_ _ _=>False) (A:=A0) S h1 ⟨h2.trans e0.frames,e0.mod,e0.bs,e0.f6,e0.cJ,e0.gz,e0.aE,e0.bare⟩ hl r x;obtain⟨hh,tk,rfl,hk⟩:=x.done;have ok:=I.ok;refine⟨⟨ok.mod,ok.kind,ok.glob,ok.blt,ok.above,ok.inj,ok.has,ok.ip,(λz=>by cases (show false=true from z)),Around.frames_deeper e0.frames,ok.fq,ok.exf,ok.bs,ok.f6,ok.eW,ok.eY,ok.cJ,ok.gz⟩,I.os,I.bare,I.base,I.loc,I.cell,I.free,I.bP,λp hp=>?_,I.aE,I.len⟩;have q:p=(e,oe):=by simpa[IB]using hp
 subst q;exact⟨hk _ _ he,hn,ZE (lt_size he),ho,hd⟩
abbrev SpS:=W3->Obj->Wy->Hp->VK->Prop
structure OP (P:Program) (w:World) (K:FG) (mg:SV) (base:Heap) (k:Nat) (f:W3) (fd:FuncData) (ps:Ww) (sp:SpS):Prop where
 len:∀e oe vs H Q,sp e oe vs H Q->vs.length=ps.length
 run:∀(A:Around) (outer:List Env) (s:W4) (H:Hp) (args:Args) (us:Wx) (vs:Wy) (Q:VK) (e:W3) (oe:Obj),RoomS k A->dz P w K mg base A outer s H->A.handled=some (.ref e)->s.heap.get? e=some oe->H e=none->e∉ cQ outer->(∀v,oe.data≠ .cell v) ->
  BindsTo s fd args (ps.zip us)->Vals vs us->sp e oe vs H Q->codeAny (model P w) A (.call (.ref f) args) (CR aP outer P w H s Q λ_ _ _=>False) s
section
theorem aZ.okS {qual:Str}{st:Stmt}{fd:FuncData}{ps:Ww}{k:Nat}{sp:SpS} (F:aZ K x qual st f fd) (S:AK N ps (defScope st)) (len:∀e oe vs H Q,sp e oe vs H Q->vs.length=ps.length)
  (bn:∀(ae:Value) (A:Around) (outer:List Env) (s:W4) (H:Hp) (vs:Wy) (Q:VK) (e:W3) (oe:Obj),A.handled=some (.ref e)->RoomS k (A.deeper (envOfC qual (defScope st) s.heap.objs.size f ae))->sp e oe vs H Q ->
   ∃t,dP (IB P w K mg base N qual (defScope st) f ae A outer s H e oe) (defBody st) t/\t { nx:=λ_ H'=>Q .aK H',rt:=Q } (Bo N vs) H):OP P w K mg base (k+1) f fd ps sp:=by
 obtain⟨oc,od,kV,doc,pm,an,ae,ct,eV,rfl,lk,eo⟩:=F.ex;refine⟨len,λA outer s H args us vs Q e oe hr e0 hh he hn ho hd hb r fv=>?_⟩;have hl:=len _ _ _ _ _ fv;have KX:K.In s.heap:=e0.mod.kin.keeps λb o z=>(e0.bs b o z).1;have lim:s.heap.NoLimit:=e0.mod.nolimit.keeps λb o z=>(e0.bs b o z).1
 have hk:∀y∈ps.zip us,(defScope st).names.lookup y.1=some .local\/((defScope st).names.lookup y.1=some .cell/\((cellsFrom (s.heap.objs.size+1) (defScope st).names []).lookup y.1).isSome=true):=λ⟨n,v⟩ hy=>by
  rcases S.par n (of_mem_zip hy).1 with q |q
  ·exact .inl q
  ·exact .inr ⟨q,W.cellsFrom_some _ _ _ (.inl q)⟩
 refine codeAny_call_function (by have:=hr.dp;omega) (KX _ _ lk) rfl S.co S.gen rfl (W.codeRec_of KX eo) (hb _ _ _ _ (wpAny_newFunctionEnv_cells S.kind hk λenv ee s1 x=>?_));subst ee;refine⟨lim.keeps x.toInCall.keep,codeAny_func ?_⟩;obtain⟨t,ht,hq⟩:=bn ae A outer s H vs Q e oe hh (hr.deeper _) fv;have I:Inv (IB P w K mg base N qual (defScope st) f ae A outer s H e oe) [] (Bo N vs) H s1:=NL S e0 hl r he hn ho hd x;refine Zu (ht [] s1 (Bo N vs) H _ I hq) (λfl s' z=>?_) λ_ _ z=>z.elim;cases fl with
 |ret u =>
  obtain⟨v,aN,H',J,rv,q⟩:=z;exact⟨v,H',J.os,J.bare,J.base,J.aE,rv,q⟩
 |next =>
  obtain⟨aN,H',J,q⟩:=z;exact⟨.aK,H',J.os,J.bare,J.base,J.aE,Zj,q⟩
 |brk =>
  obtain⟨_,_,_,q⟩:=z;exact q.elim
 |cont =>
  obtain⟨_,_,_,q⟩:=z;exact q.elim
theorem TV {qual:Str}{scope:Scope}{cd:Value}{outer:List Env}{e:W3}{oe:Obj}{vs:Array Value} (hh:A.handled=some (.ref e)) (hd:oe.data=.fields vs) (h2:vs[2]?=some .none) :
  g7 (IB P w K mg base N qual scope f cd A outer s H e oe):=.inr ⟨e,oe,vs,hh,ZK,hd,h2⟩
end
noncomputable def del (H:Hp) (a:W3):Hp:=λb=>if b=a then none else H b
theorem LP:del H a a=none:=Zo rfl
theorem EM {b:W3} (h:b≠a):del H a b=H b:=Zp h
section
variable {H1 H2:Hp}{s1 s2:W4}{e:W3}{dx:Option W3}
theorem RF {fs:List W3}{oe:Obj}{vs:Array Value}{old:W3->Prop}{h2 h':Heap} (u:Un fs [] H1 H2 h h2) (L:Hz fs e oe vs old h2 h') (at_:H2 e=some (Ey e C dx)) (hold:∀b,old b->H2 b=none/\h.get? b=none):Un fs [] H1 (del H2 e) h h':=by
 have ne:∀b,H2 b=none->b≠e:=λb n z=>by subst z;rw[at_]at n;cases n
 have nold:∀b o,h.get? b=some o->¬ old b:=λb o hb z=>by rw[(hold b z).2]at hb;cases hb
 have ne2:∀b v,H2 b=some v->(∀φ,v≠ .ext φ)->b≠e:=λb v hv hn z=>by subst z;rw[at_]at hv;cases hv;exact hn _ rfl
 refine⟨λb o q n hb _=>?_,λb o q n hb _=>?_,λb o q n _=>?_,λb o q _=>?_,λb xs q=>?_,λb o xs q=>?_,λb ps q=>?_⟩
 ·exact L.keep b o (u.keep b o q n hb (by simp)) (ne b (u.free b o q n (by simp))) (nold b o q) hb
 ·obtain⟨sl,q1⟩:=u.slot b o q n hb (by simp);obtain⟨dQ,q2⟩:=L.slot b _ q1 (ne b (u.free b o q n (by simp))) (nold b o q) hb;exact⟨dQ,q2⟩
 ·have z:=u.free b o q n (by simp);rw[EM (ne b z)];exact z
 ·obtain⟨o1,q1⟩:=u.there b o q (by simp);exact L.there b o1 q1
 ·have z:=u.eF b xs q;rw[EM (ne2 b _ z λ_ y=>nomatch y)];exact z
 ·have z:=u.eB b o xs q;rw[EM (ne2 b _ z λ_ y=>nomatch y)];exact z
 ·obtain⟨m,z⟩:=u.eh b ps q;exact⟨m,by rw[EM (ne2 b _ z λ_ y=>nomatch y)];exact z⟩
theorem TW (ok:cV P w H2 h) (at_:H2 e=some (Ey e C dx)):cV P w (del H2 e) h:=λb u q=>by
 have hb:b≠e:=λz=>by subst z;rw[LP]at q;cases q
 rw[EM hb]at q;have ne2:∀c v,H2 c=some v->(∀φ,v≠ .ext φ)->c≠e:=λc v hv hn z=>by subst z;rw[at_]at hv;cases hv;exact hn _ rfl
 exact(ok b u q).eG (λ_ _ _ z=>z) (λc z=>by rw[EM (ne2 c _ z λ_ y=>nomatch y)];exact z) λc xs z=>by rw[EM (ne2 c _ z λ_ y=>nomatch y)];exact z
structure jq (C:W3) (dx:Option W3) (e:W3) (oe:Obj) (T:W3) (oT:Obj):Prop where
 cls:oe.cls=.ref C
 dict:oe.dict=dx
 fld:∃vs,oe.data=.fields vs/\vs[1]?=some (.ref T)/\vs[2]?=some .none
 tb:∃ts,oT.data=.fields ts/\ts[3]?=some .none
theorem Ux {E':VS}{Q:Unit->W4->Prop} (O:NF X) (I:Inv X aa σ H1 s1) (F:Fly X.prog X.w X.stack H1 s1 e C dx H2 s2)
  (h:∀s3 oe T oT,jq C dx e oe T oT->Inv X ((e,oe)::(T,oT)::aa) σ (del H2 e) s3->Q () s3) :
  wpAny (model X.prog X.w) X.A (noteFrame (.ref e) X.env) (λ_ s3=>wpAny (model X.prog X.w) X.A (setFlight (.ref e) none) Q E' s3) E' s2:=by
 obtain⟨B,oe,vs,T,oT,ts,a1,a2,a3,a4,a5,a6,a7,a8,a9⟩:=F;have fr:=Ez I B;have hA:=I.ok.frames;rw[O.fq]at fr hA;refine JW hA fr O.fr a1 a2 a3 a4 a5 a6 a7 λh' L=>?_;rw[←O.fq]at L;have hold:∀b,b=T->H2 b=none/\s1.heap.get? b=none:=λb z=>by subst z;exact⟨a8,a9⟩
 have free2:∀b∈cQ X.stack,H2 b=none:=λb hb=>by
  obtain⟨_,o,ho,_⟩:=I.stack.mem hb;exact B.un.free b o ho (I.stkFree b hb) (by simp)
 have ok3:=LH B.aE L free2 (λb z=>(hold b z).1) a1 a2 B.at_;obtain⟨T',oT',ts',b1,b2,b3,b4,b5⟩:=L.tb;obtain⟨⟨oe',vs',c1,c2,c3,c4,c5,c6⟩,_,_⟩:=B.aE _ _ B.at_;rw[a1]at c1;cases c1;rw[a2]at c4;cases c4;have I3:Inv X aa σ (del H2 e) { s2 with heap:=h' }:=I.call' (ch:=[]) B.os (RF B.un L B.at_ hold) (TW ok3 B.at_) B.bare λb z=>nomatch z;have hT0:s2.heap.get? T'=none:=Heap.get?_none_of_le b1;have hTH:H2 T'=none:=B.aE.fresh b1;have hTe:T'≠e:=λz=>by subst z;rw[a1]at hT0;cases hT0
 have locs:∃o,s2.heap.get? X.env.locals=some o:=by
  obtain⟨m,⟨o,_,_,ho,_⟩,_⟩:=id I.loc;exact B.un.there _ o ho (by simp)
 have fsIn:∀b∈X.fs,∃o,s2.heap.get? b=some o:=λb hb=>by
  obtain⟨_,o,ho,_⟩:=I.cJ.mem hb;exact B.un.there b o ho (by simp)
 have upfs:∀b∈X.fs,b∈cQ X.stack:=λb hb=>by
  rw[O.fq];unfold cQ;rw[ZN,O.fr];exact ZS _ hb
 refine h _ { oe with data:=.fields (vs.setIfInBounds 1 (.ref T')) } T' oT' ⟨c2,c3,⟨vs.setIfInBounds 1 (.ref T'),rfl,by simp[(Z9.mp a3).1],by rw[Array.getElem?_setIfInBounds_ne qc];exact c6⟩,⟨ts',b3,b4⟩⟩ (I3.pins_of λp hp=>?_);rcases mem_cons.mp hp with z |z
 ·subst z;refine⟨b5,LP,λz=>?_,λz=>?_,λv z=>by cases z⟩
  ·obtain⟨m,⟨o,_,_,ho,_⟩,_⟩:=id I.loc;have n1:=B.un.free _ _ ho I.free (by simp);rw[←z,B.at_]at n1;cases n1
  ·have n1:=free2 e (upfs e z);rw[B.at_]at n1;cases n1
 rcases mem_cons.mp z with z |z
 ·subst z;refine⟨b2,by rw[EM hTe];exact hTH,λz=>?_,λz=>?_,λv z=>by rw[b3]at z;cases z⟩
  ·obtain⟨o,ho⟩:=locs;rw[←z,hT0]at ho;cases ho
  ·obtain⟨o,ho⟩:=fsIn _ z;rw[hT0]at ho;cases ho
 ·exact I3.pin p (ZU _ z)
end
noncomputable def EN (K:FG) (C:W3):Wx:=match K.lookup C with
 |some ⟨_,_,.cls cd,_⟩=>cd.mro
 |_=>[]
theorem LQ (X:K.In h) (q:A1 K C=true):∃nm qn N bs bm bi sn sub ab col dd k0 k1 k2 k3 k5,h.get? C=some (excClassObj nm qn C N bs bm bi sn sub ab col dd k0 k1 k2 k3 k5 "ValueError.__new__")/\LJ "ValueError" bm/\EN K C=.ref C::bm:=by
 obtain⟨nm,qn,N,bs,bm,bi,sn,sub,ab,col,dd,k0,k1,k2,k3,k5,oC,T⟩:=HF X q;refine⟨nm,qn,N,bs,bm,bi,sn,sub,ab,col,dd,k0,k1,k2,k3,k5,oC,T,?_⟩;unfold A1 at q;unfold EN;split at q
 ·rename_i gF cd sl ho;rw[ho];have e:=X _ _ ho;rw[oC]at e;have e1:=Option.some.inj e;have e3:=congrArg Obj.data e1;injection e3 with e2
  rw[←e2]
 ·cases q
section
variable {M:Model}{g:Array GenState}{d:Drawn}{t:Nat}{os:OsState}
variable {nm qn nm' qn':Str}{N D N':W3}{bs bm bs' bm':Wx}{bi hdct':Bool}{sn sn':Ww}{sub sub':Wx}{ab ab':Bool}{col col':Option Bool}{dd gF:Option W3}{k0 k1 k2 k3 k5 l0 l1 l2 l3 l5:Option Value}{newId newId':String}
theorem KC {e:W3}{oe:Obj}{Q:Bool->W4->Prop} (oC:h.get? C=some (excClassObj nm qn C N bs bm bi sn sub ab col dd k0 k1 k2 k3 k5 newId)) (oD:h.get? D=some (excClassObj nm' qn' D N' bs' bm' hdct' sn' sub' ab' col' gF l0 l1 l2 l3 l5 newId'))
  (he:h.get? e=some oe) (br:oe.cls=.ref C) (bw:bm'.contains (.type "BaseException")=true) (hq:Q ((Value.ref C::bm).contains (.ref D)) ⟨h,g,d,t,os⟩):wpAny M A (excMatches (.ref e) (.ref D)) Q E ⟨h,g,d,t,os⟩:=by
 have hcB:(Value.ref D::bm').contains (.type "BaseException")=true:=by rw[contains_cons,bw,Bool.or_true]
 have f:=tc_notTuple;unfold excMatches;generalize hb:(Value.ref C::bm).contains (.ref D)=b at hq
 repeat (first | (with_reducible refine ZZ he ?_;rw[br]) |with_reducible refine ZZ oD ?_ | (with_reducible refine Z4 oD ?_;rw[hcB]) | (with_reducible refine Z4 oC ?_;rw[hb]) |wp_step)
 cases b <;> (wp_walk;exact hq)
end
noncomputable def BM (X:Cx) (e:W3) (oe:Obj) (T:W3) (oT:Obj):Cx:={ X with A:=X.A.mark (some (.ref e)),calm:=false,pn:=X.pn++[(e,oe),(T,oT)],xe:=λ_ _=>False }
section
variable {e T:W3}{oe oT:Obj}
theorem Inv.mark (I:Inv X ((e,oe)::(T,oT)::aa) σ H s):Inv (BM X e oe T oT) aa σ H s :=
 ⟨⟨I.ok.mod,I.ok.kind,I.ok.glob,I.ok.blt,I.ok.above,I.ok.inj,I.ok.has,I.ok.ip,(λz=>by cases (show false=true from z)),I.ok.frames,I.ok.fq,I.ok.exf,I.ok.bs,I.ok.f6,I.ok.eW,I.ok.eY,I.ok.cJ,I.ok.gz⟩,I.os,I.bare,I.base,I.loc,I.cell,I.free,I.bP,
  λp hp=>I.pin p (by simpa[BM]using hp),I.aE,I.len⟩
theorem Inv.unmark (ok:X.Ok) (I:Inv (BM X e oe T oT) aa σ H s):Inv X ((e,oe)::(T,oT)::aa) σ H s :=
 ⟨ok,I.os,I.bare,I.base,I.loc,I.cell,I.free,I.bP,λp hp=>I.pin p (by simpa[BM]using hp),I.aE,I.len⟩
theorem Inv.less {q:LO} (I:Inv X (q++aa) σ H s):Inv X aa σ H s:=I.pins_of λp hp=>I.pin p (ZU _ (ZU _ hp))
theorem Inv.nameless {h':Heap}{m':SV}{tk:Nat} (I:Inv X aa σ H s) (hn:h'.Ns X.env.locals m') (hs:Heap.SameBut X.env.locals s.heap h'):Inv X aa (List.replicate σ.length none) H { s with heap:=h',toks:=tk }:=by
 obtain⟨m,⟨oL,_,_,gW,_⟩,_⟩:=id I.loc;refine⟨I.ok,I.os,I.bare,⟨λb o e n hb hx=>?_,λb o e n hb hx=>?_,I.base.free,λb o e hx=>?_,I.base.eF,I.base.eB,I.base.eh⟩,⟨_,hn,λj y v' e1 e2 e3=>?_⟩,λy c e=>?_,I.free,I.bP,λp hp=>?_,λb ob e=>?_,by simpa using I.len⟩
 ·exact(hs.2 b (ZE (Z2 (lt_size e) I.ok.above))).trans (I.base.keep b o e n hb hx)
 ·obtain⟨sl,e1⟩:=I.base.slot b o e n hb hx;exact⟨sl,(hs.2 b (ZE (Z2 (lt_size e) I.ok.above))).trans e1⟩
 ·obtain⟨o',e1⟩:=I.base.there b o e hx;exact⟨o',(hs.2 b (ZE (Z2 (lt_size e) I.ok.above))).trans e1⟩
 ·rw[List.getElem?_replicate]at e2;split at e2 <;> cases e2
 ·obtain⟨w',z⟩:=I.cell y c e;exact⟨w',z.sameBut hs (I.iZ y c e)⟩
 ·obtain⟨e,n,ne,nf,d⟩:=I.pin p hp;exact⟨(hs.2 p.1 ne).trans e,n,ne,nf,d⟩
 ·refine(I.aE b ob e).eG (λc w' hc q=>(hs.2 c ?_).trans q) (λ_ q=>q) λ_ _ q=>q;intro z;subst z;rcases hc with z |hc
  ·rw[←z,I.free]at e;cases e
  ·rw[I.free]at hc;cases hc
end
def PH (X:Cx) (C:W3) (dx:Option W3) (hs:List ExceptHandler) (t:W3->TS):Prop :=
 ∀(aa:LO) (s:W4) (σ:St) (H:Hp) (D:EG) (e:W3) (oe:Obj) (T:W3) (oT:Obj),jq C dx e oe T oT->Inv X ((e,oe)::(T,oT)::aa) σ H s->t e D σ H->wpAny (model X.prog X.w) X.A (handleBy (.ref e) X.env hs) (SP X aa D) X.xe s
section
variable {Dn:W3}{dx:Option W3}{hs:List ExceptHandler}{t:W3->TS}{np:Pos}{name:Option Str}{body:List Stmt}
theorem GQ (e:W3):Value.ref e≠byPass:=by intro q;cases q
theorem GS {e T:W3}{oe oT:Obj} (hC:A1 X.K C=true) (hD:A1 X.K Dn=true) (c:jq C dx e oe T oT) (I:Inv X ((e,oe)::(T,oT)::aa) σ H s) {Q:Bool->W4->Prop}
  (h:Q ((EN X.K C).contains (.ref Dn)) s):wpAny (model X.prog X.w) A (excMatches (.ref e) (.ref Dn)) Q E s:=by
 obtain⟨nm,qn,N,bs,bm,bi,sn,sub,ab,col,dd,k0,k1,k2,k3,k5,oC,T1,e1⟩:=LQ I.cC hC;obtain⟨nm',qn',N',bs',bm',hdct',sn',sub',ab',col',gF,l0,l1,l2,l3,l5,oD,T2,e2⟩:=LQ I.cC hD;have he:=(I.pin (e,oe) (by simp)).1;rw[e1]at h;obtain⟨hp,g,d,tk,os⟩:=s;exact KC oC oD he c.cls T2.base h
theorem CK (hC:A1 X.K C=true) (hD:A1 X.K Dn=true) (hg:Gl X x) (hm:X.mg x=some (.ref Dn)) (hs':(EN X.K C).contains (.ref Dn)=false) (hr:PH X C dx hs t) (dG:(x==("__debug__" : Str))=false:=by decide) :
  PH X C dx (.ExceptHandler (some (.Name x np)) name body pos::hs) t:=by
 intro aa s σ H D e oe T oT c I h;refine wpAny_handleBy_cons (codeAny_handlers_test ?_) (GQ e);refine Br (X:=BM X e oe T oT) I.mark hg hm ?_ dG;refine GS hC hD c I ?_;rw[hs'];exact hr aa s σ H D e oe T oT c I h
def OQ (i:Nat) (tb:TS):W3->TS:=λe D σ H=>tb { nx:=λ_ _=>False,rt:=D.rt } (σ.set i (some (.ref e))) H
theorem OR {n:Str}{fH:Stmt}{i:Nat}{tb:W3->TS} (hN:X.N.Nodup) (hi:X.N[i]?=some n) (hl:X.env.scope.names.lookup n=some .local) (hC:A1 X.K C=true) (hD:A1 X.K Dn=true) (hg:Gl X x) (hm:X.mg x=some (.ref Dn)) (hs':(EN X.K C).contains (.ref Dn)=true)
  (hb:∀e oe T oT,jq C dx e oe T oT->dP (BM X e oe T oT) (fH::body) (tb e)) (dG:(x==("__debug__" : Str))=false:=by decide) :
  PH X C dx (.ExceptHandler (some (.Name x np)) (some n) (fH::body) pos::hs) (λe=>OQ i (tb e) e):=by
 intro aa s σ H D e oe T oT c I h;refine wpAny_handleBy_cons (codeAny_handlers_test ?_) (GQ e);refine Br (X:=BM X e oe T oT) I.mark hg hm ?_ dG;refine GS hC hD c I ?_;rw[hs'];refine codeAny_handlers_suite_as ?_;obtain⟨vs,hd,h1,h2⟩:=c.fld;obtain⟨ts,gk,h3⟩:=c.tb;have he:=(I.pin (e,oe) (by simp)).1;have hT:=(I.pin (T,oT) (by simp)).1;refine wpAny_setFlight_none he hd h1 hT gk (Z9.mp h3).1 ?_
 have I1:Inv X ((e,oe)::(T,oT)::aa) σ H { s with heap:=s.heap.update T (Obj.mapFields (·.setIfInBounds 3 .none)) }:=I.kept (t':=s.toks) λb u q=>by
  by_cases z:b=T
  ·subst z;have e1:=ZV (Obj.mapFields (·.setIfInBounds 3 Value.none)) hT (Obj.isFreed_of_fields (Obj.data_mapFields gk _));rw[Dk gk]at e1
   have e2:ts.setIfInBounds 3 Value.none=ts:=by
    obtain⟨l1,l2⟩:=Z9.mp h3;rw[Array.setIfInBounds,dif_pos l1]
    conv=>lhs;rw[←l2]
    exact Array.set_getElem_self l1
   rw[e2,←gk]at e1;rw[show s.heap.get? b=some oT from hT]at q;cases q;exact e1
  ·exact(ZX _ _ (Ne.symm z)).trans q
 refine FQ (X:=BM X e oe T oT) (v:=.ref e) I1.mark hN hi (.inl hl) rfl (λs2 I2=>?_) (.inr hl);refine Zu (hb e oe T oT c aa s2 _ H _ I2 h) (λfl s3 z=>?_) λ_ _ z=>z.elim;cases fl with
 |ret u =>
  obtain⟨v,aN,H',J,rv,q⟩:=z;have J':=J.unmark I.ok;obtain⟨m,hn,_⟩:=id J'.loc;have br:(X.env.scope.kind == .class||(X.env.scope.kind == .module&&X.env.locals != X.env.globals))=false:=by rw[I.ok.kind];rfl
  exact wpAny_nameGoes hl hn br λh' m' hn' hs'=>⟨v,_,H',(J'.nameless hn' hs').less (q:=[(e,oe),(T,oT)]),rv,q⟩
 |next =>
  obtain⟨_,_,_,q⟩:=z;exact q.elim
 |brk =>
  obtain⟨_,_,_,q⟩:=z;exact q.elim
 |cont =>
  obtain⟨_,_,_,q⟩:=z;exact q.elim
end
noncomputable def Ff (X:Cx) (P0:LO) (xe:VS):Cx:={ X with pn:=X.pn++P0,xe:=xe }
section
variable {P0:LO}{xe:VS}
theorem Cx.Ok.tr (ok:X.Ok):(Ff X P0 xe).Ok:=⟨ok.mod,ok.kind,ok.glob,ok.blt,ok.above,ok.inj,ok.has,ok.ip,ok.hd,ok.frames,ok.fq,ok.exf,ok.bs,ok.f6,ok.eW,ok.eY,ok.cJ,ok.gz⟩
theorem Cx.Ok.untr (ok:(Ff X P0 xe).Ok):X.Ok:=⟨ok.mod,ok.kind,ok.glob,ok.blt,ok.above,ok.inj,ok.has,ok.ip,ok.hd,ok.frames,ok.fq,ok.exf,ok.bs,ok.f6,ok.eW,ok.eY,ok.cJ,ok.gz⟩
theorem Inv.tr (I:Inv X P0 σ H s):Inv (Ff X P0 xe) [] σ H s:=⟨I.ok.tr,I.os,I.bare,I.base,I.loc,I.cell,I.free,I.bP,λp hp=>I.pin p (by simpa[Ff]using hp),I.aE,I.len⟩
theorem Inv.untr (I:Inv (Ff X P0 xe) aa σ H s):Inv X P0 σ H s:=⟨I.ok.untr,I.os,I.bare,I.base,I.loc,I.cell,I.free,I.bP,λp hp=>I.pin p (by
 rcases mem_append.mp hp with z |z
 ·exact ZQ _ (ZQ _ z)
 ·exact ZQ _ (ZU _ z)),I.aE,I.len⟩
end
def TX (n:Nat) (th:W3->Option W3->W3->TS) (D:EG):XK:=λCv dx H2=>∃C,Cv=.ref C/\∀e,H2 e=some (Ey e C dx)->th C dx e D (List.replicate n none) (del H2 e)
def Wk (n:Nat) (tb:XK->TS) (th:W3->Option W3->W3->TS):TS:=λD σ H=>tb (TX n th D) { D with nx:=D.nx } σ H
section
variable {body:List Stmt}{h₀:ExceptHandler}{hs:List ExceptHandler}{tb:XK->TS}{th:W3->Option W3->W3->TS}{Cs:W3->Prop}
theorem RG (O:NF X) (hb:∀P0 xe E,Be (eN X.prog X.w) (Ff X P0 xe) E->dP (Ff X P0 xe) body (tb E)) (hh:∀C dx,PH X C dx (h₀::hs) (th C dx)) :
  PS X (.Try body (h₀::hs) [] [] pos) (Wk X.N.length tb th):=by
 intro aa s σ H D I h;refine wpAny_Try_except ?_
 let E:XK:=TX X.N.length th D
 let xe:Value->W4->Prop:=λev s2=>∃hW H1 s1 ea C dx H2,ev=.ref ea/\Inv X aa hW H1 s1/\Fly X.prog X.w X.stack H1 s1 ea C dx H2 s2/\E (.ref C) dx H2
 have hp:Be (eN X.prog X.w) (Ff X aa xe) E:=by
  rintro pins' hW H1 s1 ev s2 I1 ⟨ea,C,dx,H2,rfl,F,q⟩;exact⟨hW,H1,s1,ea,C,dx,H2,Zj,I1.untr,F,q⟩
 have ok:=I.ok;refine Zu (hb aa xe E hp [] s σ H _ I.tr h) (λfl s1 z=>?_) λev s2 z=>?_
 ·cases fl with
  |next =>
   obtain⟨aN,H',J,q⟩:=z;exact wpAny_execs_nil ⟨aN,H',J.untr,q⟩
  |brk=>obtain⟨aN,H',J,q⟩:=z;exact⟨aN,H',J.untr,q⟩
  |cont=>obtain⟨aN,H',J,q⟩:=z;exact⟨aN,H',J.untr,q⟩
  |ret u=>obtain⟨v,aN,H',J,r,q⟩:=z;exact⟨v,aN,H',J.untr,r,q⟩
 ·obtain⟨hW,H1,s1,ea,C,dx,H2,rfl,I1,F,C',eC,q⟩:=z;cases eC;refine Ux O I1 F λs3 oe T oT c I3=>?_
  have I4:Inv X ((ea,oe)::(T,oT)::aa) (List.replicate X.N.length none) (del H2 ea) s3:=I3.weak (by rw[List.length_replicate,I3.len]) λi v z=>by
   rw[List.getElem?_replicate]at z;split at z <;> cases z
  exact hh C dx aa s3 _ _ D ea oe T oT c I4 (q ea F.1.at_)
end
structure E3 (K:FG) (C:W3):Prop where
 ga:W.findIn K (.ref C) "__getattribute__" = some (some (.builtin "BaseException.__getattribute__"))
 gr:W.findIn K (.ref C) "__getattr__" = some none
 mb:W.mroIn K C (.type "BaseException")=some true
section
variable {prog:Program}{x:W3}{ox:Obj}{od:Option Obj}{name:Str}{g:Array GenState}{d:Drawn}{t:Nat}{os:OsState}
theorem Pb {M:Model}{nameV:Value}{Q:Unit->W4->Prop} (p:E3 K C) (X:K.In h) (I:W.InstAt h x ox C od) (hq:Q () ⟨h,g,d,t,os⟩):wpAny M A (checkBuiltinCall "BaseException.__getattribute__" ⟨[.ref x,nameV],[]⟩) Q E ⟨h,g,d,t,os⟩:=by
 have hk:builtinKind "BaseException.__getattribute__" = some .slot:=by decide +kernel
 have hsplit:splitId "BaseException.__getattribute__" = some ("BaseException", "__getattribute__"):=by decide +kernel
 have ha:=F.args_bexc_ga (.ref x) nameV;have L0:=I.type (M:=M);have L1:=W.looks_mroIn (M:=M) X p.mb;simp only[checkBuiltinCall,hk,hsplit];refine Zw ?_
 ·unfold isInstance
  repeat (first |with_reducible refine L0.at ?_ |with_reducible refine L1.at ?_ |wp_step)
  exact hq
theorem Pc {v:Value}{tk:Tok}{Q:Fin->W4->Prop} (X:K.In h) (I:W.InstAt h x ox C od) (hf:W.findObj K C od name=some (.value v)) (hq:Q (.done (.ret v)) ⟨h,g,d,t,os⟩) :
  wpAny (model prog w) A (Builtin.«object.__getattribute__» ⟨[.ref x,.str name tk],[]⟩) Q E ⟨h,g,d,t,os⟩:=by
 have L0:=I.type (M:=model prog w);have L1:=W.looks_find (M:=model prog w) X I hf
 repeat (any_goals (first |assumption |with_reducible refine L0.at ?_ |with_reducible refine L1.at ?_ |wp_step))
theorem Pd {tk:Tok}{Q:Fin->W4->Prop} (X:K.In h) (I:W.InstAt h x ox C od) (hf:W.findObj K C od name=some (.bind (.builtin "getset_descriptor.__get__") (.builtin "object.__class__"))) (hm:W.mroIn K C (.type "object")=some true)
  (hq:Q (.done (.ret (.ref C))) ⟨h,g,d,t,os⟩) :
  wpAny (model prog w) A (Builtin.«object.__getattribute__» ⟨[.ref x,.str name tk],[]⟩) Q E ⟨h,g,d,t,os⟩:=by
 have L0:=I.type (M:=model prog w);have L1:=W.looks_find (M:=model prog w) X I hf
 repeat (any_goals (first |assumption |with_reducible refine L0.at ?_ |with_reducible refine L1.at ?_ |wp_step))
 exact W.class_get X I hm (Zv hq)
theorem RH {tk:Tok}{v:Value}{R:Result->W4->Prop} (p:E3 K C) (X:K.In h) (I:W.InstAt h x ox C od)
  (hb:∀(A':Around) (E':VS) (Q:Fin->W4->Prop),Q (.done (.ret v)) ⟨h,g,d,t,os⟩->wpAny (model prog w) A' (Builtin.«object.__getattribute__» ⟨[.ref x,.str name tk],[]⟩) Q E' ⟨h,g,d,t,os⟩) (hq:R (.ok (.ret v)) ⟨h,g,d,t,os⟩) :
  codeAny (model prog w) A (.call (.builtin "BaseException.__getattribute__") ⟨[.ref x,.str name tk],[]⟩) R ⟨h,g,d,t,os⟩ :=
 codeAny_call_builtin F.excAttr_ValueError.ga.plain F.entry_bexc_ga (Pb p X I (hb _ _ _ hq))
theorem RJ {tk:Tok}{v:Value}{fill expr:Bool}{Q:VS} (p:E3 K C) (X:K.In h) (I:W.InstAt h x ox C od) (hh:W.handedIn v=true)
  (hb:∀(A':Around) (E':VS) (Q:Fin->W4->Prop),Q (.done (.ret v)) ⟨h,g,d,t,os⟩->wpAny (model prog w) A' (Builtin.«object.__getattribute__» ⟨[.ref x,.str name tk],[]⟩) Q E' ⟨h,g,d,t,os⟩) (hq:Q v ⟨h,g,d,t,os⟩) :
  wpAny (model prog w) A (getAttrBy (.ref x) (.str name tk) fill expr) Q E ⟨h,g,d,t,os⟩:=by
 have L0:=I.type (M:=model prog w);have L1:=W.looks_findIn (M:=model prog w) X p.ga;have L2:=W.looks_findIn (M:=model prog w) X p.gr;have f3:=F.excAttr_ValueError.ga.bind (.ref x);have hx0:(expr&&onTheHeap (Value.builtin "BaseException.__getattribute__"))=false:=by cases expr <;> rfl
 have hx2:(Value.builtin "BaseException.__getattribute__" == Value.builtin "object.__getattribute__")=false:=by decide +kernel
 have hx1:(onTheHeap (Value.ref C)&&Value.builtin "BaseException.__getattribute__" == Value.builtin "object.__getattribute__")=false:=by rw[hx2];rfl
 have ho:=W.handedOut_of hh
 repeat (any_goals (first |assumption |with_reducible refine L0.at ?_ |with_reducible refine L1.at ?_ |with_reducible refine L2.at ?_ |wp_step))
 refine RH p X I hb ?_
 repeat (any_goals (first |assumption | (rw[ho];exact Zv hq) |wp_step))
theorem RK {v:Value}{expr:Bool}{Q:VS} (p:E3 K C) (X:K.In h) (I:W.InstAt h x ox C od) (hf:W.findObj K C od name=some (.value v)) (hh:W.handedIn v=true) (hq:Q v ⟨h,g,d,t+1,os⟩) :
  wpAny (model prog w) A (getAttr (.ref x) name expr) Q E ⟨h,g,d,t,os⟩:=by
 unfold getAttr;refine Zw (wpAny_mkText ?_);exact RJ p X I hh (λA' E' Q' z=>Pc X I hf z) hq
theorem LR {Q:Option Value->W4->Prop} (p:E3 K C) (X:K.In h) (I:W.InstAt h x ox C od) (hf:W.findObj K C od "__class__" = some (.bind (.builtin "getset_descriptor.__get__") (.builtin "object.__class__"))) (hm:W.mroIn K C (.type "object")=some true)
  (hq:Q (some (.ref C)) ⟨h,g,d,t+1,os⟩):wpAny (model prog w) A (getAttr? (.ref x) "__class__") Q E ⟨h,g,d,t,os⟩:=by
 unfold getAttr? getAttrBy?;refine Zw (wpAny_mkText (Zw (wpAny_attempt ?_)));exact RJ (v:=.ref C) p X I Zj (λA' E' Q' z=>Pd X I hf hm z) (Zv hq)
end
theorem Iy {name:Str}{od:Option Obj}{a g:Value} (hc:(W.clsIn K C).isSome=true) (ha:W.findIn K (.ref C) name=some (some a)) (hg:W.specialIn K a "__get__" = some (some g)) (ht:W.takesIn K a=some true):W.findObj K C od name=some (.bind g a):=by
 obtain⟨cd,hc⟩:=Option.isSome_iff_exists.mp hc;unfold W.findObj;rw[hc,Option.bind_some,ha,Option.bind_some];simp[hg,ht]
structure TY (K:FG) (C:W3):Prop where
 hg:E3 K C
 hc:(W.clsIn K C).isSome=true
 ha:W.findIn K (.ref C) "__class__" = some (some (.builtin "object.__class__"))
 hn:W.specialIn K (.builtin "object.__class__") "__get__" = some (some (.builtin "getset_descriptor.__get__"))
 htk:W.takesIn K (.builtin "object.__class__")=some true
 hm:W.mroIn K C (.type "object")=some true
theorem RL {x D:W3}{ox:Obj}{od:Option Obj} (k:TY K D):W.KitX K (.ref x) (.ref D) (λh=>W.InstAt h x ox D od) where
 ty:=λ_ _ _ I=>I.type
 it:=λ_ _ X _=>by
  have ig:=k.hc;unfold W.clsIn at ig;split at ig
  ·rename_i c' d' cd' sl' ho;intro A' Q' E' s' k q;unfold isType loadHead;exact Zw (wpAny_loadPart (k _ _ (X _ _ ho)) (Zv q))
  ·cases ig
 ne:=λh tp dd its n sl X htp=>by
  have ig:=k.hc;refine Bool.eq_false_iff.mpr λq=>?_;have e:D=tp:=Value.ref.inj (beq_iff_eq.mp q);subst e;unfold W.clsIn at ig;split at ig
  ·rename_i c' d' cd' sl' ho;have z:=(X _ _ ho).symm.trans htp;cases z
  ·cases ig
 ca:=λ{prog w A E Q s} X I h=>by
  obtain⟨hh,g,d,t,os⟩:=s;exact LR k.hg X I (Iy k.hc k.ha k.hn k.htk) k.hm h
structure ExcP (X:Cx) (e:W3) (oe:Obj) (C:W3):Prop where
 at_:(e,oe)∈X.pn
 cls:oe.cls=.ref C
 fld:∃vs,oe.data=.fields vs
section
variable {e:W3}{oe:Obj}
theorem ExcP.inst (p:ExcP X e oe C) (I:Inv X aa σ H s) (hd:oe.dict=none\/∃d u,oe.dict=some d/\H d=some u):∃od,W.InstAt s.heap e oe C od:=by
 have he:=(I.pin (e,oe) (ZQ _ p.at_)).1;obtain⟨vs,hv⟩:=p.fld;have no:W.notCls oe=true:=by unfold W.notCls;rw[hv]
 rcases hd with z |⟨d,u,z,hu⟩
 ·exact⟨none,he,p.cls,no,by rw[z];trivial⟩
 ·have hlt:=(I.aE d u hu).lt
  have:∃o,s.heap.get? d=some o:=by
   have q:=(I.aE d u hu);cases u with
   |lst xs=>obtain⟨_,_,_,_,e⟩:=q;exact⟨_,e⟩
   |tup xs=>obtain⟨_,_,_,o,e,_⟩:=q;exact⟨o,e⟩
   |dK kvs=>obtain⟨_,_,_,_,o,_,_,e,_⟩:=q;exact⟨o,e⟩
   |dT kvs=>obtain⟨_,_,_,_,o,_,_,e,_⟩:=q;exact⟨o,e⟩
   |set S n=>obtain⟨o,_,_,_,e,_⟩:=q;exact⟨o,e⟩
   |ins C dx fs=>obtain⟨_,_,_,e,_⟩:=q;exact⟨_,e⟩
   |own y=>exact q
   |xd fs=>obtain⟨_,⟨o,_,_,e,_⟩,_⟩:=q;exact⟨o,e⟩
   |rng lo hi=>obtain⟨_,_,_,e⟩:=q;exact⟨_,e⟩
   |ef ob u=>exact⟨_,q.1⟩
   |fk ps=>exact⟨_,(show s.heap.get? d=some _ from q)⟩
   |met f y=>exact⟨_,(show s.heap.get? d=some _ from q)⟩
   |ext φ=>exact q.2.1
  obtain⟨o,ho⟩:=this;exact⟨some o,he,p.cls,no,by rw[z];exact ho⟩
theorem JX (p:ExcP X e oe C) (k:TY X.K C):BZ X (.builtin "isinstance") (λxs H Q=>∃v c b,xs=[.ref e,v]/\((∃D,v=.ref D/\c=.ref D)\/∃T,v=.ty T/\c=.type T)/\(oe.dict=none\/∃d u,oe.dict=some d/\H d=some u)/\W.kitOne X.K (.ref C) c=some b/\Q (.bl b) H):=by
 intro aa s σ H xs us Q I r h;obtain⟨v,c,b,rfl,hv,hd,hk,q⟩:=h;obtain⟨u,uT,rfl,ru,ruT⟩:=HS r;cases (show u=Value.ref e from ru);obtain⟨od,J⟩:=p.inst I hd
 have hc:uT=c:=by
  rcases hv with⟨D,rfl,rfl⟩ |⟨T,rfl,rfl⟩
  ·exact ruT
  ·exact ruT
 subst hc;exact W.kia_one (RL k) I.cC J hk (λz=>nomatch z) λtk=>⟨.bl b,H,I.tok tk,rfl,q⟩
end
section
variable {k:Nat}{e:W3}{oe:Obj}{fd:FuncData}{ps:Ww}{sp:SpS}{p:Pos}{a:Expr}{es:List Expr}{t:TA}
def KD (sp:SpS) (e:W3) (oe:Obj) (t:TA):TE:=λσ H Q=>t σ H λvs H1=>sp e oe vs H1 Q
theorem LU (F:OP X.prog X.w X.K X.mg X.base k f fd ps sp) (hr:RoomS k X.A) (hh:X.A.handled=some (.ref e)) (at_:(e,oe)∈X.pn) (hg:Gl X x) (hm:X.mg x=some (.ref f)) (hk:W.keepIn X.K (.ref f)=true) (hb:Binds X.K fd ps [])
  (ha:PA X (a::es) t) (dG:(x==("__debug__" : Str))=false:=by decide) (he:starEach (a::es) X.env=(false,eval a X.env)::starEach es X.env:=by rfl) (dA:(backTo pos (starEach es X.env)).any (·.1)=false:=by rfl) :
  PE X (.Call (.Name x p) (a::es) [] pos) (KD sp e oe t):=by
 intro aa s σ H Q I h;refine Z3 (Br I hg hm ?_ dG);refine W.callWith_K (h₀:=X.base) I.ok.mod.kin hk (aL (ha pos aa s σ H _ I h) λus s1 ⟨vs,H1,I1,r,q⟩=>⟨I1.cC,?_⟩) he dA;obtain⟨e1,e2,e3,e4,e5⟩:=I1.pin (e,oe) (ZQ _ at_);have hl:(us++[]).length=ps.length:=by rw[Zs,←r.length];exact F.len _ _ _ _ _ q
 have bb:=hb s1 us I1.cC hl;rw[Zs]at bb;refine wpAny_call (codeAny_mono (F.run X.A X.stack s1 H1 ⟨us,[]⟩ us vs Q e oe hr I1.fG hh e1 e2 (λz=>(mem_cons.mp (I1.stkSub e z)).elim e3 e4) e5 bb r q) λr s' hq=>?_);cases r with
 |error e=>exact False.elim hq
 |ok fl =>
  cases fl with
  |ret u=>exact I1.after hq
  |next=>exact False.elim hq
  |brk=>exact False.elim hq
  |cont=>exact False.elim hq
end
theorem RM (a b:Bool):MeetsSeq.EqGives (.bool a) (.bool b) (a==b):=λprog w A E s Q h=>SeqAt.EqAt.bool_bool a b prog w E Q h
theorem JY:∀ {bs:List Bool}{us:Wx},Vals (bs.map V.bl) us->us=bs.map Value.bool
 | [],_,.nil=>rfl
 |_::_,_,.cons r t=>by rw[map_cons,←JY t];cases r;rfl
def TZ:V->Wy->Hp->VK->Prop:=λx vs H Q=>∃(l:W3) (bs:List Bool) (j:Nat),x=.ref l/\vs=[.bl true]/\H l=some (.lst (bs.map V.bl))/\bs[j]?=some true/\(∀m,m<j->bs[m]?=some false)/\Q (.int (j:Nat)) H
section
theorem Pe:MtM X "list.index" TZ:=by
 intro aa s σ H x vs v us Q I rx rv h;obtain⟨l,bs,j,rfl,rfl,hH,hj,hno,q⟩:=h;cases rx;obtain⟨u,rfl,ru⟩:=rv.one;obtain rfl:u=Value.bool true:=ru;obtain⟨z,its,n,r,hl,e⟩:=I.lstM hH;have ei:=JY r;subst ei;have hjs:j<bs.length:=(Z8.mp hj).1
 have hz:(j:Int)<2 ^ 63 - 1:=by
  have hs:sizeLine<2 ^ 62:=by decide
  rw[AE]at z;omega
 refine call_meets F.slot_list_index ⟨_,e,Zj⟩ F.entry_list_index (F.args_list_index_2 _ _)
  (MeetsSeq.list_index l (bs.map Value.bool).toArray n (.bool true) (λy=>match y with | .bool a=>a==true |_=>false) (λy hy=>?_) j (by simpa using hjs) hz ?_ λm hm hlt=>?_) ⟨e,?_⟩
 ·obtain⟨a,_,rfl⟩:=Zq.mp (List.mem_toArray.mp hy);exact RM a true
 ·have:=(Z8.mp hj).2;simp[this]
 ·have:=(Z8.mp (hno m hlt)).2;simp[this]
 ·exact⟨.int (j:Nat),H,I.tok _,⟨_,Zj⟩,q⟩
end
noncomputable def i8 (f:W3) (o:Obj):HO:=.ext λh=>h.get? f=some o
noncomputable def Fg (c:W3) (qual:Str):HO:=.ext λh=>h.CodeRec (.ref c) qual
noncomputable def Er (P:Program) (w:World) (K:FG) (mg:SV) (base:Heap) (N:Ww) (qual:Str) (scope:Scope) (f:W3) (cd:Value) (cl:List (Str×W3)) (A:Around) (outer:List Env) (s:W4) (H:Hp) (E:XK):Cx where
 prog:=P
 w:=w
 K:=K
 mg:=mg
 base:=base
 A:=A.deeper (W.envX qual scope s.heap.objs.size f cd cl)
 N:=N
 aX:=s
 eD:=H
 env:=W.envX qual scope s.heap.objs.size f cd cl
 outer:=outer
 stack:=W.envX qual scope s.heap.objs.size f cd cl::outer
 ex:=[]
 calm:=true
 fn:=λ_=>false
 pn:=[]
 xe:=λe s'=>wpAny (model P w) (A.deeper (W.envX qual scope s.heap.objs.size f cd cl)) (leaving (W.envX qual scope s.heap.objs.size f cd cl) e) (λ_ iK=>eN P w outer H s E e iK) (λe' iK=>eN P w outer H s E e' iK) s'
structure IC (N:Ww) (scope:Scope) (cl:List (Str×W3)) (σ:St) (H:Hp) (h:Heap):Prop where
 inj:∀x y c,cl.lookup x=some c->cl.lookup y=some c->x=y
 has:∀x,(scope.names.lookup x=some .cell\/scope.names.lookup x=some .free)->∃c,cl.lookup x=some c
 cell:∀x c,cl.lookup x=some c->(∃v,h.IsCell c v)/\H c=none
 val:∀(i:Nat) x v,N[i]?=some x->σ[i]?=some (some v)->scope.names.lookup x=some .free/\∃u c,RelV v u/\cl.lookup x=some c/\h.IsCell c (some u)
 len:σ.length=N.length
section
variable {qual name:Str}{scope:Scope}{c':W3}{cd:Value}{cl:List (Str×W3)}{outer:List Env}{E:XK}
theorem Wl:NF (Er P w K mg base N qual scope f cd cl A outer s H E):=⟨rfl,rfl,rfl⟩
theorem RN:Be (eN P w) (Er P w K mg base N qual scope f cd cl A outer s H E) E:=by
 rintro aa σ H1 s1 e s2 I ⟨ea,C,dx,H2,rfl,F,q⟩;exact Zu (IA (X:=Er P w K mg base N qual scope f cd cl A outer s H E) Wl I F) (λ_ s3 G=>⟨ea,C,dx,H2,Zj,G,q⟩) λ_ _ z=>z
theorem NM {h1:Heap}{m0:SV}{tk:Nat} (hk0:scope.kind=.function) (hd:A.handled=none) (e0:dz P w K mg base A outer s H) (C:IC N scope cl σ H s.heap) (jg:h1.Ns s.heap.objs.size m0) (hk:∀b o,s.heap.get? b=some o->h1.get? b=some o) :
  Inv (Er P w K mg base N qual scope f cd cl A outer s H E) [] σ H { s with heap:=h1,toks:=tk }:=by
 have iN:∀b:W3,b∉ (Er P w K mg base N qual scope f cd cl A outer s H E).ex:=λb z=>absurd (show b∈([]:List W3)from z) (by simp);have cellK:∀ {c:W3}{v:Option Value},s.heap.IsCell c v->h1.IsCell c v:=λ{c v} ⟨o,ho,hd⟩=>⟨o,hk _ _ ho,hd⟩
 refine⟨⟨e0.mod,hk0,Zj,Zj,Zx _,C.inj,C.has,λy c z _=>(by cases (show false=true from z)),λ_=>hd,Around.frames_deeper e0.frames,.inr ⟨Zj,Zj⟩,λb z=>absurd z (iN b),e0.bs,e0.f6,λb _ _=>iN b,λb z=>absurd z (iN b),e0.cJ,e0.gz⟩,
  rfl,e0.bare,Un.kept hk,⟨m0,jg,λi x v h1 h2 h3=>?_⟩,λy c h=>?_,e0.aE.fresh (Zx _),λy c h=>(C.cell y c h).2,λp hp=>absurd (show p∈([]:LO)from hp) (by simp),e0.aE.kept hk,C.len⟩
 ·obtain⟨k,u,c,r,e,z⟩:=C.val i x v h1 h2;exact⟨u,r,.inr ⟨.inr k,c,e,cellK z⟩⟩
 ·obtain⟨⟨v,z⟩,_⟩:=C.cell y c h;exact⟨v,cellK z⟩
theorem RP {k:Nat}{params:Arguments}{body:Expr}{pm dJ:Value}{Q:VK}{tb:TE} (hr:aH k A) (e0:dz P w K mg base A outer s H) (C:IC N scope cl σ H s.heap)
  (ho:s.heap.get? f=some (W.kla_obj name qual params body scope cl pm c' dJ)) (eo:s.heap.CodeRec (.ref c') qual) (bz:bindArgs (W.kla_fn name qual params body scope cl pm (.ref c') dJ) ⟨[],[]⟩=pure [])
  (hco:scope.isCoroutine=false) (b9:scope.isGenerator=false) (hk:scope.kind=.function) (bp:∀x∈scope.names,x.2≠ .cell)
  (hb:PE (Er P w K mg base N qual scope f (.ref c') cl A outer s H E) body tb) (h:tb σ H Q):codeAny (model P w) A (.call (.ref f) ⟨[],[]⟩) (CR (eN P w) outer P w H s Q E) s:=by
 have lim:s.heap.NoLimit:=e0.mod.nolimit.keeps λb o e=>(e0.bs b o e).1;refine W.kla_callFunE hr.depth ho rfl hco b9 rfl eo ?_;rw[bz];refine Zv (wpAny_newFunctionEnv bp (λy hy=>nomatch hy) (λeO jg hsb=>⟨lim.fresh _ hsb,?_⟩) hk);show codeAny _ _ (.expr body (W.envX qual scope s.heap.objs.size f (.ref c') cl)) _ _;have hk₁:∀b o,s.heap.get? b=some o->eO.get? b=some o:=λb o e=>hsb.extBut b o (ZE (lt_size e)) (ZY _ e);have I:Inv (Er P w K mg base N qual scope f (.ref c') cl A outer s H E) [] σ H _:=NM (tk:=s.toks+([]:List (Str×Value)).length) hk hr.hd e0 C jg hk₁;exact W.kla_codeExpr (Zu (hb [] _ σ H Q I h) (λv s' ⟨x,H',J,rv,q⟩=>⟨x,H',J.os,J.bare,J.base,J.aE,rv,q⟩) λe s' z=>z)
end
section
theorem Inv.cells {scope:Scope}{cl:List (Str×W3)}{g9:St} (I:Inv X aa σ H s) (C:IC N scope cl g9 X.eD X.aX.heap) (iB:∀x c,cl.lookup x=some c->c∉ X.fs) (hex:X.ex=[]):IC N scope cl g9 H s.heap:=by
 have kp:∀x c v,cl.lookup x=some c->X.aX.heap.IsCell c v->s.heap.IsCell c v:=λx c v e ⟨o,ho,hd⟩=>⟨o,I.base.keep c o ho (C.cell x c e).2 (iB x c e) (by rw[hex];simp),hd⟩;refine⟨C.inj,C.has,λx c e=>?_,λi x v h1 h2=>?_,C.len⟩
 ·obtain⟨⟨v,z⟩,n⟩:=C.cell x c e;obtain⟨o,ho,_⟩:=id z;exact⟨⟨v,kp x c v e z⟩,I.base.free c o ho n (by rw[hex];simp)⟩
 ·obtain⟨k,u,c,r,e,z⟩:=C.val i x v h1 h2;exact⟨k,u,c,r,e,kp x c _ e z⟩
def LV (i:Nat) (f c':W3) (qual:Str) (o:Obj) (g9:St) (tb:TE):TE:=λσ H Q=>σ[i]?=some (some (.ref f))/\H f=some (i8 f o)/\H c'=some (Fg c' qual)/\tb g9 H Q
theorem NN {i k:Nat}{name qual:Str}{p:Pos}{Nl:Ww}{scope:Scope}{cl:List (Str×W3)}{g9:St}{c':W3}{params:Arguments}{body:Expr}{pm dJ:Value}{tb:TE}{E:XK}
  (hN:X.N[i]?=some x) (hv:Vis X.env.scope x) (hr:aH k X.A) (C:IC Nl scope cl g9 X.eD X.aX.heap) (iB:∀x c,cl.lookup x=some c->c∉ X.fs) (hex:X.ex=[]) (hx:Be (eN X.prog X.w) X E)
  (bz:bindArgs (W.kla_fn name qual params body scope cl pm (.ref c') dJ) ⟨[],[]⟩=pure [])
  (hco:scope.isCoroutine=false) (b9:scope.isGenerator=false) (hk:scope.kind=.function) (bp:∀x∈scope.names,x.2≠ .cell)
  (hb:∀s H,PE (Er X.prog X.w X.K X.mg X.base Nl qual scope f (.ref c') cl X.A X.stack s H E) body tb) (hd:(x==("__debug__" : Str))=false:=by decide) (eo:(x==("__classdict__" : Str))=false:=by decide) :
  PE X (.Call (.Name x p) [] [] pos) (LV i f c' qual (W.kla_obj name qual params body scope cl pm c' dJ) g9 tb):=by
 intro aa s σ H Q I h;obtain⟨h1,h2,h3,h4⟩:=h;refine Z3 (aL (QU hN hv hd eo aa s σ H (λv H'=>v=.ref f/\H'=H) I ⟨_,h1,rfl,rfl⟩) λu s1 ⟨v,H1,I1,r,ev,eH⟩=>?_);subst ev eH;obtain rfl:u=Value.ref f:=r;obtain⟨ho,_,_⟩:=I1.aE _ _ h2;obtain⟨hc,_,_⟩:=I1.aE _ _ h3;refine callWith_meth0 rfl ho (wpAny_call (codeAny_mono (RP hr I1.fG (I1.cells C iB hex) ho hc bz hco b9 hk bp (hb s1 H1) h4) λr s' hq=>?_));cases r with
 |error e=>exact hx aa σ H1 s1 e s' I1 hq
 |ok fl =>
  cases fl with
  |ret u=>exact I1.after hq
  |next=>exact False.elim hq
  |brk=>exact False.elim hq
  |cont=>exact False.elim hq
end
section
variable {CX:fJ}
theorem aZ.at {qual:Str}{st:Stmt}{fd:FuncData}{ps:Ww}{k:Nat}{outer:List Env}{args:Args}{vs:Wy}{Q:VK}{E:XK} (F:aZ K x qual st f fd) (S:AK N ps (defScope st)) (hl:vs.length=ps.length)
  (hr:aH (k+1) A) (e0:dz P w K mg base A outer s H) (hb:BindsTo s fd args (ps.zip us)) (r:Vals vs us)
  (bn:∀ae,aH k (A.deeper (envOfC qual (defScope st) s.heap.objs.size f ae))->∃t,dP (BF CX P w K mg base N qual (defScope st) f ae A outer s H E) (defBody st) t/\t { nx:=λ_ H'=>Q .aK H',rt:=Q } (Bo N vs) H) :
  codeAny (model P w) A (.call (.ref f) args) (CR CX outer P w H s Q E) s:=by
 obtain⟨oc,od,kV,doc,pm,an,ae,ct,eV,rfl,lk,eo⟩:=F.ex;have KX:K.In s.heap:=e0.mod.kin.keeps λb o z=>(e0.bs b o z).1;have lim:s.heap.NoLimit:=e0.mod.nolimit.keeps λb o z=>(e0.bs b o z).1
 have hk:∀y∈ps.zip us,(defScope st).names.lookup y.1=some .local\/((defScope st).names.lookup y.1=some .cell/\((cellsFrom (s.heap.objs.size+1) (defScope st).names []).lookup y.1).isSome=true):=λ⟨n,v⟩ hy=>by
  rcases S.par n (of_mem_zip hy).1 with q |q
  ·exact .inl q
  ·exact .inr ⟨q,W.cellsFrom_some _ _ _ (.inl q)⟩
 refine codeAny_call_function hr.depth (KX _ _ lk) rfl S.co S.gen rfl (W.codeRec_of KX eo) (hb _ _ _ _ (wpAny_newFunctionEnv_cells S.kind hk λenv ee s1 x=>?_));subst ee;refine⟨lim.keeps x.toInCall.keep,codeAny_func ?_⟩;obtain⟨t,ht,hq⟩:=bn ae (hr.deeper _);have I:Inv (BF CX P w K mg base N qual (defScope st) f ae A outer s H E) [] (Bo N vs) H s1:=F9 S hr.hd e0 hl r x;refine Zu (ht [] s1 (Bo N vs) H _ I hq) (λfl s' z=>?_) λ_ _ z=>z;cases fl with
 |ret u =>
  obtain⟨v,aN,H',J,rv,q⟩:=z;exact⟨v,H',J.os,J.bare,J.base,J.aE,rv,q⟩
 |next =>
  obtain⟨aN,H',J,q⟩:=z;exact⟨.aK,H',J.os,J.bare,J.base,J.aE,Zj,q⟩
 |brk =>
  obtain⟨_,_,_,q⟩:=z;exact q.elim
 |cont =>
  obtain⟨_,_,_,q⟩:=z;exact q.elim
end
theorem HD {q:Pos}{c:Value} (bc:(q.line==pos.line&&q.col==pos.col)=false) (l:Wx) (h:TriplesOk l):codeAmong q (l++[rawInt pos.line,rawInt pos.col,c])=codeAmong q l:=by
 fun_induction TriplesOk l with
 |case1 =>
  have:((pos.line:Int)==(q.line:Int)&&(pos.col:Int)==(q.col:Int))=false:=by
   rw[Bool.and_eq_false_iff]at bc ⊢;rcases bc with z |z
   ·left;rw[beq_eq_false_iff_ne]at z ⊢;omega
   ·right;rw[beq_eq_false_iff_ne]at z ⊢;omega
  simp[codeAmong,rawInt,this]
 |case2 a t b u x rest ih =>
  simp only[List.cons_append,codeAmong];split
  ·rfl
  ·exact ih h
 |case3 l h1 h2=>exact h.elim
def aS (H:Hp) (P0:W3) (qual:Str) (ls:List Pos):Prop:=∃ps,H P0=some (.fk ps)/\TriplesOk ps.toList/\∀q∈ls,codeAmong q ps.toList=none\/∃c',codeAmong q ps.toList=some (.ref c')/\H c'=some (Fg c' qual)
def JZ (P0:W3) (H H':Hp):Prop:=∀b u,b≠P0->H b=some u->H' b=some u
structure Ta (X:Cx) (c P0:W3):Prop where
 code:X.env.code=.ref c
 hd:W.CodeHd X.base c P0
 bu:X.base.BuiltinsAt X.mg P0
section
variable {c P0:W3}{ls:List Pos}{cG:Pos}
def WB (P0:W3) (qual:Str) (ls:List Pos) (o:W3->Value->Obj):TE:=λσ H Q=>aS H P0 qual ls/\∀f c' dJ H',H f=none->JZ P0 H H'->aS H' P0 qual ls->H' f=some (i8 f (o c' dJ))->H' c'=some (Fg c' qual)->Q (.ref f) H'
theorem Tb {c':W3}{qual:Str} (r:h.CodeRec (.ref c') qual):aT P w H h c' (Fg c' qual):=by
 obtain⟨c1,oc,vs,t,e,ho,hd,hq⟩:=id r;cases e;exact⟨r,⟨_,ho⟩,λh1 h2 ⟨c2,o2,v2,t2,e2,a,b⟩ k=>by cases e2;exact⟨_,o2,v2,t2,Zj,k _ a,b⟩⟩
theorem UV {o:Obj} (r:h.get? f=some o):aT P w H h f (i8 f o):=⟨r,⟨_,r⟩,λh1 h2 a k=>k _ a⟩
theorem Uy {params:Arguments}{body:Expr}{scope:Scope}{bJ:List (Str×W3)} (L:Ta X c P0) (hm:cG∈ls) (bc:∀q∈ls,q=cG\/(q.line==cG.line&&q.col==cG.col)=false)
  (ai:closureFor scope X.env=pure bJ) (df:defaultsOf params X.env=([],[])) :
  PE X (.Lambda params body scope cG) (WB P0 (X.env.qual ++ "<lambda>") ls (λc' dJ=>W.kla_obj "<lambda>" (X.env.qual ++ "<lambda>") params body scope bJ ((X.mg "__name__").getD .none) c' dJ)):=by
 intro aa s σ H Q I h;obtain⟨⟨ps,hP,ht,hls⟩,k⟩:=h;have bk:∀b o,X.base.get? b=some o->s.heap.get? b=some o:=λb o e=>(I.bs b o e).1;have hPg:s.heap.get? P0=some (W.tabObj ps):=I.aE _ _ hP;have hgs:s.heap.Ns mainGlobals X.mg:=I.ok.mod.glob.keeps bk
 have hgP:mainGlobals≠P0:=λq=>by
  obtain⟨o,es,ep,e,_⟩:=I.ok.mod.glob;have n:=(I.bs _ _ e).2;rw[q,hP]at n;cases n
 have C:=L.hd.keeps bk
 have B:s.heap.BuiltinsAt X.mg P0:=by
  obtain⟨bm,o,a1,a2,a3,a4,a5,a6⟩:=L.bu;exact⟨bm,o,a1,a2,a3,a4,bk _ _ a5,a6⟩
 refine W.kla_eval df ?_;rcases hls cG hm with hn |⟨c',hf,iT⟩
 ·refine W.kla_makeFunction (mg:=X.mg) ai I.ok.glob hgs L.code C hPg ht hn hgP B λc' dJ h' tk hx hge hlt hrec htb=>?_;have kp:∀b o,b≠P0->s.heap.get? b=some o->(h'.push (W.kla_obj "<lambda>" (X.env.qual ++ "<lambda>") params body scope bJ ((X.mg "__name__").getD .none) c' dJ)).get? b=some o:=λb o n e=>ZY _ (hx b o n e);have lt:∀b u,H b=some u->b<s.heap.objs.size:=λb u e=>I.aE.lt e;have iB:s.heap.objs.size<=h'.objs.size:=Nat.le_trans hge (Nat.le_of_lt hlt);have hPl:P0<s.heap.objs.size:=lt _ _ hP;have hcP:c'≠P0:=λz=>by rw[z]at hge;exact absurd hPl (Nat.not_lt_of_le hge)
  have hfP:h'.objs.size≠P0:=λz=>by rw[z]at iB;exact absurd hPl (Nat.not_lt_of_le iB)
  have hcf:c'≠h'.objs.size:=ZE hlt;generalize cb:upd (upd (upd H P0 (.fk (ps++#[rawInt cG.line,rawInt cG.col,.ref c']))) c' (Fg c' (X.env.qual ++ "<lambda>"))) h'.objs.size (i8 h'.objs.size (W.kla_obj "<lambda>" (X.env.qual ++ "<lambda>") params body scope bJ ((X.mg "__name__").getD .none) c' dJ))=H'
  have fV:∀b,b<s.heap.objs.size->b≠P0->H' b=H b:=λb hb n=>by
   rw[←cb,AH (ZE (Z2 hb iB)),AH (ZE (Z2 hb hge)),AH n]
  have atP:H' P0=some (.fk (ps++#[rawInt cG.line,rawInt cG.col,.ref c'])):=by rw[←cb,AH (Ne.symm hfP),AH (Ne.symm hcP),AB]
  have atc:H' c'=some (Fg c' (X.env.qual ++ "<lambda>")):=by rw[←cb,AH hcf,AB]
  have atf:H' h'.objs.size=some (i8 h'.objs.size (W.kla_obj "<lambda>" (X.env.qual ++ "<lambda>") params body scope bJ ((X.mg "__name__").getD .none) c' dJ)):=by rw[←cb,AB]
  have ntbl:∀b u,H b=some u->(∀qs,u≠ .fk qs)->b≠P0:=λb u e n z=>by subst z;rw[hP]at e;cases e;exact n _ rfl
  have un:Un X.fs [] H H' s.heap (h'.push (W.kla_obj "<lambda>" (X.env.qual ++ "<lambda>") params body scope bJ ((X.mg "__name__").getD .none) c' dJ)):=by
   have nP:∀b,H b=none->b≠P0:=λb n z=>by subst z;rw[hP]at n;cases n
   refine⟨λb o q n _ _=>kp b o (nP b n) q,λb o q n _ _=>⟨o.slots,kp b o (nP b n) q⟩,λb o q n _=>by rw[fV b (lt_size q) (nP b n)];exact n,λb o q _=>?_,λb xs e=>?_,λb o u e=>?_,λb qs e=>?_⟩
   ·by_cases z:b=P0
    ·subst z;exact⟨_,ZY _ htb⟩
    ·exact⟨o,kp b o z q⟩
   ·rw[fV b (lt _ _ e) (ntbl b _ e λ_ y=>nomatch y)];exact e
   ·rw[fV b (lt _ _ e) (ntbl b _ e λ_ y=>nomatch y)];exact e
   ·by_cases z:b=P0
    ·subst z;rw[hP]at e;cases e;exact⟨_,atP⟩
    ·exact⟨#[],by rw[fV b (lt _ _ e) z,e];simp⟩
  have aE:cV X.prog X.w H' (h'.push (W.kla_obj "<lambda>" (X.env.qual ++ "<lambda>") params body scope bJ ((X.mg "__name__").getD .none) c' dJ)):=λb u e=>by
   by_cases z1:b=h'.objs.size
   ·subst z1;rw[atf]at e;cases e;exact UV (ZO _ Zj)
   by_cases z2:b=c'
   ·subst z2;rw[atc]at e;cases e;obtain⟨c1,oc,vs,t,ec,ho,hd⟩:=hrec;exact Tb ⟨c1,oc,vs,t,ec,ZY _ ho,hd⟩
   by_cases z3:b=P0
   ·subst z3;rw[atP]at e;cases e;exact ZY _ htb
   ·have e':H b=some u:=by rw[←cb,AH z1,AH z2,AH z3]at e;exact e
    refine(I.aE b u e').eG (λb2 o hb q=>kp b2 o ?_ q) (λb2 q=>?_) λb2 xs q=>?_
    ·rcases hb with z |z
     ·rw[z];exact z3
     ·exact ntbl b2 _ z λ_ y=>nomatch y
    ·rw[fV b2 (lt _ _ q) (ntbl b2 _ q λ_ y=>nomatch y)];exact q
    ·rw[fV b2 (lt _ _ q) (ntbl b2 _ q λ_ y=>nomatch y)];exact q
  have I':=I.un (t':=tk) un aE;refine⟨.ref h'.objs.size,H',I',Zj,k _ c' dJ H' (I.aE.fresh iB) (λb u n e=>by rw[fV b (lt _ _ e) n];exact e) ⟨_,atP,?_,λq hq=>?_⟩ atf atc⟩
  ·rw[Array.toList_append];exact TriplesOk_snoc _ _ _ _ ht
  ·rw[Array.toList_append];rcases bc q hq with z |z
   ·subst z;exact .inr ⟨c',codeAmong_snoc _ ht hn,atc⟩
   ·show codeAmong q (ps.toList++[rawInt cG.line,rawInt cG.col,.ref c'])=none\/_;rw[HD z _ ht];rcases hls q hq with y |⟨c2,y1,y2⟩
    ·exact .inl y
    ·exact .inr ⟨c2,y1,by rw[fV c2 (lt _ _ y2) (ntbl c2 _ y2 λ_ y=>nomatch y)];exact y2⟩
 ·refine W.kla_makeFunctionHit (mg:=X.mg) ai I.ok.glob hgs L.code C hPg ht hf B λdJ h' tk hk hsz=>?_;have I':=I.laid (t':=tk) (a:=h'.objs.size) (o:=i8 h'.objs.size (W.kla_obj "<lambda>" (X.env.qual ++ "<lambda>") params body scope bJ ((X.mg "__name__").getD .none) c' dJ)) (λb o e=>ZY _ (hk b o e)) hsz (UV (ZO _ rfl));have fr:H h'.objs.size=none:=I.aE.fresh hsz
  have sm:∀b u,H b=some u->upd H h'.objs.size (i8 h'.objs.size (W.kla_obj "<lambda>" (X.env.qual ++ "<lambda>") params body scope bJ ((X.mg "__name__").getD .none) c' dJ)) b=some u:=λb u e=>by
   rw[AH (AJ e fr)];exact e
  refine⟨.ref h'.objs.size,_,I',rfl,k _ c' dJ _ fr (λb u _ e=>sm b u e) ⟨ps,sm _ _ hP,ht,λq hq=>?_⟩ AB (sm _ _ iT)⟩;rcases hls q hq with y |⟨c2,y1,y2⟩
  ·exact .inl y
  ·exact .inr ⟨c2,y1,sm _ _ y2⟩
end
def RQ (P0:W3) (H:Hp):Prop:=∀b,H b=none\/(∃o xs,H b=some (.ef o (.lst xs)))\/(b=P0/\H b=some (.fk #[]))
theorem Pf {mb:SV}{CX:fJ}{k:Nat}{fa c P0:W3}{fd:FuncData}{sp:Sp}{aI:W4}{vs:Wx}{ns:List Int}
  (KX:K.In aI.heap) (jg:aI.heap.Ns mainGlobals mg) (hb:aI.heap.Ns builtinsNs mb) (hbb:∀x:Str,x≠ "__name__" -> mb x=bootBuiltins x) (hlim:aI.heap.NoLimit) (hg:aI.gens=#[])
  (ha:aI.heap.get? a=some { cls:=.type "list", data:=.seq vs.toArray }) (hi:IntsAre vs ns) (hl:ns.length<=sizeLine) (hr:aH k callerA)
  (hP:aI.heap.get? P0=some (W.tabObj #[])) (hKP:K.lookup P0=none) (hC:W.CodeHd aI.heap c P0) (hB:aI.heap.BuiltinsAt mg P0)
  (F:∀base:Heap,K.In base->base.Ns mainGlobals mg->W.CodeHd base c P0->base.BuiltinsAt mg P0->aD P w K mg base CX k fa fd [x] sp) (bz:∀(s:W4) (u:Value),BindsTo s fd ⟨[u],[]⟩ [(x,u)])
  (fv:∀H:Hp,RQ P0 H->H P0=some (.fk #[])->aJ K H a (ns.map V.int)->sp [.ref a] H (λv _=>v=.bl true) λ_ _ _=>False)
  (hCX:∀H e s',CX [] H aI (λ_ _ _=>False) e s'->False) :
  codeAny (model P w) callerA (.call (.ref fa) ⟨[.ref a],[]⟩) (λr s'=>r=.ok (.ret (.bool true))/\OldK aI.heap s'.heap/\s'.os=aI.os/\AllBare s'.gens) aI:=by
 have rv:=DR hi;have lenV:=hi.length;have haP:a≠P0:=λz=>by subst z;rw[ha]at hP;cases hP
 have core:∀H:Hp,RQ P0 H->H P0=some (.fk #[])->aJ K H a (ns.map V.int)->cV P w H aI.heap->(∀b,H b≠none->b=a\/b=P0)->(H a≠none->K.lookup a=none) ->
   codeAny (model P w) callerA (.call (.ref fa) ⟨[.ref a],[]⟩) (λr s'=>r=.ok (.ret (.bool true))/\OldK aI.heap s'.heap/\s'.os=aI.os/\AllBare s'.gens) aI:=by
  intro H hO hHP hS aE hA hK;have base_of:∀ {b:W3}{o:Obj},aI.heap.get? b=some o->H b=none->(HM aI.heap H).get? b=some o:=λe n=>QT e n
  have noS:∀ {b:W3}{o:Obj},aI.heap.get? b=some o->(∀xs n,o.data≠ .seq xs n)->o.cls≠ .none->H b=none:=λ{b o} e d1 d2=>by
   cases q:H b with
   |none=>rfl
   |some u =>
    rcases hA b (by rw[q];simp)with e' |e'
    ·subst e';rw[ha]at e;cases e;exact absurd Zj (d1 _ _)
    ·subst e';rw[hP]at e;cases e;exact absurd Zj d2
  have iN:∀ {b:W3}{o:Obj}{es:Array DictEntry}{ep:Nat},aI.heap.get? b=some o->o.data=.dict es ep->H b=none:=λ{b o es ep} e d=>by
   cases q:H b with
   |none=>rfl
   |some u =>
    rcases hA b (by rw[q];simp)with e' |e'
    ·subst e';rw[ha]at e;cases e;cases (show Data.seq vs.toArray _=Data.dict es ep from d)
    ·subst e';rw[hP]at e;cases e;cases (show Data.fields #[]=Data.dict es ep from d)
  have nsK:∀ {b:W3}{m:SV},aI.heap.Ns b m->(HM aI.heap H).Ns b m:=λ{b m} ⟨o,es,ep,e,d,r⟩=>⟨o,es,ep,base_of e (iN e d),d,r⟩
  have hKb:K.In (HM aI.heap H):=λb o e=>base_of (KX b o e) (by
   cases q:H b with
   |none=>rfl
   |some u =>
    rcases hA b (by rw[q];simp)with e' |e'
    ·subst e';rw[hK (by rw[q];simp)]at e;cases e
    ·subst e'
     rw[hKP]at e;cases e)
  have hM:Mod K mg (HM aI.heap H):=⟨hKb,nsK jg,⟨mb,nsK hb,hbb⟩,let ⟨mc,h1,h2⟩:=hlim;⟨mc,nsK h1,h2⟩⟩
  have hCb:W.CodeHd (HM aI.heap H) c P0:=by
   obtain⟨o,vs',file,tf,flags,tg,inF,text,tt,e,ai,hda,r⟩:=id hC;exact⟨o,vs',file,tf,flags,tg,inF,text,tt,base_of e (noS e (λxs n z=>by rw[hda]at z;cases z) (by rw[ai];exact λz=>nomatch z)),ai,hda,r⟩
  have hBb:(HM aI.heap H).BuiltinsAt mg P0:=by
   obtain⟨bm,o,a1,a2,a3,a4,a5,a6,a7,a8⟩:=id hB;exact⟨bm,o,a1,a2,a3,a4,base_of a5 (noS a5 (λxs n z=>by rw[a8]at z;cases z) (by rw[a6];exact λz=>nomatch z)),a6,a7,a8⟩
  have e0:dz P w K mg (HM aI.heap H) callerA [] aI H:=⟨rfl,hM,λb o e=>Ss e,Nat.le_of_eq (Ox _ _),trivial,λb hb=>absurd (show b∈([]:List W3)from hb) (by simp),aE,.of_eq hg⟩;refine codeAny_mono ((F _ hKb (nsK jg) hCb hBb).run callerA [] aI H ⟨[.ref a],[]⟩ [.ref a] [.ref a] _ _ hr e0 (bz aI (.ref a)) (.cons rfl .nil) (fv H hO hHP hS)) λr s' h=>?_;cases r with
  |error e=>exact(hCX H e s' h).elim
  |ok fl =>
   cases fl with
   |next=>exact False.elim h
   |brk=>exact False.elim h
   |cont=>exact False.elim h
   |ret u =>
    obtain⟨v,H',os,bare,un,hok',r',q⟩:=h;have q':v=.bl true:=q;subst q';obtain rfl:u=Value.bool true:=r'
    have tabNow:∃more,s'.heap.get? P0=some (W.tabObj (#[]++more)):=by
     obtain⟨more,e⟩:=un.eh P0 #[] hHP;exact⟨more,hok' _ _ e⟩
    have rest:∀b o,b≠P0->aI.heap.get? b=some o->s'.heap.get? b=some o:=λb o hb e=>by
     cases q:H b with
     |none=>exact un.keep b o e q (by intro z;exact absurd (show b∈([]:List W3)from z) (by simp)) (by simp)
     |some u =>
      rcases hO b with z |⟨ob,xs,z⟩ |⟨z,_⟩
      ·rw[q]at z;cases z
      ·have z2:=un.eB b ob _ z;obtain⟨e1,_⟩:=aE b _ z;obtain⟨e2,_⟩:=hok' b _ z2;rw[e]at e1;cases e1;exact e2
      ·exact absurd z hb
    refine⟨Zj,⟨λb o e=>?_,λb o e=>?_⟩,os,bare⟩
    ·by_cases hb:b=P0
     ·subst hb;rw[hP]at e;cases e;obtain⟨more,e2⟩:=tabNow;exact .inr (.inl ⟨(hC.tab hP).isCodeTable,Zj,#[],more,Zj,e2⟩)
     ·exact .inl (rest b o hb e)
    ·by_cases hb:b=P0
     ·subst hb;obtain⟨more,e2⟩:=tabNow;exact⟨_,e2⟩
     ·exact⟨o,rest b o hb e⟩
 cases hk:K.lookup a with
 |some o =>
  have e:=KX a o hk;rw[ha]at e;cases e;refine core (λb=>if b=P0 then some (.fk #[])else none) (λb=>?_) (Zo Zj) (.inr ⟨_,vs.toArray,_,hk,Zj,Zj,Zj,by rw[size_toArray,lenV];exact hl,by simpa using rv⟩) (λb u z=>?_) (λb z=>?_) λz=>absurd (Zp haP) z
  ·by_cases hb:b=P0
   ·exact .inr (.inr ⟨hb,Zo hb⟩)
   ·exact .inl (Zp hb)
  ·by_cases hb:b=P0
   ·have z':=(Zo hb).symm.trans z;cases z';subst hb;exact hP
   ·have z':=(Zp hb).symm.trans z;cases z'
  ·by_cases hb:b=P0
   ·exact .inr hb
   ·exact absurd (Zp hb) z
 |none =>
  refine core (λb=>if b=P0 then some (.fk #[])else if b=a then some (.ef { cls:=.type "list", data:=.seq vs.toArray } (.lst (ns.map V.int)))else none) (λb=>?_) (Zo Zj) (.inl (.inr ⟨{ cls:=.type "list", data:=.seq vs.toArray },(Zp haP).trans (Zo Zj)⟩)) (λb u z=>?_) (λb z=>?_) λ_=>hk
  ·by_cases hb:b=P0
   ·exact .inr (.inr ⟨hb,Zo hb⟩)
   ·by_cases fZ:b=a
    ·exact .inr (.inl ⟨_,_,(Zp hb).trans (Zo fZ)⟩)
    ·exact .inl ((Zp hb).trans (Zp fZ))
  ·by_cases hb:b=P0
   ·have z':=(Zo hb).symm.trans z;cases z';subst hb;exact hP
   ·by_cases fZ:b=a
    ·have z':=((Zp hb).trans (Zo fZ)).symm.trans z;cases z';subst fZ;exact⟨ha,by rw[AE];exact hl,vs,_,rv,ha⟩
    ·have z':=((Zp hb).trans (Zp fZ)).symm.trans z;cases z'
  ·by_cases hb:b=P0
   ·exact .inr hb
   ·by_cases fZ:b=a
    ·exact .inl fZ
    ·exact absurd ((Zp hb).trans (Zp fZ)) z
theorem RS {l:W.OpenLaw}{n k:Nat}{q:Program}{loose:Ww}{XP:(Str->Option Value)->Heap->Prop}{YP:World->Heap->Prop}{d:DefRec}{K:Params->FG}{CX:World->fJ}{sp:World->Sp}{c P0:W3}
  (hn:l.most=some n) (hn2:n<=sizeLine) (hdf:d.params.defaults=[]) (hr:aH k callerA)
  (hY:∀(w:World) (h:Heap),YP w h->(K w.params).In h/\h.get? P0=some (W.tabObj #[])/\(K w.params).lookup P0=none/\W.CodeHd h c P0)
  (F:∀(w:World) (mg:SV) (fa:W3) (h:Heap),(K w.params).In h->h.Ns mainGlobals mg->mg d.name=some (.ref fa) ->
   ∃fd:FuncData,(∀(s:W4) (u:Value),BindsTo s fd ⟨[u],[]⟩ [(x,u)]) /\
    ∀base:Heap,(K w.params).In base->base.Ns mainGlobals mg->W.CodeHd base c P0->base.BuiltinsAt mg P0->aD l.prog w (K w.params) mg base (CX w) k fa fd [x] (sp w))
  (fv:∀(w:World) (H:Hp) (a:W3) (ns:List Int),ns.length<=n->RQ P0 H->H P0=some (.fk #[])->aJ (K w.params) H a (ns.map V.int)->sp w [.ref a] H (λv _=>v=.bl true) λ_ _ _=>False)
  (hCX:∀(w:World) (H:Hp) (s:W4) (e:Value) (s':W4),CX w [] H s (λ_ _ _=>False) e s'->False) :
  W.WalkO q loose XP YP l.row.toRowW d [] (λf vs=>PySem.call f vs):=by
 refine Att.attach_call hn hdf λw aX aI mg mb fa o pm cd doc a vs ns G Y ho hd eo hmg de bq bh hg=>?_;obtain⟨KX,hP,hKP,hC⟩:=hY w _ Y;obtain⟨fd,hb,hF⟩:=F w mg fa _ KX G.T.g hmg
 have hB:aI.heap.BuiltinsAt mg P0:=by
  obtain⟨bm,ob,b1,b2,b3,b4,b5,b6⟩:=G.T.bmain;refine⟨bm,ob,b1,b2,λz=>?_,λz=>?_,b3,b4,b5,b6⟩
  ·obtain⟨o',es,ep,e,hd',_⟩:=G.T.g;rw[z,e]at b3;cases b3;rw[hd']at b6;cases b6
  ·rw[z,hP]at b3;cases b3;cases b4
 exact Pf KX G.T.g G.T.b G.T.builtins G.T.nolimit hg de bq (Nat.le_trans bh hn2) hr hP hKP hC hB hF hb (λH hO hH hS=>fv w H a ns bh hO hH hS) λH e s'=>hCX w H aI e s'
section
theorem aZ.okX {qual:Str}{st:Stmt}{fd:FuncData}{ps:Ww}{k:Nat}{sp:Sp} (F:aZ K x qual st f fd) (S:AK N ps (defScope st)) (len:∀vs H Q E,sp vs H Q E->vs.length=ps.length)
  (bn:∀(ae:Value) (A:Around) (outer:List Env) (s:W4) (H:Hp) (vs:Wy) (Q:VK) (E:XK),aH k (A.deeper (envOfC qual (defScope st) s.heap.objs.size f ae))->sp vs H Q E ->
   ∃t,dP (BF (eN P w) P w K mg base N qual (defScope st) f ae A outer s H E) (defBody st) t/\t { nx:=λ_ H'=>Q .aK H',rt:=Q } (Bo N vs) H):aD P w K mg base (eN P w) (k+1) f fd ps sp:=by
 obtain⟨oc,od,kV,doc,pm,an,ae,ct,eV,rfl,lk,eo⟩:=F.ex;exact Kz lk eo S len λA outer s H vs Q E hr fv=>bn ae A outer s H vs Q E hr fv
structure BdX (P:Program) (w:World) (K:FG) (mg:SV) (base:Heap) (f:W3) (qual:Str) (st:Stmt) (N ps:Ww) (k:Nat) (vs:Wy) (H:Hp) (Q:VK) (E:XK):Prop where
 len:vs.length=ps.length
 ok:∀(ae:Value) (A:Around) (outer:List Env) (s:W4),aH k (A.deeper (envOfC qual (defScope st) s.heap.objs.size f ae)) ->
  ∃t,dP (BF (eN P w) P w K mg base N qual (defScope st) f ae A outer s H E) (defBody st) t/\t { nx:=λ_ H'=>Q .aK H',rt:=Q } (Bo N vs) H
theorem aZ.n {qual:Str}{st:Stmt}{fd:FuncData}{ps:Ww}{k:Nat}{sp:Sp} (F:aZ K x qual st f fd) (S:AK N ps (defScope st)) (h:∀vs H Q E,sp vs H Q E->BdX P w K mg base f qual st N ps k vs H Q E) :
  aD P w K mg base (eN P w) (k+1) f fd ps sp:=F.okX S (λvs H Q E q=>(h vs H Q E q).len) λc A o s H vs Q E r q=>(h vs H Q E q).ok c A o s r
structure FunD (K:FG) (x qual:Str) (st:Stmt) (f:W3) (fd:FuncData):Prop where
 ex:∃(oc:Value) (od:Option W3) (dV kV doc pm:Value) (an:Option W3) (ae ct:Value) (eV:Array (Option Value)),
  fd=W.fnOf x qual (defArgs st) (defBody st) (defScope st) dV kV doc pm an ae ct/\K.lookup f=some ⟨oc,od,.func fd,eV⟩/\W.codeIn K ae qual=true
theorem FunD.ok {qual:Str}{st:Stmt}{fd:FuncData}{ps:Ww}{k:Nat}{sp:Sp} (F:FunD K x qual st f fd) (S:AK N ps (defScope st)) (len:∀vs H Q E,sp vs H Q E->vs.length=ps.length)
  (bn:∀(ae:Value) (A:Around) (outer:List Env) (s:W4) (H:Hp) (vs:Wy) (Q:VK) (E:XK),aH k (A.deeper (envOfC qual (defScope st) s.heap.objs.size f ae))->sp vs H Q E ->
   ∃t,dP (BF aP P w K mg base N qual (defScope st) f ae A outer s H E).fY (defBody st) t/\t { nx:=λ_ H'=>Q .aK H',rt:=Q } (Bo N vs) H):aD P w K mg base aP (k+1) f fd ps sp:=by
 obtain⟨oc,od,dV,kV,doc,pm,an,ae,ct,eV,rfl,lk,eo⟩:=F.ex;refine Kz lk eo S len λA outer s H vs Q E hr fv=>?_;obtain⟨t,h,q⟩:=bn ae A outer s H vs Q E hr fv;exact⟨t,h.fY,q⟩
end
end L2
end
section
namespace L2
open PySem PySem.Spec PyProof.Rows Builtin Builtin.ObjectAttr
noncomputable def E4 (C M:W3):Wx:=[.ref C,.ref M,.type "ValueError", .type "Exception", .type "BaseException", .type "object"]
section
variable {prog:Program}{x M:W3}{ox:Obj}{vs:Array Value}{name:Str}{v:Value}{cd:ClassData}
theorem Tc {R:Result->W4->Prop}{tk:Tok} (X:K.In s.heap) (hx:s.heap.get? x=some ox) (ai:ox.cls=.ref C) (gg:ox.dict=none) (hf:ox.data=.fields vs) (hc:W.clsIn K C=some cd) (cf:cd.mro=E4 C M) (bi:cd.hasDict=true) (hn:W.findIn K (.ref C) name=some none)
  (h:∀(h':Heap) (iu:Nat),h'.get? x=some { ox with dict:=some s.heap.objs.size }->h'.Ns1 s.heap.objs.size (λy=>if y=name then some v else none)->(∀b o,b≠x->s.heap.get? b=some o->h'.get? b=some o)->R (.ok (.ret .none)) { s with heap:=h',toks:=iu }) :
  codeAny (model prog w) A (.call (.builtin "object.__setattr__") ⟨[.ref x,.str name tk,v],[]⟩) R s:=by
 have SF:=PySem.F.store_object;have I:W.InstAt s.heap x ox C none:=⟨hx,ai,by unfold W.notCls;rw[hf],by rw[gg];trivial⟩;have ne:cd.mro.isEmpty=false:=by rw[cf];rfl
 have sub:W.Looks (model prog w) s.heap (isInstance (.ref x) (.type "object")) true:=I.type.andThen (W.looks_mroIn X (by unfold W.mroIn;rw[hc,Option.bind_some,Zp (by rw[ne];decide),cf];simp[E4]));refine codeAny_call_builtin SF.slot.plain SF.entry (@W.check_slot (model prog w) _ _ s "object.__setattr__" "object" "__setattr__" (.ref x) [.str name tk,v] [] _ SF.kind SF.split sub (SF.args (.ref x) (.str name tk) v) ?_);have hm:W.Looks (model prog w) s.heap (mroOf (.ref C)) cd.mro:=(W.looks_clsIn X hc).andThen .now;have L3:W.Looks (model prog w) s.heap (storeTaker? none) none:=.now;rw[W.osa_eq,refuse_eq];refine Zw (Zw (I.type.here (Zw (hm.here ?_))));rw[cf];unfold E4;rw[refuseLoop_ref,refuseLoop_ref,PySem.F.store_ValueError.passes];refine Zv (Zw (I.type.here (Zw ((W.looks_findIn X hn).here (Zw (L3.here ?_))))));obtain⟨oc,odi,oda,eV⟩:=ox
 dsimp only at ai gg hf
 subst ai gg hf;refine Zw (Zv (Zw (Zw (wpAny_loadPart hx (Zw ((W.looks_clsIn X hc).here ?_))))));rw[bi];have hx₁:(s.heap.push { cls:=.type "dict", data:=.dict #[] }).get? x=some _:=ZY _ hx;have hxs:x≠s.heap.objs.size:=ZE (lt_size hx);obtain⟨hp,g,d,t,os⟩:=s
 dsimp only at hx hx₁ hxs h ⊢
 rw[Zp qc,Zp (by simp[typeHasDict])];refine Zw (wpAny_alloc' ?_);refine Zw (wpAny_update' hx₁ ?_);refine Zv ?_
 have hgd:((hp.push { cls:=.type "dict", data:=.dict #[] }).update x λo=>{ cls:=o.cls,dict:=some hp.objs.size,data:=o.data,slots:=o.slots }).get? hp.objs.size=some { cls:=.type "dict", data:=.dict #[] } :=
  (Heap.get?_update_ne _ _ _ _ hxs.symm).trans (Heap.get?_push_at rfl rfl)
 have gp:((hp.push { cls:=.type "dict", data:=.dict #[] }).update x λo=>{ cls:=o.cls,dict:=some hp.objs.size,data:=o.data,slots:=o.slots }).Ns hp.objs.size (λ_=>none) :=
  ⟨_,#[],_,hgd,rfl,λe he=>absurd he (by simp),λ_=>rfl⟩
 show wpAny _ _ (storeInDict hp.objs.size (.str name tk) name v) _ _ _;unfold storeInDict newKeyGuard;refine Zw (Zv (Zw (wpAny_nsSet1 (Heap.Ns1.of_empty gp) λh' hn' hs=>?_)));obtain⟨oD,esD,epD,hoD,hdD,ig⟩:=hn'.count (Within.cons name v Within.nil);refine Zw (wpAny_lookBehind hoD (by rw[hdD];exact pastItsLine_dict (Nat.le_trans ig (by rw[length_cons,length_nil,sizeLine_eq];omega))) ?_)
 wp_walk
 have hx':h'.get? x=some { cls:=.ref C,dict:=some hp.objs.size,data:=.fields vs,slots:=eV }:=(hs.2 x hxs).trans (ZV _ hx₁ rfl);exact h h' _ hx' hn' λb ob hbx hb=>(hs.2 b (ZE (lt_size hb))).trans ((Heap.get?_update_ne _ _ _ _ hbx).trans (ZY _ hb))
theorem Td {Q:Unit->W4->Prop} (X:K.In s.heap) (hx:s.heap.get? x=some ox) (ai:ox.cls=.ref C) (gg:ox.dict=none) (hf:ox.data=.fields vs) (hc:W.clsIn K C=some cd) (cf:cd.mro=E4 C M) (bi:cd.hasDict=true) (hn:W.findIn K (.ref C) name=some none)
  (hs:W.findIn K (.ref C) "__setattr__" = some (some (.builtin "object.__setattr__")))
  (h:∀(h':Heap) (iu:Nat),h'.get? x=some { ox with dict:=some s.heap.objs.size }->h'.Ns1 s.heap.objs.size (λy=>if y=name then some v else none)->(∀b o,b≠x->s.heap.get? b=some o->h'.get? b=some o)->Q () { s with heap:=h',toks:=iu }) :
  wpAny (model prog w) A (setAttr (.ref x) name v) Q E s:=by
 have I:W.InstAt s.heap x ox C none:=⟨hx,ai,by unfold W.notCls;rw[hf],by rw[gg];trivial⟩;exact W.set_plain X I hs (Tc (s:={ s with toks:=s.toks+1 }) X hx ai gg hf hc cf bi hn λh' iu a b c=>h h' iu a b c)
end
end L2
end
section
namespace L2
open PySem PySem.Spec PyProof.Rows
structure LX (K:FG) (C M:W3) (f:Str):Prop where
 cls:∃cd,W.clsIn K C=some cd/\cd.mro=E4 C M/\cd.hasDict=true
 nf:W.findIn K (.ref C) f=some none
 sa:W.findIn K (.ref C) "__setattr__" = some (some (.builtin "object.__setattr__"))
section
variable {o value:Expr}{ta tv:TE}{f:Str}{pos':Pos}{M:W3}
def WC (K:FG) (M:W3) (ta tv:TE) (f:Str):TS:=λD σ H=>tv σ H λy H1=>ta σ H1 λx H2=>∃e C,x=.ref e/\H2 e=some (El e C none)/\LX K C M f /\
 ∀d,H2 d=none->d≠e->D.nx σ (upd (upd H2 e (El e C (some d))) d (.xd [(f,y)]))
theorem OS (ha:PE X o ta) (hv:PE X value tv) (hs:swapsWith value (some (.Attribute o f pos')) pos.line X.env=pure false):PS X (.Assign [.Attribute o f pos'] value pos) (WC X.K M ta tv f):=by
 intro aa s σ H D I h;refine plainObj_wpAny_Assign_Attribute (aL (hv aa s σ H _ I h) λu s1 ⟨y,H1,I1,ry,q⟩=>aL (ha aa s1 σ H1 _ I1 q) λov s2 ⟨x,H2,I2,rx,e,C,ex,ea,S,q2⟩=>?_) hs;subst ex;obtain rfl:ov=Value.ref e:=rx;obtain⟨⟨oe,vs,a1,a2,a3,a4,a5,a6,a7⟩,_,_⟩:=I2.aE _ _ ea;obtain⟨cd,hc,hm,hd⟩:=S.cls;refine Td I2.cC a1 a2 a3 a4 hc hm hd S.nf S.sa λh' iu hx hn hk=>?_;have iC:s2.heap.objs.size≠e:=Nat.ne_of_gt (lt_size a1);have gg:H2 s2.heap.objs.size=none:=I2.aE.fresh (Zx _);generalize hH':upd (upd H2 e (El e C (some s2.heap.objs.size))) s2.heap.objs.size (.xd [(f,y)])=H';have lt:∀b u,H2 b=some u->b<s2.heap.objs.size:=λb u z=>I2.aE.lt z;have fV:∀b,b<s2.heap.objs.size->b≠e->H' b=H2 b:=λb hb n=>by rw[←hH',AH (ZE hb),AH n]
 have ate:H' e=some (El e C (some s2.heap.objs.size)):=by rw[←hH',AH (Ne.symm iC),AB]
 have atd:H' s2.heap.objs.size=some (.xd [(f,y)]):=by rw[←hH',AB]
 have next:∀b u,H2 b=some u->(∀φ,u≠ .ext φ)->b≠e:=λb u z n w=>by subst w;rw[ea]at z;cases z;exact n _ rfl
 have nn:∀b,H2 b=none->b≠e:=λb z w=>by subst w;rw[ea]at z;cases z
 have un:Un X.fs [] H2 H' s2.heap h':=by
  refine⟨λb ob z n _ _=>hk b ob (nn b n) z,λb ob z n _ _=>⟨ob.slots,hk b ob (nn b n) z⟩,λb ob z n _=>by rw[fV b (lt_size z) (nn b n)];exact n,λb ob z _=>?_,λb xs z=>?_,λb ob w z=>?_,λb ps z=>⟨#[],?_⟩⟩
  ·by_cases w:b=e
   ·subst w;exact⟨_,hx⟩
   ·exact⟨ob,hk b ob w z⟩
  ·rw[fV b (lt _ _ z) (next b _ z λ_ w=>nomatch w)];exact z
  ·rw[fV b (lt _ _ z) (next b _ z λ_ w=>nomatch w)];exact z
  ·rw[fV b (lt _ _ z) (next b _ z λ_ w=>nomatch w),z];simp
 have aE:cV X.prog X.w H' h':=λb w z=>by
  by_cases hb:b=s2.heap.objs.size
  ·subst hb;rw[atd]at z;cases z;refine⟨_,hn,λg=>?_⟩;by_cases hg:g=f
   ·subst hg;simp only[Zo rfl,Zy,beq_self_eq_true];exact ry
   ·have e1:(g==f)=false:=beq_eq_false_iff_ne.mpr hg;simp only[Zp hg,Zy,e1,List.lookup_nil];trivial
  by_cases fZ:b=e
  ·subst fZ;rw[ate]at z;cases z;exact⟨⟨_,vs,hx,a2,Zj,a4,a5,a6,a7⟩,⟨_,hx⟩,λh1 h2 ⟨oe,vs,a,r⟩ k=>⟨oe,vs,k _ a,r⟩⟩
  ·have z':H2 b=some w:=by rw[←hH',AH hb,AH fZ]at z;exact z
   refine(I2.aE b w z').eG (λb2 ob gZ q=>hk b2 ob ?_ q) (λb2 q=>?_) λb2 xs q=>?_
   ·rcases gZ with w2 |w2
    ·rw[w2];exact fZ
    ·exact next b2 _ w2 λ_ y=>nomatch y
   ·rw[fV b2 (lt _ _ q) (next b2 _ q λ_ y=>nomatch y)];exact q
   ·rw[fV b2 (lt _ _ q) (next b2 _ q λ_ y=>nomatch y)];exact q
 have I3:=I2.un (t':=iu) un aE;have q3:=q2 s2.heap.objs.size gg iC;rw[hH']at q3;exact⟨σ,H',I3,q3⟩
end
section
variable {CX:fJ}{k:Nat}{fd:FuncData}{ps:Ww}{sp:Sp}{du:Wy}{ds:Wx}{E:XK}{name:Str}{np apos:Pos}{es:List Expr}{t:TA}{mc:Value}
theorem ID {pl:Sem Bool} (hg:Gl X x) (hm:X.mg x=some (.ref C)) (ga:W.specialIn X.K (.ref C) "__getattribute__" = some (some (.builtin "type.__getattribute__"))) (hr0:W.readsIn X.K C mc=true) (hf:W.findCls X.K (.ref C) mc name=some (.val (.ref f)))
  (F:aD X.prog X.w X.K X.mg X.base CX k f fd ps sp) (hr:aH k X.A) (hk:W.keepIn X.K (.ref f)=true) (hb:Binds X.K fd ps ds) (hd:Vals du ds) (hx:Be CX X E) (ha:PA X (e::es) t) (dG:(x==("__debug__" : Str))=false:=by decide)
  (he:starEach (e::es) X.env=(false,eval e X.env)::starEach es X.env:=by rfl) (dA:(backTo pos (starEach es X.env)).any (·.1)=false:=by rfl)
  (ht:eval (.Call (.Attribute (.Name x np) name apos) (e::es) [] pos) X.env=(do
   let ov ←eval (.Name x np) X.env
   standAt apos.atName
   let (f,first) ←holding [ov] (getMethod ov name pl)
   callWith pos f first (backTo pos (starEach (e::es) X.env)) (backToKw pos (keywordEach [] X.env))):=by rfl) :
  PE X (.Call (.Attribute (.Name x np) name apos) (e::es) [] pos) (Gx sp du E t):=by
 intro aa s σ H Q I h;refine W.methodCall_KW (pl:=pl) ?_ ht;refine Br I hg hm ?_ dG;refine W.method_cls I.cC ga (W.cls_value I.cC hr0 hf Zj ?_);refine W.callWith_K (h₀:=X.base) I.ok.mod.kin hk (aL (ha pos aa _ σ H _ (I.tok _) h) λus s1 ⟨vs,H1,I1,r,q⟩=>⟨I1.cC,?_⟩) he dA;exact Ju F hr hb hd hx I1 r q
end
section
variable {c:Str}{cp fp:Pos}{ck:Nat}
def WD (c:Str) (te:TE):TE:=λσ H Q=>te σ H λx H1=>((∃i,x=.int i/\i.natAbs.log2<1920)\/(∃z,x=.str z/\z.length<=1000)\/x=.aK)/\∀z,Q (.str z) H1
theorem Ef (a b:Str):(a++b).length=a.length+b.length:=strLen_append a b
theorem OT (hc:c.length<=1000) (he:PE X e te):PE X (.JoinedStr [.Constant (.str c) ck cp,.FormattedValue e (-1) none fp] pos) (WD c te):=by
 intro aa s σ H Q I h;refine JoinedStr_many (joinParts_cons (Calls.Constant_str ?_));have l0:(Str.empty++c).length<=1000:=by rw[Ef];show 0+c.length<=1000;omega
 have sz:(3000:Nat)<=sizeLine:=by decide
 refine⟨Nat.le_trans l0 (Nat.le_trans qc sz),joinParts_cons ?_⟩;refine wpAny_FormattedValue_plain (aL (he aa _ σ H _ (I.tok _) h) λu s1 ⟨x,H1,I1,r,q,k⟩=>?_);rcases q with⟨i,rfl,hi⟩ |⟨z,rfl,hz⟩ |rfl
 ·obtain⟨t,rfl⟩:=r;refine PySem.wpAny_formatField_int hi ?_;have l1:(Str.ofString (toString i)).length<=1921:=by rw[PySem.ofString_length];exact int_text_length_le (k:=1920) qc hi
  have l2:((Str.empty++c)++Str.ofString (toString i)).length<=sizeLine:=by
   rw[Ef];omega
  exact⟨l2,joinParts_nil ⟨.str _,H1,(I1.tok _).tok _,⟨_,Zj⟩,k _⟩ l2⟩
 ·obtain⟨t,rfl⟩:=r
  have l2:((Str.empty++c)++z).length<=sizeLine:=by
   rw[Ef];omega
  have hz2:z.length<=sizeLine:=by omega
  exact PySem.wpAny_formatField_str ⟨l2,joinParts_nil ⟨.str _,H1,I1.tok _,⟨_,Zj⟩,k _⟩ l2⟩ ⟨l2,joinParts_nil ⟨.str _,H1,(I1.tok _).tok _,⟨_,Zj⟩,k _⟩ l2⟩ hz2
 ·obtain rfl:u=Value.none:=r
  have l2:((Str.empty++c)++("None" : Str)).length<=sizeLine:=by
   have:("None" : Str).length=4:=by decide +kernel
   rw[Ef];omega
  exact PySem.wpAny_formatField_none ⟨l2,joinParts_nil ⟨.str _,H1,(I1.tok _).tok _,⟨_,Zj⟩,k _⟩ l2⟩
end
structure WE (K:FG) (C:W3) (f:Str):Prop where
 hg:E3 K C
 hh:W.hasDictIn K C=true
 ha:W.findIn K (.ref C) f=some none
section
variable {e:W3}{oe:Obj}{o:Expr}{f:Str}{ta:TE}
def RT (e:W3) (oe:Obj) (f:Str) (ta:TE):TE:=λσ H Q=>ta σ H λx H1=>∃d fs v,x=.ref e/\oe.dict=some d/\H1 d=some (.xd fs)/\fs.lookup f=some v/\Q v H1
theorem Te (p:ExcP X e oe C) (g:WE X.K C f) (he:PE X o ta) (hb:attributeBase o f X.env (eval o X.env)=eval o X.env):PE X (.Attribute o f pos) (RT e oe f ta):=by
 intro aa s σ H Q I h;refine N8 hb (aL (he aa s σ H _ I h) λu s1 ⟨x,H1,I1,rx,d,fs,v,ex,hd,hH,l,q⟩=>?_);subst ex;obtain rfl:u=Value.ref e:=rx;obtain⟨mA,hn,r⟩:=I1.aE _ _ hH;obtain⟨od,ho,hl⟩:=JG hn;obtain⟨w,hw,gB⟩:=cW.some_of (v:=v) (o:=mA f) (by rw[←l];exact r f);have hp:=(I1.pin (e,oe) (ZQ _ p.at_)).1;obtain⟨vs,hv⟩:=p.fld;have J:W.InstAt s1.heap e oe C (some od):=⟨hp,p.cls,by unfold W.notCls;rw[hv],by rw[hd];exact ho⟩;exact RK g.hg I1.cC J (W.findObj_own g.hh g.ha Zj (by rw[hl,hw])) (JH gB) ⟨v,H1,I1.tok _,gB,q⟩
end
section
variable {CX:fJ}{k:Nat}{fd:FuncData}{ps:Ww}{sp1 sp2:Sp}
theorem aD.or (F:aD P w K mg base CX k f fd ps sp1) (G:aD P w K mg base CX k f fd ps sp2):aD P w K mg base CX k f fd ps (λvs H Q E=>sp1 vs H Q E\/sp2 vs H Q E):=by
 refine⟨λvs H Q E h=>?_,λA outer s H args us vs Q E hr he hb hv h=>?_⟩
 ·rcases h with h |h
  ·exact F.len _ _ _ _ h
  ·exact G.len _ _ _ _ h
 ·rcases h with h |h
  ·exact F.run A outer s H args us vs Q E hr he hb hv h
  ·exact G.run A outer s H args us vs Q E hr he hb hv h
theorem aD.up (F:aD P w K mg base aP k f fd ps sp1):aD P w K mg base CX k f fd ps sp1:=by
 refine⟨F.len,λA outer s H args us vs Q E hr he hb hv h=>codeAny_mono (F.run A outer s H args us vs Q E hr he hb hv h) λr s' q=>?_⟩;cases r with
 |error e=>exact False.elim q
 |ok fl =>
  cases fl with
  |ret u=>exact q
  |next=>exact False.elim q
  |brk=>exact False.elim q
  |cont=>exact False.elim q
end
structure fh (X:Cx) (e:Expr) (t:TE):Prop where
 h:PE X e t
structure PAw (X:Cx) (es:List Expr) (t:TA):Prop where
 h:PA X es t
section
variable {es:List Expr}{t:TA}
theorem DS:PAw X [] CA:=⟨AD⟩
end
structure PSw (X:Cx) (st:Stmt) (t:TS):Prop where
 h:PS X st t
structure fg (X:Cx) (st:List Stmt) (t:TS):Prop where
 h:dP X st t
structure PIw (X:Cx) (tg e:Expr) (t:TI):Prop where
 h:PI X tg e t
section
variable {st:Stmt}{rest:List Stmt}{t u:TS}{tg l iter:Expr}{tl:TE}
theorem EO:fg X [] UP:=⟨Ab⟩
theorem NO (a:PSw X st t) (b:fg X rest u):fg X (st::rest) (Vq t u):=⟨AG a.h b.h⟩
theorem DH (a:PSw X st t):fg X [st] t:=⟨AF a.h⟩
theorem NP (h:fh X l tl):PIw X tg l (Qa X.K tl):=⟨A5 h.h⟩
theorem RU {body:List Stmt}{wi:TI}{g:TG}{tb:TS} (hp:PassesOwn (model X.prog X.w) X.A X.env X.xe) (hc:X.calm=true) (hi:PIw X tg iter wi) (hg:PG X tg g) (hb:fg X body tb)
  (hs:∀x,foldedSetIterable iter X.env x=pure x:=by intro _;rfl):PSw X (.For tg iter body [] pos) (Vv wi g tb):=⟨Cp hp hc hi.h hg hb.h hs⟩
end
section
variable {CX:fJ}{E:XK}
variable {k:Nat}{fd:FuncData}{ps ks:Ww}{sp:Sp}{p:Pos}{es:List Expr}{gc:List Keyword}{t tk:TA}{g:Wx->Wx->Wx}{gV:Wy->Wy->Wy}
theorem Pg (M:Mk X.K C f) (F:aD X.prog X.w X.K X.mg X.base CX k f fd ps sp) (hr:aH (k+1) X.A) (hg:Gl X x) (hm:X.mg x=some (.ref C)) (hb:Jv X.K fd ps ks g gV) (hx:Be CX X E)
  (ha:PA X (e::es) t) (hkw:PK X gc tk) (bx:(backToKw pos (keywordEach gc X.env)).all (·.1.isSome)=true:=by rfl) (hks:(backToKw pos (keywordEach gc X.env)).filterMap (·.1)=ks:=by rfl)
  (dG:(x==("__debug__" : Str))=false:=by decide) (he:starEach (e::es) X.env=(false,eval e X.env)::starEach es X.env:=by rfl)
  (dA:((backTo pos (starEach (e::es) X.env)).any (·.1)||(backToKw pos (keywordEach gc X.env)).any (·.1.isNone))=false:=by rfl) :
  PE X (.Call (.Name x p) (e::es) gc pos) (Q5 C sp gV E t tk):=by
 intro aa s σ H Q I h;refine Z3 (Br I hg hm ?_ dG);refine W.callWith_KW (h₀:=X.base) I.ok.mod.kin M.kp bx (aL (ha pos aa s σ H _ I h) λus s1 ⟨vs,H1,I1,r,q⟩=>?_) dA he;refine aL (hkw pos aa s1 σ H1 _ I1 q) λws s2 ⟨zs,H2,I2,rz,q2⟩=>⟨I2.cC,?_⟩;rw[hks];have hq:=q2 (s2.heap.objs.size+1) s2.heap.objs.size (I2.aE.fresh (Nat.le_succ _)) (I2.aE.fresh (Zx _)) (ZE (Nat.lt_succ_self _));have I3:=Inv.made (C:=C) I2;have r2:Vals (gV (V.ref (s2.heap.objs.size+1)::vs) zs) (g (Value.ref (s2.heap.objs.size+1)::us) ws):=hb.rel (.cons rfl r) rz;have hl:(g (Value.ref (s2.heap.objs.size+1)::us) ws).length=ps.length:=by rw[←r2.length];exact F.len _ _ _ _ hq
 refine wpAny_call (HU (f:=f) I2.cC M.makes M.init (beq_iff_eq.mp M.fn) (codeAny_mono (F.run _ X.stack _ _ ⟨Value.ref (s2.heap.objs.size+1)::us,ks.zip ws⟩ _ _ _ E (hr.make C us (ks.zip ws)) (I3.fG.make C us (ks.zip ws)) (hb.to _ _ _ I3.cC hl) r2 hq) λr' s' dZ=>?_));cases r' with
 |error e=>exact hx aa σ _ _ e s' I3 dZ
 |ok fl =>
  cases fl with
  |ret u =>
   obtain⟨v,H',I4,rv,ev,q3⟩:=I3.after dZ;subst ev;exact⟨rv,⟨V.ref (s2.heap.objs.size+1),H',I4,Zj,q3⟩⟩
  |next=>exact False.elim dZ
  |brk=>exact False.elim dZ
  |cont=>exact False.elim dZ
end
end L2
end
section
namespace PySem
open Sem (wp)
theorem IE {prog:Program}{xs:Array Value}{o:Obj}{k:Nat}{Q:Option Value->W4->Prop}
  (hx:s.heap.get? a=some o) (hc:o.cls=.type "list") (cg:o.data=.seq xs k) (hd:o.dict=none) (hA:A.handled=none)
  (h:∀h' tk,(∀b ob,s.heap.get? b=some ob->h'.get? b=some ob)->Q none { s with heap:=h',toks:=tk }) :
  wpAny (model prog w) A (getAttr? (.ref a) "keys") Q E s:=by
 obtain⟨c,dct,dat,sl⟩:=o;simp only at hc cg hd;subst hc cg hd;obtain⟨hp,g,d,tk,os⟩:=s;have hT:∀iu,(⟨hp,g,d,iu,os⟩:W4).TypeIs (.ref a) "list" := λ_=>⟨_,hx,rfl⟩;have f1:=sub_AttributeError;have f3:=F.slot_list_getattribute.lookup;have f4:=F.slot_list_getattribute.bind (.ref a);have f5:=am_list_getattr_none;have hmiss:typeLookup (.type "list") "keys" = pure none:=by rw[typeLookup_type,builtinLookup_eq_fast];kernel_rfl
 unfold getAttr? getAttrBy? getAttrBy
 repeat (any_goals (first |assumption |exact hT _ | ((with_reducible show wpAny _ _ (call (Value.builtin "list.__getattribute__") _ _) _ _ _);refine call_meets F.slot_list_getattribute (hT _) am_entry_list_getattribute (F.args_list_getattribute_2 _ _) (meets_getattribute_miss_list a xs k sl "keys" _ hmiss qb) ⟨hx,hA,λh' iu e hx'=>?_⟩) |wp_step))
 obtain⟨t',u',he⟩:=hx'.there;show wpAny _ _ (getattributeRaised _ _ _ _ _ _ _) _ _ _;unfold getattributeRaised
 repeat (any_goals (first |assumption |wp_step))
 exact h _ _ hx'.keeps
end PySem
end
section
namespace L2
open PySem PySem.Spec PyProof.Rows
theorem B5:entryFor table "dict.update.loop" = some Builtin.«dict.update.loop»:=entryFor_of_tree qd
theorem A7:plainId "dict.update.loop" = true:=by decide +kernel
noncomputable def GV (kvs ps:LK):LK:=ps.foldl (λd p=>CO d p.1 p.2) kvs
section
variable {R:Result->W4->Prop}{it p:W3}{bs:List W3}{ps:LK}
theorem Ph (hA:A.in1.handled=none) (hpa:p≠a) (dh:p≠it) (hq:aJ X.K H a (bs.map V.ref)) (hl:bs.length=ps.length) (hb:∀(i:Nat) b q,bs[i]?=some b->ps[i]?=some q->b≠p/\bA X.K H b [kV q.1,q.2]) (hz:ps.length<=1000)
  (hqs:∀kvs,aJ X.K (upd H p (.dK kvs)) a (bs.map V.ref)) (hts:∀kvs b xs,b≠p->bA X.K H b xs->bA X.K (upd H p (.dK kvs)) b xs) (f0:∀kvs,(upd H p (.dK kvs)) it=none) (f1:it≠X.env.locals) (f3:it∈X.ex\/X.aX.heap.objs.size<=it) (f4:∀(x:Str) (c:W3),X.env.cells.lookup x=some c->c≠it) (f5:∀q:W3×Obj,q∈X.pn++aa->q.1≠it) :
  ∀(k i:Nat) (s:W4) (kvs:LK),ps.length - i=k->i<=ps.length->kvs.length<=i->Inv X aa σ (upd H p (.dK kvs)) s->s.heap.IsListIter it a i->(∀s',Inv X aa σ (upd H p (.dK (GV kvs (ps.drop i)))) s'->R (.ok (.ret .none)) s') ->
   codeAny (model X.prog X.w) A (.builtin "dict.update.loop" ⟨[.ref p,.ref it,rawInt (i:Int),.none],[]⟩) R s:=by
 intro k;induction k with
 |zero =>
  intro i s kvs hk hi hkl I st hR;have fA:i=ps.length:=by omega
  obtain⟨its,rv,pl,_⟩:=I.list (hqs kvs);have bh:=rv.length;refine codeAny_builtin B5 ?_;rw[Around.under_plainId A7 _];show wpAny _ A.in1 (pyNext (.ref it) >>= _) _ _ s;refine Zw (wpAny_pyNext_list_end hA st pl.isList (by rw[AE]at bh;simp;omega) λh' eb=>?_);show wpAny _ A.in1 (Builtin.Dict.addKeywords p [] >>= _) _ _ _;refine Zw (Zv (Zv (hR _ ?_)));have e:GV kvs (ps.drop i)=kvs:=by rw[fA,List.drop_length];rfl
  rw[e];exact I.turned (t':=s.toks) (λb o hb e=>eb b o hb e) (f0 kvs) f1 f3 f4 f5
 |succ k ih =>
  intro i s kvs hk hi hkl I st hR;have hlt:i<ps.length:=by omega
  obtain⟨its,rv,pl,_⟩:=I.list (hqs kvs);have hbi:bs[i]?=some (bs[i]'qe):=Z7 qe;have hpi:ps[i]?=some ps[i]:=Z7 hlt;obtain⟨hbp,hT⟩:=hb i _ _ hbi hpi;obtain⟨u,hu,ru⟩:=rv.get (i:=i) (x:=V.ref (bs[i]'qe)) (by rw[ZG,hbi];rfl);cases (show u=Value.ref _ from ru);refine codeAny_builtin B5 ?_;rw[Around.under_plainId A7 _];show wpAny _ A.in1 (pyNext (.ref it) >>= _) _ _ s;refine Zw (wpAny_pyNext_list_item st pl.isList (x:=Value.ref (bs[i]'qe)) (by simpa using hu) λh' eQ sb=>?_);have I1:Inv X aa σ (upd H p (.dK kvs)) { s with heap:=h' }:=I.turned (t':=s.toks) (λb o hb e=>(sb.2 b hb).trans e) (f0 kvs) f1 f3 f4 f5;obtain⟨its2,rv2,⟨ot,et,ct,nt,dt⟩,_⟩:=I1.tuple (hts kvs _ _ hbp hT);obtain⟨uk,uv,e2,rk,rvv⟩:=HS rv2;subst e2;show wpAny _ A.in1 (holding [Value.ref (bs[i]'qe)] _ >>= _) _ _ _;refine Zw (ZL ?_);have hp:(upd H p (.dK kvs)) p=some (.dK kvs):=AB;obtain⟨z,hd,vs,rel,dd⟩:=OG I1.aE hp;have hvs:vs.length<=sizeLine:=by rw[←rel.length];exact z
  have hTy:Shared.TypeIs { s with heap:=h' } (.ref (bs[i]'qe)) "tuple" := ⟨_,et,ct⟩;refine Zw (wpAny_tryCatch ?_);unfold Builtin.Dict.pairItems;refine Zw (wpAny_typeOf hTy ?_);rw[Zo qc];obtain⟨oc,odd,oda,eV⟩:=ot;simp only at ct dt;subst ct dt;refine Zw (m:=seqItems? _) ?_;unfold seqItems?;refine Zw (wpAny_load et (Zv ?_));refine Zv ?_;show wpAny _ _ (holding [uk,uv] (dictSet p uk uv)) _ _ _;refine ZL (wpAny_dictSet_pairs (hsz:=hvs) (En rk) dd λh2 dd2 sb2=>?_);refine Zv ⟨plainId_quiet A7 _,?_⟩;have hln:(CO kvs ps[i].1 ps[i].2).length<=i+1:=by have:=CP kvs ps[i].1 ps[i].2;omega
  have I2:=Ee (t':=s.toks+1) I1 (by rw[hp];exact True.intro) sb2 (let ⟨q,_,_,dZ,_⟩:=dd2;⟨q,dZ⟩) (J1 (P:=X.prog) (w:=X.w) (H':=upd (upd H p (.dK kvs)) p (.dK (CO kvs ps[i].1 ps[i].2))) (Nat.le_of_lt (Ac qe)) hd (rel.put ps[i].1 rvv) dd2);rw[N0]at I2;have e3:ps.drop i=ps[i]::ps.drop (i+1):=List.drop_eq_getElem_cons hlt;have:=ih (i+1) _ (CO kvs ps[i].1 ps[i].2) qe qe hln I2 (eQ.extBut sb2.extBut (Ne.symm dh)) (λs' I'=>hR s' (by rw[e3];exact I'));exact this
theorem NQ (hc:X.calm=true):BZ X (.type "dict") (λxs H Q=>∃(a:W3) (bs:List W3) (ps:LK),xs=[.ref a]/\aJ X.K H a (bs.map V.ref)/\bs.length=ps.length/\ps.length<=1000/\(∀(i:Nat) b q,bs[i]?=some b->ps[i]?=some q->bA X.K H b [kV q.1,q.2]) /\
  ∀p,H p=none->Q (.ref p) (upd H p (.dK (GV [] ps)))):=by
 intro aa s σ H xs us Q I r h;obtain⟨a,bs,ps,rfl,hq,hl,hz,hb,q⟩:=h;obtain⟨u,rfl,ru⟩:=Bu r;cases (show u=Value.ref a from ru);have hp0:H s.heap.objs.size=none:=I.aE.fresh (Zx _)
 have sH:∀o,aA H (upd H s.heap.objs.size o):=λo b v e=>by
  rw[AH (AJ e hp0)];exact e
 refine callType_codes (Q₁:=λobj aI=>obj=.ref s.heap.objs.size/\aI={ s with heap:=s.heap.push { cls:=.type "dict", data:=.dict #[] } }) PySem.F.kt_called_dict (PySem.F.kt_typeCall_dict_1 _) PySem.F.entry_dict_init (kt_code_dict_new _ ⟨Zj,Zj⟩) ?_;rintro obj aI ⟨rfl,rfl⟩;have I1:Inv X aa σ (upd H s.heap.objs.size (.dK [])) { s with heap:=s.heap.push { cls:=.type "dict", data:=.dict #[] } }:=I.laid (a:=s.heap.objs.size) (o:=.dK []) (t':=s.toks) (λ_ _ q=>ZY _ q) (Zx _) (Hn s.heap I.big);obtain⟨its,rv,pl,_⟩:=I1.list ((sH (.dK [])).seq hq);have hTd:Shared.TypeIs { s with heap:=s.heap.push { cls:=.type "dict", data:=.dict #[] } } (.ref s.heap.objs.size) "dict" := ⟨_,ZO _ rfl,rfl⟩;refine⟨hTd,PySem.F.args_dict_init_2 _ _,?_⟩;unfold Builtin.«dict.__init__»;refine Zw ?_;unfold Builtin.Dict.selfAndRest;refine Zw (wpAny_notOrdered_dict hTd ?_);show wpAny _ _ (pure (s.heap.objs.size,[Value.ref a])) _ _ _;refine Zv ?_;show wpAny _ _ (Builtin.Dict.updateFrom "dict.__init__" s.heap.objs.size (.ref a) [] .none) _ _ _;unfold Builtin.Dict.updateFrom;refine Zw (wpAny_typeOf pl.isList.typeIs ?_);rw[Zo qc];have hA:X.A.handled=none:=I.ok.hd hc;have hA2:X.A.in1.in1.handled=none:=hA;obtain⟨ol,nl,hol,ai,hdl,cg⟩:=id pl;obtain⟨its0,_,⟨o0,_,e0,_⟩,_⟩:=I.list hq;have a0:a<s.heap.objs.size:=lt_size e0;refine Zw (IE hol ai cg hdl hA2 λh' tk keep=>?_);have I2:Inv X aa σ (upd H s.heap.objs.size (.dK [])) { s with heap:=h',toks:=tk }:=I1.kept keep;show wpAny _ _ (if (Option.isNone (none:Option Value))=true then _ else _) _ _ _;rw[Zo (show Option.isNone (none:Option Value)=true from rfl)];refine Zw (wpAny_rule ?_);refine Zw (wpAny_pyIter_list (pl.isList.at λo e=>keep _ o e) ?_)
 have hsz:s.heap.objs.size<h'.objs.size:=by
  have:=keep _ _ (ZO s.heap (o:={ cls:=.type "dict", data:=.dict #[] }) rfl);exact lt_size this
 have I3:Inv X aa σ (upd H s.heap.objs.size (.dK [])) { s with heap:=h'.push { cls:=.type "list_iterator", data:=.fields #[.ref a,.int 0 0] },toks:=tk }:=I2.kept (t':=tk) λb o e=>ZY _ e;have bc:s.heap.objs.size≠h'.objs.size:=ZE hsz;have iR:(upd H s.heap.objs.size (.dK [])) h'.objs.size=none:=I2.aE.fresh (Zx _);obtain⟨_,f1,_,f3,f4,f5⟩:=I2.eJ (Zx h'.objs.size) iR;have hnb:∀(i:Nat) b q,bs[i]?=some b->ps[i]?=some q->b≠s.heap.objs.size/\bA X.K H b [kV q.1,q.2]:=λi b q e1 e2=>⟨λz=>?_,hb i b q e1 e2⟩
 ·refine Zv ⟨plainId_quiet A7 _,?_⟩;refine Ph (X:=X) (aa:=aa) (σ:=σ) (H:=H) (a:=a) (it:=h'.objs.size) (p:=s.heap.objs.size) (bs:=bs) (ps:=ps) (A:=X.A.in1) hA2 (λz=>?_) bc hq hl hnb hz (λkvs=>(sH _).seq hq) (λkvs b xs _ hT=>?_) (λkvs=>?_) f1 f3 f4 f5 (ps.length - 0) 0 _ [] qe (Nat.zero_le _) (Zx _) I3 ⟨_,ZO _ Zj,Zj,Zj⟩ (λs' I'=>⟨Zj,.ref s.heap.objs.size,_,I',Zj,q _ hp0⟩)
  ·exact absurd a0 (by rw[←z];exact ZH _)
  ·rcases hT with (h |⟨o,h⟩) |h
   ·exact .inl (.inl (sH _ _ _ h))
   ·exact .inl (.inr ⟨o,sH _ _ _ h⟩)
   ·exact .inr h
  ·rw[AH (Ne.symm bc)];rw[AH (Ne.symm bc)]at iR;exact iR
 ·obtain⟨its2,_,⟨o2,e2',_⟩,_⟩:=I.tuple (hb i b q e1 e2);exact absurd (lt_size e2') (by rw[z];exact ZH _)
end
theorem Tf {prog:Program}{Q:VS}{x y:Int}{t u:Tok} (h:Q (.bool (decide (x<y))) s):wpAny (model prog w) A (richCompare .Lt (.int x t) (.int y u)) Q E s :=
 CmpOf.ints_lt (prog:=prog) (w:=w) (A:=A) (P:=λi v=>∃t,v=.int ([x,y].getD i 0) t) (λi=>[x,y].getD i 0) (λi v h=>h) 0 1 _ _ _ _ _ ⟨t,rfl⟩ ⟨u,rfl⟩ h
noncomputable def DT (b x:Int):Int:=if x<b then x else b
theorem Pi {p I S:W3}{ps:List Int}{R:Result->W4->Prop} (hc:X.calm=true) (hq:aJ X.K H p (ps.map V.int)) (fI:EB X aa H I) (fS:EB X aa H S) (il:S≠I)
  (hR:∀s' t,Inv X aa σ H s'->R (.ok (.ret (.int (ps.foldl DT (ps.headD 0)) t))) s') :
  ∀(k j:Nat) (s:W4) (t:Tok) (m:Int) (c:Nat),ps.length - j=k->1<=j->j<=ps.length->Inv X aa σ H s->s.heap.IsListIter I p j->s.heap.get? S=some { cls:=.type "list", data:=.seq #[.int m t,.int m t] c }->m=(ps.take j).foldl DT (ps.headD 0) ->
   codeAny (model X.prog X.w) X.A (.builtin "min.loop" ⟨[.ref I,.none,.ref S],[]⟩) R s:=by
 have bv:(toString "min" ++ toString ".loop" : String) = "min.loop" := by decide
 intro k;induction k with
 |zero =>
  intro j s t m c hk0 h1 hj Iv hit hS hb;have e:j=ps.length:=by omega
  obtain⟨its,rv,pl,hz⟩:=Iv.list hq;have bh:its.length=ps.length:=by have:=rv.length;rw[AE]at this;exact this.symm
  refine codeAny_builtin PySem.F.entry_min_loop ?_;rw[Around.under_plainId PySem.F.plain_min_loop _];show wpAny _ X.A.in1 (seqItems? (.ref S) >>= _) _ _ _;refine Zw (wpAny_seqItems hS Zj ?_);show wpAny _ X.A.in1 (tryCatch (pyNext (.ref I)) _ >>= _) _ _ _;refine Zw (wpAny_tryCatch (wpAny_pyNext_list_end (show X.A.in1.handled=none from Iv.ok.hd hc) hit pl.isList (by simp;omega) λh' eb=>?_));have I1:Inv X aa σ H { s with heap:=h',toks:=s.toks }:=Iv.turned (it:=I) (λb o hb e=>eb b o hb e) fI.1 fI.2.1 fI.2.2.2.1 fI.2.2.2.2.1 fI.2.2.2.2.2;have hS1:=eb S _ il hS;show wpAny _ X.A.in1 (updateSeq S (λ_=>#[]) >>= _) _ _ _;refine Zw (wpAny_updateSeq hS1 Zj (Zw (wpAny_letGo (Zv ?_))) dQ);have I2:Inv X aa σ H { s with heap:=h'.update S (Obj.mapSeq λ_=>(#[]:Array Value)),toks:=s.toks }:=Inv.turned (s:={ s with heap:=h',toks:=s.toks }) (it:=S) I1 (λb o hb e=>(ZX _ _ (Ne.symm hb)).trans e) fS.1 fS.2.1 fS.2.2.2.1 fS.2.2.2.2.1 fS.2.2.2.2.2;rw[e,ZD]at hb;subst hb;exact hR _ t I2
 |succ k ih =>
  intro j s t m c hk0 h1 hj Iv hit hS hb;obtain⟨its,rv,pl,hz⟩:=Iv.list hq;have bh:its.length=ps.length:=by have:=rv.length;rw[AE]at this;exact this.symm
  have hlt:j<ps.length:=by omega
  have hn:ps[j]?=some ps[j]:=Z7 hlt
  obtain⟨t',hvt⟩:∃t',its[j]?=some (.int ps[j] t'):=by
   obtain⟨u,hu,t',ru⟩:=rv.get (i:=j) (x:=V.int ps[j]) (by rw[ZG,hn];rfl);exact⟨t',ru ▸ hu⟩
  generalize ps[j]=n at hn hvt;refine codeAny_builtin PySem.F.entry_min_loop ?_;rw[Around.under_plainId PySem.F.plain_min_loop _];show wpAny _ X.A.in1 (seqItems? (.ref S) >>= _) _ _ _;refine Zw (wpAny_seqItems hS Zj ?_);show wpAny _ X.A.in1 (tryCatch (pyNext (.ref I)) _ >>= _) _ _ _;refine Zw (wpAny_tryCatch (wpAny_pyNext_list_item hit pl.isList (x:=.int n t') (by simpa using hvt) λh' dY sb=>?_));have I1:Inv X aa σ H { s with heap:=h',toks:=s.toks }:=Iv.turned (it:=I) (λb o hb e=>(sb.2 b hb).trans e) fI.1 fI.2.1 fI.2.2.2.1 fI.2.2.2.2.1 fI.2.2.2.2.2;have hS1:=(sb.2 S il).trans hS;have etk:ps.take (j+1)=ps.take j++[n]:=by rw[ZF,hn];rfl
  have eb':(ps.take (j+1)).foldl DT (ps.headD 0)=DT m n:=by rw[etk,foldl_append,←hb];rfl
  show wpAny _ X.A.in1 (tryCatch (holding [.int n t',.int n t'] (richCompare .Lt (.int n t') (.int m t) >>= _)) _ >>= _) _ _ _;refine Zw (wpAny_tryCatch (ZL (Zw (Tf ?_))));refine Zw (ZL (Z0 ?_));refine Zw (wpAny_letGo (Zv ?_));show wpAny _ X.A.in1 (if decide (n<m)=true then _ else _) _ _ _;by_cases hlt':n<m
  ·rw[ZM hlt',Zo rfl];refine Zw (wpAny_updateSeq hS1 Zj (Zw (wpAny_letGo ?_)) dQ);rw[bv];obtain⟨c2,gZ⟩:∃c2,(h'.update S (Obj.mapSeq λ_=>#[.int n t',.int n t'])).get? S=some { cls:=.type "list", data:=.seq #[.int n t',.int n t'] c2 }:=⟨_,PySem.IsL.update hS1 λ_=>#[.int n t',.int n t']⟩;have I5:Inv X aa σ H { s with heap:=h'.update S (Obj.mapSeq λ_=>#[.int n t',.int n t']),toks:=s.toks }:=Inv.turned (s:={ s with heap:=h',toks:=s.toks }) (it:=S) I1 (λb o hb e=>(ZX _ _ (Ne.symm hb)).trans e) fS.1 fS.2.1 fS.2.2.2.1 fS.2.2.2.2.1 fS.2.2.2.2.2;obtain⟨oI,hoI,hoc,hod⟩:=id dY;refine Zv ⟨plainId_quiet PySem.F.plain_min_loop _,ih (j+1) _ t' n c2 qe qe hlt I5 ⟨oI,(ZX _ _ il).trans hoI,hoc,hod⟩ gZ ?_⟩;rw[eb'];unfold DT;rw[Zo hlt']
  ·rw[ZP hlt',Zp Bool.false_ne_true];refine Zw (wpAny_letGo ?_);rw[bv];refine Zv ⟨plainId_quiet PySem.F.plain_min_loop _,ih (j+1) _ t m c qe qe hlt I1 dY hS1 ?_⟩;rw[eb'];unfold DT;rw[Zp hlt']
theorem Pj (a:Value):argsOk "min" ⟨[a],[]⟩:=by unfold argsOk;kernel_rfl
theorem Pk (K:FG) (hK:X.K=K) (hc:X.calm=true):BZ X (.builtin "min") (λxs H Q=>∃(p:W3) (ps:List Int),xs=[.ref p]/\aJ K H p (ps.map V.int)/\ps≠ []/\Q (.int (ps.foldl DT (ps.headD 0))) H):=by
 subst hK;intro aa s σ H xs us Q I2 r h;obtain⟨a,ps,rfl,hq,bc,k1⟩:=h;obtain⟨u,rfl,ru⟩:=Bu r;cases ru;obtain⟨its,rv,pl,hz⟩:=I2.list hq;have bh:its.length=ps.length:=by have:=rv.length;rw[AE]at this;exact this.symm
 have h0:0<ps.length:=length_pos_iff.mpr bc;refine PyProof.Rows.kmk_tree PySem.F.kind_min PySem.F.plain_min PySem.F.entry_min (Pj _) ?_;show wpAny _ X.A.in1 (Builtin.Builtins.bindParams "min" ["key", "default"] 0 ⟨[],[]⟩ >>= _) _ _ _;refine Zw (wpAny_of_eq (show Builtin.Builtins.bindParams "min" ["key", "default"] 0 ⟨[],[]⟩=pure [none,none]from Zj) ?_);refine Zw (Zv ?_);refine Zw (wpAny_pyIter_list pl.isList ?_);refine Zw (wpAny_newList ?_ (Nat.zero_le _));have bv:(toString "min" ++ toString ".loop" : String) = "min.loop" := by decide
 rw[bv];have hS:(s.heap.push { cls:=.type "list_iterator", data:=.fields #[.ref a,.int 0 0] }).objs.size=s.heap.objs.size+1:=Heap.size_push ..;have gI:=ZY { cls:=.type "list", data:=.seq ([]:Wx).toArray } (ZO s.heap (o:={ cls:=.type "list_iterator", data:=.fields #[.ref a,.int 0 0] }) rfl);have gS:=ZO (s.heap.push { cls:=.type "list_iterator", data:=.fields #[.ref a,.int 0 0] }) (o:={ cls:=.type "list", data:=.seq ([]:Wx).toArray }) rfl;have fI:EB X aa H s.heap.objs.size:=I2.eJ (Zx _) (I2.aE.fresh (Zx _));have fS:EB X aa H (s.heap.push { cls:=.type "list_iterator", data:=.fields #[.ref a,.int 0 0] }).objs.size:=by rw[hS];exact I2.eJ (Nat.le_succ _) (I2.aE.fresh (Nat.le_succ _))
 have il:(s.heap.push { cls:=.type "list_iterator", data:=.fields #[.ref a,.int 0 0] }).objs.size≠s.heap.objs.size:=by rw[hS];exact Nat.succ_ne_self _
 have I3:Inv X aa σ H { s with heap:=(s.heap.push { cls:=.type "list_iterator", data:=.fields #[.ref a,.int 0 0] }).push { cls:=.type "list", data:=.seq ([]:Wx).toArray },toks:=s.toks }:=I2.kept λb o e=>ZY _ (ZY _ e);have pl3:((s.heap.push { cls:=.type "list_iterator", data:=.fields #[.ref a,.int 0 0] }).push { cls:=.type "list", data:=.seq ([]:Wx).toArray }).IsList a its.toArray:=pl.isList.at λo e=>ZY _ (ZY _ e);refine Zv ⟨plainId_quiet PySem.F.plain_min_loop _,?_⟩;generalize (s.heap.push { cls:=.type "list_iterator", data:=.fields #[.ref a,.int 0 0] }).objs.size=S at *;generalize (s.heap.push { cls:=.type "list_iterator", data:=.fields #[.ref a,.int 0 0] }).push { cls:=.type "list", data:=.seq ([]:Wx).toArray }=h3 at *;have hn:ps[0]?=some (ps[0]'h0):=Z7 h0
 obtain⟨t',hvt⟩:∃t',its[0]?=some (.int (ps[0]'h0) t'):=by
  obtain⟨u,hu,t',ru⟩:=rv.get (i:=0) (x:=V.int (ps[0]'h0)) (by rw[ZG,hn];rfl);exact⟨t',ru ▸ hu⟩
 generalize (ps[0]'h0)=n at hn hvt;refine codeAny_builtin PySem.F.entry_min_loop ?_;rw[Around.under_plainId PySem.F.plain_min_loop _];show wpAny _ X.A.in1 (seqItems? (.ref S) >>= _) _ _ _;refine Zw (wpAny_seqItems gS Zj ?_);show wpAny _ X.A.in1 (tryCatch (pyNext (.ref s.heap.objs.size)) _ >>= _) _ _ _;refine Zw (wpAny_tryCatch (wpAny_pyNext_list_item (i:=0) (l:=a) ⟨_,gI,Zj,Zj⟩ pl3 (x:=.int n t') (by simpa using hvt) λh' dY sb=>?_));have I4:Inv X aa σ H { s with heap:=h',toks:=s.toks }:=Inv.turned (s:={ s with heap:=h3,toks:=s.toks }) (it:=s.heap.objs.size) I3 (λb o hb e=>(sb.2 b hb).trans e) fI.1 fI.2.1 fI.2.2.2.1 fI.2.2.2.2.1 fI.2.2.2.2.2;have gS4:=(sb.2 S il).trans gS;obtain⟨oI,hoI,hoc,hod⟩:=id dY;show wpAny _ X.A.in1 (updateSeq S (λ_=>#[.int n t',.int n t']) >>= _) _ _ _;refine Zw (wpAny_updateSeq gS4 Zj ?_ (by show 0<=sizeLine;decide));rw[bv];obtain⟨c2,gZ⟩:∃c2,(h'.update S (Obj.mapSeq λ_=>#[.int n t',.int n t'])).get? S=some { cls:=.type "list", data:=.seq #[.int n t',.int n t'] c2 }:=⟨_,PySem.IsL.update gS4 λ_=>#[.int n t',.int n t']⟩;have I8:Inv X aa σ H { s with heap:=h'.update S (Obj.mapSeq λ_=>#[.int n t',.int n t']),toks:=s.toks }:=Inv.turned (s:={ s with heap:=h',toks:=s.toks }) (it:=S) I4 (λb o hb e=>(ZX _ _ (Ne.symm hb)).trans e) fS.1 fS.2.1 fS.2.2.2.1 fS.2.2.2.2.1 fS.2.2.2.2.2;refine Zv ⟨plainId_quiet PySem.F.plain_min_loop _,Pi hc hq fI fS il (λs' t I'=>⟨.int _,H,I',⟨t,Zj⟩,k1⟩) _ 1 _ t' n c2 Zj (Zx _) h0 I8 ⟨oI,(ZX _ _ il).trans hoI,hoc,hod⟩ gZ ?_⟩
 have e0:ps.headD 0=n:=by
  cases ps with
  |nil=>cases hn
  |cons z r=>exact Option.some.inj hn
 rw[show ps.take 1=[n] by rw[show(1:Nat)=0+1 from rfl,ZF,hn];rfl,e0];show n=DT n n;unfold DT;rw[Zp qe]
end L2
end
section
namespace L2
open PySem
theorem E5 {g:TG}{tt:TT}{ix:List (Option Nat)}{R:Wy->Hp->Prop}{H1:Hp} (Pv:Nat->Wy->Hp->Prop) (h0:Pv 0 [] H1) (hl:∀i ys H,i<=xs.length->Pv i ys H->aJ K H a xs) (hz:∀i ys H,Pv i ys H->ys.length<=sizeLine)
  (hs:∀i x ys H,xs[i]?=some x->Pv i ys H->g x (Cw ix σ) H λbV H2=>tt bV H2 λb H3=>if b=true then te bV H3 λy H4=>Pv (i+1) (ys++[y]) H4 else Pv (i+1) ys H3) (hd:∀ys H,Pv xs.length ys H->R ys H) :
  ∃W:Nat->Nat->Wy->Hp->Prop,(∃m,W 0 m [] H1)/\∀i m ys H,W i m ys H ->
   ((g8 K a).stop i H/\ys.length<=sizeLine/\R ys H) \/
   ((g8 K a).go i H/\∃N:Wy->Hp->Prop,(∀cS H',N cS H'->cS.length<=sizeLine/\∃m',m'<m/\W (i+1) m' cS H') /\
    ∀x H',(g8 K a).gG i H x H'->g x (Cw ix σ) H' λbV H2=>tt bV H2 λb H3=>if b=true then te bV H3 λy H4=>N (ys++[y]) H4 else N ys H3):=by
 refine⟨λi m ys H=>m=xs.length - i/\i<=xs.length/\Pv i ys H,⟨_,Zj,Nat.zero_le _,h0⟩,?_⟩;rintro i m ys H ⟨rfl,hi,hp⟩;by_cases hlt:i<xs.length
 ·have hx:xs[i]?=some xs[i]:=Z7 hlt;refine .inr ⟨⟨xs,xs[i],hl i ys H hi hp,hx⟩,Pv (i+1),λcS H' q=>⟨hz _ cS H' q,xs.length - (i+1),qe,Zj,hlt,q⟩,?_⟩;rintro x H' ⟨rfl,hy⟩
  have ex:x=xs[i]:=by
   have:=hy xs (hl i ys H' hi hp);rw[hx]at this;exact(Option.some.inj this).symm
  subst ex;exact hs i xs[i] ys H' hx hp
 ·have e:i=xs.length:=by omega
  subst e;exact .inl ⟨⟨xs,hl _ ys H hi hp,Zx _⟩,hz _ ys H hp,hd ys H hp⟩
theorem Pl (K:FG) (hK:X.K=K) (hu:X.A.units+65<cLine):cT X (compareOp .NotIn) (λx y H Q=>∃d ds,BW K H d x/\BW K H (.list ds) y/\SeqAt.shaped d=true/\SeqAt.shaped (.list ds)=true/\(∀z∈ds,SeqAt.noMix z d=true)/\Q (.bl (!decide (Spec.countIn d ds≠0))) H):=by
 subst hK;intro aa s σ H x y v u Q I rx ry h;obtain⟨d,ds,h1,h2,s1,s2,hm,q⟩:=h;obtain⟨as,r1⟩:=I.reads d x v rx h1;obtain⟨bs,r2⟩:=I.reads (.list ds) y u ry h2;exact PyProof.Rows.notIn_list_dataH r2 r1 s2 s1 hu hm ⟨.bl _,H,I,Zj,q⟩
end L2
end
section
namespace L2
open PySem PySem.Spec PyProof.Rows
def Uz (tb:TS):W3->TS:=λe D σ H=>tb { nx:=λ_ _=>False,rt:=D.rt } σ H
section
variable {Dn:W3}{dx:Option W3}{hs:List ExceptHandler}{t:W3->TS}{np:Pos}{name:Option Str}{body:List Stmt}
theorem RV {fH:Stmt}{tb:W3->TS} (hC:A1 X.K C=true) (hD:A1 X.K Dn=true) (hg:Gl X x) (hm:X.mg x=some (.ref Dn)) (hs':(EN X.K C).contains (.ref Dn)=true)
  (hb:∀e oe T oT,jq C dx e oe T oT->dP (BM X e oe T oT) (fH::body) (tb e)) (dG:(x==("__debug__" : Str))=false:=by decide) :
  PH X C dx (.ExceptHandler (some (.Name x np)) none (fH::body) pos::hs) (λe=>Uz (tb e) e):=by
 intro aa s σ H D e oe T oT c I h;refine wpAny_handleBy_cons (codeAny_handlers_test ?_) (GQ e);refine Br (X:=BM X e oe T oT) I.mark hg hm ?_ dG;refine GS hC hD c I ?_;rw[hs'];refine codeAny_handlers_suite ?_;obtain⟨vs,hd,h1,h2⟩:=c.fld;obtain⟨ts,gk,h3⟩:=c.tb;have he:=(I.pin (e,oe) (by simp)).1;have hT:=(I.pin (T,oT) (by simp)).1;refine wpAny_setFlight_none he hd h1 hT gk (Z9.mp h3).1 ?_
 have I1:Inv X ((e,oe)::(T,oT)::aa) σ H { s with heap:=s.heap.update T (Obj.mapFields (·.setIfInBounds 3 .none)) }:=I.kept (t':=s.toks) λb u q=>by
  by_cases z:b=T
  ·subst z;have e1:=ZV (Obj.mapFields (·.setIfInBounds 3 Value.none)) hT (Obj.isFreed_of_fields (Obj.data_mapFields gk _));rw[Dk gk]at e1
   have e2:ts.setIfInBounds 3 Value.none=ts:=by
    obtain⟨l1,l2⟩:=Z9.mp h3;rw[Array.setIfInBounds,dif_pos l1]
    conv=>lhs;rw[←l2]
    exact Array.set_getElem_self l1
   rw[e2,←gk]at e1;rw[show s.heap.get? b=some oT from hT]at q;cases q;exact e1
  ·exact(ZX _ _ (Ne.symm z)).trans q
 refine Zu (hb e oe T oT c aa _ _ H _ I1.mark h) (λfl s3 z=>?_) λ_ _ z=>z.elim;cases fl with
 |ret u =>
  obtain⟨v,aN,H',J,rv,q⟩:=z;exact⟨v,aN,H',(J.unmark I.ok).less (q:=[(e,oe),(T,oT)]),rv,q⟩
 |next =>
  obtain⟨_,_,_,q⟩:=z;exact q.elim
 |brk =>
  obtain⟨_,_,_,q⟩:=z;exact q.elim
 |cont =>
  obtain⟨_,_,_,q⟩:=z;exact q.elim
end
theorem Pm {xs:Ww} (r:Vals (xs.map V.str) us):∃l:List (Str×Tok),us=strValues l/\l.map (·.1)=xs:=by
 induction xs generalizing us with
 |nil=>cases r;exact⟨[],Zj,Zj⟩
 |cons x r ih =>
  cases r with
  |cons r1 r2 =>
   obtain⟨t,rfl⟩:=r1;obtain⟨l,rfl,e⟩:=ih r2;exact⟨(x,t)::l,Zj,by rw[map_cons,e]⟩
theorem OU:MtM X "str.join" (λx vs H Q=>∃sep l ys,x=.str sep/\vs=[.ref l]/\H l=some (.lst (ys.map V.str))/\JoinOk sep ys=true/\Q (.str (Txt.join sep ys)) H):=by
 intro aa s σ H x vs v us Q I rx rv h;obtain⟨sep,l,ys,rfl,rfl,hH,aE,q⟩:=h;obtain⟨t,rfl⟩:=rx;obtain⟨u,rfl,ru⟩:=rv.one;cases ru;obtain⟨z,its,n,r,hl,e⟩:=I.lstM hH;obtain⟨ps,rfl,ep⟩:=Pm r;exact SC.join (l:=ps) ⟨_,e,Zj,⟨_,Zj⟩⟩ ep aE λt' k=>⟨.str _,H,I.tok k,⟨t',Zj⟩,q⟩
structure PTw (X:Cx) (e:Expr) (t:TT):Prop where
 h:PT X e t
section
variable {a b c:Expr}{ta tb:TE}{tc:TT}{st:Stmt}{s1 s2 rest:List Stmt}{t u:TS}{es:List Expr}{ts:TA}
theorem LY {i:Nat}{pos':Pos} (hN:X.N.Nodup) (hi:X.N[i]?=some x) (hx:Loc X.env.scope x) (he:fh X e te) (hs:swapsWith e (some (.Name x pos')) pos.line X.env=pure false:=by rfl) (hf:X.fn x=true\/X.env.scope.names.lookup x=some .local:=by first |exact .inl rfl |exact .inr rfl) :
  PSw X (.Assign [.Name x pos'] e pos) (Sw te (Cn i)):=⟨Al hN hi hx he.h hs hf⟩
theorem WF {op:Operator}{r:R2} (ho:cT X (binaryOp op) r) (ha:fh X a ta) (hb:fh X b tb):fh X (.BinOp a op b pos) (ja r ta tb):=⟨AW ho ha.h hb.h⟩
theorem Wm {r:R2} (hr:IxR X r) (ha:fh X a ta) (hb:fh X b tb) (hs:OE b):fh X (.Subscript a b pos) (ja r ta tb):=⟨Bp hr ha.h hb.h hs⟩
theorem KF (hc:PTw X c tc) (ha:fg X s1 t) (hb:fg X s2 u):PSw X (.If c s1 s2 pos) (Vs tc t u):=⟨Au hc.h ha.h hb.h⟩
theorem Ba (he:fh X e te) (h:PAw X es ts) (hs:starEach (e::es) X.env=(false,eval e X.env)::starEach es X.env:=by rfl):PAw X (e::es) (Ag te ts):=⟨AA he.h h.h hs⟩
theorem Cz {CX:fJ}{k:Nat}{fd:FuncData}{ps:Ww}{sp:Sp}{ds:Wx}{du:Wy}{E:XK}{p:Pos} (F:aD X.prog X.w X.K X.mg X.base CX k f fd ps sp) (hr:aH k X.A) (hg:Gl X x) (hm:X.mg x=some (.ref f)) (hk:W.keepIn X.K (.ref f)=true) (hb:Binds X.K fd ps ds) (hd:Vals du ds) (hx:Be CX X E)
  (ha:PAw X (e::es) ts) (dG:(x==("__debug__" : Str))=false:=by decide) (he:starEach (e::es) X.env=(false,eval e X.env)::starEach es X.env:=by rfl) (dA:(backTo pos (starEach es X.env)).any (·.1)=false:=by rfl) :
  fh X (.Call (.Name x p) (e::es) [] pos) (Gx sp du E ts):=⟨AM F hr hg hm hk hb hd hx ha.h dG he dA⟩
theorem UW (h:PAw X es ts):fh X (.List es pos) (S0 ts):=⟨A6 h.h⟩
end
def Fh (xs:Array Nat):Prop:=∀i j (hi:i<xs.size) (hj:j<xs.size),i<j->xs[i]<xs[j]
structure BlS (xs:Array Nat) (j k:Nat):Prop where
 le:k<=xs.size
 lo:∀i (h:i<xs.size),i<k->xs[i]<j
 hi:∀i (h:i<xs.size),k<=i->j<=xs[i]
theorem IF {xs:Array Nat} (hs:Fh xs) (j:Nat):∀(fuel lo hi:Nat),lo<=hi->hi<=xs.size->hi - lo<=fuel->(∀i (h:i<xs.size),i<lo->xs[i]<j)->(∀i (h:i<xs.size),hi<=i->j<=xs[i])->BlS xs j (SetTable.below.go xs j fuel lo hi)
 |0,lo,hi,h1,h2,h3,h4,h5=>by
  rw[SetTable.below.go];have e:lo=hi:=by omega
  subst e;exact⟨h2,h4,h5⟩
 |fuel+1,lo,hi,h1,h2,h3,h4,h5=>by
  rw[SetTable.below.go];by_cases hlt:lo<hi
  ·rw[Zo hlt];have hm:(lo+hi) / 2<xs.size:=by omega
   have eg:xs.getD ((lo+hi) / 2) j=xs[(lo+hi) / 2]:=by
    rw[Array.getD_eq_getD_getElem?,Array.getElem?_eq_getElem hm];rfl
   show BlS xs j (if xs.getD ((lo+hi) / 2) j<j then _ else _);rw[eg];by_cases hc:xs[(lo+hi) / 2]<j
   ·rw[Zo hc];refine IF hs j fuel _ _ qe h2 qe (λi gq hl=>?_) h5;by_cases e:i=(lo+hi) / 2
    ·subst e;exact hc
    ·exact Nat.lt_trans (hs i ((lo+hi) / 2) gq hm qe) hc
   ·rw[Zp hc];refine IF hs j fuel _ _ qe qe qe h4 (λi gq hl=>?_);by_cases e:i=(lo+hi) / 2
    ·subst e;omega
    ·have:=hs ((lo+hi) / 2) i hm gq qe;omega
  ·rw[Zp hlt];have e:lo=hi:=by omega
   subst e;exact⟨h2,h4,h5⟩
theorem Fi {xs:Array Nat} (hs:Fh xs) (j:Nat):BlS xs j (SetTable.below xs j):=by
 unfold SetTable.below;exact IF hs j xs.size 0 xs.size (Nat.zero_le _) (Zx _) qe (λi _ h=>absurd h (Nat.not_lt_zero _)) (λi h h'=>absurd h qe)
theorem U0 {xs:Array Nat} (hs:Fh xs) {j:Nat} (h:SetTable.has xs j=false):∀i (h:i<xs.size),xs[i]≠j:=by
 intro i hi e;have B:=Fi hs j;unfold SetTable.has at h
 have hk:SetTable.below xs j=i:=by
  rcases Nat.lt_trichotomy (SetTable.below xs j) i with z |z |z
  ·have h1:=B.hi _ qe (Zx (SetTable.below xs j));have h2:=hs (SetTable.below xs j) i qe hi z;omega
  ·exact z
  ·have:=B.lo i hi z;omega
 rw[hk,Array.getElem?_eq_getElem hi,e]at h;simp at h
theorem Iz {α:Type} (xs:Array α) (p:Nat) (x:α):(SetTable.insertAt xs p x).toList=xs.toList.take p++x::xs.toList.drop p:=by
 unfold SetTable.insertAt;rw[Array.toList_append,Array.toList_push,Array.toList_extract,Array.toList_extract];simp[List.extract_eq_drop_take];exact List.take_of_length_le (by simp)
def RW (l:List Nat):Prop:=l.Pairwise (· < ·)
theorem LZ {xs:Array Nat}:Fh xs ↔ RW xs.toList:=by
 unfold RW;rw[List.pairwise_iff_getElem];constructor
 ·intro h i j hi hj hij;exact h i j (by simpa using hi) (by simpa using hj) hij
 ·intro h i j hi hj hij;exact h i j (by simpa using hi) (by simpa using hj) hij
theorem La {xs:Array Nat} (hs:Fh xs) {j:Nat} (hn:∀i (h:i<xs.size),xs[i]≠j):Fh (SetTable.insertAt xs (SetTable.below xs j) j):=by
 have B:=Fi hs j;rw[LZ]at hs ⊢;rw[Iz];generalize SetTable.below xs j=k at B;unfold RW at hs ⊢;have hd:=hs;rw[←List.take_append_drop k xs.toList,List.pairwise_append]at hd;obtain⟨h1,h2,h3⟩:=hd;rw[List.pairwise_append,pairwise_cons];refine⟨h1,⟨λy hy=>?_,h2⟩,λa ha b hb=>?_⟩
 ·obtain⟨i,hi,rfl⟩:=List.getElem_of_mem hy;rw[length_drop]at hi;have hsz:k+i<xs.size:=by have:xs.toList.length=xs.size:=Array.length_toList;omega
  rw[List.getElem_drop];have:=B.hi (k+i) hsz qe;have ne:=hn (k+i) hsz;simp only[Array.getElem_toList];omega
 ·have haj:a<j:=by
   obtain⟨i,hi,rfl⟩:=List.getElem_of_mem ha;rw[Zz]at hi;have hsz:i<xs.size:=by have:xs.toList.length=xs.size:=Array.length_toList;omega
   rw[List.getElem_take];have:=B.lo i hsz qe;simpa using this
  rcases mem_cons.mp hb with rfl |hb
  ·exact haj
  ·exact h3 a ha b hb
theorem NR (n:Nat):Fh (Array.range n):=λi j hi hj h=>by simpa using h
structure Fj (t:SetTable) (n:Nat):Prop where
 fits:t.fits n=true
 rise:Fh t.place
 nod:t.dummies=#[]
theorem Tg {t:SetTable}{j:Nat} (h:t.slot j=.empty) (hs:Fh t.place):∀i (h:i<t.place.size),t.place[i]≠j:=by
 refine U0 hs ?_;unfold SetTable.slot at h;unfold SetTable.has;cases e:(t.place[SetTable.below t.place j]?==some j)with
 |false=>rfl
 |true =>
  simp only[e,if_true]at h;cases h
theorem Lb (j:Nat):SetTable.has #[] j=false:=by
 unfold SetTable.has;simp
theorem NS {t:SetTable}{j:Nat} (hd:t.dummies=#[]):t.slot j≠ .dummy:=by
 unfold SetTable.slot;rw[hd,Lb];intro h;simp only[Bool.false_eq_true,if_false]at h;split at h <;> cases h
theorem Pn (t:SetTable) (p:SetTable.Probe):(t.advance p).dummy=p.dummy:=by
 unfold SetTable.advance;split <;> rfl
theorem Lc {t:SetTable}{hashAt:Nat->Int}{h:Int} (hd:t.dummies=#[]):∀(fuel:Nat) (p:SetTable.Probe) {j:Nat}{d:Option Nat},p.dummy=none->SetTable.probe.go t hashAt h fuel p=some (.empty j d)->d=none/\t.slot j=.empty
 |0,p,j,d,hp,e=>by rw[SetTable.probe.go]at e;cases e
 |fuel+1,p,j,d,hp,e=>by
  rw[SetTable.probe.go]at e;cases hs:t.slot p.j with
  |empty =>
   rw[hs]at e;cases e;exact⟨hp,hs⟩
  |dummy=>exact absurd hs (NS hd)
  |live i =>
   rw[hs]at e;simp only at e;split at e
   ·cases e
   ·exact Lc hd fuel _ (by rw[Pn];exact hp) e
theorem Ti {t:SetTable}{h:Int}{j:Nat}{wd:Bool} (hs:Fh t.place) (hd:t.dummies=#[]) (e:t.freeSlot h=some (j,wd)):(∀i (h:i<t.place.size),t.place[i]≠j)/\wd=false:=by
 unfold SetTable.freeSlot at e;cases q:t.probe (λ_=>h+1) h (t.probeStart h)with
 |none=>rw[q]at e;cases e
 |some m =>
  rw[q]at e;cases m with
  |candidate a b c=>cases e
  |empty a b =>
   unfold SetTable.probe at q;obtain⟨rfl,h2⟩:=Lc hd _ _ rfl q;cases e;exact⟨Tg h2 hs,Zj⟩
theorem Fk (t:SetTable) (n:Nat):Fj (t.standIn n) n/\(t.standIn n).led=t.led:=⟨⟨SetTable.standIn_fits t n,NR n,rfl⟩,rfl⟩
theorem NT {t:SetTable} (n:Nat) (hs:Fh t.place) (hd:t.dummies=#[]):Fj (t.orStandIn n) n/\(t.orStandIn n).led=t.led:=by
 unfold SetTable.orStandIn;split
 ·rename_i h;exact⟨⟨h,hs,hd⟩,Zj⟩
 ·exact Fk t n
theorem Po {t:SetTable}{es:Array (Int×Value)} (h:Int) (x:Value) (T:Fj t es.size):Fj (layNew t es h x).2.1 (layNew t es h x).1.size/\(layNew t es h x).2.1.led=t.led:=by
 unfold layNew;cases e:t.freeSlot h with
 |none =>
  have:=Fk t (es.size+1);simpa using this
 |some q =>
  obtain⟨j,wd⟩:=q;obtain⟨h1,_⟩:=Ti T.rise T.nod e;have hr:=La T.rise h1
  exact NT (t:=(t.put j).1) _ hr (by
   show(if SetTable.has t.dummies j=true then _ else t.dummies)=#[];rw[T.nod,Lb]
   rfl)
theorem Pp (f:Nat->Option Nat) (n:Nat):Fh (((List.range n).filterMap λj=>(f j).map λx=>(j,x)).map (·.1)).toArray:=by
 rw[LZ];show List.Pairwise _ _;rw[List.toList_toArray,pairwise_map,List.pairwise_filterMap];refine List.Pairwise.imp ?_ (List.pairwise_lt_range (n:=n));intro a b hab p hp q hq;obtain⟨x,_,rfl⟩:=Z6.mp hp;obtain⟨y,_,rfl⟩:=Z6.mp hq;exact hab
theorem Ld {t:SetTable}{es:Array (Int×Value)} (n:Nat) (T:Fj t es.size):Fj (relayAll t es n).2.1 (relayAll t es n).1.size/\(relayAll t es n).2.1.led=t.led:=by
 unfold relayAll;cases e:t.relaid (es.map (·.1)) n with
 |none=>exact Fk t es.size
 |some q =>
  obtain⟨t',order⟩:=q;simp only;split
  ·rename_i h;rw[Bool.and_eq_true]at h;unfold SetTable.relaid SetTable.laid at e;obtain⟨owner,_,e2⟩:=Option.bind_eq_some_iff.mp e;cases e2;exact⟨⟨h.2,Pp (λj=>owner.getD j none) _,Zj⟩,Zj⟩
  ·exact Fk t es.size
theorem RY {t:SetTable}{n:Nat} (b:Bool) (T:Fj t n):Fj { t with plain:=b } n:=⟨T.fits,T.rise,T.nod⟩
theorem RZ (a b:Nat) (led:Bool):Fj (SetTable.fresh a b led) 0:=⟨by rfl,λi j hi _ _=>absurd hi (Nat.not_lt_zero _),rfl⟩
section
variable {prog:Program}{K:Type} [DecidableEq K]
structure i9 (knd:KeyKind prog w K) (k:K) (e:Int×Value):Prop where
 is:knd.is k e.2=true
 hs:e.1=knd.hash k
 sc:e.2.scannable=true
def d7 (knd:KeyKind prog w K) (h:Heap) (a:W3) (ks:List K) (led:Bool):Prop :=
 ∃(o:Obj) (ar:Array (Int×Value)) (ep:Nat) (t:SetTable) (eX:List K),h.get? a=some o/\o.ExactSet/\o.data=.set ar ep t/\Fj t ar.size/\t.led=led/\eX.Perm ks/\Paired (i9 knd) eX ar.toList/\ar.size<scanBound
theorem Pq {knd:KeyKind prog w K}{ks:List K}{es:List (Int×Value)} (h:Paired (i9 knd) ks es):ElemsOf knd es:=by
 induction h with
 |nil=>intro e he;cases he
 |cons r t ih =>
  intro e he;rcases mem_cons.mp he with rfl |he
  ·exact⟨⟨_,r.is,r.hs⟩,r.sc⟩
  ·exact ih e he
theorem Le {knd:KeyKind prog w K}{k:K}:∀ {ks:List K}{es:List (Int×Value)},Paired (i9 knd) ks es->(es.findIdx? (λe=>knd.is k e.2)).isSome=decide (k∈ks)
 |_,_,.nil=>rfl
 |k'::ks,e::es,.cons r t=>by
  rw[List.findIdx?_cons]
  have hk:knd.is k e.2=decide (k=k'):=by
   cases q:knd.is k e.2 with
   |true=>rw[knd.inj _ _ _ q r.is,ZM rfl]
   |false =>
    symm
    refine ZP λz=>?_;rw[z,r.is]at q;cases q
  rw[hk];by_cases z:k=k'
  ·rw[ZM z,Zo rfl,z];simp
  ·rw[ZP z,Zp qc];have:=Le (knd:=knd) (k:=k) t;simp only[Option.isSome_map,this,mem_cons,z,false_or]
theorem Lf {knd:KeyKind prog w K}{es iX:List (Int×Value)} (p:iX.Perm es):∀ {ks:List K},Paired (i9 knd) ks es->∃eX,eX.Perm ks/\Paired (i9 knd) eX iX:=by
 induction p with
 |nil=>intro ks h;exact⟨ks,List.Perm.refl _,h⟩
 |cons x p ih =>
  intro ks h;cases h with
  |cons r t =>
   obtain⟨eX,p',h'⟩:=ih t;exact⟨_::eX,p'.cons _,.cons r h'⟩
 |swap x y l =>
  intro ks h;cases h with
  |cons r t =>
   cases t with
   |cons r2 t=>exact⟨_::_::_,List.Perm.swap ..,.cons r2 (.cons r t)⟩
 |trans p1 p2 ih1 ih2 =>
  intro ks h;obtain⟨k1,q1,h1⟩:=ih2 h;obtain⟨k2,q2,h2⟩:=ih1 h1;exact⟨k2,q2.trans q1,h2⟩
theorem d7.put {knd:KeyKind prog w K}{o:Obj}{ar:Array (Int×Value)}{ep:Nat}{t:SetTable} (e:h.get? a=some o) (x:o.ExactSet) (d:o.data=.set ar ep t) {jm:Array (Int×Value)}{t':SetTable}{ks eX:List K}{led:Bool}
  (T:Fj t' jm.size) (hl:t'.led=led) (p:eX.Perm ks) (pr:Paired (i9 knd) eX jm.toList) (hs:jm.size<scanBound):d7 knd (h.update a (Obj.putSet jm t')) a ks led:=by
 refine⟨_,jm,ep+1,t',eX,ZV _ e (by rw[putSet_of jm t' d];rfl),?_,?_,T,hl,p,pr,hs⟩
 ·rw[putSet_of jm t' d];exact⟨x.1,x.2.1,x.2.2⟩
 ·rw[putSet_of jm t' d]
theorem Wn {knd:KeyKind prog w K}{ks:List K}{led:Bool}{k:K}{x:Value}{Q:Bool->W4->Prop} (hx:knd.is k x=true) (hsc:x.scannable=true) (hS:d7 knd s.heap a ks led) (hn:ks.length+1<scanBound)
  (h1:k∈ks->Q false s) (h2:k∉ ks->∀h',Heap.SameBut a s.heap h'->d7 knd h' a (k::ks) led->Q true { s with heap:=h' }):wpAny (model prog w) A (setAddHashed a x (knd.hash k)) Q E s:=by
 obtain⟨o,ar,ep,t,eX,e,xs,d,T,hl,p,pr,hs⟩:=hS;have el:=Pq pr
 have bh:ar.size=ks.length:=by
  have:=pr.length;rw[←p.length_eq,this];simp
 unfold setAddHashed;refine ZL ?_;rw[setAddHashedIn.eq_def];refine Zw (wpAny_setState_of e d T.fits ?_);show wpAny _ _ (if byScan x ar=true then _ else _) _ _ _;rw[Zo (byScan_of hsc hs el)];refine Zw ?_;unfold setAddByScan;refine Zw ?_
 wp_step
 refine Zw (wpAny_setScan_of hx e d T.fits el ?_);have hf:=Le (knd:=knd) (k:=k) pr;cases q:ar.toList.findIdx? (λe=>knd.is k e.2)with
 |some j =>
  rw[q]at hf;have hm:k∈ks:=p.mem_iff.mp (ZW hf.symm);exact Zv (Zv (h1 hm))
 |none =>
  rw[q]at hf;have hm:k∉ ks:=λz=>absurd (p.mem_iff.mpr z) (of_decide_eq_false hf.symm);obtain⟨T1,l1⟩:=Po (knd.hash k) x T;have p1:=layNew_perm t ar (knd.hash k) x
  have hq:∃ksn,ksn.Perm (k::ks)/\Paired (i9 knd) ksn (layNew t ar (knd.hash k) x).1.toList:=by
   have pr2:Paired (i9 knd) (eX++[k]) (ar.push (knd.hash k,x)).toList:=by
    rw[Array.toList_push];exact Paired.snoc pr ⟨hx,Zj,hsc⟩
   obtain⟨k2,q2,jh⟩:=Lf p1 pr2;refine⟨k2,q2.trans ?_,jh⟩;exact(List.perm_append_comm).trans (p.cons k)
  have hsz:(layNew t ar (knd.hash k) x).1.size<scanBound:=by
   have:=p1.length_eq;rw[Array.length_toList,Array.length_toList,Array.size_push]at this;omega
  rw[hl]at l1
  dsimp only
  generalize layNew t ar (knd.hash k) x=L at T1 l1 hq hsz ⊢;obtain⟨d4,t1,wd,gv⟩:=L;obtain⟨kn1,pk1,pr1⟩:=hq;have hsz:d4.size<scanBound:=hsz
  have fin:∀t2:SetTable,Fj t2 d4.size->t2.led=led->∀g:Bool->Sem Unit,(∀b aI (Q':Unit->W4->Prop),Q' () aI->wpAny (model prog w) A (g b) Q' E aI) ->
    wpAny (model prog w) A (do storeSet a d4 t2;if (!wd&&t2.tooFull)=true then (do g (relayAll t2 d4 (SetTable.grown d4.size)).2.2;storeSet a (relayAll t2 d4 (SetTable.grown d4.size)).1 (relayAll t2 d4 (SetTable.grown d4.size)).2.1;pure (some true))else pure (some true)) (λb s'=>b=some true/\∃h',Heap.SameBut a s.heap h'/\d7 knd h' a (k::ks) led/\s'={ s with heap:=h' }) E s:=λt2 T2 d9 g hg=>by
   refine Zw (wpAny_storeSet_of e d ?_ (fits_of_scanBound hsz));have S1:=d7.put (knd:=knd) e xs d T2 d9 pk1 pr1 hsz;have B1:Heap.SameBut a s.heap (s.heap.update a (Obj.putSet d4 t2)):=Heap.SameBut.update _ _ _;split
   ·refine Zw (hg _ _ _ ?_);have e1:(s.heap.update a (Obj.putSet d4 t2)).get? a=some (Obj.putSet d4 t2 o):=ZV _ e (by rw[putSet_of d4 t2 d];rfl);have d1:(Obj.putSet d4 t2 o).data=.set d4 (ep+1) t2:=by rw[putSet_of d4 t2 d]
    have x1:(Obj.putSet d4 t2 o).ExactSet:=by rw[putSet_of d4 t2 d];exact⟨xs.1,xs.2.1,xs.2.2⟩
    obtain⟨T3,l3⟩:=Ld (SetTable.grown d4.size) T2;have p3:=relayAll_perm t2 d4 (SetTable.grown d4.size)
    have hs3:(relayAll t2 d4 (SetTable.grown d4.size)).1.size<scanBound:=by
     have:=p3.length_eq;rw[Array.length_toList,Array.length_toList]at this;omega
    obtain⟨k3,q3,pr3⟩:=Lf p3 pr1;refine Zw (wpAny_storeSet_of e1 d1 ?_ (fits_of_scanBound hs3));exact Zv ⟨Zj,_,B1.trans (Heap.SameBut.update _ _ _),d7.put e1 x1 d1 T3 (l3.trans d9) (q3.trans pk1) pr3 hs3,Zj⟩
   ·exact Zv ⟨Zj,_,B1,S1,Zj⟩
  have out:∀ {b:Option Bool}{s':W4},(b=some true/\∃h',Heap.SameBut a s.heap h'/\d7 knd h' a (k::ks) led/\s'={ s with heap:=h' })->wpAny (model prog w) A (match b with |some added=>pure added |none=>setAddHashedIn a x (knd.hash k) 99999) Q E s':=λ{b s'} hb=>by
   obtain⟨rfl,h',B,S,rfl⟩:=hb;exact Zv (h2 hm h' B S)
  refine Zu (Q:=λb s'=>b=some true/\∃h',Heap.SameBut a s.heap h'/\d7 knd h' a (k::ks) led/\s'={ s with heap:=h' }) ?_ (λb s' hb=>out hb) (λ_ _ z=>z)
  have gw:∀(b:Bool) (aI:W4) (Q':Unit->W4->Prop),Q' () aI->wpAny (model prog w) A (match b with |true=>rule "set.scan.the-table-gave-way" |false=>pure ()) Q' E aI:=λb aI Q' dZ=>by
   cases b
   ·exact Zv dZ
   ·show wpAny _ _ (rule _) _ _ _
    wp_step
    exact dZ
  refine Zw (gw gv s _ ?_)
  have go:∀byv:Bool,wpAny (model prog w) A (do storeSet a d4 (if byv=true then t1 else { t1 with plain:=false });if (!wd&&(if byv=true then t1 else { t1 with plain:=false }).tooFull)=true then (do (match (relayAll (if byv=true then t1 else { t1 with plain:=false }) d4 (SetTable.grown d4.size)).2.2 with |true=>rule "set.scan.the-table-gave-way" |false=>pure ());storeSet a (relayAll (if byv=true then t1 else { t1 with plain:=false }) d4 (SetTable.grown d4.size)).1 (relayAll (if byv=true then t1 else { t1 with plain:=false }) d4 (SetTable.grown d4.size)).2.1;pure (some true))else pure (some true)) (λb s'=>b=some true/\∃h',Heap.SameBut a s.heap h'/\d7 knd h' a (k::ks) led/\s'={ s with heap:=h' }) E s:=λbyv=>by
   cases byv
   ·exact fin _ (RY false T1) l1 _ gw
   ·exact fin _ T1 l1 _ gw
  split
  ·rw[hashByValue_scannable 8 hsc];refine Zw (Zv ?_);exact go _
  ·exact go true
end
theorem KG:entryFor table "set.__new__" = some Builtin.«set.__new__»:=entryFor_of_tree qd
theorem Es:entryFor table "set.update.loop" = some Builtin.«set.update.loop»:=entryFor_of_tree qd
theorem CL:plainId "set.update.loop" = true:=by decide +kernel
noncomputable abbrev DU (w:World):Bool:=!w.params.followText "set-order"
theorem Lg {prog:Program} (a:Value) {Q₁:VS} (h:Q₁ (.ref s.heap.objs.size) { s with heap:=s.heap.push { cls:=.type "set", data:=.set #[] 0 (SetTable.fresh 0 0 (DU w)) } }) :
  codeAny (model prog w) A (.call (.builtin "set.__new__") ⟨[.type "set", a],[]⟩) (wants Q₁ E) s:=by
 refine codeAny_call_builtin qb KG ?_;rw[PySem.F.newCall_set_1];refine Zv ?_;unfold Builtin.«set.__new__»;refine Zw ?_;unfold Builtin.Frozenset.newClass;refine Zw ?_;have ht:isType (.type "set")=pure true:=by rfl
 rw[ht];refine Zv ?_;show wpAny _ _ (isSubtype (.type "set") (.type "set") >>= _) _ _ _;rw[PySem.F.called_set.sub];refine Zw (Zv (Zv ?_));refine Zw ?_;unfold newSet setsByText;refine Zw (Zw (wpAny_askSetting (Zv ?_)));show wpAny _ _ (newObj (.type "set") (.set #[] 0 (SetTable.fresh 0 0 (DU w)))) _ _ _;exact wpAny_newObj_type (Zv h)
noncomputable def Dl (P:Program) (w:World) (a:W3) (ks:List Key):HO:=.ext λh=>d7 (Af P w) h a ks (DU w)
theorem Ra {ks:List Key} (hs:d7 (Af P w) h a ks (DU w)):aT P w H h a (Dl P w a ks):=by
 refine⟨hs,?_,λh1 h2 s1 hk=>?_⟩
 ·obtain⟨o,_,_,_,_,e,_⟩:=hs;exact⟨o,e⟩
 ·obtain⟨o,ar,ep,t,eX,e,r⟩:=s1;exact⟨o,ar,ep,t,eX,hk _ e,r⟩
theorem Rb {ks:List Key} (aE:cV P w H h) (e:H a=some (Dl P w a ks)):d7 (Af P w) h a ks (DU w):=(aE a _ e).1
open Classical in
noncomputable def Em (acc:List Key) (k:Key):List Key:=if k∈acc then acc else k::acc
theorem Lh (acc:List Key) (k:Key):(Em acc k).length<=acc.length+1:=by
 unfold Em;split <;> simp
theorem NU {acc:List Key} (h:acc.Nodup) (k:Key):(Em acc k).Nodup:=by
 unfold Em;split
 ·exact h
 ·rename_i hk;exact Zr.mpr ⟨hk,h⟩
theorem Rc {acc:List Key}{k x:Key}:x∈Em acc k ↔ x=k\/x∈acc:=by
 unfold Em;split
 ·rename_i hk;exact⟨.inr,λh=>h.elim (λe=>e ▸ hk) id⟩
 ·exact mem_cons
theorem Re {k:Key}{v:Value} (h:(Af P w).is k v=true):v.scannable=true:=by
 cases v <;> first |rfl | (cases k <;> cases h)
section
variable {R:Result->W4->Prop}{it p:W3}{ks:List Key}
noncomputable def CD (acc ks:List Key):List Key:=ks.foldl Em acc
theorem IG:∀(ks acc:List Key),(CD acc ks).length<=acc.length+ks.length
 | [],acc=>Zx _
 |k::r,acc=>by
  have h1:=IG r (Em acc k);have h2:=Lh acc k;show(CD (Em acc k) r).length<=_;rw[length_cons];omega
theorem Rf (hA:A.in1.handled=none) (hpa:p≠a) (dh:p≠it) (hz:ks.length<=1000)
  (hqs:∀acc,aJ X.K (upd H p (Dl X.prog X.w p acc)) a (ks.map kV)) (f0:∀acc,(upd H p (Dl X.prog X.w p acc)) it=none) (f1:it≠X.env.locals) (f3:it∈X.ex\/X.aX.heap.objs.size<=it) (f4:∀(x:Str) (c:W3),X.env.cells.lookup x=some c->c≠it) (f5:∀q:W3×Obj,q∈X.pn++aa->q.1≠it) :
  ∀(k i:Nat) (s:W4) (acc:List Key),ks.length - i=k->i<=ks.length->acc.length<=i->Inv X aa σ (upd H p (Dl X.prog X.w p acc)) s->s.heap.IsListIter it a i->(∀s',Inv X aa σ (upd H p (Dl X.prog X.w p (CD acc (ks.drop i)))) s'->R (.ok (.ret .none)) s') ->
   codeAny (model X.prog X.w) A (.builtin "set.update.loop" ⟨[.ref p,.ref it],[]⟩) R s:=by
 intro k;induction k with
 |zero =>
  intro i s acc hk hi hkl I st hR;have fA:i=ks.length:=by omega
  obtain⟨its,rv,pl,_⟩:=I.list (hqs acc);have bh:=rv.length;refine codeAny_builtin Es ?_;rw[Around.under_plainId CL _];show wpAny _ A.in1 (pyNext (.ref it) >>= _) _ _ s;refine Zw (wpAny_pyNext_list_end hA st pl.isList (by rw[AE]at bh;simp;omega) λh' eb=>?_);refine Zv (hR _ ?_);have e:CD acc (ks.drop i)=acc:=by rw[fA,List.drop_length];rfl
  rw[e];exact I.turned (t':=s.toks) (λb o hb e=>eb b o hb e) (f0 acc) f1 f3 f4 f5
 |succ k ih =>
  intro i s acc hk hi hkl I st hR;have hlt:i<ks.length:=by omega
  obtain⟨its,rv,pl,_⟩:=I.list (hqs acc);have hki:ks[i]?=some ks[i]:=Z7 hlt;obtain⟨u,hu,ru⟩:=rv.get (i:=i) (x:=kV ks[i]) (by rw[ZG,hki];rfl);have hx:=En (P:=X.prog) (w:=X.w) ru;refine codeAny_builtin Es ?_;rw[Around.under_plainId CL _];show wpAny _ A.in1 (pyNext (.ref it) >>= _) _ _ s;refine Zw (wpAny_pyNext_list_item st pl.isList (x:=u) (by simpa using hu) λh' eQ sb=>?_);have I1:Inv X aa σ (upd H p (Dl X.prog X.w p acc)) { s with heap:=h' }:=I.turned (t':=s.toks) (λb o hb e=>(sb.2 b hb).trans e) (f0 acc) f1 f3 f4 f5;have hp:(upd H p (Dl X.prog X.w p acc)) p=some (Dl X.prog X.w p acc):=AB;have SX:=Rb I1.aE hp;have e3:ks.drop i=ks[i]::ks.drop (i+1):=List.drop_eq_getElem_cons hlt
  have hb:acc.length+1<scanBound:=by
   have:(4096:Nat)=scanBound:=rfl;omega
  have hln:=Lh acc ks[i];show wpAny _ A.in1 (holding [u] (setAdd p u) >>= _) _ _ _;refine Zw (ZL ?_);unfold setAdd;refine ZL (Zw ((Af X.prog X.w).pyHash hx ?_));refine Wn hx (Re hx) SX hb (λhm=>?_) (λhm h2 sb2 SX2=>?_)
  ·refine Zv ⟨plainId_quiet CL _,?_⟩;have ea:Em acc ks[i]=acc:=by unfold Em;rw[Zo hm]
   refine ih (i+1) _ acc qe qe qe (I1.tok _) eQ (λs' I'=>hR s' ?_);rw[e3];show Inv X aa σ (upd H p (Dl X.prog X.w p (CD (Em acc ks[i]) (ks.drop (i+1))))) s';rw[ea];exact I'
  ·refine Zv ⟨plainId_quiet CL _,?_⟩;have ea:Em acc ks[i]=ks[i]::acc:=by unfold Em;rw[Zp hm]
   have I2:=Ee (t':=s.toks+1) (I1.tok _) (by rw[hp];exact True.intro) sb2 (let ⟨q,_,_,_,_,dZ,_⟩:=SX2;⟨q,dZ⟩) (Ra (H:=upd (upd H p (Dl X.prog X.w p acc)) p (Dl X.prog X.w p (ks[i]::acc))) SX2);rw[N0]at I2;refine ih (i+1) _ (ks[i]::acc) qe qe (by simp;omega) I2 (eQ.extBut sb2.extBut (Ne.symm dh)) (λs' I'=>hR s' ?_);rw[e3];show Inv X aa σ (upd H p (Dl X.prog X.w p (CD (Em acc ks[i]) (ks.drop (i+1))))) s';rw[ea];exact I'
end
theorem KH {prog:Program}{a:Value}{Q Q₁:VS}
  (cb:codeAny (model prog w) A.in1 (.call (.builtin "set.__new__") ⟨[.type "set", a],[]⟩) (wants Q₁ E) s)
  (hnext:∀obj aI,Q₁ obj aI->aI.TypeIs obj "set" /\
   wpAny (model prog w) A.in1.in1 (Builtin.«set.__init__» ⟨[obj,a],[]⟩)
    (λfin s'=>match fin with | .done f=>wants (λr s₂=>r=.none/\Q obj s₂) E (.ok f) s' | .again c'=>c'.quiet=true/\codeAny (model prog w) A.in1 c' (wants (λr s₂=>r=.none/\Q obj s₂) E) s')
    (λe s'=>wants (λr s₂=>r=.none/\Q obj s₂) E (.error e) s') aI) :
  wpAny (model prog w) A (call (.type "set") [a]) Q E s:=by
 have ft:=PySem.F.called_set;obtain⟨c,tl,cf⟩:=ft.mro;have hmade:=ft.made;have ci:=ft.sub;have hct:=PySem.F.typeCall_set_1 a;refine wpAny_call (codeAny_of_tree ?_);show wpAny _ _ (callAny (.type "set") _) _ _ _;refine Zv ⟨Code.quiet_builtin _ qb,codeAny_builtin PySem.F.entry_type_call ?_⟩;rw[Around.under_plain (weight_type_call_type "set" [a] []) rfl];have h1:=ft.notType;have h2:=ft.canCreate
 repeat (any_goals (first |assumption |wp_step))
 refine codeAny_mono cb λr aI hr=>?_;cases r with
 |error e=>exact hr
 |ok fl =>
  cases fl with
  |ret obj =>
   obtain⟨hT,hsi⟩:=hnext _ _ hr;have hli:=ft.init.lookup;have hbi:=ft.init.bind obj
   repeat (any_goals (first |assumption |wp_step))
   refine codeAny_mono (codeAny_call_builtin ft.init.plain PySem.F.entry_set_init (check_set_init_1 hT hsi)) λr₂ s₂ hr₂=>?_;cases r₂ with
   |error e=>exact hr₂
   |ok fl₂ =>
    cases fl₂ with
    |ret r =>
     obtain⟨rfl,hq⟩:=hr₂
     repeat (any_goals (first |assumption |wp_step))
    |_=>exact hr₂.elim
  |_=>exact hr.elim
section
theorem Pr {d:W3} (e:h.get? d=some { cls:=.type "set", data:=.set #[] 0 (SetTable.fresh 0 0 (DU w)) }):d7 (Af P w) h d [] (DU w) :=
 ⟨_,#[],0,_,[],e,⟨rfl,rfl,rfl⟩,rfl,RZ _ _ _,rfl,List.Perm.refl _,.nil,qc⟩
theorem Ps (hc:X.calm=true):BZ X (.type "set") (λxs H Q=>∃(a:W3) (ks:List Key),xs=[.ref a]/\aJ X.K H a (ks.map kV)/\ks.length<=1000 /\
  ∀p,H p=none->Q (.ref p) (upd H p (Dl X.prog X.w p (CD [] ks)))):=by
 intro aa s σ H xs us Q I r h;obtain⟨a,ks,rfl,hq,hz,q⟩:=h;obtain⟨u,rfl,ru⟩:=Bu r;cases (show u=Value.ref a from ru);have hp0:H s.heap.objs.size=none:=I.aE.fresh (Zx _)
 have sH:∀o,aA H (upd H s.heap.objs.size o):=λo b v e=>by
  rw[AH (AJ e hp0)];exact e
 refine KH (Q₁:=λobj aI=>obj=.ref s.heap.objs.size/\aI={ s with heap:=s.heap.push { cls:=.type "set", data:=.set #[] 0 (SetTable.fresh 0 0 (DU X.w)) } }) (Lg _ ⟨Zj,Zj⟩) ?_;rintro obj aI ⟨rfl,rfl⟩;have hS:(s.heap.push { cls:=.type "set", data:=.set #[] 0 (SetTable.fresh 0 0 (DU X.w)) }).get? s.heap.objs.size=some { cls:=.type "set", data:=.set #[] 0 (SetTable.fresh 0 0 (DU X.w)) }:=ZO _ rfl;have I1:Inv X aa σ (upd H s.heap.objs.size (Dl X.prog X.w s.heap.objs.size [])) { s with heap:=s.heap.push { cls:=.type "set", data:=.set #[] 0 (SetTable.fresh 0 0 (DU X.w)) } }:=I.laid (a:=s.heap.objs.size) (o:=Dl X.prog X.w s.heap.objs.size []) (t':=s.toks) (λ_ _ q=>ZY _ q) (Zx _) (Ra (Pr hS));obtain⟨its,rv,pl,_⟩:=I1.list ((sH _).seq hq);have hTd:Shared.TypeIs { s with heap:=s.heap.push { cls:=.type "set", data:=.set #[] 0 (SetTable.fresh 0 0 (DU X.w)) } } (.ref s.heap.objs.size) "set" := ⟨_,hS,rfl⟩;refine⟨hTd,?_⟩;have hA:X.A.handled=none:=I.ok.hd hc;have hA2:X.A.in1.in1.in1.handled=none:=hA;obtain⟨its0,_,⟨o0,_,e0,_⟩,_⟩:=I.list hq;have a0:a<s.heap.objs.size:=lt_size e0;have hl1:=pl.isList;obtain⟨ol,nl,hol,ai,hdl,cg⟩:=id pl;obtain⟨ocls,odict,odata,oslots⟩:=ol;simp only at ai cg;subst ai;have hsls:=PySem.F.sub_list_set;have hslf:=PySem.F.sub_list_frozenset;have bc:(Value.type "list" == Value.type "dict")=false:=by decide
 unfold Builtin.«set.__init__» noKeywords Builtin.Frozenset.updateFrom;generalize hPI:pyIter=PI
 wp_walk
 subst hPI;refine wpAny_pyIter_list hl1 ?_;refine Zw (wpAny_runValue ?_);have hsz:(s.heap.push { cls:=.type "set", data:=.set #[] 0 (SetTable.fresh 0 0 (DU X.w)) }).objs.size=s.heap.objs.size+1:=Heap.size_push _ _;have cn:s.heap.objs.size≠(s.heap.push { cls:=.type "set", data:=.set #[] 0 (SetTable.fresh 0 0 (DU X.w)) }).objs.size:=by rw[hsz];exact ZE (Nat.lt_succ_self _)
 have iR:(upd H s.heap.objs.size (Dl X.prog X.w s.heap.objs.size [])) (s.heap.push { cls:=.type "set", data:=.set #[] 0 (SetTable.fresh 0 0 (DU X.w)) }).objs.size=none:=I1.aE.fresh (Zx _);obtain⟨_,f1,_,f3,f4,f5⟩:=I1.eJ (Zx (s.heap.push { cls:=.type "set", data:=.set #[] 0 (SetTable.fresh 0 0 (DU X.w)) }).objs.size) iR;have I3:Inv X aa σ (upd H s.heap.objs.size (Dl X.prog X.w s.heap.objs.size [])) { s with heap:=(s.heap.push { cls:=.type "set", data:=.set #[] 0 (SetTable.fresh 0 0 (DU X.w)) }).push { cls:=.type "list_iterator", data:=.fields #[.ref a,.int 0 0] } }:=I1.kept (t':=s.toks) λb o e=>ZY _ e;refine Rf (X:=X) (aa:=aa) (σ:=σ) (H:=H) (a:=a) (it:=(s.heap.push { cls:=.type "set", data:=.set #[] 0 (SetTable.fresh 0 0 (DU X.w)) }).objs.size) (p:=s.heap.objs.size) (ks:=ks) hA2 (Nat.ne_of_gt a0) cn hz (λacc=>(sH _).seq hq) (λacc=>?_) f1 f3 f4 f5 (ks.length - 0) 0 _ [] qe (Nat.zero_le _) (Zx _) I3 ⟨_,ZO _ Zj,Zj,Zj⟩ (λs' I'=>?_)
 ·rw[AH (Ne.symm cn)];rw[AH (Ne.symm cn)]at iR;exact iR
 ·show wpAny _ _ _ _ _ _;refine Zv ?_;show wpAny _ _ (ret Value.none) _ _ _;exact Zv ⟨Zj,.ref s.heap.objs.size,_,I',Zj,q _ hp0⟩
end
theorem aF:Slot "set_iterator" "__next__" "set_iterator.__next__" :=
 .of (owner := "set_iterator") (n := "__next__") (by rw[typeLookup_type,builtinLookup_eq_fast];kernel_rfl) qb qb qb
  (by first |exact .inl qb |exact .inr qb) (by rw[isSubtype_type];kernel_rfl)
theorem Bh:entryFor table "set_iterator.__next__" = some Builtin.«set_iterator.__next__»:=entryFor_of_tree qd
theorem Bt (a:Value):argsOk "set_iterator.__next__" ⟨[a],[]⟩:=by unfold argsOk;kernel_rfl
theorem IH:entryFor table "set.__iter__" = some Builtin.«frozenset.__iter__»:=entryFor_alias (id' := "frozenset.__iter__") qd (by first |rfl |decide +kernel) qb qd
theorem E6 {α:Type}:∀(xs:List α) (i:Nat) (h:i<xs.length),(xs[i]::xs.eraseIdx i).Perm xs
 | [],i,h=>absurd h (Nat.not_lt_zero _)
 |x::r,0,h=>List.Perm.refl _
 |x::r,i+1,h=>(List.Perm.swap ..).trans ((E6 r i (Nat.lt_of_succ_lt_succ h)).cons x)
def gm (h:Heap) (I a:W3) (first:Value) (i n ep:Nat):Prop:=∃o,h.get? I=some o/\o.cls=.type "set_iterator" /\ o.data=.fields #[first,.int i 0,.ref a,.int n 0,.int ep 0]
theorem gm.typeIs {I a first i n ep} (x:gm s.heap I a first i n ep):s.TypeIs (.ref I) "set_iterator" := let ⟨o,ho,hc,_⟩:=x;⟨o,ho,hc⟩
section
variable {prog:Program}
theorem KJ {src:Source}{n:Nat}{Q:Nat->W4->Prop} (hn:n≠0) (h:∀i d,i<n->Q i { s with drawn:=d }):wpAny (model prog w) A (choose src n) Q E s:=λΓ p hΓ=>⟨hn,h _ _ (Nat.mod_lt _ (Nat.pos_of_ne_zero hn))⟩
theorem D6 {α:Type}:∀(n:Nat) (xs:List α) (s:W4) {Q:List α->W4->Prop},xs.length<=n->(∀ys d,List.Perm ys xs->Q ys { s with drawn:=d })->wpAny (model prog w) A (drawOrder n xs) Q E s
 |0,xs,s,Q,hl,h=>by
  have e:xs=[]:=List.length_eq_zero_iff.mp (Nat.le_zero.mp hl);subst e;unfold drawOrder;exact Zv (h _ s.drawn (List.Perm.refl _))
 |n+1,[],s,Q,hl,h=>by
  unfold drawOrder;exact Zv (h _ s.drawn (List.Perm.refl _))
 |n+1,x::r,s,Q,hl,h=>by
  unfold drawOrder;refine Zw (KJ (by simp) λi d hi=>?_);rw[Z7 hi]
  have bh:((x::r).eraseIdx i).length<=n:=by
   rw[List.length_eraseIdx,Zo hi];simp at hl ⊢;omega
  refine Zw (D6 n _ _ bh λys d' hp=>Zv (h _ d' ?_));exact(hp.cons _).trans (E6 _ _ hi)
theorem OV {α:Type} (next:Nat->Nat):∀(fuel k:Nat) (left:List α) (out:Array α),left.length<=fuel->(pickOrder.go next fuel k left out).toList.Perm (out.toList++left)
 |0,k,left,out,h=>by
  have e:left=[]:=List.length_eq_zero_iff.mp (Nat.le_zero.mp h);subst e;unfold pickOrder.go;simp
 |fuel+1,k,[],out,h=>by
  unfold pickOrder.go;simp
 |fuel+1,k,x::r,out,h=>by
  unfold pickOrder.go;have hi:next k % (x::r).length<(x::r).length:=Nat.mod_lt _ (by simp)
  rw[Z7 hi]
  have bh:((x::r).eraseIdx (next k % (x::r).length)).length<=fuel:=by
   rw[List.length_eraseIdx,Zo hi];simp at h ⊢;omega
  refine(OV next fuel (k+1) _ _ bh).trans ?_;rw[Array.toList_push,List.append_assoc];exact(E6 _ _ hi).append_left _
theorem Ja {α:Type} (next:Nat->Nat) (xs:Array α):(pickOrder next xs).toList.Perm xs.toList:=by
 unfold pickOrder;exact(OV next xs.size 0 xs.toList #[] (by simp)).trans (by simp)
section
variable {I:W3}{slot nx i n ep:Nat}{o:Obj}{ar:Array (Int×Value)}{t:SetTable}{x:Value}{Q:Option Value->W4->Prop}
theorem Fl (hit:gm s.heap I a (.int slot 0) i n ep) (ho:s.heap.get? a=some o) (hd:o.data=.set ar ep t) (hf:t.fits ar.size=true) (hn:ar.size=n)
  (hN:∀ {A:Around}{E:VS}{Q:Option (Value×Nat)->W4->Prop},Q (some (x,nx)) s->wpAny (model prog w) A (setNext a slot i ep) Q E s)
  (hQ:∀h',gm h' I a (.int nx 0) (i+1) n ep->Heap.SameBut I s.heap h'->Q (some x) { s with heap:=h' }):wpAny (model prog w) A (pyNext (.ref I)) Q E s:=by
 obtain⟨oi,gD,hci,eP⟩:=id hit;unfold pyNext
 refine Zw (wpAny_attempt (wpAny_callSpecial?_slot (name:=Str.ofString "__next__") hit.typeIs aF
  (wpAny_call_entry aF hit.typeIs Bh ?_ (Bt _))))
 unfold Builtin.«set_iterator.__next__»;refine Zw (Zv ?_);refine Zw (wpAny_fieldsOf gD eP ?_);show wpAny _ _ (setEntries a >>= _) _ _ _;refine Zw (wpAny_setEntries_of ho hd hf ?_);rw[Zp (by rw[hn];simp)];show wpAny _ _ (setNext a slot i ep >>= _) _ _ _;refine Zw (hN ?_);show wpAny _ _ (setField (.ref I) 0 (rawInt nx) >>= _) _ _ _;refine Zw (wpAny_setField gD eP (by simp) ?_);have cw:=ZV (Obj.mapFields (·.setIfInBounds 0 (rawInt nx))) gD (Obj.isFreed_of_fields (Obj.data_mapFields eP _));have gx:=Obj.data_mapFields eP (·.setIfInBounds 0 (rawInt nx));show wpAny _ _ (setField (.ref I) 1 (rawInt ((i:Int)+1)) >>= _) _ _ _;refine Zw (wpAny_setField cw gx (by simp) ?_);refine Zv ⟨_,Zj,Zv (hQ _ ?_ ((Heap.SameBut.update ..).trans (Heap.SameBut.update ..)))⟩;exact⟨_,ZV _ cw (Obj.isFreed_of_fields (Obj.data_mapFields gx _)),(Obj.cls_mapFields ..).trans ((Obj.cls_mapFields ..).trans hci),by rw[Obj.data_mapFields gx];simp[rawInt]⟩
theorem G1 (hh:A.handled=none) (hit:gm s.heap I a (.int slot 0) i n ep) (ho:s.heap.get? a=some o) (hd:o.data=.set ar ep t) (hf:t.fits ar.size=true) (hn:ar.size=n)
  (hN:∀ {A:Around}{E:VS}{Q:Option (Value×Nat)->W4->Prop},Q none s->wpAny (model prog w) A (setNext a slot i ep) Q E s)
  (hQ:∀h',Heap.ExtBut I s.heap h'->Q none { s with heap:=h' }):wpAny (model prog w) A (pyNext (.ref I)) Q E s:=by
 obtain⟨oi,gD,hci,eP⟩:=id hit;unfold pyNext
 refine Zw (wpAny_attempt (wpAny_callSpecial?_slot (name:=Str.ofString "__next__") hit.typeIs aF
  (wpAny_call_entry aF hit.typeIs Bh ?_ (Bt _))))
 unfold Builtin.«set_iterator.__next__»;refine Zw (Zv ?_);refine Zw (wpAny_fieldsOf gD eP ?_);show wpAny _ _ (setEntries a >>= _) _ _ _;refine Zw (wpAny_setEntries_of ho hd hf ?_);rw[Zp (by rw[hn];simp)];show wpAny _ _ (setNext a slot i ep >>= _) _ _ _;refine Zw (hN ?_);show wpAny _ _ (setField (.ref I) 2 .none >>= _) _ _ _;refine Zw (wpAny_setField gD eP (by simp) ?_);show wpAny _ _ (newExc (.type "StopIteration") [] >>= _) _ _ _;refine Zw ?_;simp only[newExc,newTuple];refine Zw (wpAny_newObj_type ?_ (by size_fits));refine Zw (m:=firstArgMember _ _) (wpAny_of_eq (a:=Value.none) (by first |rfl | (simp only[firstArgMember];rfl)) ?_);refine wpAny_newObj_type ?_ (by size_fits);simp only[raiseNew];refine Zw (wpAny_handled ?_);rw[show A.in1.handled=none from hh];refine Zw (Zv (wpAny_throw ?_));refine Zw (wpAny_isInstance (T := "StopIteration") (b:=true) ⟨_,ZO _ Zj,Zj⟩ isSubtype_stop ?_);exact Zv (hQ _ (((Heap.SameBut.update ..).extBut.push _).push _))
theorem KK {T:W3}{ot:Obj}{tp:Array Value}{m pl:Nat}{hx:Int} (hit:gm s.heap I a (.ref T) i n ep) (ho:s.heap.get? a=some o) (hd:o.data=.set ar ep t) (hf:t.fits ar.size=true) (hn:ar.size=n)
  (hT:s.heap.get? T=some ot) (htd:ot.data=.seq tp m) (hi:tp[i]?=some (.int pl 0)) (he:ar[pl]?=some (hx,x))
  (hQ:∀h',gm h' I a (.ref T) (i+1) n ep->Heap.SameBut I s.heap h'->Q (some x) { s with heap:=h' }):wpAny (model prog w) A (pyNext (.ref I)) Q E s:=by
 obtain⟨oi,gD,hci,eP⟩:=id hit;unfold pyNext
 refine Zw (wpAny_attempt (wpAny_callSpecial?_slot (name:=Str.ofString "__next__") hit.typeIs aF
  (wpAny_call_entry aF hit.typeIs Bh ?_ (Bt _))))
 unfold Builtin.«set_iterator.__next__»;refine Zw (Zv ?_);refine Zw (wpAny_fieldsOf gD eP ?_);show wpAny _ _ (setEntries a >>= _) _ _ _;refine Zw (wpAny_setEntries_of ho hd hf ?_);rw[Zp (by rw[hn];simp)];show wpAny _ _ (seqItems? (.ref T) >>= _) _ _ _;refine Zw ?_;unfold seqItems?;refine Zw (wpAny_load hT ?_);rw[htd];refine Zv ?_
 dsimp only
 rw[Int.toNat_natCast,hi]
 dsimp only
 unfold setNextDrawn;refine Zw (Zw (wpAny_setState_of ho hd hf ?_))
 dsimp only
 rw[Zp (by simp),Int.toNat_natCast,he];refine Zv ?_;show wpAny _ _ (setField (.ref I) 1 (rawInt ((i:Int)+1)) >>= _) _ _ _;refine Zw (wpAny_setField gD eP (by simp) ?_);refine Zv ⟨_,Zj,Zv (hQ _ ?_ (Heap.SameBut.update ..))⟩;exact⟨_,ZV _ gD (Obj.isFreed_of_fields (Obj.data_mapFields eP _)),(Obj.cls_mapFields ..).trans hci,by rw[Obj.data_mapFields eP];simp[rawInt]⟩
theorem Li {T:W3}{ot:Obj}{tp:Array Value}{m:Nat} (hh:A.handled=none) (hit:gm s.heap I a (.ref T) i n ep) (ho:s.heap.get? a=some o) (hd:o.data=.set ar ep t) (hf:t.fits ar.size=true) (hn:ar.size=n)
  (hT:s.heap.get? T=some ot) (htd:ot.data=.seq tp m) (hi:tp[i]?=none)
  (hQ:∀h',Heap.ExtBut I s.heap h'->Q none { s with heap:=h' }):wpAny (model prog w) A (pyNext (.ref I)) Q E s:=by
 obtain⟨oi,gD,hci,eP⟩:=id hit;unfold pyNext
 refine Zw (wpAny_attempt (wpAny_callSpecial?_slot (name:=Str.ofString "__next__") hit.typeIs aF
  (wpAny_call_entry aF hit.typeIs Bh ?_ (Bt _))))
 unfold Builtin.«set_iterator.__next__»;refine Zw (Zv ?_);refine Zw (wpAny_fieldsOf gD eP ?_);show wpAny _ _ (setEntries a >>= _) _ _ _;refine Zw (wpAny_setEntries_of ho hd hf ?_);rw[Zp (by rw[hn];simp)];show wpAny _ _ (seqItems? (.ref T) >>= _) _ _ _;refine Zw ?_;unfold seqItems?;refine Zw (wpAny_load hT ?_);rw[htd];refine Zv ?_
 dsimp only
 rw[Int.toNat_natCast,hi]
 dsimp only
 refine Zw (wpAny_setField gD eP (by simp) ?_);have cw:=ZV (Obj.mapFields (·.setIfInBounds 0 (rawInt 0))) gD (Obj.isFreed_of_fields (Obj.data_mapFields eP _));have gx:=Obj.data_mapFields eP (·.setIfInBounds 0 (rawInt 0));refine Zw (wpAny_setField cw gx (by simp) ?_);show wpAny _ _ (newExc (.type "StopIteration") [] >>= _) _ _ _;refine Zw ?_;simp only[newExc,newTuple];refine Zw (wpAny_newObj_type ?_ (by size_fits));refine Zw (m:=firstArgMember _ _) (wpAny_of_eq (a:=Value.none) (by first |rfl | (simp only[firstArgMember];rfl)) ?_);refine wpAny_newObj_type ?_ (by size_fits);simp only[raiseNew];refine Zw (wpAny_handled ?_);rw[show A.in1.handled=none from hh];refine Zw (Zv (wpAny_throw ?_));refine Zw (wpAny_isInstance (T := "StopIteration") (b:=true) ⟨_,ZO _ Zj,Zj⟩ isSubtype_stop ?_);exact Zv (hQ _ ((((Heap.SameBut.update ..).trans (Heap.SameBut.update ..)).extBut.push _).push _))
end
end
theorem D7:Slot "set_iterator" "__iter__" "set_iterator.__iter__" :=
 .of (owner := "set_iterator") (n := "__iter__") (by rw[typeLookup_type,builtinLookup_eq_fast];kernel_rfl) qb qb qb
  (by first |exact .inl qb |exact .inr qb) (by rw[isSubtype_type];kernel_rfl)
theorem GY:entryFor table "set_iterator.__iter__" = some Builtin.«dict_keyiterator.__iter__»:=entryFor_alias (id' := "dict_keyiterator.__iter__") qd (by first |rfl |decide +kernel) qb qd
theorem HE (a:Value):argsOk "set_iterator.__iter__" ⟨[a],[]⟩:=by unfold argsOk;kernel_rfl
theorem gm.at {h':Heap}{I a first i n ep} (x:gm h I a first i n ep) (e:∀o,h.get? I=some o->h'.get? I=some o):gm h' I a first i n ep:=let ⟨o,ho,r⟩:=x;⟨o,e _ ho,r⟩
section
variable {prog:Program}{I T:W3}{n ep:Nat}{o ot:Obj}{ar:Array (Int×Value)}{t:SetTable}
theorem NV {first:Value}{i:Nat}{Q:VS} (hit:gm s.heap I a first i n ep) (h:Q (.ref I) s):wpAny (model prog w) A (pyIter (.ref I)) Q E s:=by
 refine wpAny_pyIter_slot hit.typeIs D7 (wpAny_call_entry D7 hit.typeIs GY ?_ (HE _));show wpAny _ _ (ret (.ref I)) _ _ s;exact Zv ⟨_,Zj, "set_iterator", _,hit.typeIs,aF.lookup,h⟩
theorem GZ {G:Nat->Value->Prop}{vs:Wx} (iV:a≠I) (hTI:T≠I)
  (hIt:∀i (s:W4) first,i<n->s.heap.get? a=some o->s.heap.get? T=some ot->gm s.heap I a first i n ep->G i first->∀(Q:Option Value->W4->Prop) (E:VS),(∀first' h' v,vs[i]?=some v->gm h' I a first' (i+1) n ep->G (i+1) first'->Heap.SameBut I s.heap h'->Q (some v) { s with heap:=h' })->wpAny (model prog w) A (pyNext (.ref I)) Q E s)
  (hEn:∀(s:W4) first,s.heap.get? a=some o->s.heap.get? T=some ot->gm s.heap I a first n n ep->G n first->∀(Q:Option Value->W4->Prop) (E:VS),(∀h',Heap.ExtBut I s.heap h'->Q none { s with heap:=h' })->wpAny (model prog w) A (pyNext (.ref I)) Q E s) :
  WalksS prog w A I [I,a,T] [I] (λa b=>b=a) n (λi v=>vs[i]?=some v) (λi s=>s.heap.get? a=some o/\s.heap.get? T=some ot/\∃first,gm s.heap I a first i n ep/\G i first) where
 sub:=λb hb=>by simp at hb;simp[hb]
 grefl:=λ_=>rfl
 gtrans:=λ_ _ _ h1 h2=>h2.trans h1
 frame:=λi s h' tk st _ hk=>⟨hk a (by simp) _ st.1,hk T (by simp) _ st.2.1,let ⟨f,x,g⟩:=st.2.2;⟨f,x.at λo e=>hk I (by simp) o e,g⟩⟩
 item:=λi s Q E hi st hQ=>by
  obtain⟨ha,hT,first,hit,g⟩:=st;refine hIt i s first hi ha hT hit g Q E λfirst' h' v hv dY g' sb=>?_
  exact hQ v _ hv ⟨(sb.2 a iV).trans ha,(sb.2 T hTI).trans hT,first',dY,g'⟩ ⟨λb ob hb e=>(sb.2 b (λz=>hb (by simp[z]))).trans e,Zj,Zj,Zj,Zx _⟩
 done:=λs Q E st hQ=>by
  obtain⟨ha,hT,first,hit,g⟩:=st;exact hEn s first ha hT hit g Q E λh' eb=>hQ _ ⟨λb ob hb e=>eb b ob (λz=>hb (by simp[z])) e,Zj,Zj,Zj,Zx _⟩
 self:=λi s Q E st hQ=>let ⟨_,_,f,x,_⟩:=st;NV x hQ
theorem NW {xs:Array Nat} (hs:Fh xs):SetTable.below xs 0=0:=by
 have B:=Fi hs 0;rcases Nat.eq_zero_or_pos (SetTable.below xs 0)with h |h
 ·exact h
 ·exact absurd (B.lo 0 (Z2 h B.le) h) (Nat.not_lt_zero _)
theorem NX {xs:Array Nat} (hs:Fh xs) {i:Nat} (hi:i<xs.size):SetTable.below xs (xs[i]+1)=i+1:=by
 have B:=Fi hs (xs[i]+1)
 have h1:i<SetTable.below xs (xs[i]+1):=by
  rcases Nat.lt_or_ge i (SetTable.below xs (xs[i]+1))with h |h
  ·exact h
  ·exact absurd (B.hi i hi h) qe
 have h2:SetTable.below xs (xs[i]+1)<=i+1:=by
  rcases Nat.lt_or_ge (i+1) (SetTable.below xs (xs[i]+1))with h |h
  ·have hlt:=Z2 h B.le;have h3:=B.lo (i+1) hlt h;have h4:=hs i (i+1) hi hlt (Nat.lt_succ_self _);omega
  ·exact h
 omega
theorem Jb {slot i:Nat}{Q:Option (Value×Nat)->W4->Prop} (ho:s.heap.get? a=some o) (hd:o.data=.set ar ep t) (hf:t.fits ar.size=true) (hw:w.params.followText "set-order" = true)
  (h:Q ((pickOrder (w.params.setOrder a ep) ar)[i]?.map λe=>(e.2,slot)) s):wpAny (model prog w) A (setNext a slot i ep) Q E s:=by
 unfold setNext;refine Zw (wpAny_setState_of ho hd hf ?_);unfold setsByText;refine Zw (Zw (wpAny_askSetting (Zv ?_)));show wpAny _ _ (if w.params.followText "set-order" = true then _ else _) _ _ _;rw[Zo hw];show wpAny _ _ (if (ep != ep)=true then _ else _) _ _ _;rw[Zp (by simp)];unfold setWalk;refine Zw (Zw (wpAny_setState_of ho hd hf ?_));unfold setsByText;refine Zw (Zw (wpAny_askSetting (Zv ?_)));show wpAny _ _ (if w.params.followText "set-order" = true then _ else _) _ _ _;rw[Zo hw];refine Zw (wpAny_askSetting (Zv ?_));exact Zv h
theorem Jc {slot i:Nat}{Q:Option (Value×Nat)->W4->Prop} (ho:s.heap.get? a=some o) (hd:o.data=.set ar ep t) (hf:t.fits ar.size=true) (hw:w.params.followText "set-order" = false) (hl:t.led=true) (hp:(!t.plain&&decide (ar.size>1))=false)
  (h:Q (match ar[SetTable.below t.place slot]?,t.place[SetTable.below t.place slot]? with |some (_,x),some j=>some (x,j+1) |_,_=>none) s):wpAny (model prog w) A (setNext a slot i ep) Q E s:=by
 unfold setNext;refine Zw (wpAny_setState_of ho hd hf ?_);unfold setsByText;refine Zw (Zw (wpAny_askSetting (Zv ?_)));show wpAny _ _ (if w.params.followText "set-order" = true then _ else _) _ _ _;rw[Zp (by rw[hw];decide)];show wpAny _ _ (if (!t.plain&&decide (ar.size>1))=true then _ else _) _ _ _;rw[Zp (by rw[hp];decide)];show wpAny _ _ ((if (!t.led && !ar.isEmpty)=true then unsupported _ else pure ()) >>= _) _ _ _;rw[Zp (by rw[hl];simp)];exact Zw (Zv (Zv h))
end
section
variable {prog:Program}{ep:Nat}{o:Obj}{ar:Array (Int×Value)}{t:SetTable}
theorem NY {α β:Type} (ar:Array α) (f:α->β) (z:β) {ys:List Nat} (hp:ys.Perm (List.range ar.size)):(ys.map λi=>(ar[i]?.map f).getD z).Perm (ar.toList.map f):=by
 refine(hp.map _).trans (List.Perm.of_eq ?_);refine List.ext_getElem (by simp) λi h1 h2=>?_;simp at h1 h2;simp[h2]
theorem NZ {Q:VS} (hx:o.ExactSet) (ho:s.heap.get? a=some o) (hd:o.data=.set ar ep t) (K:Fj t ar.size) (hl:t.led=DU w) (hb:ar.size<scanBound)
  (hQ:∀(h':Heap) (d:Drawn) (I:W3) (fp:List W3) (vs:Wx) (St:Nat->W4->Prop),vs.Perm (ar.toList.map (·.2))->(∀A:Around,A.handled=none->WalksS prog w A I fp [I] (λa b=>b=a) ar.size (λi v=>vs[i]?=some v) St)->St 0 { s with heap:=h',drawn:=d } ->
   (∀b o,s.heap.get? b=some o->h'.get? b=some o)->s.heap.objs.size<=I->(∀b∈fp,b=a\/s.heap.objs.size<=b)->Q (.ref I) { s with heap:=h',drawn:=d }) :
  wpAny (model prog w) A (pyIter (.ref a)) Q E s:=by
 have hT:s.TypeIs (.ref a) "set" := ⟨o,ho,hx.1⟩;have a0:a<s.heap.objs.size:=lt_size ho
 have hps:t.place.size=ar.size:=by
  have:=K.fits;unfold SetTable.fits at this;simp at this;exact this.1
 refine wpAny_pyIter_slot hT PySem.F.slot_set_iter (wpAny_call_entry PySem.F.slot_set_iter hT IH ?_ (PySem.F.args_set_iter_1 _));unfold Builtin.«frozenset.__iter__»;refine Zw (m:=Builtin.Frozenset.slot0 _ _) (Zv ?_);unfold Builtin.Frozenset.sizeOf;refine Zw (Zw (wpAny_setEntries_of ho hd K.fits (Zv ?_)));unfold setDrawn;refine Zw (Zw (wpAny_setState_of ho hd K.fits ?_));unfold setsByText;refine Zw (Zw (wpAny_askSetting (Zv (Zv ?_))));show wpAny _ _ (if (!w.params.followText "set-order" && (!t.plain&&decide (ar.size>1)))=true then _ else _) _ _ _;cases hw:w.params.followText "set-order" with
 |true =>
  rw[Zp (by simp)];refine Zw (Zv ?_);refine Zw (wpAny_setEpoch_of ho hd K.fits ?_);refine Zw (wpAny_newObj_type (Zv ⟨_,Zj, "set_iterator", _,⟨_,ZO _ Zj,Zj⟩,aF.lookup,?_⟩));have iV:a≠s.heap.objs.size:=ZE a0
  have hsz:(pickOrder (w.params.setOrder a ep) ar).size=ar.size:=by
   have:=(Ja (w.params.setOrder a ep) ar).length_eq;simpa using this
  refine hQ _ s.drawn _ [s.heap.objs.size,a,a] ((pickOrder (w.params.setOrder a ep) ar).toList.map (·.2)) _ ((Ja _ ar).map _) (λA' hA'=>GZ (I:=s.heap.objs.size) (T:=a) (o:=o) (ot:=o) (n:=ar.size) (ep:=ep) (G:=λi f=>f=.int 0 0) iV iV ?_ ?_) ⟨ZY _ ho,ZY _ ho,_,⟨_,ZO _ Zj,Zj,Zj⟩,Zj⟩ (λb o e=>ZY _ e) (Zx _) ?_
  ·rintro i s1 first hi ha _ hit rfl Q1 E1 h1
   have hg:(pickOrder (w.params.setOrder a ep) ar)[i]?=some (pickOrder (w.params.setOrder a ep) ar)[i]:=Array.getElem?_eq_getElem qe;refine Fl (slot:=0) (nx:=0) (x:=(pickOrder (w.params.setOrder a ep) ar)[i].2) hit ha hd K.fits Zj (λ{A2 E2 Q2} h2=>Jb ha hd K.fits hw ?_) (λh' dY sb=>h1 _ h' _ ?_ dY Zj sb)
   ·rw[hg];exact h2
   ·rw[ZG,Array.getElem?_toList,hg];rfl
  ·rintro s1 first ha _ hit rfl Q1 E1 h1
   have hg:(pickOrder (w.params.setOrder a ep) ar)[ar.size]?=none:=Array.getElem?_eq_none qe;refine G1 (slot:=0) hA' hit ha hd K.fits Zj (λ{A2 E2 Q2} h2=>Jb ha hd K.fits hw ?_) h1;rw[hg];exact h2
  ·intro b hb;simp at hb;rcases hb with h |h
   ·exact .inr (Nat.le_of_eq h.symm)
   ·exact .inl h
 |false =>
  have hled:t.led=true:=by rw[hl];show(!w.params.followText "set-order")=true;rw[hw];rfl
  cases hp:(!t.plain&&decide (ar.size>1))with
  |false =>
   rw[Zp (by simp)];refine Zw (Zv ?_);refine Zw (wpAny_setEpoch_of ho hd K.fits ?_);refine Zw (wpAny_newObj_type (Zv ⟨_,Zj, "set_iterator", _,⟨_,ZO _ Zj,Zj⟩,aF.lookup,?_⟩));have iV:a≠s.heap.objs.size:=ZE a0;refine hQ _ s.drawn _ [s.heap.objs.size,a,a] (ar.toList.map (·.2)) _ (List.Perm.refl _) (λA' hA'=>GZ (I:=s.heap.objs.size) (T:=a) (o:=o) (ot:=o) (n:=ar.size) (ep:=ep) (G:=λi f=>∃slot:Nat,f=.int slot 0/\SetTable.below t.place slot=i) iV iV ?_ ?_) ⟨ZY _ ho,ZY _ ho,_,⟨_,ZO _ Zj,Zj,Zj⟩,0,Zj,NW K.rise⟩ (λb o e=>ZY _ e) (Zx _) ?_
   ·rintro i s1 first hi ha _ hit ⟨slot,rfl,hsl⟩ Q1 E1 h1
    have hg:ar[i]?=some ar[i]:=Array.getElem?_eq_getElem hi;have gM:i<t.place.size:=by omega
    have hg2:t.place[i]?=some t.place[i]:=Array.getElem?_eq_getElem gM;refine Fl (slot:=slot) (nx:=t.place[i]+1) (x:=ar[i].2) hit ha hd K.fits Zj (λ{A2 E2 Q2} h2=>Jc ha hd K.fits hw hled hp ?_) (λh' dY sb=>h1 _ h' _ ?_ dY ⟨_,Zj,NX K.rise gM⟩ sb)
    ·rw[hsl,hg,hg2];exact h2
    ·rw[ZG,Array.getElem?_toList,hg];rfl
   ·rintro s1 first ha _ hit ⟨slot,rfl,hsl⟩ Q1 E1 h1
    refine G1 (slot:=slot) hA' hit ha hd K.fits Zj (λ{A2 E2 Q2} h2=>Jc ha hd K.fits hw hled hp ?_) h1;rw[hsl,Array.getElem?_eq_none (Zx _)];exact h2
   ·intro b hb;simp at hb;rcases hb with h |h
    ·exact .inr (Nat.le_of_eq h.symm)
    ·exact .inl h
  |true =>
   rw[Zo (by simp)];refine Zw (D6 _ _ _ (by simp) λys d bo=>?_);have hyl:ys.length=ar.size:=by rw[bo.length_eq];simp
   have h4:scanBound=4096:=rfl
   have bh:(ys.map λ(i:Nat)=>rawInt i).toArray.size<=sizeLine:=by
    have:sizeLine=2 ^ 24:=rfl;simp;omega
   refine Zw (wpAny_newObj_type ?_ (by size_fits));have ho1:(s.heap.push { cls:=.type "tuple", data:=.seq (ys.map λ(i:Nat)=>rawInt i).toArray }).get? a=some o:=ZY _ ho;refine Zw (wpAny_setEpoch_of ho1 hd K.fits ?_);refine Zw (wpAny_newObj_type (Zv ⟨_,Zj, "set_iterator", _,⟨_,ZO _ Zj,Zj⟩,aF.lookup,?_⟩));have hs1:(s.heap.push { cls:=.type "tuple", data:=.seq (ys.map λ(i:Nat)=>rawInt i).toArray }).objs.size=s.heap.objs.size+1:=Heap.size_push _ _;have iV:a≠(s.heap.push { cls:=.type "tuple", data:=.seq (ys.map λ(i:Nat)=>rawInt i).toArray }).objs.size:=by rw[hs1];exact ZE (Nat.lt_succ_of_lt a0)
   have hTI:s.heap.objs.size≠(s.heap.push { cls:=.type "tuple", data:=.seq (ys.map λ(i:Nat)=>rawInt i).toArray }).objs.size:=by rw[hs1];exact ZE (Nat.lt_succ_self _)
   refine hQ _ d _ [(s.heap.push { cls:=.type "tuple", data:=.seq (ys.map λ(i:Nat)=>rawInt i).toArray }).objs.size,a,s.heap.objs.size] (ys.map λi=>(ar[i]?.map (·.2)).getD .none) _ (NY ar _ _ bo) (λA' hA'=>GZ (I:=(s.heap.push { cls:=.type "tuple", data:=.seq (ys.map λ(i:Nat)=>rawInt i).toArray }).objs.size) (T:=s.heap.objs.size) (o:=o) (ot:={ cls:=.type "tuple", data:=.seq (ys.map λ(i:Nat)=>rawInt i).toArray }) (n:=ar.size) (ep:=ep) (G:=λi f=>f=.ref s.heap.objs.size) iV hTI ?_ ?_) ⟨ZY _ ho1,ZY _ (ZO _ Zj),_,⟨_,ZO _ Zj,Zj,Zj⟩,Zj⟩ (λb o e=>ZY _ (ZY _ e)) (Nat.le_trans (Nat.le_succ _) (Nat.le_of_eq hs1.symm)) ?_
   ·rintro i s1 first hi ha hT1 hit rfl Q1 E1 h1
    have hyi:ys[i]?=some (ys[i]'qe):=Z7 qe
    have hyr:ys[i]'qe<ar.size:=by
     have:=bo.mem_iff.mp (getElem_mem (l:=ys) (n:=i) qe);simpa using this
    have hg:ar[ys[i]'qe]?=some (ar[ys[i]'qe]):=Array.getElem?_eq_getElem hyr;refine KK (pl:=ys[i]'qe) (hx:=(ar[ys[i]'qe]).1) (x:=(ar[ys[i]'qe]).2) hit ha hd K.fits Zj hT1 Zj ?_ hg (λh' dY sb=>h1 _ h' _ ?_ dY Zj sb)
    ·rw[List.getElem?_toArray,ZG,hyi];rfl
    ·rw[ZG,hyi];simp[hyr]
   ·rintro s1 first ha hT1 hit rfl Q1 E1 h1
    refine Li hA' hit ha hd K.fits Zj hT1 Zj ?_ h1;rw[List.getElem?_toArray,List.getElem?_eq_none (by simp[hyl])]
   ·intro b hb;simp at hb;rcases hb with h |h |h
    ·exact .inr (by rw[h];exact Nat.le_succ _)
    ·exact .inl h
    ·exact .inr (Nat.le_of_eq h.symm)
end
theorem Lj {α β:Type}{F:α->β->Prop}{es iX:List β} (p:iX.Perm es):∀ {ks:List α},Paired F ks es->∃eX,eX.Perm ks/\Paired F eX iX:=by
 induction p with
 |nil=>intro ks h;exact⟨ks,List.Perm.refl _,h⟩
 |cons x p ih =>
  intro ks h;cases h with
  |cons r t =>
   obtain⟨eX,p',h'⟩:=ih t;exact⟨_::eX,p'.cons _,.cons r h'⟩
 |swap x y l =>
  intro ks h;cases h with
  |cons r t =>
   cases t with
   |cons r2 t=>exact⟨_::_::_,List.Perm.swap ..,.cons r2 (.cons r t)⟩
 |trans p1 p2 ih1 ih2 =>
  intro ks h;obtain⟨k2,q2,h2⟩:=ih2 h;obtain⟨k1,q1,h1⟩:=ih1 h2;exact⟨k1,q1.trans q2,h1⟩
theorem II {P:Program}{w:World}:∀ {ks:List Key}{es:List (Int×Value)},Paired (i9 (Af P w)) ks es->Paired (λk v=>RelV (kV k) v) ks (es.map (·.2))
 |_,_,.nil=>.nil
 |_,_,.cons r t=>.cons (Fa r.is) (II t)
section
variable {prog:Program}{ep:Nat}{o:Obj}{ar:Array (Int×Value)}{t:SetTable}
theorem Tj:typeLookup (.type "set") "__len__" = pure (some (.builtin "set.__len__")):=by rw[typeLookup_type,builtinLookup_eq_fast];kernel_rfl
theorem Lk {Q:Wx->W4->Prop} (hh:A.handled=none) (hx:o.ExactSet) (ho:s.heap.get? a=some o) (hd:o.data=.set ar ep t) (K:Fj t ar.size) (hl:t.led=DU w) (hb:ar.size<scanBound)
  (hQ:∀s' acc,(∀b o,s.heap.get? b=some o->s'.heap.get? b=some o)->s'.gens=s.gens->s'.os=s.os->acc.Perm (ar.toList.map (·.2))->Q acc s') :
  wpAny (model prog w) A (collect (.ref a)) Q E s:=by
 have a0:a<s.heap.objs.size:=lt_size ho;have bc:a≠s.heap.objs.size:=ZE a0
 have hn:ar.size<=sizeLine:=by
  have h4:scanBound=4096:=rfl;have:sizeLine=2 ^ 24:=rfl;omega
 unfold collect;refine Zw (wpAny_runValue (codeAny_builtin PySem.F.entry_proto_collect ?_));rw[Around.under_plainId PySem.F.plain_proto_collect _];show wpAny _ A.in1 (newList [] >>= λl=>again (.builtin "list.__iadd__" ⟨[l,.ref a],[]⟩)) _ _ s;refine Zw (wpAny_newObj_type ?_);refine Zv ⟨plainId_quiet PySem.F.plain_list_iadd _,codeAny_builtin PySem.F.entry_list_iadd ?_⟩;rw[Around.under_plainId PySem.F.plain_list_iadd _];show wpAny _ A.in1 (Builtin.List.listExtendWith (.ref s.heap.objs.size) (.ref a) (.ref s.heap.objs.size)) _ _ _;unfold Builtin.List.listExtendWith;have ho1:(s.heap.push { cls:=.type "list", data:=.seq ([]:Wx).toArray }).get? a=some o:=ZY _ ho;have hT1:Shared.TypeIs { s with heap:=s.heap.push { cls:=.type "list", data:=.seq ([]:Wx).toArray } } (.ref a) "set" := ⟨o,ho1,hx.1⟩;refine Zw (wpAny_typeOf hT1 ?_);have h1:Builtin.List.listSameRef (.ref s.heap.objs.size) (.ref a)=false:=by simp[Builtin.List.listSameRef,Ne.symm bc]
 have h2:(Value.type "set" == Value.type "list")=false:=by decide
 have h3:(Value.type "set" == Value.type "tuple")=false:=by decide
 simp only[h1,h2,h3,Bool.or_false,Bool.false_eq_true,if_false];refine Zw (NZ hx ho1 hd K hl hb λh' d I fp vs St bo W hst keep hI gu=>?_);have hT2:Shared.TypeIs { s with heap:=h',drawn:=d } (.ref a) "set" := ⟨o,keep _ _ ho1,hx.1⟩;refine Zw (ZL ?_);unfold Builtin.List.listLengthHint;refine Zw (wpAny_specialOf hT2 Tj ?_)
 wp_delta
 refine Zw (wpAny_isInstance (b:=true) hT2 (by rw[isSubtype_type];kernel_rfl) ?_);show wpAny _ A.in1 (typeOf (Value.ref a) >>= _) _ _ _;refine Zw (wpAny_typeOf hT2 ?_);refine Zv ?_;rw[Zo qc];have hHs:(s.heap.push { cls:=.type "list", data:=.seq ([]:Wx).toArray }).objs.size=s.heap.objs.size+1:=Heap.size_push _ _
 have hSf:s.heap.objs.size∉ fp:=λhm=>by
  rcases gu _ hm with z |z
  ·exact bc z.symm
  ·exact absurd z (by show ¬ ((s.heap.push { cls:=.type "list", data:=.seq ([]:Wx).toArray }).objs.size<=s.heap.objs.size);rw[hHs];exact Nat.not_succ_le_self _)
 have hS:h'.get? s.heap.objs.size=some { cls:=.type "list", data:=.seq ([]:Wx).toArray }:=keep _ _ (ZO _ rfl);refine Zw (wpAny_rule ?_);refine Zw ?_;show wpAny _ A.in1 (updateSeq s.heap.objs.size (·.push .none) >>= λ_=>updateSeq s.heap.objs.size (·.pop)) _ _ _;refine Zw (wpAny_updateSeq hS Zj ?_);have hS₂:=ZV (Obj.mapSeq (·.push Value.none)) hS rfl;refine wpAny_updateSeq (hz:=by seq_fits) hS₂ Zj ?_;have hS₃:=ZV (Obj.mapSeq (·.pop)) hS₂ rfl
 have fV:∀b o,b≠s.heap.objs.size->h'.get? b=some o->((h'.update s.heap.objs.size (Obj.mapSeq (·.push Value.none))).update s.heap.objs.size (Obj.mapSeq (·.pop))).get? b=some o :=
  λb o hb e=>(ZX _ _ (Ne.symm hb)).trans ((ZX _ _ (Ne.symm hb)).trans e)
 refine Zv ⟨plainId_quiet PySem.F.plain_extend_loop _,codeAny_extend_loopS (W A.in1 hh) hn _ hSf _ ar.size 0 _ _ _ Zj (Nat.zero_le _) ((W A.in1 hh).frame 0 { s with heap:=h',drawn:=d } _ s.toks hst (Zx _) λb hb o e=>fV b o (λh=>hSf (h ▸ hb)) e) hS₃ (ItemsOf.nil _) λs' acc' c' hm hS' ce=>?_⟩;show wpAny _ A (load s.heap.objs.size >>= _) _ _ s';refine Zw (wpAny_load hS' ?_);refine Zv (hQ s' acc'.toList (λb ob e=>hm.heap b ob (λhb=>?_) (fV _ _ (ZE (lt_size e)) (keep _ _ (ZY _ e)))) hm.gens hm.os ?_)
 ·have hlt:=lt_size e;rcases mem_cons.mp hb with h |h
  ·exact absurd hlt (h ▸ ZH _)
  ·rw[ZI.mp h]at hlt;have hI':s.heap.objs.size+1<=I:=by rw[←hHs];exact hI
   exact absurd (Z2 hlt (Nat.le_of_succ_le hI')) (ZH _)
 ·have e:acc'.toList=vs:=by
   refine List.ext_getElem? λi=>?_;rw[Array.getElem?_toList];cases q:acc'[i]? with
   |none =>
    have hv:vs.length=ar.size:=by rw[bo.length_eq];simp
    rw[Array.getElem?_eq_none_iff,ce.1]at q;rw[List.getElem?_eq_none qe]
   |some v=>exact(ce.2 i v q).symm
  rw[e];exact bo
end
section
theorem Inv.went {s':W4} (I:Inv X aa σ H s) (k:∀b u,s.heap.get? b=some u->s'.heap.get? b=some u) (hg:s'.gens=s.gens) (ho:s'.os=s.os):Inv X aa σ H s':=by
 have I1:=I.kept (t':=s'.toks) k;exact⟨I1.ok,ho.trans I.os,hg ▸ I.bare,I1.base,I1.loc,I1.cell,I1.free,I1.bP,I1.pin,I1.aE,I1.len⟩
theorem KL (hc:X.calm=true):BZ X (.builtin "sorted") (λxs H Q=>∃(a:W3) (ms:List Int),xs=[.ref a]/\H a=some (Dl X.prog X.w a (ms.map Sum.inl))/\ms.length<64 /\
  ∀(l:W3) (ns:List Int),H l=none->ns.Perm ms->ns.Pairwise (· <= ·)->Q (.ref l) (upd H l (.lst (ns.map V.int)))):=by
 intro aa s σ H xs us Q I r h;obtain⟨a,ms,rfl,hS,h64,q⟩:=h;obtain⟨u,rfl,ru⟩:=Bu r;cases ru;obtain⟨o,ar,ep,t,eX,ho,hx,hd,K,hl,hp,fw,hb⟩:=Rb I.aE hS;have hA:X.A.handled=none:=I.ok.hd hc;refine Calls.call_function_entry kind_sorted plain_sorted entry_sorted (args_sorted1 _) ?_;unfold Builtin.«sorted»;refine Zw (m:=checkCount "sorted" 1 1 _) (Zv ?_);refine Zw (Lk (A:=X.A.in1) hA hx ho hd K hl hb λs' acc keep hg hos bo=>?_);obtain⟨k2,p2,h2⟩:=Lj bo (II fw);have hk2:k2.Perm (ms.map Sum.inl):=p2.trans hp
 obtain⟨m2,e2⟩:∃m2:List Int,k2=m2.map Sum.inl:=by
  refine⟨k2.map λk=>match k with |Sum.inl i=>i |Sum.inr _=>0,?_⟩;rw[map_map];refine(List.map_id k2).symm.trans (List.map_congr_left λk hk=>?_);obtain⟨i,_,e⟩:=Zq.mp (hk2.mem_iff.mp hk);subst e;rfl
 subst e2
 have hm2:m2.Perm ms:=by
  have:=hk2.map (λk:Key=>match k with |Sum.inl i=>i |Sum.inr _=>0);simpa[map_map,Function.comp_def]using this
 have bq:IntsAre acc m2:=by
  refine Cu (show Vals (m2.map V.int) acc from ?_)
  have:∀ {ms:List Int}{vs:Wx},Paired (λk v=>RelV (kV k) v) (ms.map Sum.inl) vs->Vals (ms.map V.int) vs:=by
   intro ms;induction ms with
   |nil=>intro vs h;cases h;exact .nil
   |cons x r ih=>intro vs h;cases h with |cons r t=>exact .cons r (ih t)
  exact this h2
 have a0:acc.length=ms.length:=by
  rw[←hm2.length_eq];exact(IntsAre.length bq)
 have hz:acc.length<=sizeLine:=by
  have:sizeLine=2 ^ 24:=rfl;omega
 refine Zw (wpAny_newList ?_ hz);have I1:Inv X aa σ H s':=I.went keep hg hos;have gW:(s'.heap.push { cls:=.type "list", data:=.seq acc.toArray }).get? s'.heap.objs.size=some (seqObj "list" acc.toArray 0):=ZO _ rfl;refine Zw (ZL (wpAny_call_entry slot_list_sort ⟨_,gW,Zj⟩ entry_list_sort (list_sort_tree gW bq (by rw[a0];exact h64) λout ns' a1 a2 a3=>⟨_,Zj,?_⟩) (args_list_sort _)));refine Zv ⟨_,Zj,?_⟩;have hn:H s'.heap.objs.size=none:=I1.aE.fresh (Zx _);have bh:ns'.length=acc.length:=by rw[a2.length_eq,←IntsAre.length bq]
 refine⟨.ref s'.heap.objs.size,_,I1.laid (t':=s'.toks) (o:=.lst (ns'.map V.int)) (h':=sortedHeap (s'.heap.push { cls:=.type "list", data:=.seq acc.toArray }) s'.heap.objs.size acc out) (λb o e=>?_) (Zx _) ⟨by rw[AE,bh];exact hz,out.toList,?_⟩,Zj,q _ ns' hn (a2.trans hm2) a3⟩
 ·rw[sortedHeap_old (ZE (lt_size e)) (lt_size (ZY _ e))];exact ZY _ e
 ·obtain⟨c,hcx⟩:=sortedHeap_at (out:=out) gW;exact⟨c,DR a1,by rw[Array.toArray_toList];exact hcx⟩
end
end L2
end
section
namespace MK
open PySem
theorem Cd (a b:Nat):Builtin.bitAnd (a:Int) (b:Int)=((a&&&b:Nat):Int):=by
 rw[PyProof.Rows.bitAnd_pp (Z1 _) (Z1 _)];simp
theorem E7 (a b:Nat):Builtin.bitOr (a:Int) (b:Int)=((a |||b:Nat):Int):=by
 have ha:¬ (0:Int)<=Builtin.bitNot (a:Int):=by unfold Builtin.bitNot;omega
 have hb:¬ (0:Int)<=Builtin.bitNot (b:Int):=by unfold Builtin.bitNot;omega
 unfold Builtin.bitOr;rw[PyProof.Rows.bitAnd_nn ha hb];have e:∀n:Nat,(Builtin.bitNot (Builtin.bitNot (n:Int))).toNat=n:=λn=>by unfold Builtin.bitNot;omega
 rw[e a,e b];unfold Builtin.bitNot;omega
theorem E8 (a b:Nat):Builtin.bitAnd (a:Int) (Builtin.bitNot (b:Int))=((a - (a&&&b):Nat):Int):=by
 rw[PyProof.Rows.bitAnd_not,Cd];have:a&&&b<=a:=Nat.and_le_left;omega
noncomputable def Ah (l:List Nat):Nat:=l.foldl (· ||| ·) 0
theorem Fo (k:Nat):∀(l:List Nat) (a:Nat),(l.foldl (· ||| ·) a).testBit k=(a.testBit k ||l.any (·.testBit k))
 | [],a=>by simp
 |x::r,a=>by rw[foldl_cons,Fo k r,Nat.testBit_or,any_cons,Bool.or_assoc]
theorem CG (l:List Nat) (k:Nat):(Ah l).testBit k=l.any (·.testBit k):=by
 unfold Ah;rw[Fo];simp
theorem Fp {l:List Nat}{m:Nat} (h:∀n∈l,n<2 ^ m):Ah l<2 ^ m:=by
 have:∀(l:List Nat) (a:Nat),a<2 ^ m->(∀n∈l,n<2 ^ m)->l.foldl (· ||| ·) a<2 ^ m:=by
  intro l;induction l with
  |nil=>intro a ha _;exact ha
  |cons x r ih=>intro a ha hl;exact ih _ (Nat.or_lt_two_pow ha (hl x ZK)) λn hn=>hl n (ZS _ hn)
 exact this l 0 (Nat.two_pow_pos m) h
theorem E9 (l:List Nat) (n:Nat):Ah (l++[n])=Ah l |||n:=by unfold Ah;rw[foldl_append];rfl
noncomputable def A3 (n:Nat):Bool:=decide (0<n)&&decide (n&&&(n - 1)=0)
theorem FA (k:Nat):A3 (2 ^ k)=true:=by
 unfold A3;have h0:0<2 ^ k:=Nat.two_pow_pos k
 have h1:2 ^ k&&&(2 ^ k - 1)=0:=by
  apply Nat.eq_of_testBit_eq;intro i;rw[Nat.testBit_and,Nat.testBit_two_pow,Nat.testBit_two_pow_sub_one,Nat.zero_testBit];by_cases e:k=i
  ·subst e;simp
  ·simp[e]
 simp[h0,h1]
theorem CM {n:Nat} (h:A3 n=true):∃k,n=2 ^ k:=by
 unfold A3 at h;simp only[Bool.and_eq_true,decide_eq_true_eq]at h;obtain⟨h0,h1⟩:=h;refine⟨n.log2,?_⟩;have hlo:2 ^ n.log2<=n:=Nat.log2_self_le qe;have hhi:n<2 ^ (n.log2+1):=Nat.lt_log2_self;rcases Nat.eq_or_lt_of_le hlo with e |hlt
 ·exact e.symm
 ·exfalso
  have b1:n.testBit n.log2=true:=by
   rw[Nat.testBit_eq_decide_div_mod_eq];simp
   have:n / 2 ^ n.log2=1:=by
    apply Nat.div_eq_of_lt_le <;> (try rw[Nat.pow_succ]at hhi) <;> omega
   rw[this]
  have b2:(n - 1).testBit n.log2=true:=by
   rw[Nat.testBit_eq_decide_div_mod_eq];simp
   have:(n - 1) / 2 ^ n.log2=1:=by
    apply Nat.div_eq_of_lt_le <;> (try rw[Nat.pow_succ]at hhi) <;> omega
   rw[this]
  have:(n&&&(n - 1)).testBit n.log2=true:=by rw[Nat.testBit_and,b1,b2];rfl
  rw[h1,Nat.zero_testBit]at this;cases this
noncomputable def C0 (n:Nat):List Nat:=(List.range 42).filter λk=>n.testBit k
theorem IJ {α:Type} [DecidableEq α] {p:α->Bool}:∀ {l:List α}{a:α},l.Nodup->a∈l->(∀b∈l,p b=true ↔ b=a)->l.filter p=[a]
 | [],_,_,h,_=>by cases h
 |b::r,a,hn,ha,hp=>by
  obtain⟨n1,n2⟩:=Zr.mp hn;by_cases e:b=a
  ·subst e;have hb:p b=true:=(hp b ZK).mpr rfl;rw[filter_cons,Zo hb];congr 1;apply List.filter_eq_nil_iff.mpr;intro c hc hpc;have:=(hp c (ZS _ hc)).mp hpc;exact n1 (this ▸ hc)
  ·have hb:¬ p b=true:=λz=>e ((hp b ZK).mp z);rw[filter_cons,Zp hb];rcases mem_cons.mp ha with z |z
   ·exact absurd z.symm e
   ·exact IJ n2 z λc hc=>hp c (ZS _ hc)
theorem I0 {n:Nat} (hn:n<2 ^ 42):decide ((C0 n).length=1)=A3 n:=by
 rw[Bool.eq_iff_iff,decide_eq_true_eq];constructor
 ·intro h;obtain⟨k,hk⟩:∃k,C0 n=[k]:=List.length_eq_one_iff.mp h
  have mem:∀i,i<42->(n.testBit i=true ↔ i=k):=λi hi=>by
   have:i∈C0 n ↔ i=k:=by rw[hk];simp
   unfold C0 at this;rw[mem_filter]at this;constructor
   ·intro hb;exact this.mp ⟨mem_range.mpr hi,hb⟩
   ·intro e;exact(this.mpr e).2
  have hk42:k<42:=by
   have:k∈C0 n:=by rw[hk];simp
   unfold C0 at this;exact mem_range.mp (mem_filter.mp this).1
  have e:n=2 ^ k:=by
   apply Nat.eq_of_testBit_eq;intro i;rw[Nat.testBit_two_pow];by_cases hi:i<42
   ·rw[Bool.eq_iff_iff,mem i hi,decide_eq_true_eq];exact eq_comm
   ·have h1:n.testBit i=false:=Nat.testBit_lt_two_pow (Z2 hn (Nat.pow_le_pow_right qc qe));rw[h1];symm;rw[decide_eq_false_iff_not];omega
  rw[e];exact FA k
 ·intro h;obtain⟨k,rfl⟩:=CM h;have hk:k<42:=(Nat.pow_lt_pow_iff_right qc).mp hn
  have:C0 (2 ^ k)=[k]:=by
   unfold C0;refine IJ List.nodup_range (mem_range.mpr hk) λb _=>?_;rw[Nat.testBit_two_pow,decide_eq_true_eq];exact eq_comm
  rw[this];rfl
noncomputable def As (m:Nat):Nat:=2 ^ (Builtin.Int.intBits (m:Int))
theorem CQ {m:Nat} (h:0<m):Builtin.Int.intBits (m:Int)=m.log2+1:=by
 unfold Builtin.Int.intBits;have:((m:Int)==0)=false:=by rw[beq_eq_false_iff_ne];omega
 rw[this];simp
theorem Ll {m k:Nat} (h1:m<2 ^ k) (h2:k=0\/2 ^ (k - 1)<=m):2 ^ k=As m:=by
 unfold As;congr 1;rcases Nat.eq_zero_or_pos m with e |hm
 ·subst e
  have:k=0:=by
   rcases h2 with z |z
   ·exact z
   ·have:=Nat.two_pow_pos (k - 1);omega
  rw[this];rfl
 ·rw[CQ hm];rcases h2 with z |z
  ·subst z;simp at h1;omega
  ·have hk:0<k:=by rcases Nat.eq_zero_or_pos k with e |e
                   ·subst e;simp at h1;omega
                   ·exact e
   have e:m.log2=k - 1:=by
    apply Nat.le_antisymm
    ·have:m.log2<k:=(Nat.log2_lt qe).mpr h1;omega
    ·exact(Nat.le_log2 qe).mpr z
   omega
theorem Rg:∀ {l:List Nat}{a:Nat},(∀n∈l,A3 n=true)->l.Pairwise (· < ·)->(∀n∈l,a&&&n=0)->a+l.sum=l.foldl (· ||| ·) a
 | [],a,_,_,_=>by simp
 |n::r,a,hm,hp,ha=>by
  obtain⟨p1,p2⟩:=pairwise_cons.mp hp;have han:=ha n ZK
  have e:a |||n=a+n:=by
   have h:=PyProof.Rows.bitOr_and (a:Int) (n:Int);rw[E7,Cd,han]at h;omega
  rw[sum_cons,foldl_cons,←Rg (a:=a |||n) (λm hm'=>hm m (ZS _ hm')) p2 (λm hm'=>?_),e]
  ·omega
  ·obtain⟨i,rfl⟩:=CM (hm n ZK);obtain⟨j,rfl⟩:=CM (hm m (ZS _ hm'));have hlt:=p1 _ hm';have haj:=ha _ (ZS _ hm');apply Nat.eq_of_testBit_eq;intro t;rw[Nat.testBit_and,Nat.testBit_or,Nat.zero_testBit];have h1:(a&&&2 ^ j).testBit t=false:=by rw[haj];exact Nat.zero_testBit t
   rw[Nat.testBit_and]at h1;rw[Bool.and_or_distrib_right,h1,Nat.testBit_two_pow,Nat.testBit_two_pow];have:i≠j:=λe=>by subst e;omega
   by_cases e1:i=t
   ·have:¬ j=t:=by omega
    simp[this]
   ·simp[e1]
theorem Pt {l:List Nat} (hm:∀n∈l,A3 n=true) (hp:l.Pairwise (· < ·)):l.sum=Ah l:=by
 have:=Rg (a:=0) hm hp (λn _=>by simp);unfold Ah;omega
end MK
end
end
variable {P:PySem.Program}{w:PySem.World}{K:FG}{mg:SV}{base:PySem.Heap}{f:PySem.Addr}{fd:PySem.FuncData}{H:L2.Hp}{H':L2.Hp}{U:Aa}{ac:Aa}{C:PySem.Addr}{VC:PySem.Addr}{EC:PySem.Addr}
section
namespace Mk
open PySem L2 MK
noncomputable def top (i:Nat):Stmt:=PySem.Challenge.pw_markworks_k55_whole_kinds_gone_on.main.body.getD i (.Pass ⟨0,0,0,0⟩)
noncomputable abbrev BC:Stmt:=inClass (top 1) 0
noncomputable abbrev Dm:Stmt:=inClass (top 2) 0
noncomputable abbrev Do:Stmt:=inClass (top 6) 0
noncomputable abbrev Fq:Stmt:=top 18
noncomputable abbrev HG:Stmt:=top 19
noncomputable abbrev KM:Stmt:=top 20
noncomputable abbrev IK:Stmt:=top 21
noncomputable abbrev Fs:Stmt:=top 22
noncomputable abbrev Ga:Stmt:=top 23
noncomputable abbrev Gb:Stmt:=top 24
noncomputable abbrev Dp:Stmt:=top 25
noncomputable abbrev Ce:Stmt:=top 26
noncomputable abbrev Dq:Stmt:=top 27
noncomputable abbrev DV:Stmt:=top 28
noncomputable abbrev EQ:Stmt:=top 29
noncomputable abbrev BV:Stmt:=inClass (top 30) 0
noncomputable abbrev Gc:Stmt:=inClass (top 30) 1
noncomputable abbrev ER:Stmt:=inClass (top 30) 2
noncomputable abbrev FB:Stmt:=inClass (top 30) 3
noncomputable abbrev FC:Stmt:=inClass (top 30) 5
noncomputable abbrev FD:Stmt:=inClass (top 30) 6
noncomputable abbrev Ge:Stmt:=inClass (top 30) 7
noncomputable abbrev KN:Stmt:=inClass (top 30) 8
noncomputable abbrev Gf:Stmt:=top 33
noncomputable abbrev KP:Stmt:=top 34
noncomputable abbrev FE:Stmt:=inClass (top 35) 0
noncomputable abbrev Dr:Stmt:=inClass (top 35) 1
noncomputable abbrev FF:Stmt:=inClass (top 35) 2
noncomputable abbrev ES:Stmt:=inClass (top 35) 3
noncomputable abbrev FH:Stmt:=inClass (top 35) 4
noncomputable abbrev OW:Stmt:=top 36
noncomputable abbrev KQ:Stmt:=top 38
noncomputable abbrev KR:Stmt:=top 40
noncomputable abbrev Ft:Stmt:=top 41
noncomputable abbrev Fu:Stmt:=top 42
noncomputable abbrev CW:Stmt:=top 43
noncomputable abbrev Ds:Stmt:=top 44
noncomputable abbrev IL:Stmt:=top 46
noncomputable abbrev Gg:Stmt:=top 47
noncomputable abbrev IM:Stmt:=top 48
noncomputable abbrev FI:Stmt:=top 49
noncomputable abbrev ET:Stmt:=top 50
noncomputable abbrev At:Stmt:=top 51
noncomputable abbrev Dt:Stmt:=top 52
noncomputable abbrev FJ:Stmt:=top 53
noncomputable abbrev CH:Stmt:=top 54
noncomputable abbrev EU:Stmt:=top 55
noncomputable abbrev FK:Stmt:=top 56
noncomputable abbrev ED:Stmt:=top 57
structure Fn (P:Program) (w:World) (K:FG) (mg:SV) (base:Heap) (x:Str) (k:Nat) (ps:Ww) (sp:Sp):Prop where
 ex:∃f fd,aD P w K mg base aP k f fd ps sp/\mg x=some (.ref f)/\W.keepIn K (.ref f)=true/\Binds K fd ps []
structure Bl (mg:SV):Prop where
 len:mg "len" = none
 dH:mg "isinstance" = none
 max:mg "max" = none
 min:mg "min" = none
 range:mg "range" = none
 list:mg "list" = none
 tuple:mg "tuple" = none
 sorted:mg "sorted" = none
 sum:mg "sum" = none
 all:mg "all" = none
 enum:mg "enumerate" = none
 int:mg "int" = none
 bool:mg "bool" = none
 str:mg "str" = none
noncomputable def AU (ns:List Nat):Wy:=ns.map λ(n:Nat)=>V.int (n:Int)
section
inductive spIsMark (vs:Wy) (H:Hp) (Q:VK) (_E:XK):Prop where
 |mk (n:Nat) (cE:vs=[.int (n:Int)]) (cD:Q (.bl (A3 n)) H)
theorem Rh:AK ["number"] ["number"] (defScope KM):=cH
theorem Na (n:Nat):(decide (0<(n:Int))&&decide (V.int (Builtin.bitAnd (n:Int) ((n:Int) - 1))=V.int 0))=A3 n:=by
 unfold A3;rcases Nat.eq_zero_or_pos n with e |h
 ·subst e;rfl
 ·have e1:((n:Int) - 1)=((n - 1:Nat):Int):=by omega
  rw[e1,Cd];have e2:decide (0<(n:Int))=true:=ZM qe;have e3:decide (0<n)=true:=ZM h;rw[e2,e3];congr 1;rw[Bool.eq_iff_iff,decide_eq_true_eq,decide_eq_true_eq];constructor
  ·intro z;injection z with z;omega
  ·intro z;rw[z];rfl
theorem Pu (F:aZ K "is_mark" "is_mark" KM f fd):aD P w K mg base aP 1 f fd ["number"] spIsMark:=by
 refine F.m Rh λvs H Q E h=>?_;obtain⟨n,rfl,k⟩:=h;refine⟨Zj,λae A outer s hr=>?_⟩;refine⟨_,AF (AN (Cm (Dg JF (pv 0) AI (AX _)) (DL (Dg DP (AW Cq (pv 0) (AW Js (pv 0) AI)) AI (AX _))))),?_⟩;rw[←Na]at k;refine⟨_,Zj,_,_,Zj,Zj,_,Zj,?_⟩;refine BI (λh=>?_) (λh=>?_)
 ·rw[h,Bool.true_and]at k;exact⟨_,Zj,_,Zj,_,_,Zj,Zj,_,_,Zj,Zj,Zj,k⟩
 ·rw[Bool.eq_false_iff.mpr h,Bool.false_and]at k;exact k
inductive spUnionOf (K:FG) (vs:Wy) (H:Hp) (Q:VK) (_E:XK):Prop where
 |mk (a:W3) (ns:List Nat) (cE:vs=[.ref a]) (cD:aJ K H a (AU ns)) (cK:Q (.int (Ah ns:Nat)) H)
theorem scUnionOf:AK ["numbers", "bits", "number"] ["numbers"] (defScope IK):=cH
theorem DI {ns:List Nat}{i:Nat}{x:V} (h:(AU ns)[i]?=some x):∃n,ns[i]?=some n/\x=V.int (n:Int):=by
 unfold AU at h;rw[ZG]at h;cases e:ns[i]? with
 |none=>rw[e]at h;cases h
 |some n=>rw[e]at h;exact⟨n,Zj,(Option.some.inj h).symm⟩
theorem Nb (F:aZ K "union_of" "union_of" IK f fd):aD P w K mg base aP 1 f fd ["numbers"] (spUnionOf K):=by
 refine F.m scUnionOf λvs H Q E h=>?_;obtain⟨a,ns,rfl,hS,k⟩:=h;refine⟨Zj,λae A outer s hr=>?_⟩
 refine⟨_,AG (Al (i:=1) scUnionOf.nd Zj (Or.inl Zj) AI)
  (AG (Cp PassesOwn.never rfl (A5 (pv 0)) (AT (i:=2) scUnionOf.nd rfl (Or.inl rfl))
   (AF (Ue (i:=1) scUnionOf.nd rfl (Or.inl rfl) (pv 2) (Uh:cT _ _ _))))
  (AF (AN (pv 1)))),?_⟩
 refine⟨_,Zj,a,Zj,⟨_,hS⟩,B2 (K:=K) (a:=a) (xs:=AU ns) (λi σ H2=>∃v:Option V,σ=[some (.ref a),some (.int (Ah (ns.take i):Nat)),v]/\H2=H) ⟨none,Zj,Zj⟩ (λi σ H2 _ ⟨_,_,e⟩=>e ▸ hS) ?_ ?_⟩
 ·rintro i x σ H2 hi ⟨v,rfl,rfl⟩;obtain⟨n,hn,rfl⟩:=DI hi;refine⟨_,Zj,_,Zj,_,_,Zj,Zj,?_⟩;refine⟨some (V.int (n:Int)),?_,Zj⟩;rw[ZF,hn,Option.toList_some,E9];show [some (V.ref a),some (V.int (Builtin.bitOr (Ah (ns.take i):Nat) (n:Nat))),some (V.int (n:Int))]=_;rw[E7]
 ·rintro σ H2 ⟨v,rfl,rfl⟩;refine⟨_,Zj,?_⟩;have e:(AU ns).length=ns.length:=by unfold AU;rw[AE]
  rw[e,ZD];exact k
end
end Mk
end
section
namespace L2
open PySem
theorem Ri {x:Str}{g:TG}{tt:TT}{te:TE}{ix:List (Option Nat)}{R:Wy->Hp->Prop}{σ:St}{H1:Hp} (Pv:Nat->Wy->Hp->Prop) (h0:Pv 0 [] H1) (hz:∀i ys H,Pv i ys H->ys.length<=1000)
  (hs:∀(i c:Nat) ys H,x.cps[i]?=some c->Pv i ys H->g (.str ⟨#[c]⟩) (Cw ix σ) H λbV H2=>tt bV H2 λb H3=>if b=true then te bV H3 λy H4=>Pv (i+1) (ys++[y]) H4 else Pv (i+1) ys H3) (hd:∀ys H,Pv x.cps.size ys H->R ys H) :
  ∃W:Nat->Nat->Wy->Hp->Prop,(∃m,W 0 m [] H1)/\∀i m ys H,W i m ys H ->
   ((Its x).stop i H/\ys.length<=sizeLine/\R ys H) \/
   ((Its x).go i H/\∃N:Wy->Hp->Prop,(∀cS H',N cS H'->cS.length<=sizeLine/\∃m',m'<m/\W (i+1) m' cS H') /\
    ∀v H',(Its x).gG i H v H'->g v (Cw ix σ) H' λbV H2=>tt bV H2 λb H3=>if b=true then te bV H3 λy H4=>N (ys++[y]) H4 else N ys H3):=by
 refine⟨λi m ys H=>m=x.cps.size - i/\i<=x.cps.size/\Pv i ys H,⟨_,Zj,Nat.zero_le _,h0⟩,?_⟩;rintro i m ys H ⟨rfl,hi,hp⟩;by_cases hlt:i<x.cps.size
 ·refine .inr ⟨hlt,Pv (i+1),λcS H' q=>⟨Nat.le_of_lt (Ac (hz _ cS H' q)),x.cps.size - (i+1),qe,Zj,hlt,q⟩,?_⟩;rintro v H' ⟨rfl,c,hc,rfl⟩;exact hs i c ys H' hc hp
 ·have e:i=x.cps.size:=by omega
  subst e;exact .inl ⟨Zx _,Nat.le_of_lt (Ac (hz _ ys H hp)),hd ys H hp⟩
end L2
namespace Mk
open PySem L2 MK
theorem Nd:bootBuiltins "all" = some (.builtin "all"):=by decide +kernel
theorem Gh:bootBuiltins "isinstance" = some (.builtin "isinstance"):=by decide +kernel
theorem Gi:bootBuiltins "sorted" = some (.builtin "sorted"):=by decide +kernel
theorem Rj:bootBuiltins "sum" = some (.builtin "sum"):=by decide +kernel
theorem Rk:bootBuiltins "min" = some (.builtin "min"):=by decide +kernel
theorem U1:bootBuiltins "max" = some (.builtin "max"):=by decide +kernel
theorem FL:bootBuiltins "str" = some (.type "str"):=by decide +kernel
theorem Nf:bootBuiltins "int" = some (.type "int"):=by decide +kernel
theorem OX:bootBuiltins "bool" = some (.type "bool"):=by decide +kernel
theorem EV:bootBuiltins "tuple" = some (.type "tuple"):=by decide +kernel
theorem Du:bootBuiltins "list" = some (.type "list"):=by decide +kernel
theorem AC {H1:Hp}{p:W3}{o:HO} (s:aA H H1) (hp:H1 p=none):aA H (upd H1 p o):=λb u e=>by
 have e':=s b u e;rw[AH (AJ e' hp)];exact e'
noncomputable def IN (c:Nat):Bool:=decide (65<=c)&&decide (c<=90)
noncomputable def Dv (x:Str):Bool:=(decide (1<=x.length)&&decide (x.length<=6))&&x.cps.toList.all IN
section
theorem BJ {X:Cx}{e:Expr}{te:TE}{T:String}{x:Str}{p p2 pos:Pos} (K:FG) (hK:X.K=K) (hg:Gl X "isinstance") (hm:X.mg "isinstance" = none) (hgT:Gl X x) (hmT:X.mg x=none) (hvT:bootBuiltins x=some (.type T)) (he:PE X e te)
  (hn:x≠ "__name__" := by decide) (dG:(x==("__debug__" : Str))=false:=by decide)
  (hs:starEach [e,.Name x p2] X.env=(false,eval e X.env)::starEach [.Name x p2] X.env:=by rfl) (dA:(backTo pos (starEach [.Name x p2] X.env)).any (·.1)=false:=by rfl) (iP:starEach [.Name x p2] X.env=(false,eval (.Name x p2) X.env)::starEach [] X.env:=by rfl) :
  PE X (.Call (.Name "isinstance" p) [e,.Name x p2] [] pos) (tCB (λxs H Q=>∃v T t b,xs=[v,.ty T]/\cY K H v t/\W.kitOne K t (.type T)=some b/\Q (.bl b) H) (Ag te (Ag (tC (.ty T)) CA))):=by
 subst hK;exact AZ Q3 hg hm Gh (AA he (AA (N2 hgT hmT hvT Zj hn dG) AD iP) hs) qc qc hs dA
theorem BD {X:Cx} (K:FG) (hK:X.K=K):IxR X (V0 K):=hK ▸ S5
theorem Eg {X:Cx} (K:FG) (hK:X.K=K):IxR X (V1 K):=hK ▸ Uk
theorem A9 {X:Cx} (K:FG) (hK:X.K=K):BZ X (.builtin "len") (λxs H Q=>∃p ys,xs=[.ref p]/\(aJ K H p ys\/bA K H p ys)/\Q (.int ys.length) H):=hK ▸ Dh
theorem OY {X:Cx}{e:Expr}{f:Str}{pos:Pos}{ta:TE} (K:FG) (hK:X.K=K) (he:PE X e ta) (hb:attributeBase e f X.env (eval e X.env)=eval e X.env):PE X (.Attribute e f pos) (Vx K ta f):=hK ▸ Bm he hb
inductive spIsName (vs:Wy) (H:Hp) (Q:VK) (_E:XK):Prop where
 |mk (x:Str) (cE:vs=[.str x]) (cD:x.cps.all (· < 128)=true) (cK:x.length<=1000) (d5:∀H',aA H H'->Q (.bl (Dv x)) H')
theorem Lm:AK ["thing"] ["thing"] (defScope HG):=cH
theorem Rm (c:Nat):(if (!decide ((⟨#[c]⟩:Str).cps.toList<("A" : Str).cps.toList))=true then (!decide (("Z" : Str).cps.toList<(⟨#[c]⟩:Str).cps.toList))else false)=IN c:=by
 have hA:("A" : Str).cps.toList=[65]:=by decide +kernel
 have hZ:("Z" : Str).cps.toList=[90]:=by decide +kernel
 rw[hA,hZ];show(if (!decide ([c]<[65]))=true then !decide ([90]<[c])else false)=IN c;unfold IN
 have e1:decide ([c]<[65])=decide (c<65):=by
  rw[Bool.eq_iff_iff,decide_eq_true_eq,decide_eq_true_eq,List.cons_lt_cons_iff];simp
 have e2:decide ([90]<[c])=decide (90<c):=by
  rw[Bool.eq_iff_iff,decide_eq_true_eq,decide_eq_true_eq,List.cons_lt_cons_iff];simp
 rw[e1,e2];by_cases h1:c<65 <;> by_cases h2:90<c <;> simp[h1,h2] <;> omega
theorem Jd {t6:Tok} (F:aZ K "is_name" "is_name" HG f fd) (B:Bl mg) (hL:mg "LONGEST_NAME" = some (.int 6 t6)):aD P w K mg base aP 1 f fd ["thing"] spIsName:=by
 refine F.m Lm λvs H Q E h=>?_;obtain⟨x,rfl,ha,hz,k⟩:=h;refine⟨Zj,λae A outer s hr=>?_⟩
 refine⟨_,AG (Au (PW.pt (CZ (BH (BA (BJ K Zj Zj B.dH Zj B.str FL (pv 0)))) (Bk (BH (Ct Cr Cr AI (AZ J0 Zj B.len PySem.boot_len (AA (pv 0) AD)) (BY (v:=.int 6) Zj hL ⟨t6,Zj⟩))))))
   (AF (AN N1)) Ab)
  (AF (AN (AZ (Hx rfl) rfl B.all Nd (AA (Bf [] [] qd qb qd rfl (Ur (pv 0)) (λ_ _ _ _ _ _=>B3) (λ_ _ _ _ _ _=>Kx JU JU AY (pv 0) AY)) AD)))),?_⟩
 refine⟨_,Zj,_,_,_,true,Zj,.str x,Zj,_,Zj,?_⟩;refine An ?_;refine⟨_,Zj,x,Zj,Nat.le_of_lt (Ac hz),_,_,Zj,Zj,_,Zj,?_⟩;refine BI (λh1=>?_) (λh1=>?_)
 ·have gy:1<=x.length:=by have:=ZW h1;omega
  refine⟨_,_,Zj,Zj,_,Zj,?_⟩;refine BI (λh2=>?_) (λh2=>?_)
  ·have jh:¬ x.length<=6:=by
    intro z;rw[ZM (show(x.length:Int)<=6 by omega)]at h2;cases h2
   have e:Dv x=false:=by unfold Dv;simp[jh]
   have:=k H (aA.refl H);rw[e]at this;exact this
  ·have jh:x.length<=6:=Decidable.byContradiction λz=>h2 (by rw[ZP (show ¬ (x.length:Int)<=6 by omega)];rfl);refine⟨_,Zj,x,Zj,ha,Ri (x:=x) (λi ys H2=>H2=H/\ys=(x.cps.toList.take i).map λc=>V.bl (IN c)) ⟨Zj,Zj⟩ (λi ys H2 ⟨_,e⟩=>?_) ?_ ?_⟩
   ·rw[e,AE,Zz];have:x.cps.toList.length=x.length:=by rw[Array.length_toList];rfl
    omega
   ·rintro i c ys H2 hc ⟨rfl,rfl⟩;refine⟨_,Zj,_,_,Zj,Zj,_,Zj,?_⟩
    have fin:∀b,b=IN c->(H2=H2/\(x.cps.toList.take i).map (λc=>V.bl (IN c))++[V.bl b]=(x.cps.toList.take (i+1)).map λc=>V.bl (IN c)):=λb hb=>by
     refine⟨Zj,?_⟩;have iT:x.cps.toList[i]?=some c:=by rw[Array.getElem?_toList];exact hc
     rw[ZF,iT,Zt,hb];rfl
    have hu:=Rm c;refine BI (λh3=>?_) (λh3=>?_)
    ·rw[Zo h3]at hu;exact⟨_,_,Zj,Zj,fin _ hu⟩
    ·rw[Zp h3]at hu;exact fin _ hu
   ·rintro ys H2 ⟨rfl,rfl⟩ p hp;have el:x.cps.toList.take x.cps.size=x.cps.toList:=List.take_of_length_le (by rw[Array.length_toList];exact Zx _);refine⟨p,x.cps.toList.map IN,Zj,aJ.of (by rw[AB,el,map_map];rfl),?_⟩
    have e:Dv x=((x.cps.toList.map IN).all id):=by
     unfold Dv;rw[ZM gy,ZM jh,all_map];rfl
    rw[←e];exact k _ (AC (aA.refl _) hp)
 ·have gy:¬ 1<=x.length:=λz=>h1 (ZM qe);refine⟨_,Zj,?_⟩;refine Ay ?_;have e:Dv x=false:=by unfold Dv;simp[gy]
  have:=k H (aA.refl H);rw[e]at this;exact this
end
inductive Th where
 |aK |num (n:Nat) |iO (ns:Ww)
def ff (H:Hp) (v:V):Th->Prop
 | .aK=>v=.aK
 | .num n=>v=.int (n:Int)
 | .iO ns=>∃a,v=.ref a/\H a=some (.tup (ns.map V.str))
noncomputable def BP (ns:List Nat):Nat:=ns.foldl max 0
noncomputable def look (U:Aa) (x:Str):Nat:=((U.find? λp=>decide (p.1=x)).map (·.2)).getD 0
noncomputable def Ak (U:Aa):LK:=U.map λp=>(Sum.inr p.1,V.int (p.2:Int))
noncomputable def B8 (U:Aa):Th->Nat
 | .aK=>As (BP (U.map (·.2)))
 | .num n=>n
 | .iO ns=>Ah (ns.map (look U))
theorem FM (x:Str):∀U:Aa,BK (Ak U) (Sum.inr x)=(U.find? λp=>decide (p.1=x)).map λp=>V.int (p.2:Int)
 | []=>rfl
 |p::r=>by
  show BK ((Sum.inr p.1,V.int (p.2:Int))::Ak r) (Sum.inr x)=_;by_cases e:p.1=x
  ·rw[EH (p:=(Sum.inr p.1,V.int (p.2:Int))) (by rw[←e]),List.find?_cons_of_pos (by simpa using e)];rfl
  ·rw[EI (p:=(Sum.inr p.1,V.int (p.2:Int))) (λz=>e (Sum.inr.inj z)),List.find?_cons_of_neg (by simpa using e)];exact FM x r
theorem Pw {x:Str} (h:x∈U.map (·.1)):(U.find? λp=>decide (p.1=x)).isSome=true:=by
 obtain⟨p,hp,e⟩:=Zq.mp h;rw[List.find?_isSome];exact⟨p,hp,by simpa using e⟩
theorem Bg {x:Str} (h:x∈U.map (·.1)):BK (Ak U) (Sum.inr x)=some (V.int (look U x:Int)):=by
 rw[FM];unfold look;obtain⟨p,hp⟩:=Option.isSome_iff_exists.mp (Pw h);rw[hp];rfl
theorem B6 {x:Str} (h:x∉ U.map (·.1)):BK (Ak U) (Sum.inr x)=none:=by
 rw[FM]
 have:(U.find? λp=>decide (p.1=x))=none:=by
  rw[find?_eq_none];intro p hp e;exact h (Zq.mpr ⟨p,hp,by simpa using e⟩)
 rw[this];rfl
theorem Fv {m:Nat}:∀(l:List Nat) (a:Nat),a<m->(∀n∈l,n<m)->l.foldl max a<m
 | [],a,h,_=>h
 |x::r,a,h,k=>Fv r (max a x) (by have:=k x ZK;omega) λn hn=>k n (ZS _ hn)
theorem Ln {ns:List Nat}{m:Nat} (h0:0<m) (h:∀n∈ns,n<m):BP ns<m:=Fv ns 0 h0 h
theorem Rn (a b:Nat):max (a:Int) (b:Int)=((max a b:Nat):Int):=by omega
theorem IP:∀(r:List Nat) (a:Nat),(r.map λn:Nat=>(n:Int)).foldl max (a:Int)=((r.foldl max a:Nat):Int)
 | [],_=>rfl
 |x::r,a=>by rw[map_cons,foldl_cons,Rn,IP r];rfl
theorem Lo {ns:List Nat} (h:ns≠ []):LD 0 (ns.map λn:Nat=>(n:Int))=(BP ns:Nat):=by
 cases ns with
 |nil=>exact absurd rfl h
 |cons a r =>
  show(r.map λn:Nat=>(n:Int)).foldl max (a:Int)=_;rw[IP];unfold BP;rw[foldl_cons];have:max 0 a=a:=by omega
  rw[this]
theorem IQ {m:Nat} (h:m<2 ^ 20):Builtin.Int.intBits (m:Int)<=20:=by
 rcases Nat.eq_zero_or_pos m with e |hm
 ·subst e;decide
 ·rw[CQ hm];have:m.log2<20:=(Nat.log2_lt qe).mpr h;omega
section
inductive spNextMark (K:FG) (vs:Wy) (H:Hp) (Q:VK) (_E:XK):Prop where
 |mk (a:W3) (ns:List Nat) (cE:vs=[.ref a]) (cD:aJ K H a (AU ns)) (cK:(∀n∈ns,n<2 ^ 20)) (d5:Q (.int (As (BP ns):Nat)) H)
theorem Ng:AK ["numbers"] ["numbers"] (defScope Gb):=cH
theorem Fw (ns:List Nat):AU ns=(ns.map λn:Nat=>(n:Int)).map V.int:=by unfold AU;rw[map_map];rfl
theorem Lp (F:aZ K "next_mark" "next_mark" Gb f fd) (B:Bl mg):aD P w K mg base aP 1 f fd ["numbers"] (spNextMark K):=by
 refine F.m Ng λvs H Q E h=>?_;obtain⟨a,ns,rfl,hS,hlt,k⟩:=h;refine⟨Zj,λae A outer s hr=>?_⟩;refine⟨_,AF (AN (AW F6 AI (Qr PySem.F.plainAttrs_int PySem.F.slot_int_bit_length PySem.F.type_int_bit_length Fc (OL Zj Zj B.max (pv 0) AI)))),?_⟩;have hm:=Ln (m:=2 ^ 20) qc hlt
 have fin:∀m:Int,m=(BP ns:Nat)->tyV K "int" (.int m) H/\∃i,V.int m=.int i/\([]:Wy)=[]/\rI Ug (λi j=>V.int (i*2 ^ j.toNat)) (V.int 1) (V.int (Builtin.Int.intBits i:Nat)) H Q:=λm e=>by
  subst e;refine⟨Zj,_,Zj,Zj,1,_,Zj,Zj,⟨Z1 _,?_,qc⟩,?_⟩
  ·have:=IQ hm;omega
  ·have e:(1:Int)*2 ^ ((Builtin.Int.intBits (BP ns:Nat):Nat):Int).toNat=((As (BP ns):Nat):Int):=by
    unfold As;rw[Int.one_mul,Int.toNat_natCast];simp
   show Q (V.int (1*2 ^ ((Builtin.Int.intBits (BP ns:Nat):Nat):Int).toNat)) H;rw[e];exact k
 refine⟨_,Zj,a,ns.map (λn:Nat=>(n:Int)),0,Zj,Zj,by rw[←Fw];exact hS,λe=>?_,λe=>?_⟩
 ·have e':ns=[]:=map_eq_nil_iff.mp e;exact fin 0 (by rw[e'];rfl)
 ·have e':ns≠ []:=λz=>e (by rw[z];rfl);exact fin _ (Lo e')
def CI (K:FG):Sp:=λvs H Q _=>(∃(x:Str) (d:W3) (kvs:LK),vs=[.str x,.ref d]/\Rd H d (.dK kvs)/\Q (.bl (BK kvs (Sum.inr x:Key)).isSome) H) \/
 (∃(x:Str) (t:W3) (xs:Ww),vs=[.str x,.ref t]/\bA K H t (xs.map V.str)/\Q (.bl (gU (.str x) (xs.map V.str))) H)
theorem Je:AK ["thing", "names"] ["thing", "names"] (defScope Fs):=cH
theorem Jf:∀xs:Ww,(xs.map V.str).all FU=true
 | []=>rfl
 |_::r=>Jf r
theorem IR (F:aZ K "is_one_of" "is_one_of" Fs f fd) (B:Bl mg):aD P w K mg base aP 1 f fd ["thing", "names"] (CI K):=by
 refine F.ok Je (λvs H Q E h=>?_) (λae A outer s H vs Q E hr h=>?_)
 ·rcases h with⟨x,d,kvs,rfl,_⟩ |⟨x,t,xs,rfl,_⟩ <;> rfl
 ·have hu:=Ca hr;rcases h with⟨x,d,kvs,rfl,hd,k⟩ |⟨x,t,xs,rfl,ht,k⟩
  ·refine⟨_,AF (AN (Cm (BJ K Zj Zj B.dH Zj B.str FL (pv 0)) (DL (QV (Hm hu (pv 0) (pv 1)))))),?_⟩;refine⟨_,Zj,_,_,_,true,Zj,.str x,Zj,_,Zj,?_⟩;exact⟨_,Zj,_,Zj,d,_,Zj,.inl ⟨kvs,Sum.inr x,hd,Zj,Zj⟩,k⟩
  ·refine⟨_,AF (AN (Cm (BJ K Zj Zj B.dH Zj B.str FL (pv 0)) (DL (Dg JN (pv 0) (pv 1) (by with_unfolding_all rfl))))),?_⟩;refine⟨_,Zj,_,_,_,true,Zj,.str x,Zj,_,Zj,?_⟩;exact⟨_,Zj,_,Zj,t,_,Zj,.inr ht,Zj,Jf xs,k⟩
inductive spIsNamesOf (vs:Wy) (H:Hp) (Q:VK) (_E:XK):Prop where
 |mk (a d:W3) (ns:Ww) (kvs:LK) (cE:vs=[.ref a,.ref d]) (cD:H a=some (.tup (ns.map V.str))) (cK:ns.length<=1000) (d5:Rd H d (.dK kvs)) (fj:∀H',aA H H'->Q (.bl (decide (0<ns.length)&&ns.all λx=>(BK kvs (Sum.inr x:Key)).isSome)) H')
theorem G2:AK ["parts", "ahead"] ["parts", "ahead"] (defScope Dp):=cH
theorem aA.rd {a:W3}{u:HO} (s:aA H H') (h:Rd H a u):Rd H' a u:=by
 rcases h with h |⟨o,h⟩
 ·exact .inl (s _ _ h)
 ·exact .inr ⟨o,s _ _ h⟩
theorem KS (F:aZ K "is_names_of" "is_names_of" Dp f fd) (B:Bl mg) (GO:Fn P w K mg base "is_one_of" 1 ["thing", "names"] (CI K)):aD P w K mg base aP 2 f fd ["parts", "ahead"] spIsNamesOf:=by
 obtain⟨fO,dO,GO,mO,kO,bO⟩:=GO.ex;refine F.m G2 λvs H Q E h=>?_;obtain⟨a,d,ns,kvs,rfl,ha,hz,hd,k⟩:=h;refine⟨Zj,λae A outer s hr=>?_⟩;have hu:=Ca hr
 refine⟨_,AF (AN (Cm (Dg JF (AZ Dh Zj B.len PySem.boot_len (AA (pv 0) AD)) AI (AX _))
  (DL (AZ (Hx rfl) rfl B.all Nd (AA (Bf ["ahead"] [some 1] qd qb qd rfl (Mn (pv 0)) (λ_ _ _ _ _ _=>B3)
   (λ_ _ _ _ _ _=>AM GO hr rfl mO kO bO .nil AL (AA (pv 0) (AA (pv 1) AD)))) AD))))),?_⟩
 have hl:(ns.map V.str).length=ns.length:=AE _;refine⟨_,Zj,a,_,Zj,.inr (bA.of ha),_,_,Zj,Zj,_,Zj,?_⟩;refine BI (λh1=>?_) (λh1=>?_)
 ·have gy:0<ns.length:=by have:=ZW h1;rw[hl]at this;omega
  refine⟨_,Zj,a,Zj,⟨_,bA.of ha⟩,Ht (K:=K) (a:=a) (xs:=ns.map V.str) (λi ys H2=>H2=H/\ys=(ns.take i).map λx=>V.bl (BK kvs (Sum.inr x:Key)).isSome) ⟨Zj,Zj⟩ (λi ys H2 _ ⟨e,_⟩=>e ▸ bA.of ha) (λi ys H2 ⟨_,e⟩=>?_) ?_ ?_⟩
  ·rw[e,AE,Zz];omega
  ·rintro i v ys H2 hi ⟨rfl,rfl⟩;rw[ZG]at hi
   obtain⟨x,hx,rfl⟩:∃x,ns[i]?=some x/\v=V.str x:=by
    cases e:ns[i]? with
    |none=>rw[e]at hi;cases hi
    |some x=>rw[e]at hi;exact⟨x,Zj,(Option.some.inj hi).symm⟩
   refine⟨_,Zj,_,Zj,.inl ⟨x,d,kvs,Zj,hd,Zj,?_⟩⟩;rw[ZF,hx,Zt];rfl
  ·rintro ys H2 ⟨rfl,rfl⟩ p hp;have el:ns.take (ns.map V.str).length=ns:=by rw[hl];exact ZD
   refine⟨p,ns.map λx=>(BK kvs (Sum.inr x:Key)).isSome,Zj,aJ.of (by rw[AB,el,map_map];rfl),?_⟩
   have e:(decide (0<ns.length)&&ns.all λx=>(BK kvs (Sum.inr x:Key)).isSome)=(ns.map λx=>(BK kvs (Sum.inr x:Key)).isSome).all id:=by
    rw[ZM gy,Bool.true_and,all_map];rfl
   rw[←e];exact k _ (AC (aA.refl _) hp)
 ·have gy:¬ 0<ns.length:=λz=>h1 (ZM (by rw[hl];omega));have:=k H (aA.refl H);rw[ZP gy,Bool.false_and]at this;exact this
inductive spIsWhole (vs:Wy) (H:Hp) (Q:VK) (_E:XK):Prop where
 |mk (n:Int) (cE:vs=[.int n]) (cD:Q (.bl true) H)
theorem Jg:AK ["thing"] ["thing"] (defScope Fq):=cH
theorem Nh (F:aZ K "is_whole" "is_whole" Fq f fd) (B:Bl mg):aD P w K mg base aP 1 f fd ["thing"] spIsWhole:=by
 refine F.m Jg λvs H Q E h=>?_;obtain⟨n,rfl,k⟩:=h;refine⟨Zj,λae A outer s hr=>?_⟩;refine⟨_,AF (AN (Cm (BJ K Zj Zj B.dH Zj B.int Nf (pv 0)) (DL (QW (BJ K Zj Zj B.dH Zj B.bool OX (pv 0)))))),?_⟩;refine⟨_,Zj,_,_,_,true,Zj,.int n,Zj,_,Zj,?_⟩;exact⟨_,Zj,_,_,_,false,Zj,.int n,qd,_,Zj,k⟩
structure aO (U:Aa):Prop where
 len:U.length<=10
 lt:∀p∈U,p.2<2 ^ 20
 nd:(U.map (·.1)).Nodup
 nm:∀p∈U,Dv p.1=true/\p.1.cps.all (· < 128)=true/\p.1.length<=1000
def Tk (U:Aa):Th->Prop
 | .aK=>True
 | .num _=>True
 | .iO ns=>ns≠ []/\ns.length<=10/\∀x∈ns,x∈U.map (·.1)
inductive spThing (vs:Wy) (H:Hp) (Q:VK) (_E:XK):Prop where
 |mk (tv:V) (th:Th) (d:W3) (U:Aa) (cE:vs=[tv,.ref d]) (cD:ff H tv th) (cK:Rd H d (.dK (Ak U))) (d5:aO U) (fj:Tk U th) (ir:∀H',aA H H'->Q (.int (B8 U th:Nat)) H')
theorem OZ:AK ["thing", "ahead"] ["thing", "ahead"] (defScope Ce):=cH
theorem Ro (U:Aa):(Ak U).map (·.2)=AU (U.map (·.2)):=by unfold Ak AU;rw[map_map,map_map];rfl
theorem Lq (F:aZ K "thing_number" "thing_number" Ce f fd) (B:Bl mg) (GN:Fn P w K mg base "next_mark" 1 ["numbers"] (spNextMark K)) (GI:Fn P w K mg base "is_names_of" 2 ["parts", "ahead"] spIsNamesOf)
  (GU:Fn P w K mg base "union_of" 1 ["numbers"] (spUnionOf K)) (GW:Fn P w K mg base "is_whole" 1 ["thing"] spIsWhole):aD P w K mg base aP 3 f fd ["thing", "ahead"] spThing:=by
 obtain⟨fN,dN,GN,mN,kN,bN⟩:=GN.ex;obtain⟨fI,dI,GI,mI,kI,bI⟩:=GI.ex;obtain⟨fU,dU,GU,mU,kU,bU⟩:=GU.ex;obtain⟨fW,dW,GW,mW,kW,bW⟩:=GW.ex;refine F.m OZ λvs H Q E h=>?_;obtain⟨tv,th,d,U,rfl,hT,hd,DO,TO,k⟩:=h;refine⟨Zj,λae A outer s hr=>?_⟩;have hu:=Ca hr;have cP:aH 1 _:=hr.mono qc
 refine⟨_,AG (Au (B9 (F5 (pv 0))) (AF (AN (AM GN cP Zj mN kN bN .nil AL (AA (BS (Hw Zj) Zj B.list Du (AA (NB PySem.F.slot_dict_values PySem.F.type_dict_values JS (pv 1)) AD)) AD)))) Ab)
  (AG (Au (PW.pt (Eu (BA (BJ K rfl rfl B.dH rfl B.tuple EV (pv 0))) (Dc (BA (AM GI hr rfl mI kI bI .nil AL (AA (pv 0) (AA (pv 1) AD)))))))
   (AF (AN (AM GU cP rfl mU kU bU .nil AL (AA (Bf ["ahead"] [some 1] qd qb qd rfl (Mn (pv 0)) (λ_ _ _ _ _ _=>B3) (λ_ _ _ _ _ _=>Bs hu (pv 1) (pv 0) (λ_ _=>rfl))) AD)))) Ab)
  (AG (Au (BA (AM GW cP rfl mW kW bW .nil AL (AA (pv 0) AD))) (AF (AN (pv 0))) Ab)
  (AF Am))),?_⟩
 refine⟨_,rfl,_,rfl,?_⟩;cases th with
 |aK =>
  have e:tv=.aK:=hT;subst e;refine BI (λ_=>?_) (λz=>absurd Zj z);refine⟨_,Zj,d,Zj,.inl ⟨_,hd⟩,d,_,Zj,Zj,hd,λp hp=>?_⟩;refine⟨p,d,_,Zj,AB,aA.rd (AC (aA.refl _) hp) hd,λl hl=>?_⟩;refine⟨l,U.map (·.2),Zj,aJ.of (by rw[AB,Ro]),λn hn=>?_,?_⟩
  ·obtain⟨q,hq,rfl⟩:=Zq.mp hn;exact DO.lt q hq
  ·exact k _ (AC (AC (aA.refl _) hp) hl)
 |num n =>
  have e:tv=.int (n:Int):=hT;subst e;refine BI (λz=>absurd (ZW z) (by intro q;cases q)) (λ_=>?_);refine⟨_,Zj,_,_,_,false,Zj,.int _,qd,_,Zj,?_⟩;refine An ?_;refine⟨_,Zj,n,Zj,_,Zj,?_⟩;refine Ay ?_;exact⟨_,Zj,k H (aA.refl H)⟩
 |iO ns =>
  obtain⟨a,rfl,ha⟩:=hT;obtain⟨bc,hln,fA⟩:=TO;refine BI (λz=>absurd (ZW z) (by intro q;cases q)) (λ_=>?_);refine⟨_,Zj,_,_,_,true,Zj,.tup ha,Zj,_,Zj,?_⟩;have hl:(ns.map V.str).length=ns.length:=AE _;refine⟨_,Zj,_,Zj,a,d,ns,Ak U,Zj,ha,qe,hd,λH1 s1=>⟨_,Zj,?_⟩⟩
  have e1:(decide (0<ns.length)&&ns.all λx=>(BK (Ak U) (Sum.inr x:Key)).isSome)=true:=by
   rw[Bool.and_eq_true,decide_eq_true_eq,List.all_eq_true];refine⟨length_pos_iff.mpr bc,λx hx=>?_⟩;rw[Bg (fA x hx)];rfl
  rw[e1];refine Ay ?_;refine⟨_,Zj,a,Zj,⟨_,bA.of (s1 _ _ ha)⟩,Ht (K:=K) (a:=a) (xs:=ns.map V.str) (λi ys H2=>H2=H1/\ys=AU ((ns.take i).map (look U))) ⟨Zj,Zj⟩ (λi ys H2 _ ⟨e,_⟩=>e ▸ bA.of (s1 _ _ ha)) (λi ys H2 ⟨_,e⟩=>?_) ?_ ?_⟩
  ·rw[e];unfold AU;rw[AE,AE,Zz];omega
  ·rintro i v ys H2 hi ⟨rfl,rfl⟩;rw[ZG]at hi
   obtain⟨x,hx,rfl⟩:∃x,ns[i]?=some x/\v=V.str x:=by
    cases e:ns[i]? with
    |none=>rw[e]at hi;cases hi
    |some x=>rw[e]at hi;exact⟨x,Zj,(Option.some.inj hi).symm⟩
   refine⟨_,Zj,_,Zj,d,_,Zj,.inl ⟨Ak U,Sum.inr x,aA.rd s1 hd,Zj,(Bg (fA x (ZR hx))).symm⟩,Zj,?_⟩;rw[ZF,hx,Zt];unfold AU;rw[Zt];rfl
  ·rintro ys H2 ⟨rfl,rfl⟩ p hp;have el:ns.take (ns.map V.str).length=ns:=by rw[hl];exact ZD
   refine⟨p,ns.map (look U),Zj,aJ.of (by rw[AB,el]),?_⟩;exact k _ (AC s1 hp)
end
end Mk
end
section
namespace L2
open PySem
theorem Lr {a:W3}{xs:Wy}{g:TG}{tb:TS}{D:EG}{σ:St} (Pv:Nat->St->Hp->Prop) (h0:Pv 0 σ H) (hl:∀i σ H,i<=xs.length->Pv i σ H->aJ K H a xs)
  (hs:∀i x σ H p,xs[i]?=some x->Pv i σ H->H p=none->g (.ref p) σ (upd H p (.tup [.int i,x])) λbV H2=>tb { D with nx:=Pv (i+1),ct:=Pv (i+1),bk:=D.nx } bV H2) (hd:∀σ H,Pv xs.length σ H->D.nx σ H) :
  ∃W:Nat->Nat->St->Hp->Prop,(∃m,W 0 m σ H)/\∀i m σ H,W i m σ H ->
   ((Ite K a).stop i H/\D.nx σ H)\/((Ite K a).go i H/\∃N:St->Hp->Prop,(∀aN H',N aN H'->∃m',m'<m/\W (i+1) m' aN H')/\∀x H',(Ite K a).gG i H x H'->g x σ H' λbV H2=>tb { D with nx:=N,ct:=N,bk:=D.nx } bV H2):=by
 refine⟨λi m σ H=>m=xs.length - i/\i<=xs.length/\Pv i σ H,⟨_,Zj,Nat.zero_le _,h0⟩,?_⟩;rintro i m σ H ⟨rfl,hi,hp⟩;by_cases hlt:i<xs.length
 ·have hx:xs[i]?=some xs[i]:=Z7 hlt;refine .inr ⟨⟨xs,xs[i],hl i σ H hi hp,hx⟩,Pv (i+1),λaN H' q=>⟨xs.length - (i+1),qe,Zj,hlt,q⟩,?_⟩;rintro x H' ⟨p,y,hn,rfl,hy,rfl⟩
  have ex:y=xs[i]:=by
   have:=hy xs (hl i σ H hi hp);rw[hx]at this;exact(Option.some.inj this).symm
  subst ex;exact hs i xs[i] σ H p hx hp hn
 ·have e:i=xs.length:=by omega
  subst e;exact .inl ⟨⟨xs,hl _ σ H hi hp,Zx _⟩,hd σ H hp⟩
theorem Px {a:W3}{o:Obj}{kvs:LK}{g:TG}{tb:TS}{D:EG}{σ:St} (Pv:Nat->St->Hp->Prop) (h0:Pv 0 σ H) (hl:∀i σ H,Pv i σ H->H a=some (.ef o (.dK kvs)))
  (hs:∀i kv σ H p,kvs[i]?=some kv->Pv i σ H->H p=none->g (.ref p) σ (upd H p (.tup [kV kv.1,kv.2])) λbV H2=>tb { D with nx:=Pv (i+1),ct:=Pv (i+1),bk:=D.nx } bV H2) (hd:∀σ H,Pv kvs.length σ H->D.nx σ H) :
  ∃W:Nat->Nat->St->Hp->Prop,(∃m,W 0 m σ H)/\∀i m σ H,W i m σ H ->
   ((Iti a o kvs).stop i H/\D.nx σ H)\/((Iti a o kvs).go i H/\∃N:St->Hp->Prop,(∀aN H',N aN H'->∃m',m'<m/\W (i+1) m' aN H')/\∀x H',(Iti a o kvs).gG i H x H'->g x σ H' λbV H2=>tb { D with nx:=N,ct:=N,bk:=D.nx } bV H2):=by
 refine⟨λi m σ H=>m=kvs.length - i/\i<=kvs.length/\Pv i σ H,⟨_,Zj,Nat.zero_le _,h0⟩,?_⟩;rintro i m σ H ⟨rfl,hi,hp⟩;by_cases hlt:i<kvs.length
 ·refine .inr ⟨⟨hl i σ H hp,hlt⟩,Pv (i+1),λaN H' q=>⟨kvs.length - (i+1),qe,Zj,hlt,q⟩,?_⟩;rintro x H' ⟨p,kv,hn,rfl,gX,rfl⟩;exact hs i kv σ H p gX hp hn
 ·have e:i=kvs.length:=by omega
  subst e;exact .inl ⟨⟨hl _ σ H hp,Zx _⟩,hd σ H hp⟩
end L2
namespace Mk
open PySem L2 MK
def Py (x:Str):Prop:=Dv x=true/\x.cps.all (· < 128)=true/\x.length<=1000
structure Oa (U:Aa) (r:Str×Th):Prop where
 ahead:aO U
 few:U.length<10
 nm:Py r.1
 new:r.1∉ U.map (·.1)
 th:Tk U r.2
 lt:B8 U r.2<2 ^ 20
noncomputable def Ae (rows:List (Str×Th)):Aa:=rows.foldl (λU r=>U++[(r.1,B8 U r.2)]) []
theorem Bv (rows:List (Str×Th)) (r:Str×Th):Ae (rows++[r])=Ae rows++[(r.1,B8 (Ae rows) r.2)]:=by unfold Ae;rw[foldl_append];rfl
def BN (rows:List (Str×Th)):Prop:=∀(i:Nat) r,rows[i]?=some r->Oa (Ae (rows.take i)) r
inductive bH (H:Hp) (b:W3) (r:Str×Th):Prop where
 |mk (tv:_) (cE:H b=some (.tup [.str r.1,tv])) (cD:ff H tv r.2)
inductive RowsAt (H:Hp) (l:W3) (rows:List (Str×Th)):Prop where
 |mk (as:List W3) (cE:H l=some (.lst (as.map V.ref))) (cD:Paired (bH H) as rows)
theorem ff.same {v:V}{th:Th} (s:aA H H') (h:ff H v th):ff H' v th:=by
 cases th with
 |aK=>exact h
 |num n=>exact h
 |iO ns=>obtain⟨a,e,h⟩:=h;exact⟨a,e,s _ _ h⟩
theorem bH.same {b:W3}{r:Str×Th} (s:aA H H') (h:bH H b r):bH H' b r:=by
 obtain⟨tv,e,t⟩:=h;exact⟨tv,s _ _ e,t.same s⟩
theorem C1 {α β:Type}{F:α->β->Prop}:∀ {xs:List α}{ys:List β}{i:Nat}{x:α},Paired F xs ys->xs[i]?=some x->∃y,ys[i]?=some y/\F x y
 |_,_,_,_,.nil,e=>by simp at e
 |_,_,0,_,.cons r _,e=>by simp at e;subst e;exact⟨_,Zj,r⟩
 |_,_,i+1,x,.cons _ t,e=>by
  obtain⟨u,h1,h2⟩:=C1 (i:=i) (x:=x) t (by simpa using e);exact⟨u,by simpa using h1,h2⟩
theorem Fx {H1:Hp}{d:W3}{o:HO} (s:aA H H1) (hd:H d=none):aA H (upd H1 d o):=λb u e=>by
 rw[AH (AJ e hd)];exact s b u e
section
inductive spRow (vs:Wy) (H:Hp) (Q:VK) (_E:XK):Prop where
 |mk (b d:W3) (r:Str×Th) (U:Aa) (cE:vs=[.ref b,.ref d]) (cD:bH H b r) (cK:Rd H d (.dK (Ak U))) (d5:Oa U r) (fj:∀H',aA H H'->Q (.int (B8 U r.2:Nat)) H')
theorem eE:AK ["row", "ahead", "name", "thing", "number"] ["row", "ahead"] (defScope Dq):=cH
theorem Rp {tg:Tok} (F:aZ K "row_number" "row_number" Dq f fd) (B:Bl mg) (hG:mg "GREATEST" = some (.int 1048575 tg)) (GN:Fn P w K mg base "is_name" 1 ["thing"] spIsName) (GT:Fn P w K mg base "thing_number" 3 ["thing", "ahead"] spThing) :
  aD P w K mg base aP 4 f fd ["row", "ahead"] spRow:=by
 obtain⟨fN,dN,GN,mN,kN,bN⟩:=GN.ex;obtain⟨fT,dT,GT,mT,kT,bT⟩:=GT.ex;refine F.m eE λvs H Q E h=>?_;obtain⟨b,d,r,U,rfl,⟨tv,hb,hT⟩,hd,RO,k⟩:=h;refine⟨Zj,λae A outer s hr=>?_⟩;have hu:=Ca hr;have cP:aH 1 _:=hr.mono qc
 refine⟨_,AG (Au (PW.pt (CZ (BH (BA (BJ K Zj Zj B.dH Zj B.tuple EV (pv 0)))) (Bk (AQ CN (AZ (A9 K Zj) Zj B.len PySem.boot_len (AA (pv 0) AD)) AI (AX _))))) (AF Am) Ab)
  (AG (Co (pv 0) (Bd rfl (AV (AT (i:=2) eE.nd rfl (Or.inl rfl)) (AV (AT (i:=3) eE.nd rfl (Or.inl rfl)) BE))))
  (AG (Au (PW.pt (CZ (BH (BA (AM GN cP rfl mN kN bN .nil AL (AA (pv 2) AD)))) (Bk (B9 (Hm hu (pv 2) (pv 1)))))) (AF Am) Ab)
  (AG (Al (i:=4) eE.nd rfl (Or.inl rfl) (AM GT hr rfl mT kT bT .nil AL (AA (pv 3) (AA (pv 1) AD))))
  (AG (Au (PW.pt (CZ (B9 (F5 (pv 4))) (Bk (BH (Ct Cr Cr AI (pv 4) (BY (v:=.int 1048575) rfl hG ⟨tg,rfl⟩)))))) (AF Am) Ab)
  (AF (AN (pv 4))))))),?_⟩
 refine⟨_,Zj,_,_,_,true,Zj,.tup hb,Zj,_,Zj,?_⟩;refine An ?_;refine⟨_,Zj,b,_,Zj,.inr (bA.of hb),Zj,_,Zj,?_⟩;refine K2 Zj ?_;refine⟨_,Zj,b,_,Zj,bA.of hb,Zj,_,_,Zj,_,_,Zj,Zj,?_⟩;refine⟨_,Zj,r.1,Zj,RO.nm.2.1,RO.nm.2.2,λH1 s1=>⟨_,Zj,?_⟩⟩;rw[RO.nm.1];refine An ?_;refine⟨_,Zj,_,Zj,d,_,Zj,.inl ⟨Ak U,Sum.inr r.1,aA.rd s1 hd,Zj,(B6 RO.new).symm⟩,_,Zj,?_⟩;refine An ?_;refine⟨_,Zj,_,Zj,tv,r.2,d,U,Zj,hT.same s1,aA.rd s1 hd,RO.ahead,RO.th,λH2 s2=>?_⟩;refine⟨_,Zj,_,Zj,?_⟩;refine BI (λz=>absurd (ZW z) (by intro q;cases q)) (λ_=>?_);refine⟨_,Zj,_,_,Zj,Zj,_,Zj,?_⟩;refine BI (λ_=>?_) (λz=>absurd (ZM (Z1 _)) z);refine⟨_,_,Zj,Zj,_,Zj,?_⟩;have hlt:=RO.lt;refine K2 (show((B8 U r.2:Nat):Int)<=1048575 by omega) ?_;exact⟨_,Zj,k _ (s1.trans s2)⟩
inductive spNumbered (vs:Wy) (H:Hp) (Q:VK) (_E:XK):Prop where
 |mk (l:W3) (rows:List (Str×Th)) (cE:vs=[.ref l]) (cD:RowsAt H l rows) (cK:0<rows.length) (d5:rows.length<=10) (fj:BN rows) (ir:∀d H',aA H H'->H d=none->H' d=some (.dK (Ak (Ae rows)))->Q (.ref d) H')
theorem aW:AK ["rows", "numbers", "at", "row", "number"] ["rows"] (defScope DV):=cH
theorem Ob {x:Str}{n:Nat} (h:x∉ U.map (·.1)):CO (Ak U) (Sum.inr x:Key) (V.int (n:Int))=Ak (U++[(x,n)]):=by
 rw[Hk _ (B6 h)];unfold Ak;rw[Zt];rfl
theorem DW (U:Aa):(Ak U).length=U.length:=AE _
theorem BQ:∀rows:List (Str×Th),(Ae rows).length=rows.length:=λrows=>by
 have:∀(l:List (Str×Th)) (a:Aa),(l.foldl (λU r=>U++[(r.1,B8 U r.2)]) a).length=a.length+l.length:=by
  intro l;induction l with
  |nil=>intro a;rfl
  |cons x r ih=>intro a;rw[foldl_cons,ih,ZJ,length_cons,length_cons,length_nil];omega
 have e:=this rows [];rw[length_nil]at e;unfold Ae;omega
theorem Ls {tm:Tok} (F:aZ K "numbered" "numbered" DV f fd) (B:Bl mg) (hM:mg "MOST_ROWS" = some (.int 10 tm)) (GR:Fn P w K mg base "row_number" 4 ["row", "ahead"] spRow):aD P w K mg base aP 5 f fd ["rows"] spNumbered:=by
 obtain⟨fR,dR,GR,mR,kR,bR⟩:=GR.ex;refine F.m aW λvs H Q E h=>?_;obtain⟨l,rows,rfl,⟨as,hl,hP⟩,h0,gE,RO,k⟩:=h;refine⟨Zj,λae A outer s hr=>?_⟩;have hu:=Ca hr;have bh:as.length=rows.length:=hP.length
 refine⟨_,AG (Au (PW.pt (CZ (BH (BA (BJ K Zj Zj B.dH Zj B.list Du (pv 0)))) (Bk (BH (Ct Cr Cr AI (AZ (A9 K Zj) Zj B.len PySem.boot_len (AA (pv 0) AD)) (BY (v:=.int 10) Zj hM ⟨tm,Zj⟩)))))) (AF Am) Ab)
  (AG (Al (i:=1) aW.nd rfl (Or.inl rfl) FW)
  (AG (Cp PassesOwn.never rfl (OI rfl B.enum (AA (pv 0) AD)) (Bd rfl (AV (AT (i:=2) aW.nd rfl (Or.inl rfl)) (AV (AT (i:=3) aW.nd rfl (Or.inl rfl)) BE)))
   (AG (Al (i:=4) aW.nd rfl (Or.inl rfl) (AM GR hr rfl mR kR bR .nil AL (AA (pv 3) (AA (pv 1) AD))))
   (AG (Au (B9 (F5 (pv 4))) (AF Am) Ab)
   (AF (J3 hu (pv 1) (Bp (Eg K rfl) (pv 3) AI (λ_ _=>rfl)) (pv 4) rfl)))))
  (AF (AN (pv 1))))),?_⟩
 refine⟨_,Zj,_,_,_,true,Zj,.lst hl,Zj,_,Zj,?_⟩;refine An ?_;have hll:(as.map V.ref).length=rows.length:=by rw[AE,bh]
 refine⟨_,Zj,l,_,Zj,.inl (aJ.of hl),_,_,Zj,Zj,_,Zj,?_⟩;refine BI (λ_=>?_) (λz=>absurd (ZM (by rw[hll];omega)) z);refine⟨_,_,Zj,Zj,_,Zj,?_⟩;refine K2 (show(((as.map V.ref).length:Nat):Int)<=10 by rw[hll];omega) ?_;intro d gg
 refine⟨_,Zj,l,Zj,⟨_,aJ.of (AC (aA.refl _) gg _ _ hl)⟩,Lr (K:=K) (a:=l) (xs:=as.map V.ref) (λi σ H2=>∃v1 v2 v3:Option V,σ=[some (.ref l),some (.ref d),v1,v2,v3]/\aA H H2/\H2 d=some (.dK (Ak (Ae (rows.take i)))))
  ⟨none,none,none,rfl,AC (aA.refl _) gg,AB⟩ (λi σ H2 _ ⟨_,_,_,_,s2,_⟩=>aJ.of (s2 _ _ hl)) ?_ ?_⟩
 ·rintro i y σ H2 p hi ⟨v1,v2,v3,rfl,s2,hd2⟩ hp;rw[ZG]at hi
  obtain⟨b,hb,rfl⟩:∃b,as[i]?=some b/\y=V.ref b:=by
   cases e:as[i]? with
   |none=>rw[e]at hi;cases hi
   |some x=>rw[e]at hi;exact⟨x,Zj,(Option.some.inj hi).symm⟩
  obtain⟨r,hr',hra⟩:=C1 hP hb;have R1:=RO i r hr';have s3:aA H (upd H2 p (.tup [.int i,.ref b])):=AC s2 hp;have iS:(upd H2 p (.tup [.int i,.ref b])) d=some (.dK (Ak (Ae (rows.take i)))):=by rw[AH (AJ hd2 hp)];exact hd2
  refine⟨p,_,Zj,bA.of AB,Zj,_,_,Zj,_,_,Zj,Zj,?_⟩;refine⟨_,Zj,_,Zj,b,d,r,Ae (rows.take i),Zj,hra.same s3,.inl iS,R1,λH4 s4=>?_⟩;refine⟨_,Zj,_,Zj,?_⟩;refine BI (λz=>absurd (ZW z) (by intro q;cases q)) (λ_=>?_);obtain⟨tv,ao,_⟩:=hra.same (s3.trans s4);refine⟨_,Zj,_,Zj,_,Zj,b,_,0,.str r.1,Zj,Zj,bA.of ao,Zj,d,_,Zj,DPut.k (k:=Sum.inr r.1) (s4 _ _ iS) (Ac (by rw[DW,BQ,Zz];omega)),?_⟩;refine⟨_,_,_,Zj,Fx (s3.trans s4) gg,?_⟩;rw[AB,Ob R1.new,ZF,hr',Option.toList_some,Bv]
 ·rintro σ H2 ⟨v1,v2,v3,rfl,s2,hd2⟩;rw[hll,ZD]at hd2;exact⟨_,Zj,k d H2 s2 gg hd2⟩
end
noncomputable def AS (U:Aa):List (Nat×Str):=U.foldl (λfs p=>if (fs.map (·.1)).contains p.2 then fs else fs++[(p.2,p.1)]) []
noncomputable def B0 (fs:List (Nat×Str)):LK:=fs.map λq=>(Sum.inl (q.1:Int),V.str q.2)
noncomputable def CS (fs:List (Nat×Str)) (n:Nat):Str:=((fs.find? λq=>decide (q.1=n)).map (·.2)).getD (Str.ofString "")
theorem DJ (U:Aa) (p:Str×Nat):AS (U++[p])=if ((AS U).map (·.1)).contains p.2 then AS U else AS U++[(p.2,p.1)]:=by unfold AS;rw[foldl_append];rfl
theorem Gj (n:Nat):∀fs:List (Nat×Str),BK (B0 fs) (Sum.inl (n:Int):Key)=(fs.find? λq=>decide (q.1=n)).map λq=>V.str q.2
 | []=>rfl
 |q::r=>by
  show BK ((Sum.inl (q.1:Int),V.str q.2)::B0 r) (Sum.inl (n:Int))=_;by_cases e:q.1=n
  ·rw[EH (p:=(Sum.inl (q.1:Int),V.str q.2)) (by rw[←e]),List.find?_cons_of_pos (by simpa using e)];rfl
  ·rw[EI (p:=(Sum.inl (q.1:Int),V.str q.2)) (λz=>e (by have:=Sum.inl.inj z;omega)),List.find?_cons_of_neg (by simpa using e)];exact Gj n r
theorem FN {fs:List (Nat×Str)}{n:Nat} (h:n∈fs.map (·.1)):(fs.find? λq=>decide (q.1=n)).isSome=true:=by
 obtain⟨q,hq,e⟩:=Zq.mp h;rw[List.find?_isSome];exact⟨q,hq,by simpa using e⟩
theorem DX {fs:List (Nat×Str)}{n:Nat} (h:n∈fs.map (·.1)):BK (B0 fs) (Sum.inl (n:Int):Key)=some (V.str (CS fs n)):=by
 rw[Gj];unfold CS;obtain⟨q,hq⟩:=Option.isSome_iff_exists.mp (FN h);rw[hq];rfl
theorem Eh {fs:List (Nat×Str)}{n:Nat} (h:n∉ fs.map (·.1)):BK (B0 fs) (Sum.inl (n:Int):Key)=none:=by
 rw[Gj]
 have:(fs.find? λq=>decide (q.1=n))=none:=by
  rw[find?_eq_none];intro q hq e;exact h (Zq.mpr ⟨q,hq,by simpa using e⟩)
 rw[this];rfl
theorem Lu {fs:List (Nat×Str)}{n:Nat}{x:Str} (h:n∉ fs.map (·.1)):CO (B0 fs) (Sum.inl (n:Int):Key) (V.str x)=B0 (fs++[(n,x)]):=by
 rw[Hk _ (Eh h)];unfold B0;rw[Zt];rfl
theorem C2 (U:Aa):(AS U).length<=U.length:=by
 have:∀(l:Aa) (a:List (Nat×Str)),(l.foldl (λfs p=>if (fs.map (·.1)).contains p.2 then fs else fs++[(p.2,p.1)]) a).length<=a.length+l.length:=by
  intro l;induction l with
  |nil=>intro a;exact Zx _
  |cons x r ih =>
   intro a;rw[foldl_cons];refine Nat.le_trans (ih _) ?_;split
   ·rw[length_cons];omega
   ·rw[ZJ,length_cons,length_cons,length_nil];omega
 have e:=this U [];rw[length_nil]at e;unfold AS;omega
theorem EW (U:Aa):∀(a:List (Nat×Str)),(a.map (·.1)).Nodup->(∀n∈a.map (·.1),n∈(U.foldl (λfs p=>if (fs.map (·.1)).contains p.2 then fs else fs++[(p.2,p.1)]) a).map (·.1)) /\
  ((U.foldl (λfs p=>if (fs.map (·.1)).contains p.2 then fs else fs++[(p.2,p.1)]) a).map (·.1)).Nodup/\(∀p∈U,p.2∈(U.foldl (λfs p=>if (fs.map (·.1)).contains p.2 then fs else fs++[(p.2,p.1)]) a).map (·.1)) /\
  (∀q∈U.foldl (λfs p=>if (fs.map (·.1)).contains p.2 then fs else fs++[(p.2,p.1)]) a,q∈a\/(q.2,q.1)∈U):=by
 induction U with
 |nil=>intro a ha;exact⟨λn hn=>hn,ha,λp hp=>(nomatch hp),λq hq=>.inl hq⟩
 |cons p r ih =>
  intro a ha;rw[foldl_cons];by_cases hc:(a.map (·.1)).contains p.2=true
  ·rw[Zo hc];obtain⟨i1,i2,i3,i4⟩:=ih a ha;refine⟨i1,i2,λq hq=>?_,λq hq=>?_⟩
   ·rcases mem_cons.mp hq with rfl |hq
    ·exact i1 _ (by simpa using hc)
    ·exact i3 q hq
   ·rcases i4 q hq with z |z
    ·exact .inl z
    ·exact .inr (ZS _ z)
  ·rw[Zp hc];have hnot:p.2∉ a.map (·.1):=λz=>hc (by simpa using z);obtain⟨i1,i2,i3,i4⟩:=ih (a++[(p.2,p.1)]) (by rw[Zt];exact OH ha hnot);refine⟨λn hn=>i1 n (by rw[Zt];exact ZQ _ hn),i2,λq hq=>?_,λq hq=>?_⟩
   ·rcases mem_cons.mp hq with rfl |hq
    ·exact i1 _ (by rw[Zt];exact ZU _ (by simp))
    ·exact i3 q hq
   ·rcases i4 q hq with z |z
    ·rcases mem_append.mp z with z |z
     ·exact .inl z
     ·have:q=(p.2,p.1):=by simpa using z
      subst this;exact .inr ZK
    ·exact .inr (ZS _ z)
theorem Pz (U:Aa):((AS U).map (·.1)).Nodup:=(EW U [] nodup_nil).2.1
theorem P1 {p:Str×Nat} (h:p∈U):p.2∈(AS U).map (·.1):=(EW U [] nodup_nil).2.2.1 p h
theorem Cj {q:Nat×Str} (h:q∈AS U):(q.2,q.1)∈U:=by
 rcases (EW U [] nodup_nil).2.2.2 q h with z |z
 ·cases z
 ·exact z
section
inductive spFirsts (vs:Wy) (H:Hp) (Q:VK) (_E:XK):Prop where
 |mk (d:W3) (o:Obj) (U:Aa) (cE:vs=[.ref d]) (cD:H d=some (.ef o (.dK (Ak U)))) (cK:U.length<=100) (d5:∀e H',aA H H'->H e=none->H' e=some (.dK (B0 (AS U)))->Q (.ref e) H')
theorem scFirsts:AK ["numbers", "firsts", "name", "number"] ["numbers"] (defScope EQ):=cH
theorem Lv {i:Nat}{kv:Key×V} (h:(Ak U)[i]?=some kv):∃p,U[i]?=some p/\kv=(Sum.inr p.1,V.int (p.2:Int)):=by
 unfold Ak at h;rw[ZG]at h;cases e:U[i]? with
 |none=>rw[e]at h;cases h
 |some p=>rw[e]at h;exact⟨p,Zj,(Option.some.inj h).symm⟩
theorem P2 (F:aZ K "first_names" "first_names" EQ f fd):aD P w K mg base aP 1 f fd ["numbers"] spFirsts:=by
 refine F.m scFirsts λvs H Q E h=>?_;obtain⟨d,o,U,rfl,hd,hz,k⟩:=h;refine⟨Zj,λae A outer s hr=>?_⟩
 refine⟨_,AG (Al (i:=1) scFirsts.nd Zj (Or.inl Zj) FW)
  (AG (Cp PassesOwn.never rfl (Qu (pv 0)) (Bd rfl (AV (AT (i:=2) scFirsts.nd rfl (Or.inl rfl)) (AV (AT (i:=3) scFirsts.nd rfl (Or.inl rfl)) BE)))
   (AF (Dd (Hj PySem.F.plainAttrs_dict PySem.F.slot_dict_setdefault PySem.F.type_dict_setdefault Ix (pv 1) (AA (pv 3) (AA (pv 2) AD))))))
  (AF (AN (pv 1)))),?_⟩
 intro e he
 refine⟨_,Zj,d,o,Ak U,Zj,AC (aA.refl _) he _ _ hd,Px (a:=d) (o:=o) (kvs:=Ak U) (λi σ H2=>∃v1 v2:Option V,σ=[some (.ref d),some (.ref e),v1,v2]/\aA H H2/\H2 e=some (.dK (B0 (AS (U.take i)))))
  ⟨none,none,rfl,AC (aA.refl _) he,AB⟩ (λi σ H2 ⟨_,_,_,s2,_⟩=>s2 _ _ hd) ?_ ?_⟩
 ·rintro i kv σ H2 p gX ⟨v1,v2,rfl,s2,gf⟩ hp;obtain⟨pr,fw,rfl⟩:=Lv gX;have s3:aA H (upd H2 p (.tup [.str pr.1,.int (pr.2:Int)])):=AC s2 hp;have he3:(upd H2 p (.tup [.str pr.1,.int (pr.2:Int)])) e=some (.dK (B0 (AS (U.take i)))):=by rw[AH (AJ gf hp)];exact gf
  have et:U.take (i+1)=U.take i++[pr]:=by rw[ZF,fw];rfl
  have hle:(B0 (AS (U.take i))).length<=100:=by
   unfold B0;rw[AE];have:=C2 (U.take i);rw[Zz]at this;omega
  refine⟨p,_,Zj,bA.of AB,Zj,_,_,Zj,_,_,Zj,Zj,?_⟩;refine⟨_,Zj,.inr (.inr (.inl ⟨Zj,.inl ⟨_,he3⟩⟩)),_,Zj,_,Zj,e,_,Sum.inl (pr.2:Int),.str pr.1,Zj,Zj,he3,Ac qe,λw' hw=>?_,λhn=>?_⟩
  ·refine⟨_,_,Zj,s3,?_⟩;have z:pr.2∈(AS (U.take i)).map (·.1):=Decidable.byContradiction λz=>by rw[Eh z]at hw;cases hw
   rw[et,DJ,Zo (by simpa using z)];exact he3
  ·have z:pr.2∉ (AS (U.take i)).map (·.1):=λz=>by rw[DX z]at hn;cases hn
   refine⟨_,_,Zj,Fx s3 he,?_⟩;rw[AB,et,DJ,Zp (by simpa using z),Lu z]
 ·rintro σ H2 ⟨v1,v2,rfl,s2,gf⟩;rw[DW,ZD]at gf;exact⟨_,Zj,k e H2 s2 he gf⟩
end
theorem n12:¬ (("numbers" : Str) = "firsts"):=by decide +kernel
theorem n13:¬ (("numbers" : Str) = "rule"):=by decide +kernel
theorem n23:¬ (("firsts" : Str) = "rule"):=by decide +kernel
noncomputable def Gk (d1 d2:W3) (r:Str):List (Str×V):=Bz "rule" (.str r) (Bz "firsts" (.ref d2) (Bz "numbers" (.ref d1) []))
theorem IS (d1 d2:W3) (r:Str):(Gk d1 d2 r).lookup ("numbers" : Str)=some (.ref d1):=by
 unfold Gk;rw[Ai,Zp n13,Ai,Zp n12,Ai,Zo rfl]
theorem Fy (d1 d2:W3) (r:Str):(Gk d1 d2 r).lookup ("firsts" : Str)=some (.ref d2):=by
 unfold Gk;rw[Ai,Zp n23,Ai,Zo rfl]
theorem Gm (d1 d2:W3) (r:Str):(Gk d1 d2 r).lookup ("rule" : Str)=some (.str r):=by
 unfold Gk;rw[Ai,Zo rfl]
theorem BO (d1 d2:W3) (r:Str) {m:Str} (h1:¬ m = "rule" := by decide +kernel) (h2:¬ m = "firsts" := by decide +kernel) (h3:¬ m = "numbers" := by decide +kernel):(Gk d1 d2 r).lookup m=none:=by
 unfold Gk;rw[Ai,Zp h1,Ai,Zp h2,Ai,Zp h3];rfl
theorem Tl (d1:W3):(Bz "numbers" (V.ref d1) []).lookup ("numbers" : Str)=some (.ref d1):=by rw[Ai,Zo rfl]
structure aG (C:W3) (H:Hp) (p:W3) (U:Aa) (r:Str):Prop where
 ex:∃dx d1 o1 d2 o2,H p=some (.ins C dx (Gk d1 d2 r))/\H d1=some (.ef o1 (.dK (Ak U)))/\H d2=some (.ef o2 (.dK (B0 (AS U))))
theorem aG.same {p:W3}{r:Str} (s:aA H H') (h:aG C H p U r):aG C H' p U r:=by
 obtain⟨dx,d1,o1,d2,o2,a,b,c⟩:=h.ex;exact⟨⟨dx,d1,o1,d2,o2,s _ _ a,s _ _ b,s _ _ c⟩⟩
structure EE (K:FG) (C:W3):Prop where
 cl:gP K C
 nN:cI K C "numbers"
 nF:cI K C "firsts"
 nR:cI K C "rule"
noncomputable def aU:Ww:=["bar", "drop", "keep", "leave"]
section
inductive spInit (C:W3) (vs:Wy) (H:Hp) (Q:VK) (_E:XK):Prop where
 |mk (p dx l:W3) (rows:List (Str×Th)) (r:Str) (cE:vs=[.ref p,.ref l,.str r]) (cD:H p=some (.ins C dx [])) (cK:RowsAt H l rows) (d5:0<rows.length) (fj:rows.length<=10) (ir:BN rows) (z_6:r∈aU) (z_7:∀H',(∀b o,H b=some o->b≠p->H' b=some o)->aG C H' p (Ae rows) r->Q .aK H')
theorem Rq:AK ["self", "rows", "rest"] ["self", "rows", "rest"] (defScope BV):=cH
theorem Rr {r:Str} (h:r∈aU):gU (.str r) (aU.map V.str)=true:=by
 unfold gU;rw[any_map,any_eq_true];exact⟨r,h,by show(r==r)=true;simp⟩
theorem Tm {aR:W3} (F:aZ K "__init__" "Kind.__init__" BV f fd) (B:Bl mg) (T:EE K C) (hR:mg "RULES" = some (.ref aR)) (hRT:∀H:Hp,bA K H aR (aU.map V.str))
  (GN:Fn P w K mg base "numbered" 5 ["rows"] spNumbered) (GF:Fn P w K mg base "first_names" 1 ["numbers"] spFirsts) (GO:Fn P w K mg base "is_one_of" 1 ["thing", "names"] (CI K)):aD P w K mg base aP 6 f fd ["self", "rows", "rest"] (spInit C):=by
 obtain⟨fN,dN,GN,mN,kN,bN⟩:=GN.ex;obtain⟨fF,dF,GF,mF,kF,bF⟩:=GF.ex;obtain⟨fO,dO,GO,mO,kO,bO⟩:=GO.ex;refine F.m Rq λvs H Q E h=>?_;obtain⟨p,dx,l,rows,r,rfl,hp,RA,h0,gE,RO,aw,k⟩:=h;refine⟨Zj,λae A outer s hr=>?_⟩;have cP:aH 1 _:=hr.mono qc
 refine⟨_,AG (F8 (pv 0) (AM GN hr Zj mN kN bN .nil AL (AA (pv 1) AD)) Zj)
  (Hu (AG (Au (BH (BA (AM GO cP rfl mO kO bO .nil AL (AA (pv 2) (AA (BY (v:=.ref aR) rfl hR rfl) AD))))) (AF Am) Ab)
  (AG (F8 (pv 0) (AM GF cP rfl mF kF bF .nil AL (AA (Bm (pv 0) rfl) AD)) rfl)
  (Hu (AF (F8 (pv 0) (pv 2) rfl)))))),?_⟩
 refine⟨_,Zj,l,rows,Zj,RA,h0,gE,RO,λd1 H1 s1 hd1n gx=>?_⟩;have iM:p≠d1:=AJ hp hd1n;refine⟨_,Zj,p,C,dx,[],Zj,s1 _ _ hp,T.cl,T.nN,(by show 0<1000;decide),?_⟩;refine⟨d1,Ak (Ae rows),by rw[AH (Ne.symm iM)];exact gx,λo1=>?_⟩;refine⟨_,Zj,.inr ⟨r,aR,aU,Zj,hRT _,_,Zj,?_⟩⟩;rw[Rr aw];refine An ?_;have aq:∀o,(upd (upd H1 p (.ins C dx (Bz "numbers" (.ref d1) []))) d1 o) p=some (.ins C dx (Bz "numbers" (.ref d1) [])):=λo=>by rw[AH iM,AB]
 refine⟨_,Zj,p,C,dx,_,_,Zj,aq _,T.cl,T.nN,Tl d1,d1,o1,Ae rows,Zj,AB,by rw[BQ];omega,λd2 H2 s2 hd2n hd2=>?_⟩;have npd2:p≠d2:=AJ (aq _) hd2n;have iz:=s2 _ _ (aq _);refine⟨_,Zj,p,C,dx,_,Zj,iz,T.cl,T.nF,(by show 1<1000;decide),?_⟩;refine⟨d2,B0 (AS (Ae rows)),by rw[AH (Ne.symm npd2)];exact hd2,λo2=>?_⟩;have hp4:∀o,(upd (upd H2 p (.ins C dx (Bz "firsts" (.ref d2) (Bz "numbers" (.ref d1) [])))) d2 o) p=some (.ins C dx (Bz "firsts" (.ref d2) (Bz "numbers" (.ref d1) []))):=λo=>by rw[AH npd2,AB]
 refine⟨_,Zj,_,Zj,p,C,dx,_,Zj,hp4 _,T.cl,T.nR,Nat.lt_of_le_of_lt (DF _ _ _) (by show 2<1000;decide),?_⟩;have nd12:d1≠d2:=AJ (AB (H:=upd H1 p (.ins C dx (Bz "numbers" (.ref d1) []))) (o:=.ef o1 (.dK (Ak (Ae rows))))) hd2n;refine k _ (λb o e hb=>?_) ⟨⟨dx,d1,o1,d2,o2,AB,?_,?_⟩⟩
 ·rw[AH hb,AH,AH hb]
  ·refine s2 _ _ ?_;rw[AH (AJ e hd1n),AH hb];exact s1 _ _ e
  ·intro z;subst z
   have:(upd (upd H1 p (.ins C dx (Bz "numbers" (.ref d1) []))) d1 (.ef o1 (.dK (Ak (Ae rows))))) b=some o:=by
    rw[AH (AJ e hd1n),AH hb];exact s1 _ _ e
   rw[hd2n]at this;cases this
 ·rw[AH (Ne.symm iM),AH nd12,AH (Ne.symm iM)];exact s2 _ _ AB
 ·rw[AH (Ne.symm npd2),AB]
end
structure Mt (P:Program) (w:World) (K:FG) (mg:SV) (base:Heap) (C:W3) (m:Str) (k:Nat) (ps:Ww) (sp:Sp):Prop where
 ex:∃f fd,aD P w K mg base aP k f fd ps sp/\Ql K C m f/\Binds K fd ps []
noncomputable def BR (U:Aa):List (V×V):=U.map λp=>(V.str p.1,V.int (p.2:Int))
noncomputable def Av (U:Aa):List Nat:=((AS U).map (·.1)).mergeSort λa b=>decide (a<=b)
noncomputable def AO (U:Aa):List Nat:=(Av U).filter A3
noncomputable def C3 (U:Aa):List (V×V):=(AO U).map λn=>(V.str (CS (AS U) n),V.int (n:Int))
theorem Dw (U:Aa):(Av U).Perm ((AS U).map (·.1)):=List.mergeSort_perm _ _
theorem Fz (U:Aa):(Av U).Pairwise (· <= ·):=by
 have:=List.pairwise_mergeSort (le:=λa b:Nat=>decide (a<=b)) (λa b c h1 h2=>by simp at h1 h2 ⊢;omega) (λa b=>by simp;omega) ((AS U).map (·.1));exact this.imp λh=>by simpa using h
theorem Lw {ns:List Int} (hp:ns.Perm ((B0 (AS U)).map λkv=>match kv.1 with |Sum.inl i=>i |Sum.inr _=>0)) (hs:ns.Pairwise (· <= ·)):ns=(Av U).map λn:Nat=>(n:Int):=by
 refine List.Perm.eq_of_pairwise (le:=(· <= ·)) (λa b _ _ h1 h2=>Int.le_antisymm h1 h2) hs ?_ ?_
 ·rw[pairwise_map];exact(Fz U).imp λh=>by omega
 ·have e:((B0 (AS U)).map λkv=>match kv.1 with |Sum.inl i=>i |Sum.inr _=>0)=((AS U).map (·.1)).map λn:Nat=>(n:Int):=by
   unfold B0;rw[map_map,map_map];rfl
  rw[e]at hp;exact hp.trans ((Dw U).symm.map _)
theorem mem_keysS {n:Nat}:n∈Av U ↔ n∈(AS U).map (·.1):=(Dw U).mem_iff
theorem Ei (U:Aa):(Av U).length<=U.length:=by
 rw[(Dw U).length_eq,AE];exact C2 U
section
inductive spRows (C:W3) (vs:Wy) (H:Hp) (Q:VK) (_E:XK):Prop where
 |mk (p:W3) (U:Aa) (r:Str) (cE:vs=[.ref p]) (cD:aG C H p U r) (cK:∀l as H',aA H H'->H' l=some (.lst (as.map V.ref))->aB H' as (BR U)->Q (.ref l) H')
theorem U2:AK ["self"] ["self"] (defScope Gc):=cH
theorem Tn (U:Aa):(Ak U).map (λkv=>(kV kv.1,kv.2))=BR U:=by unfold Ak BR;rw[map_map];rfl
theorem To (F:aZ K "rows" "Kind.rows" Gc f fd) (B:Bl mg) (T:EE K C):aD P w K mg base aP 1 f fd ["self"] (spRows C):=by
 refine F.m U2 λvs H Q E h=>?_;obtain⟨p,U,r,rfl,KA,k⟩:=h;refine⟨Zj,λae A outer s hr=>?_⟩;obtain⟨dx,d1,o1,d2,o2,hp,h1,h2⟩:=KA.ex;refine⟨_,AF (AN (BS (ND Zj) Zj B.list Du (AA (NB PySem.F.slot_dict_items PySem.F.type_dict_items Qz (Bm (pv 0) Zj)) AD))),?_⟩;refine⟨_,Zj,p,C,dx,_,_,Zj,hp,T.cl,T.nN,IS _ _ _,d1,Zj,.inl ⟨_,.inr ⟨o1,h1⟩⟩,d1,_,Zj,Zj,.inr ⟨o1,h1⟩,λv hv=>?_⟩;have s1:aA H (upd H v (OJ d1 v)):=AC (aA.refl _) hv;refine⟨v,d1,_,Zj,AB,aA.rd s1 (.inr ⟨o1,h1⟩),λl as H' s2 _ hl ht=>?_⟩;rw[Tn]at ht;exact k l as H' (s1.trans s2) hl ht
inductive spKnown (C:W3) (vs:Wy) (H:Hp) (Q:VK) (_E:XK):Prop where
 |mk (p:W3) (U:Aa) (r:Str) (cE:vs=[.ref p]) (cD:aG C H p U r) (cK:∀H',aA H H'->Q (.int (Ah ((AS U).map (·.1)):Nat)) H')
theorem Tp:AK ["self"] ["self"] (defScope FD):=cH
theorem Rs (F:aZ K "known" "Kind.known" FD f fd) (B:Bl mg) (T:EE K C) (GU:Fn P w K mg base "union_of" 1 ["numbers"] (spUnionOf K)):aD P w K mg base aP 2 f fd ["self"] (spKnown C):=by
 obtain⟨fU,dU,GU,mU,kU,bU⟩:=GU.ex;refine F.m Tp λvs H Q E h=>?_;obtain⟨p,U,r,rfl,KA,k⟩:=h;refine⟨Zj,λae A outer s hr=>?_⟩;obtain⟨dx,d1,o1,d2,o2,hp,h1,h2⟩:=KA.ex;refine⟨_,AF (AN (AM GU hr Zj mU kU bU .nil AL (AA (BS (NC Zj) Zj B.list Du (AA (Bm (pv 0) Zj) AD)) AD))),?_⟩;refine⟨_,Zj,p,C,dx,_,_,Zj,hp,T.cl,T.nF,Fy _ _ _,d2,_,Zj,.inr ⟨o2,h2⟩,λl hl=>?_⟩;refine⟨l,(AS U).map (·.1),Zj,aJ.of (by rw[AB];unfold B0 AU;rw[map_map,map_map];rfl),k _ (AC (aA.refl _) hl)⟩
inductive spMarks (C:W3) (vs:Wy) (H:Hp) (Q:VK) (_E:XK):Prop where
 |mk (p:W3) (U:Aa) (r:Str) (cE:vs=[.ref p]) (cD:aG C H p U r) (cK:U.length<=60) (d5:∀l as H',aA H H'->H' l=some (.lst (as.map V.ref))->aB H' as (C3 U)->Q (.ref l) H')
theorem Tq:AK ["self"] ["self"] (defScope FC):=cH
theorem Jh {as:List W3}{ps:List (V×V)}{b:W3}{p:V×V} (s:aA H H') (h:aB H as ps) (hb:H' b=some (.tup [p.1,p.2])):aB H' (as++[b]) (ps++[p]):=Paired.snoc (aB.same s h) hb
theorem Rt (F:aZ K "marks" "Kind.marks" FC f fd) (B:Bl mg) (T:EE K C) (GM:Fn P w K mg base "is_mark" 1 ["number"] spIsMark):aD P w K mg base aP 2 f fd ["self"] (spMarks C):=by
 obtain⟨fM,dM,GM,mM,kM,bM⟩:=GM.ex;refine F.m Tq λvs H Q E h=>?_;obtain⟨p,U,r,rfl,KA,h60,k⟩:=h;refine⟨Zj,λae A outer s hr=>?_⟩;have hu:=Ca hr;obtain⟨dx,d1,o1,d2,o2,hp,h1,h2⟩:=KA.ex
 refine⟨_,AF (AN (Bf ["self"] [some 0] qd qb qd Zj (A5 (AZ (Fb Zj) Zj B.sorted Gi (AA (Bm (pv 0) Zj) AD)))
  (λ_ _ _ _ _ _=>B4 (BA (AM GM hr rfl mM kM bM .nil AL (AA (pv 0) AD))))
  (λ_ _ _ _ _ _=>BB (AA (Bs hu (OY K rfl (pv 1) rfl) (pv 0) (λ_ _=>rfl)) (AA (pv 0) AD))))),?_⟩
 have hle:(B0 (AS U)).length<=U.length:=by unfold B0;rw[AE];exact C2 U
 refine⟨_,Zj,p,C,dx,_,_,Zj,hp,T.cl,T.nF,Fy _ _ _,d2,_,Zj,.inr ⟨o2,h2⟩,qe,λkv gX=>?_,λl ns hl bo di=>?_⟩
 ·unfold B0 at gX;obtain⟨q,_,rfl⟩:=Zq.mp gX;exact⟨_,Zj⟩
 ·have en:=Lw bo di;subst en;have s1:aA H (upd H l (.lst (((Av U).map λn:Nat=>(n:Int)).map V.int))):=AC (aA.refl _) hl;have exs:((Av U).map λn:Nat=>(n:Int)).map V.int=AU (Av U):=(Fw _).symm
  refine⟨l,Zj,⟨_,aJ.of AB⟩,BU (K:=K) (a:=l) (xs:=AU (Av U))
   (λi ys H2=>∃as,ys=as.map V.ref/\aA H H2/\H2 l=some (.lst (AU (Av U)))/\aB H2 as ((((Av U).take i).filter A3).map λn=>(V.str (CS (AS U) n),V.int (n:Int)))) ⟨[],rfl,s1,by rw[AB,exs],.nil⟩
   (λi ys H2 _ ⟨_,_,_,e,_⟩=>aJ.of e) (λi ys H2 ⟨as,e,_,_,t⟩=>?_) ?_ ?_⟩
  ·have:=t.length;rw[e,AE,this,AE];have h3:(((Av U).take i).filter A3).length<=((Av U).take i).length:=ZT _ _;rw[Zz]at h3;have:=Ei U;omega
  ·rintro i v ys H2 hi ⟨as,rfl,s2,d9,ht⟩;obtain⟨n,hn,rfl⟩:=DI hi;have cy:n∈(AS U).map (·.1):=mem_keysS.mp (ZR hn);have et:((Av U).take (i+1)).filter A3=((Av U).take i).filter A3++(if A3 n then [n]else []):=PySem.take_succ_filter A3 _ i n hn;refine⟨_,Zj,n,Zj,_,Zj,?_⟩;refine BI (λhm=>?_) (λhm=>?_)
   ·refine⟨_,Zj,p,C,dx,_,_,Zj,s2 _ _ hp,T.cl,T.nF,Fy _ _ _,_,Zj,d2,_,Zj,.inl ⟨_,Sum.inl (n:Int),aA.rd s2 (.inr ⟨o2,h2⟩),Zj,(DX cy).symm⟩,_,Zj,dQ,λb hb=>?_⟩;refine⟨as++[b],by rw[Zt];rfl,AC s2 hb,by rw[AH (AJ d9 hb)];exact d9,?_⟩;rw[et,hm,Zo rfl,Zt];exact Jh (AC (aA.refl _) hb) ht AB
   ·refine⟨as,Zj,s2,d9,?_⟩;rw[et,Zp hm,Zs];exact ht
  ·rintro ys H2 ⟨as,rfl,s2,_,ht⟩ q hq
   have el:(Av U).take (AU (Av U)).length=Av U:=by
    have:(AU (Av U)).length=(Av U).length:=by unfold AU;rw[AE]
    rw[this];exact ZD
   rw[el]at ht;exact k q as _ (AC s2 hq) AB (aB.same (AC (aA.refl _) hq) ht)
end
theorem Lx {as:List W3}{ps:List (V×V)}{i:Nat}{b:W3} (h:aB H as ps) (e:as[i]?=some b):∃p,ps[i]?=some p/\H b=some (.tup [p.1,p.2]):=C1 h e
section
theorem aG.ins {p:W3}{r:Str} (h:aG C H p U r):∃dx d1 d2,H p=some (.ins C dx (Gk d1 d2 r)):=by
 obtain⟨dx,d1,o1,d2,o2,a,_⟩:=h.ex;exact⟨dx,d1,d2,a⟩
theorem Ji (U:Aa):(C3 U).length=(AO U).length:=AE _
end
theorem Oc (h:∀p∈U,p.2<2 ^ 20):∀n∈(AS U).map (·.1),n<2 ^ 20:=λn hn=>by
 obtain⟨q,hq,rfl⟩:=Zq.mp hn;exact h _ (Cj hq)
theorem Ru (h:∀p∈U,p.2<2 ^ 20):∀n∈AO U,n<2 ^ 20:=λn hn=>Oc h n (mem_keysS.mp (mem_filter.mp hn).1)
theorem F0 {x:Int}{n:Nat} (h0:0<=x) (h:x<2 ^ n):Builtin.Int.intBits x<=n:=by
 obtain⟨m,rfl⟩:=Int.eq_ofNat_of_zero_le h0;have hm:m<2 ^ n:=by exact_mod_cast h
 rcases Nat.eq_zero_or_pos m with e |hp
 ·subst e;exact Nat.zero_le _
 ·rw[CQ hp];exact(Nat.log2_lt qe).mpr hm
theorem KU {xs:Wy}{i:Int} (h0:0<=i) (h1:i<xs.length):∃v,g6 xs i=some v/\xs[i.toNat]?=some v:=by
 have hlt:i.toNat<xs.length:=by omega
 refine⟨xs[i.toNat],?_,Z7 hlt⟩;unfold g6 iy;rw[Zo h0,Zo h1];exact Z7 hlt
structure F1 (d:W3) (H H':Hp):Prop where
 old:∀b o,H b=some o->b≠d->H' b=some o
 bS:∃a b:Int,H' d=some (.lst [.int a,.int b])
section
inductive spCell (K:FG) (vs:Wy) (H:Hp) (Q:VK) (_E:XK):Prop where
 |mk (a:W3) (ns:List Int) (k:Int) (cE:vs=[.ref a,.int k]) (cD:aJ K H a (ns.map V.int)) (cK:ns.length<=63) (d5:0<=k) (fj:∀(v:Int) H',aA H H'->Q (.int v) H')
theorem U3:AK ["_law_script", "_law_k"] ["_law_script", "_law_k"] (defScope IL):=cH
theorem Tr (F:aZ K "_law_cell" "_law_cell" IL f fd) (B:Bl mg):aD P w K mg base aP 1 f fd ["_law_script", "_law_k"] (spCell K):=by
 refine F.m U3 λvs H Q E h=>?_;obtain⟨a,ns,kk,rfl,hS,h63,hk,k⟩:=h;refine⟨Zj,λae A outer s hr=>?_⟩;have hu:=hr.units
 refine⟨_,AG (Au (AQ (Ut K Zj hu) (pv 0) (A6 AD) (AX _)) (AF (AN (AW HQ (pv 1) AI))) Ab)
  (AF (AN (AW Df (Bp (BD K rfl) (pv 0) (AW Ew (pv 1) (AZ (A9 K rfl) rfl B.len PySem.boot_len (AA (pv 0) AD))) (λ_ _=>rfl))
   (AW HQ (AW Jt (pv 1) (AZ (A9 K rfl) rfl B.len PySem.boot_len (AA (pv 0) AD))) AI)))),?_⟩
 refine⟨_,Zj,Nat.zero_le _,λp hp=>?_⟩;have s1:aA H (upd H p (.lst [])):=AC (aA.refl _) hp;refine⟨a,p,ns,[],Zj,Zj,s1.seq hS,aJ.of AB,_,Zj,?_⟩;refine BI (λh0=>?_) (λh0=>?_)
 ·exact⟨_,Zj,_,_,Zj,Zj,.inr ⟨qc,qc⟩,k _ _ s1⟩
 ·have bc:ns≠ []:=λz=>h0 (ZM z);have hpos:0<ns.length:=length_pos_iff.mpr bc;have hl:(ns.map V.int).length=ns.length:=AE _;have hm0:0<=kk % ((ns.map V.int).length:Int):=Int.emod_nonneg _ (by rw[hl];omega);have hm1:kk % ((ns.map V.int).length:Int)<((ns.map V.int).length:Nat):=Int.emod_lt_of_pos _ (by rw[hl];omega);obtain⟨v,hv,d8⟩:=KU (xs:=ns.map V.int) hm0 hm1
  obtain⟨n,rfl⟩:∃n,v=V.int n:=by
   rw[ZG]at d8;cases e:ns[(kk % ((ns.map V.int).length:Int)).toNat]? with
   |none=>rw[e]at d8;cases d8
   |some n=>rw[e]at d8;exact⟨n,(Option.some.inj d8).symm⟩
  refine⟨_,Zj,_,Zj,_,Zj,a,_,Zj,.inl (s1.seq hS),_,_,Zj,Zj,(by rw[hl];omega),a,_,_,_,Zj,Zj,s1.seq hS,hv,?_⟩;exact⟨_,Zj,_,Zj,a,_,Zj,.inl (s1.seq hS),_,_,Zj,Zj,⟨by rw[hl];omega,by rw[hl];omega⟩,_,_,Zj,Zj,.inr ⟨qc,qc⟩,_,_,Zj,Zj,k _ _ s1⟩
inductive spDrawn (vs:Wy) (H:Hp) (Q:VK) (_E:XK):Prop where
 |mk (c k:Int) (cE:vs=[.int c,.int k]) (cD:∀r:Int,0<=r->Q (.int r) H)
theorem scDrawn:AK ["_law_cell_here", "_law_k", "_law_more"] ["_law_cell_here", "_law_k"] (defScope Gg):=cH
theorem Rv (F:aZ K "_law_drawn" "_law_drawn" Gg f fd):aD P w K mg base aP 1 f fd ["_law_cell_here", "_law_k"] spDrawn:=by
 refine F.m scDrawn λvs H Q E h=>?_;obtain⟨c,kk,rfl,k⟩:=h;refine⟨Zj,λae A outer s hr=>?_⟩
 refine⟨_,AG (Al (i:=2) scDrawn.nd Zj (Or.inl Zj) (AW Ew (AW Df (AW HQ (pv 0) AI) (AW HQ (AW Df (pv 1) AI) AI)) AI))
  (AG (Al (i:=2) scDrawn.nd rfl (Or.inl rfl) (AW Ew (AW J5 (pv 2) (pv 2)) AI))
  (AG (Al (i:=2) scDrawn.nd rfl (Or.inl rfl) (AW J5 (AW J5 (AW Df (AW Ew (pv 2) AI) AI) (AW Df (AW Q6 (pv 2) AI) AI)) (pv 2)))
  (AF (AN (AW Ew (pv 2) AI))))),?_⟩
 refine⟨_,Zj,_,_,Zj,Zj,.inr ⟨qc,qc⟩,_,Zj,_,_,Zj,Zj,_,_,Zj,Zj,.inr ⟨qc,qc⟩,_,_,Zj,Zj,_,_,Zj,Zj,(by show(0:Int)<_;decide),?_⟩;generalize ha:(c*6364136223846793005+(kk+1)*1442695040888963407) % 340282366920938463463374607431768211507=m1
 have h1:0<=m1/\m1<2 ^ 130:=by
  rw[←ha];exact⟨Int.emod_nonneg _ qc,Int.lt_trans (Int.emod_lt_of_pos _ qc) qc⟩
 have b1:Builtin.Int.intBits m1<=2 ^ 20:=Nat.le_trans (F0 h1.1 h1.2) qc;subst ha;refine⟨_,Zj,_,Zj,_,_,Zj,Zj,⟨b1,b1⟩,_,_,Zj,Zj,(by show(0:Int)<_;decide),?_⟩;generalize hb:(c*6364136223846793005+(kk+1)*1442695040888963407) % 340282366920938463463374607431768211507*((c*6364136223846793005+(kk+1)*1442695040888963407) % 340282366920938463463374607431768211507) % 340282366920938463463374607431768211297=m2
 have h2:0<=m2/\m2<2 ^ 130:=by
  rw[←hb];exact⟨Int.emod_nonneg _ qc,Int.lt_trans (Int.emod_lt_of_pos _ qc) qc⟩
 have b2:Builtin.Int.intBits m2<=2 ^ 20:=Nat.le_trans (F0 h2.1 h2.2) qc
 have p1:0<=m2 % 18446744073709551557+1/\m2 % 18446744073709551557+1<2 ^ 65:=by
  have:=Int.emod_nonneg m2 (show(18446744073709551557:Int)≠0 by decide);have:=Int.emod_lt_of_pos m2 (show(0:Int)<18446744073709551557 by decide);omega
 have p2:0<=m2 / 18446744073709551557+1/\m2 / 18446744073709551557+1<2 ^ 131:=by
  have h3:=Int.ediv_nonneg h2.1 (show(0:Int)<=18446744073709551557 by decide);have h4:=Int.ediv_le_self (18446744073709551557) h2.1;omega
 have p3:0<=(m2 % 18446744073709551557+1)*(m2 / 18446744073709551557+1):=Int.mul_nonneg p1.1 p2.1
 have p4:(m2 % 18446744073709551557+1)*(m2 / 18446744073709551557+1)<2 ^ 196:=by
  have:=Int.mul_lt_mul' (Int.le_of_lt p1.2) p2.2 p2.1 (show(0:Int)<2 ^ 65 by decide);exact Int.lt_of_lt_of_le this qc
 have c1:Builtin.Int.intBits (m2 % 18446744073709551557+1)<=2 ^ 20:=Nat.le_trans (F0 p1.1 p1.2) qc;have c2:Builtin.Int.intBits (m2 / 18446744073709551557+1)<=2 ^ 20:=Nat.le_trans (F0 p2.1 p2.2) qc;have c3:Builtin.Int.intBits ((m2 % 18446744073709551557+1)*(m2 / 18446744073709551557+1))<=2 ^ 20:=Nat.le_trans (F0 p3 p4) qc;subst hb;refine⟨_,Zj,_,_,Zj,Zj,(by show(0:Int)<_;decide),_,_,Zj,Zj,_,Zj,_,_,Zj,Zj,⟨qc,PyProof.noPylong_of_log2 qb⟩,_,_,Zj,Zj,_,_,Zj,Zj,⟨c1,c2⟩,?_⟩;refine⟨_,Zj,_,_,Zj,Zj,⟨c3,b2⟩,?_⟩;exact⟨_,Zj,_,_,Zj,Zj,(by show(0:Int)<_;decide),k _ (Int.emod_nonneg _ qc)⟩
inductive spRoll (vs:Wy) (H:Hp) (Q:VK) (_E:XK):Prop where
 |mk (d:W3) (a b m:Int) (cE:vs=[.ref d,.int m]) (cD:H d=some (.lst [.int a,.int b])) (cK:0<m) (d5:m<1073741824) (fj:∀r a' b':Int,0<=r->r<m->Q (.int r) (upd H d (.lst [.int a',.int b'])))
theorem scRoll:AK ["_law_dice", "_law_many", "_law_told_here"] ["_law_dice", "_law_many"] (defScope IM):=cH
theorem Ts (F:aZ K "_law_roll" "_law_roll" IM f fd) (GD:Fn P w K mg base "_law_drawn" 1 ["_law_cell_here", "_law_k"] spDrawn):aD P w K mg base aP 2 f fd ["_law_dice", "_law_many"] spRoll:=by
 obtain⟨fD,dD,GD,mD,kD,bD⟩:=GD.ex;refine F.m scRoll λvs H Q E h=>?_;obtain⟨d,a,b,m,rfl,hd,m0,m1,k⟩:=h;refine⟨Zj,λae A outer s hr=>?_⟩
 refine⟨_,AG (Au (AQ Qh (Bp (BD K Zj) (pv 0) AI (λ_ _=>rfl)) (AW Mp AI AI) (AX _))
   (AG (Al (i:=2) scRoll.nd rfl (Or.inl rfl) (AW Ew (Bp (BD K rfl) (pv 0) AI (λ_ _=>rfl)) (pv 1)))
   (AG (Co (AW Jt (Bp (BD K rfl) (pv 0) AI (λ_ _=>rfl)) (pv 1)) (QX (pv 0) AI K0))
   (AF (AN (pv 2))))) Ab)
  (AG (Co (AW Df (Bp (BD K rfl) (pv 0) AI (λ_ _=>rfl)) AI) (QX (pv 0) AI K0))
  (AF (AN (AW Ew (AW Jt (AM GD hr rfl mD kD bD .nil AL (AA (Bp (BD K rfl) (pv 0) AI (λ_ _=>rfl)) (AA (Bp (BD K rfl) (pv 0) AI (λ_ _=>rfl)) AD))) AI) (pv 1))))),?_⟩
 refine⟨_,Zj,d,_,0,.int a,Zj,Zj,aJ.of hd,Cc (j:=0) Zj,_,_,Zj,Zj,⟨qc,qc,qc⟩,_,_,Zj,Zj,_,Zj,?_⟩;refine BI (λ_=>?_) (λ_=>?_)
 ·refine⟨_,Zj,d,_,0,.int a,Zj,Zj,aJ.of hd,Cc (j:=0) Zj,_,Zj,_,_,Zj,Zj,m0,?_⟩;refine⟨_,Zj,d,_,0,.int a,Zj,Zj,aJ.of hd,Cc (j:=0) Zj,_,Zj,_,_,Zj,Zj,⟨m0,m1⟩,_,Zj,d,_,0,0,Zj,Zj,hd,Zj,?_⟩;exact⟨_,Zj,k _ (a / m) b (Int.emod_nonneg _ qe) (Int.emod_lt_of_pos _ m0)⟩
 ·refine⟨_,Zj,d,_,1,.int b,Zj,Zj,aJ.of hd,Cc (j:=1) Zj,_,_,Zj,Zj,_,Zj,d,_,1,1,Zj,Zj,hd,Zj,?_⟩;have hd2:(upd H d (.lst ([V.int a,V.int b].set 1 (V.int (b+1))))) d=some (.lst [.int a,.int (b+1)]):=AB;refine⟨_,Zj,d,_,0,.int a,Zj,Zj,aJ.of hd2,Cc (j:=0) Zj,_,Zj,d,_,1,.int (b+1),Zj,Zj,aJ.of hd2,Cc (j:=1) Zj,_,_,Zj,λr hr0=>?_⟩;refine⟨_,_,Zj,Zj,⟨qc,qc⟩,_,Zj,_,_,Zj,Zj,m0,?_⟩;exact k _ a (b+1) (Int.emod_nonneg _ qe) (Int.emod_lt_of_pos _ m0)
inductive spRuleOf (vs:Wy) (H:Hp) (Q:VK) (_E:XK):Prop where
 |mk (d:W3) (a b:Int) (cE:vs=[.ref d]) (cD:H d=some (.lst [.int a,.int b])) (cK:∀(r:Str) H',r∈(["bar", "drop", "keep", "leave"]:Ww)->F1 d H H'->Q (.str r) H')
theorem Rw:AK ["_law_dice"] ["_law_dice"] (defScope FJ):=cH
theorem P3 (F:aZ K "_law_rule_of" "_law_rule_of" FJ f fd) (GR:Fn P w K mg base "_law_roll" 2 ["_law_dice", "_law_many"] spRoll):aD P w K mg base aP 3 f fd ["_law_dice"] spRuleOf:=by
 obtain⟨fR,dR,GR,mR,kR,bR⟩:=GR.ex;refine F.m Rw λvs H Q E h=>?_;obtain⟨d,a,b,rfl,hd,k⟩:=h;refine⟨Zj,λae A outer s hr=>?_⟩;refine⟨_,AF (AN (Bp (BD K Zj) (A6 (AA AY (AA AY (AA AY (AA AY AD))))) (AM GR hr Zj mR kR bR .nil AL (AA (pv 0) (AA AI AD))) (λ_ _=>rfl))),?_⟩;refine⟨sl4,λp hp=>?_⟩;have iM:d≠p:=AJ hd hp;refine⟨_,Zj,d,a,b,4,Zj,by rw[AH iM];exact hd,qc,qc,λr a' b' h0 h1=>?_⟩;have hl:(upd (upd H p (.lst [.str "bar", .str "drop", .str "keep", .str "leave"])) d (.lst [.int a',.int b'])) p=some (.lst [.str "bar", .str "drop", .str "keep", .str "leave"]):=by rw[AH (Ne.symm iM),AB]
 obtain⟨v,hv,d8⟩:=KU (xs:=[V.str "bar", V.str "drop", V.str "keep", V.str "leave"]) h0 (by show r<4;exact h1)
 have fA:∃x,v=.str x/\x∈(["bar", "drop", "keep", "leave"]:Ww):=by
  have:=ZR d8;simp only[mem_cons,not_mem_nil,or_false]at this;rcases this with z |z |z |z
  ·exact⟨_,z,by simp⟩
  ·exact⟨_,z,by simp⟩
  ·exact⟨_,z,by simp⟩
  ·exact⟨_,z,by simp⟩
 obtain⟨x,rfl,hx⟩:=fA;refine⟨p,_,r,_,Zj,Zj,aJ.of hl,hv,k x _ hx ⟨λc o e hc=>?_,⟨a',b',AB⟩⟩⟩;rw[AH hc,AH (AJ e hp)];exact e
end
theorem Ej (n k:Nat):decide (V.int (Builtin.bitAnd ((n:Int) / 2 ^ ((0:Int)+(k:Int)).toNat) 1)=V.int 1)=n.testBit k:=by
 have e0:((0:Int)+(k:Int)).toNat=k:=by omega
 have e1:(n:Int) / 2 ^ k=((n / 2 ^ k:Nat):Int):=by push_cast;rfl
 have e2:Builtin.bitAnd ((n / 2 ^ k:Nat):Int) 1=((n / 2 ^ k % 2:Nat):Int):=by
  have:=Cd (n / 2 ^ k) 1;rw[Nat.and_one_is_mod]at this;exact this
 rw[e0,e1,e2,Nat.testBit_eq_decide_div_mod_eq];refine decide_eq_decide.mpr ⟨λh=>?_,λh=>?_⟩
 ·have:=V.int.inj h;omega
 ·rw[h];rfl
section
inductive spRounds (K:FG) (vs:Wy) (H:Hp) (Q:VK) (_E:XK):Prop where
 |mk (a:W3) (ns:List Int) (cE:vs=[.ref a,.int 4]) (cD:aJ K H a (ns.map V.int)) (cK:ns.length<=63) (d5:∀(l:W3) (as:List W3) H',aA H H'->H' l=some (.lst (as.map V.ref))->as.Nodup->l∉ as->as.length<=4->(∀b∈as,H b=none/\∃x y:Int,H' b=some (.lst [.int x,.int y]))->Q (.ref l) H')
theorem Rx:AK ["_law_script", "_law_most"] ["_law_script", "_law_most"] (defScope FI):=cH
theorem P4 (F:aZ K "_law_rounds" "_law_rounds" FI f fd) (B:Bl mg) (GC:Fn P w K mg base "_law_cell" 1 ["_law_script", "_law_k"] (spCell K)):aD P w K mg base aP 2 f fd ["_law_script", "_law_most"] (spRounds K):=by
 obtain⟨fC,dC,GC,mC,kC,bC⟩:=GC.ex;refine F.m Rx λvs H Q E h=>?_;obtain⟨a,ns,rfl,hS,h63,k⟩:=h;refine⟨Zj,λae A outer s hr=>?_⟩
 refine⟨_,AF (AN (Bf ["_law_script"] [some 0] qd qb qd rfl
  (Ch rfl B.range (AA (AZ (O1 rfl) rfl B.max U1 (AA AI (AA (AZ (O2 rfl) rfl B.min Rk (AA (pv 1) (AA (AZ (A9 K rfl) rfl B.len PySem.boot_len (AA (pv 0) AD)) AD))) AD))) AD))
  (λ_ _ _ _ _ _=>B3)
  (λ_ _ _ _ _ _=>A6 (AA (AM GC hr rfl mC kC bC .nil AL (AA (pv 1) (AA (pv 0) AD))) (AA AI AD))))),?_⟩
 have hl:(ns.map V.int).length=ns.length:=AE _;refine⟨_,Zj,_,Zj,a,_,Zj,.inl hS,_,_,Zj,_,_,Zj,_,Zj,?_,?_,?_⟩
 ·split <;> split <;> omega
 ·split <;> split <;> omega
 ·generalize hn:(if (if (((ns.map V.int).length:Nat):Int)<4 then (((ns.map V.int).length:Nat):Int)else 4)>1 then (if (((ns.map V.int).length:Nat):Int)<4 then (((ns.map V.int).length:Nat):Int)else 4)else 1).toNat=n
  have n5:n<=4:=by
   rw[←hn];split <;> split <;> omega
  refine Cy (lo:=0) (n:=n) (λi ys H2=>∃as:List W3,ys=as.map V.ref/\as.length=i/\i<=4/\aA H H2/\as.Nodup/\∀b∈as,H b=none/\∃x y:Int,H2 b=some (.lst [.int x,.int y])) ⟨[],rfl,rfl,qc,aA.refl _,nodup_nil,λb hb=>nomatch hb⟩ ?_ ?_ ?_
  ·rintro i ys H2 ⟨as,rfl,e,h5,_⟩;rw[AE];omega
  ·rintro i ys H2 hi ⟨as,rfl,e,h5,s2,nd,hb⟩;refine⟨_,Zj,_,Zj,a,ns,_,Zj,s2.seq hS,h63,qe,λv H3 s3=>⟨dQ,λp hp=>?_⟩⟩;refine⟨as++[p],by rw[Zt];rfl,by rw[ZJ,e];rfl,qe,AC (s2.trans s3) hp,?_,λb ik=>?_⟩
   ·refine List.nodup_append.mpr ⟨nd,Zr.mpr ⟨not_mem_nil,nodup_nil⟩,?_⟩;intro x hx y hy;rw[ZI]at hy;subst hy;obtain⟨_,x1,y1,e1⟩:=hb x hx;exact AJ (s3 _ _ e1) hp
   ·rcases mem_append.mp ik with z |z
    ·obtain⟨h0,x1,y1,e1⟩:=hb b z;exact⟨h0,x1,y1,AC s3 hp _ _ e1⟩
    ·rw[ZI]at z;subst z;refine⟨?_,v,0,AB⟩;cases e:H b with
     |none=>rfl
     |some o =>
      have:=s3 _ _ (s2 _ _ e);rw[this]at hp;cases hp
  ·rintro ys H2 ⟨as,rfl,e,h5,s2,nd,hb⟩ l hl;refine k l as _ (AC s2 hl) AB nd ?_ qe λb ik=>?_
   ·intro z;obtain⟨_,x,y,e1⟩:=hb l z;rw[e1]at hl;cases hl
   ·obtain⟨h0,x,y,e1⟩:=hb b ik;exact⟨h0,x,y,AC (aA.refl _) hl _ _ e1⟩
inductive spBitsOf (vs:Wy) (H:Hp) (Q:VK) (_E:XK):Prop where
 |mk (n:Nat) (cE:vs=[.int (n:Int)]) (cD:∀l ys H',aA H H'->H' l=some (.lst ys)->ys.length=(C0 n).length->Q (.ref l) H')
theorem Ly:AK ["_law_number"] ["_law_number"] (defScope Dt):=cH
theorem P5 (F:aZ K "_law_bits_of" "_law_bits_of" Dt f fd) (B:Bl mg):aD P w K mg base aP 1 f fd ["_law_number"] spBitsOf:=by
 refine F.m Ly λvs H Q E h=>?_;obtain⟨n,rfl,k⟩:=h;refine⟨Zj,λae A outer s hr=>?_⟩
 refine⟨_,AF (AN (Bf ["_law_number"] [some 0] qd qb qd Zj (Ch Zj B.range (AA AI AD))
  (λ_ _ _ _ _ _=>B4 (AQ DP (AW Cq (AW Mq (pv 1) (pv 0)) AI) AI (AX _)))
  (λ_ _ _ _ _ _=>AW F6 AI (pv 0)))),?_⟩
 refine⟨42,Zj,qc,qc,?_⟩;refine Cy (lo:=0) (n:=42) (λi ys H2=>ys.length=((List.range i).filter λk=>n.testBit k).length/\i<=42/\H2=H) ⟨Zj,qc,Zj⟩ ?_ ?_ ?_
 ·rintro i ys H2 ⟨e,hi,_⟩;rw[e];have:=ZT (λk=>n.testBit k) (List.range i);rw[length_range]at this;omega
 ·rintro i ys H2 hi ⟨e,_,rfl⟩;refine⟨_,Zj,_,Zj,_,_,Zj,Zj,qe,_,_,Zj,Zj,?_⟩;refine⟨Zj,_,Zj,?_⟩
  have er:((List.range (i+1)).filter λk=>n.testBit k).length=((List.range i).filter λk=>n.testBit k).length+(if n.testBit i then 1 else 0):=by
   rw[List.range_succ,filter_append,ZJ,filter_cons,filter_nil];split <;> rfl
  refine BI (λh=>?_) (λh=>?_)
  ·have hb:n.testBit i=true:=by rw[←Ej];exact h
   refine⟨_,Zj,_,_,Zj,Zj,⟨qe,by first |decide |omega,by first |decide |omega⟩,?_,qe,Zj⟩;rw[er,hb,ZJ,e];rfl
  ·have hb:n.testBit i=false:=by rw[←Ej];exact Bool.eq_false_iff.mpr h
   refine⟨?_,qe,Zj⟩;rw[er,hb,e];rfl
 ·rintro ys H2 ⟨e,_,rfl⟩ l hl;exact k l ys _ (AC (aA.refl _) hl) AB e
end
end Mk
end
section
namespace L2
open PySem
def WG (t u:TS):TS:=λD σ H=>∃G:St->Hp->Prop,(∀R:St->Hp->Prop,(∀σ H,G σ H->R σ H)->t { D with nx:=R } σ H)/\∀σ H,G σ H->u D σ H
theorem Bb {X:Cx}{st:Stmt}{rest:List Stmt}{t u:TS} (h1:PS X st t) (h2:dP X rest u):dP X (st::rest) (WG t u):=λaa s σ H D I ⟨_,a,b⟩=>AG h1 h2 aa s σ H D I (a (u D) b)
end L2
namespace Mk
open PySem L2 MK
def aQ (H H':Hp):Prop:=∀b xs,H b=some (.tup xs)->H' b=some (.tup xs)
theorem aQ.of (s:aA H H'):aQ H H':=λb xs e=>s _ _ e
theorem aQ.upd {d:W3}{xs ys:Wy} (h:H d=some (.lst xs)):aQ H (upd H d (.lst ys)):=λb zs e=>by
 rw[AH (λz=>by subst z;rw[h]at e;cases e)];exact e
theorem aQ.trans {H1 H2:Hp} (x:aQ H H1) (y:aQ H1 H2):aQ H H2:=λb xs e=>y _ _ (x _ _ e)
theorem aB.cL {as:List W3}{ps:List (V×V)} (s:aQ H H') (h:aB H as ps):aB H' as ps:=Paired.mapP h λ_ _ e=>s _ _ e
theorem ff.cL {v:V}{th:Th} (s:aQ H H') (h:ff H v th):ff H' v th:=by
 cases th with
 |aK=>exact h
 |num n=>exact h
 |iO ns=>obtain⟨a,e,h⟩:=h;exact⟨a,e,s _ _ h⟩
theorem bH.cL {b:W3}{r:Str×Th} (s:aQ H H') (h:bH H b r):bH H' b r:=by
 obtain⟨tv,e,t⟩:=h;exact⟨tv,s _ _ e,t.cL s⟩
theorem Aw {as:List W3}{rows:List (Str×Th)} (s:aQ H H') (h:Paired (bH H) as rows):Paired (bH H') as rows:=Paired.mapP h λ_ _ e=>e.cL s
noncomputable def C4 (U:Aa):List PyData:=U.map λp=>.tuple [.str p.1,.int (p.2:Int)]
theorem Lz {b:W3}{x:Str}{n:Int} (h:H b=some (.tup [.str x,.int n])):BW K H (.tuple [.str x,.int n]) (.ref b):=by
 rw[BW];refine⟨b,_,Zj,bA.of h,?_⟩;rw[Ax];refine⟨_,_,Zj,by rw[BW],?_⟩;rw[Ax];refine⟨_,_,Zj,by rw[BW],?_⟩;rw[Ax]
theorem C5:∀ {U:Aa}{bs:List W3},aB H bs (BR U)->Ax K H (C4 U) (bs.map V.ref)
 | [],bs,h=>by
  have:bs=[]:=List.eq_nil_of_length_eq_zero (by rw[h.length];rfl);subst this;show Ax K H [] [];rw[Ax]
 |p::r,[],h=>by have:=h.length;simp[BR]at this
 |p::r,b::bs,h=>by
  have hh:H b=some (.tup [.str p.1,.int (p.2:Int)])/\aB H bs (BR r):=by
   cases h with
   |cons h1 h2=>exact⟨h1,h2⟩
  show Ax K H (.tuple [.str p.1,.int (p.2:Int)]::C4 r) (V.ref b::bs.map V.ref);rw[Ax];exact⟨_,_,Zj,Lz hh.1,C5 hh.2⟩
theorem IT:∀xs:Ww,Ax K H (xs.map PyData.str) (xs.map V.str)
 | []=>by show Ax K H [] [];rw[Ax]
 |x::r=>by
  show Ax K H (.str x::r.map PyData.str) (V.str x::r.map V.str);rw[Ax];exact⟨_,_,Zj,by rw[BW],IT r⟩
theorem MA:∀xs:List Nat,Ax K H (xs.map λn:Nat=>PyData.int (n:Int)) (AU xs)
 | []=>by show Ax K H [] [];rw[Ax]
 |x::r=>by
  show Ax K H (.int x::r.map λn:Nat=>PyData.int (n:Int)) (V.int x::AU r);rw[Ax];exact⟨_,_,Zj,by rw[BW],MA r⟩
theorem BL {l:W3}{ds:List PyData}{xs:Wy} (h:H l=some (.lst xs)) (d:Ax K H ds xs):BW K H (.list ds) (.ref l):=by
 rw[BW];exact⟨l,xs,Zj,aJ.of h,d⟩
theorem HH:Ax K H [] []:=by rw[Ax]
theorem KW (ds:List PyData):PyData.eqv (.list ds) (.list [])=ds.isEmpty:=by
 cases ds with
 |nil=>rfl
 |cons a r=>simp[PyData.eqv,PyData.eqvAll]
theorem DY {x:Str} (h:x.cps.all (· < 128)=true):PyData.strOk x=true:=by
 unfold PyData.strOk;simp only[Array.all_eq_true,decide_eq_true_eq]at h ⊢;intro i hi;have:=h i hi;simp;omega
theorem KY {ds:List PyData} (h:∀d∈ds,d.canLay0=true):PyData.canLayAll0 ds=true:=by
 induction ds with
 |nil=>rfl
 |cons a r ih=>rw[PyData.canLayAll0,h a ZK,ih λd hd=>h d (ZS _ hd)];rfl
theorem U4 {ds:List PyData}{k:Nat} (h:∀d∈ds,d.depth<=k):PyData.depthAll ds<=k:=by
 induction ds with
 |nil=>rw[PyData.depthAll];exact Nat.zero_le _
 |cons a r ih=>rw[PyData.depthAll];exact Nat.max_le.mpr ⟨h a ZK,ih λd hd=>h d (ZS _ hd)⟩
theorem EY {ds:List PyData} (h:∀d∈ds,d.canLay0=true/\d.depth<=60):SeqAt.shaped (.list ds)=true:=by
 unfold SeqAt.shaped;rw[Bool.and_eq_true,decide_eq_true_eq];refine⟨by rw[PyData.canLay0];exact KY λd hd=>(h d hd).1,?_⟩;rw[PyData.depth];have:=U4 (k:=60) λd hd=>(h d hd).2;omega
theorem IU {x:Str}{n:Int} (h:x.cps.all (· < 128)=true):(PyData.tuple [.str x,.int n]).canLay0=true/\(PyData.tuple [.str x,.int n]).depth<=60:=by
 refine⟨?_,?_⟩
 ·rw[PyData.canLay0];refine KY λd hd=>?_;simp only[mem_cons,not_mem_nil,or_false]at hd;rcases hd with rfl |rfl
  ·rw[PyData.canLay0];exact DY h
  ·rw[PyData.canLay0]
 ·simp only[PyData.depth,PyData.depthAll];omega
theorem MB {x:Str}{n:Int} (h:x.cps.all (· < 128)=true):SeqAt.shaped (.tuple [.str x,.int n])=true:=by
 unfold SeqAt.shaped;rw[Bool.and_eq_true,decide_eq_true_eq];exact⟨(IU h).1,Nat.le_trans (IU h).2 qc⟩
theorem Bw (h:∀p∈U,p.1.cps.all (· < 128)=true):SeqAt.shaped (.list (C4 U))=true:=EY λd hd=>by
 obtain⟨p,hp,rfl⟩:=Zq.mp hd;exact IU (h p hp)
theorem G3 {xs:Ww} (h:∀x∈xs,x.cps.all (· < 128)=true):SeqAt.shaped (.list (xs.map PyData.str))=true:=EY λd hd=>by
 obtain⟨x,hx,rfl⟩:=Zq.mp hd;exact⟨by rw[PyData.canLay0];exact DY (h x hx),by simp[PyData.depth]⟩
theorem MC (xs:List Nat):SeqAt.shaped (.list (xs.map λn:Nat=>PyData.int (n:Int)))=true:=EY λd hd=>by
 obtain⟨x,hx,rfl⟩:=Zq.mp hd;exact⟨by rw[PyData.canLay0],by simp[PyData.depth]⟩
theorem Dx:SeqAt.shaped (.list [])=true:=by decide +kernel
noncomputable def uni (U:Aa) (ns:Ww):Nat:=Ah (U.map λp=>if gU (.str p.1) (ns.map V.str)then p.2 else 0)
theorem Od (x:Str) (ns:Ww):gU (.str x) (ns.map V.str)=ns.any (· == x):=by
 unfold gU;rw[any_map];rfl
theorem CT {p:Str×Nat} (nd:(U.map (·.1)).Nodup) (h:p∈U):look U p.1=p.2:=by
 induction U with
 |nil=>cases h
 |cons q r ih =>
  rw[map_cons,Zr]at nd;unfold look;by_cases e:q.1=p.1
  ·rw[List.find?_cons_of_pos (by simpa using e)];rcases mem_cons.mp h with z |z
   ·subst z;rfl
   ·exact absurd (Zq.mpr ⟨p,z,e.symm⟩) nd.1
  ·rw[List.find?_cons_of_neg (by simpa using e)];rcases mem_cons.mp h with z |z
   ·subst z;exact absurd Zj e
   ·exact ih nd.2 z
theorem U5 {ns:Ww} (nd:(U.map (·.1)).Nodup) (hs:∀x∈ns,x∈U.map (·.1)):uni U ns=Ah (ns.map (look U)):=by
 refine Nat.eq_of_testBit_eq λk=>?_;unfold uni;rw[CG,CG,any_map,any_map,Bool.eq_iff_iff,any_eq_true,any_eq_true];constructor
 ·rintro⟨p,hp,hb⟩;simp only[Function.comp]at hb;by_cases hi:gU (.str p.1) (ns.map V.str)=true
  ·rw[Zo hi]at hb;rw[Od,any_eq_true]at hi;obtain⟨x,hx,e⟩:=hi;have e':x=p.1:=by simpa using e
   subst e';exact⟨p.1,hx,by simp only[Function.comp];rw[CT nd hp];exact hb⟩
  ·rw[Zp hi,Nat.zero_testBit]at hb;cases hb
 ·rintro⟨x,hx,hb⟩;obtain⟨p,hp,rfl⟩:=Zq.mp (hs x hx);refine⟨p,hp,?_⟩;simp only[Function.comp]at hb ⊢;rw[CT nd hp]at hb;rw[Zo (by rw[Od,any_eq_true];exact⟨p.1,hx,by simp⟩)];exact hb
theorem CV {rows:List (Str×Th)}{r:Str×Th} (h:BN rows) (hr:Oa (Ae rows) r):BN (rows++[r]):=by
 intro i q e;rcases Nat.lt_trichotomy i rows.length with z |z |z
 ·rw[List.getElem?_append_left z]at e;rw[List.take_append_of_le_length (Nat.le_of_lt z)];exact h i q e
 ·subst z;rw[List.getElem?_append_right (Zx _),Nat.sub_self]at e;have:r=q:=by simpa using e
  subst this;rw[List.take_append_of_le_length (Zx _),ZD];exact hr
 ·rw[List.getElem?_eq_none (by rw[ZJ,length_singleton];omega)]at e;cases e
theorem C6 {rows:List (Str×Th)} (h:BN rows) (gE:rows.length<=10):aO (Ae rows):=by
 have key:∀n,n<=rows.length->aO (Ae (rows.take n)):=by
  intro n;induction n with
  |zero=>intro _;rw[take_zero];exact⟨qc,(λp hp=>nomatch hp),nodup_nil,(λp hp=>nomatch hp)⟩
  |succ n ih =>
   intro hn;have D:=ih qe;have hq:rows[n]?=some rows[n]:=Z7 qe;have R:=h n _ hq;rw[ZF,hq,Option.toList_some,Bv];refine⟨?_,λp hp=>?_,?_,λp hp=>?_⟩
   ·rw[ZJ,length_singleton];have:=R.few;omega
   ·rcases mem_append.mp hp with z |z
    ·exact D.lt p z
    ·rw[ZI]at z;subst z;exact R.lt
   ·rw[Zt];refine List.nodup_append.mpr ⟨D.nd,Zr.mpr ⟨not_mem_nil,nodup_nil⟩,?_⟩;intro x hx y hy;have ey:y=(rows[n]).1:=by simpa using hy
    subst ey;exact λz=>R.new (z ▸ hx)
   ·rcases mem_append.mp hp with z |z
    ·exact D.nm p z
    ·rw[ZI]at z;subst z;exact R.nm
 have:=key rows.length (Zx _);rw[ZD]at this;exact this
theorem U6 {A B:TT}{σ:St}{Q:Bool->Hp->Prop} (p q:Bool) (hA:∀Q':Bool->Hp->Prop,Q' p H->A σ H Q') (hB:∀Q':Bool->Hp->Prop,Q' q H->B σ H Q') (h:Q (p ||q) H):tOr A B σ H Q:=by
 refine hA _ ?_;cases p with
 |true=>exact Ay h
 |false=>exact An (hB _ h)
theorem Tt {A B:TT}{σ:St}{Q:Bool->Hp->Prop} (p q:Bool) (hA:∀Q':Bool->Hp->Prop,Q' p H->A σ H Q') (hB:∀Q':Bool->Hp->Prop,(∀H',aA H H'->Q' q H')->B σ H Q') (h:∀H',aA H H'->Q (p&&q) H'):Vn A B σ H Q:=by
 refine hA _ ?_;cases p with
 |true=>exact Ay (hB _ h)
 |false=>exact An (h _ (aA.refl _))
theorem Jj {p:W3} (s:aA H H') (h:H' p=none):H p=none:=by
 cases e:H p with
 |none=>rfl
 |some o=>rw[s _ _ e]at h;cases h
theorem DN {X:Cx}{x:Str}{j}{p:Pos}{es:List Expr}{t:TA} (h:PA X es t):PA X (.Constant (.str x) j p::es) (Ag (tC (.str x)) t):=AA AY h
theorem P6 {X:Cx}{x0 x1 x2 x3 x4 x5 x6 x7 x8 x9:Str}{j0}{j1}{j2}{j3}{j4}{j5}{j6}{j7}{j8}{j9}{p0 p1 p2 p3 p4 p5 p6 p7 p8 p9:Pos}:PA X [.Constant (.str x0) j0 p0,.Constant (.str x1) j1 p1,.Constant (.str x2) j2 p2,.Constant (.str x3) j3 p3,.Constant (.str x4) j4 p4,.Constant (.str x5) j5 p5,.Constant (.str x6) j6 p6,.Constant (.str x7) j7 p7,.Constant (.str x8) j8 p8,.Constant (.str x9) j9 p9] (Ag (tC (.str x0)) (Ag (tC (.str x1)) (Ag (tC (.str x2)) (Ag (tC (.str x3)) (Ag (tC (.str x4)) (Ag (tC (.str x5)) (Ag (tC (.str x6)) (Ag (tC (.str x7)) (Ag (tC (.str x8)) (Ag (tC (.str x9)) (CA))))))))))):=DN (DN (DN (DN (DN (DN (DN (DN (DN (DN (AD))))))))))
theorem Bx {bs:List W3}{i:Nat}{v:V} (h:aB H bs (BR U)) (e:(bs.map V.ref)[i]?=some v):∃b p,v=.ref b/\bs[i]?=some b/\U[i]?=some p/\H b=some (.tup [.str p.1,.int (p.2:Int)]):=by
 rw[ZG]at e
 obtain⟨b,hb,rfl⟩:∃b,bs[i]?=some b/\v=V.ref b:=by
  cases q:bs[i]? with
  |none=>rw[q]at e;cases e
  |some x=>rw[q]at e;exact⟨x,Zj,(Option.some.inj e).symm⟩
 obtain⟨pq,gL,ao⟩:=Lx h hb;unfold BR at gL;rw[ZG]at gL
 obtain⟨pr,fw,rfl⟩:∃q,U[i]?=some q/\pq=(V.str q.1,V.int (q.2:Int)):=by
  cases q:U[i]? with
  |none=>rw[q]at gL;cases gL
  |some x=>rw[q]at gL;exact⟨x,Zj,(Option.some.inj gL).symm⟩
 exact⟨b,pr,Zj,hb,fw,ao⟩
noncomputable def bG:Ww:=["A", "B", "CD", "EFG", "H", "IJKLMN", "O", "P", "Q", "R"]
theorem Ry:∀x∈bG,Py x:=by
 have:∀x∈bG,(Dv x&&x.cps.all (· < 128)&&decide (x.length<=1000))=true:=by decide +kernel
 intro x hx;have:=this x hx;simp only[Bool.and_eq_true,decide_eq_true_eq]at this;exact⟨this.1.1,this.1.2,this.2⟩
theorem P7:∀i:Fin 10,(bG[i.1]?.map λx=>decide (x∈bG.take i.1))=some false:=by decide +kernel
structure LW (d w f u:W3) (H0 H:Hp) (rows:List (Str×Th)):Prop where
 old:∀b o,H0 b=some o->b≠d->H b=some o
 bS:∃a b:Int,H d=some (.lst [.int a,.int b])
 words:H w=some (.lst (bG.map V.str))
 found:∃as:List W3,H f=some (.lst (as.map V.ref))/\Paired (bH H) as rows
 U:∃bs:List W3,H u=some (.lst (bs.map V.ref))/\aB H bs (BR (Ae rows))
structure Ap (d w f u:W3) (H0:Hp):Prop where
 wd:w≠d
 fd:f≠d
 ud:u≠d
 wf:w≠f
 wu:w≠u
 fu:f≠u
 nf:H0 f=none
 nu:H0 u=none
section
variable {d w u:W3}{H0:Hp}{rows:List (Str×Th)}
theorem LW.same (h:LW d w f u H0 H rows) (s:aA H H'):LW d w f u H0 H' rows:=by
 obtain⟨a,b,e⟩:=h.bS;obtain⟨as,e1,p1⟩:=h.found;obtain⟨bs,e2,p2⟩:=h.U;exact⟨λc o ec hc=>s _ _ (h.old c o ec hc),⟨a,b,s _ _ e⟩,s _ _ h.words,⟨as,s _ _ e1,Aw (aQ.of s) p1⟩,⟨bs,s _ _ e2,aB.cL (aQ.of s) p2⟩⟩
theorem LW.roll (A:Ap d w f u H0) (h:LW d w f u H0 H rows) (a' b':Int):LW d w f u H0 (upd H d (.lst [.int a',.int b'])) rows:=by
 obtain⟨a,b,e⟩:=h.bS;obtain⟨as,e1,p1⟩:=h.found;obtain⟨bs,e2,p2⟩:=h.U;have t:aQ H (upd H d (.lst [.int a',.int b'])):=aQ.upd e;exact⟨λc o ec hc=>by rw[AH hc];exact h.old c o ec hc,⟨a',b',AB⟩,by rw[AH A.wd];exact h.words,⟨as,by rw[AH A.fd];exact e1,Aw t p1⟩,⟨bs,by rw[AH A.ud];exact e2,aB.cL t p2⟩⟩
end
theorem Ck {rows:List (Str×Th)}{bs:List W3} (h:aB H bs (BR (Ae rows))):bs.length=rows.length:=by
 rw[h.length];unfold BR;rw[AE,BQ]
theorem MD (rows:List (Str×Th)):(Ae rows).map (·.1)=rows.map (·.1):=by
 have:∀(l:List (Str×Th)) (a:Aa),((l.foldl (λU r=>U++[(r.1,B8 U r.2)]) a).map (·.1))=a.map (·.1)++l.map (·.1):=by
  intro l;induction l with
  |nil=>intro a;simp
  |cons x r ih=>intro a;rw[foldl_cons,ih,Zt];simp
 have e:=this rows [];unfold Ae;rw[e];rfl
noncomputable def Wo:St->Nat
 | [_,_,_,_,_,_,_,_,_,some (.int i),_,_]=>(2 ^ 22 - i).toNat
 |_=>0
section
inductive spLines (vs:Wy) (H:Hp) (Q:VK) (_E:XK):Prop where
 |mk (d:W3) (a b M:Int) (cE:vs=[.ref d,.int M]) (cD:1<=M) (cK:M<=10) (d5:H d=some (.lst [.int a,.int b])) (fj:∀(q f u:W3) (as bs:List W3) (rows:List (Str×Th)) H',F1 d H H'->H' q=some (.tup [.ref f,.ref u])->H f=none->H u=none->H' f=some (.lst (as.map V.ref))->Paired (bH H') as rows->H' u=some (.lst (bs.map V.ref))->aB H' bs (BR (Ae rows)) ->     0<rows.length->(rows.length:Int)<=M->BN rows->(∀x∈rows.map (·.1),x∈bG)->Q (.ref q) H')
noncomputable abbrev U7:Ww:=["_law_dice", "_law_most", "_law_words", "_law_found", "_law_due", "_law_at", "_law_high", "_law_kind", "_law_thing", "_law_number", "_law_name", "_law_more"]
@[irreducible] noncomputable def Ni:Expr:=match defBody CH with | .Assign _ (.Tuple (e::_) _ _) _::_=>e |_=>.Constant .none 0 ⟨0,0,0,0⟩
noncomputable abbrev Tu:Stmt:=match defBody CH with | .Assign t (.Tuple (_::r) k p) q::_=>.Assign t (.Tuple (Ni::r) k p) q |_=>.Pass ⟨0,0,0,0⟩
noncomputable abbrev U8:List Stmt:=(defBody CH).drop 1
theorem U9:defBody CH=Tu::U8:=by kernel_rfl
theorem P8 {X:Cx}:PE X Ni (S0 (Ag (tC (.str "A")) (Ag (tC (.str "B")) (Ag (tC (.str "CD")) (Ag (tC (.str "EFG")) (Ag (tC (.str "H")) (Ag (tC (.str "IJKLMN")) (Ag (tC (.str "O")) (Ag (tC (.str "P")) (Ag (tC (.str "Q")) (Ag (tC (.str "R")) (CA)))))))))))):=by
 unfold Ni;exact A6 P6
theorem aV:AK U7 ["_law_dice", "_law_most"] (defScope CH):=cH
theorem Rz {f0:W3} (F:aZ K "_law_lines" "_law_lines" CH f0 fd) (B:Bl mg) (GR:Fn P w K mg base "_law_roll" 2 ["_law_dice", "_law_many"] spRoll):aD P w K mg base aP 3 f0 fd ["_law_dice", "_law_most"] spLines:=by
 obtain⟨fR,dR,GR,mR,kR,bR⟩:=GR.ex;refine F.m aV λvs H Q E h=>?_;obtain⟨d,a,b,M,rfl,M1,M10,hd,k⟩:=h;refine⟨Zj,λae A outer s hr=>?_⟩;have eI:=hr.units;have nd:=aV.nd;rw[U9]
 refine⟨_,AG (Co (hs:=by kernel_rfl) (hw:=by kernel_rfl) (BB (AA (hs:=by kernel_rfl) P8 (AA (A6 AD) (AA (A6 AD) AD))))
   (Bd rfl (AV (AT (i:=2) aV.nd rfl (Or.inl rfl)) (AV (AT (i:=3) aV.nd rfl (Or.inl rfl)) (AV (AT (i:=4) aV.nd rfl (Or.inr rfl)) BE)))))
  (AG (Cp PassesOwn.never rfl (Ch rfl B.range (AA (AW Df AI (AM GR hr rfl mR kR bR .nil AL (AA (pv 0) (AA (pv 1) AD)))) AD)) (AT (i:=5) aV.nd rfl (Or.inl rfl))
   (Bb (Al (i:=6) aV.nd rfl (Or.inl rfl) (OL rfl rfl B.max (FY [] [] qd qb qd qd rfl (A5 (pv 4)) (λ_ _ _ _ _ _=>B3) (λ_ _ _ _ _ _=>pv 1)) AI))
   (AG (Al (i:=7) aV.nd rfl (Or.inl rfl) (AM GR hr rfl mR kR bR .nil AL (AA (pv 0) (AA AI AD))))
   (AG (Co (hs:=by kernel_rfl) (hw:=by kernel_rfl) (BB (AA Bj (AA AI AD))) (Bd rfl (AV (AT (i:=8) aV.nd rfl (Or.inl rfl)) (AV (AT (i:=9) aV.nd rfl (Or.inl rfl)) BE))))
   (Bb (QZ PassesOwn.never (AQ Cr (pv 9) (pv 6) (AX _)) (AF (Al (i:=9) aV.nd rfl (Or.inl rfl) (AW HQ (pv 9) AI))))
   (Bb (Au (PW.pt (CZ (AQ DP (pv 7) AI (AX _)) (Bk (AQ Qh (pv 9) (AW Mp AI AI) (AX _)))))
     (AG (Al (i:=8) aV.nd rfl (Or.inl rfl) (Bp (BD K rfl) (A6 (AA (AW F6 AI (AM GR hr rfl mR kR bR .nil AL (AA (pv 0) (AA AI AD)))) (AA (AM GR hr rfl mR kR bR .nil AL (AA (pv 0) (AA AI AD)))
      (AA (AW F6 AI (AM GR hr rfl mR kR bR .nil AL (AA (pv 0) (AA AI AD)))) (AA AI AD))))) (AM GR hr rfl mR kR bR .nil AL (AA (pv 0) (AA AI AD))) (λ_ _=>rfl)))
     (AF (Al (i:=9) aV.nd rfl (Or.inl rfl) (pv 8)))) Ab)
   (Bb (Au (PW.pt (Eu (AQ JF (pv 7) AI (AX _)) (Dc (AQ (EK K rfl eI) (pv 4) (A6 AD) (AX _)))))
     (AG (Al (i:=8) aV.nd rfl (Or.inl rfl) (BS Iq rfl B.tuple EV (AA (Bf ["_law_due", "_law_dice"] [some 4,some 0] qd qb qd rfl (Ch rfl B.range (AA (AW Df AI (AM GR hr rfl mR kR bR .nil AL (AA (pv 0) (AA AI AD)))) AD)) (λ_ _ _ _ _ _=>B3)
      (λ_ _ _ _ _ _=>Bp (Eg K rfl) (Bp (BD K rfl) (pv 1) (AM GR hr rfl mR kR bR .nil AL (AA (pv 2) (AA (AZ (A9 K rfl) rfl B.len PySem.boot_len (AA (pv 1) AD)) AD))) (λ_ _=>rfl)) AI (λ_ _=>rfl))) AD)))
     (AG (Al (i:=9) aV.nd rfl (Or.inl rfl) AI)
     (AF (Cp PassesOwn.never rfl (A5 (pv 4)) (Bd rfl (AV (AT (i:=10) aV.nd rfl (Or.inl rfl)) (AV (AT (i:=11) aV.nd rfl (Or.inl rfl)) BE)))
      (AF (Al (i:=9) aV.nd rfl (Or.inl rfl) (AW Qe (pv 9) (Bn (AQ JN (pv 10) (pv 8) rfl) (pv 11) AI)))))))) Ab)
   (AG (Dd (Hj PySem.F.plainAttrs_list PySem.F.slot_list_append PySem.F.type_list_append GG (pv 3) (AA (BB (AA (Bp (BD K rfl) (pv 2) (pv 5) (λ_ _=>rfl)) (AA (pv 8) AD))) AD)))
   (AF (Dd (Hj PySem.F.plainAttrs_list PySem.F.slot_list_append PySem.F.type_list_append GG (pv 4) (AA (BB (AA (Bp (BD K rfl) (pv 2) (pv 5) (λ_ _=>rfl)) (AA (pv 9) AD))) AD))))))))))))
  (AF (AN (BB (AA (pv 3) (AA (pv 4) AD)))))),?_⟩
 refine⟨(by show 10<=sizeLine;decide),λpw hpw=>⟨Nat.zero_le _,λpf hpf=>⟨Nat.zero_le _,λpu hpu=>⟨jb,λq0 hq0=>?_⟩⟩⟩⟩;refine⟨q0,_,Zj,bA.of AB,Zj,_,_,Zj,_,_,Zj,_,_,Zj,Zj,?_⟩;have dw:pw≠d:=Ne.symm (AJ hd hpw);have s1:aA H (upd H pw (.lst (bG.map V.str))):=AC (aA.refl _) hpw;have s2:aA (upd H pw (.lst (bG.map V.str))) (upd (upd H pw (.lst (bG.map V.str))) pf (.lst [])):=AC (aA.refl _) hpf;have s3:aA (upd (upd H pw (.lst (bG.map V.str))) pf (.lst [])) (upd (upd (upd H pw (.lst (bG.map V.str))) pf (.lst [])) pu (.lst [])):=AC (aA.refl _) hpu;have s4:=AC (aA.refl _) hq0 (o:=HO.tup [.ref pw,.ref pf,.ref pu]);have nf0:H pf=none:=Jj s1 hpf;have nu0:H pu=none:=Jj (s1.trans s2) hpu;have AP:Ap d pw pf pu H:=⟨dw,Ne.symm (AJ hd nf0),Ne.symm (AJ hd nu0),AJ AB hpf,AJ (s2 _ _ AB) hpu,AJ AB hpu,nf0,nu0⟩;have L0:LW d pw pf pu H _ []:=⟨λb o e _=>s4 _ _ (s3 _ _ (s2 _ _ (s1 _ _ e))),⟨a,b,s4 _ _ (s3 _ _ (s2 _ _ (s1 _ _ hd)))⟩,s4 _ _ (s3 _ _ (s2 _ _ AB)),⟨[],s4 _ _ (s3 _ _ AB),.nil⟩,⟨[],s4 _ _ AB,.nil⟩⟩;obtain⟨a1,b1,gx⟩:=L0.bS;refine⟨_,Zj,_,Zj,d,a1,b1,M,Zj,gx,qe,qe,λr a' b' h0 h1=>?_⟩;refine⟨_,_,Zj,Zj,_,Zj,qe,qe,?_⟩
 refine Oz (lo:=0) (n:=(1+r).toNat) (λi σ H2=>∃(v5 v6 v7 v8 v9 v10 v11:Option V) (rows:List (Str×Th)),σ=[some (.ref d),some (.int M),some (.ref pw),some (.ref pf),some (.ref pu),v5,v6,v7,v8,v9,v10,v11]/\rows.length=i/\BN rows/\rows.map (·.1)=bG.take i/\LW d pw pf pu H H2 rows)
  ⟨none,none,none,none,none,none,none,[],rfl,rfl,(λi r e=>by simp at e),rfl,L0.roll AP a' b'⟩ ?_ ?_
 ·rintro i σ H2 hi ⟨v5,v6,v7,v8,v9,v10,v11,rows,rfl,bh,RO,cz,L⟩;have hi10:i<10:=by omega
  have DO:aO (Ae rows):=C6 RO qe;generalize cj:BP ((Ae rows).map (·.2))=bj
  have hh20:bj<2 ^ 20:=by
   rw[←cj];exact Ln qc λn hn=>by obtain⟨p,hp,rfl⟩:=Zq.mp hn;exact DO.lt p hp
  refine⟨λσ H3=>σ=[some (.ref d),some (.int M),some (.ref pw),some (.ref pf),some (.ref pu),some (.int (0+(i:Int))),some (.int (bj:Int)),v7,v8,v9,v10,v11]/\LW d pw pf pu H H3 rows,λR hR=>?_,?_⟩
  ·obtain⟨bs,hu,eA⟩:=L.U;have gN:=Ck eA;refine⟨_,Zj,pu,Zj,⟨_,aJ.of hu⟩,BU (K:=K) (a:=pu) (xs:=bs.map V.ref) (λj ys H3=>ys=AU (((Ae rows).take j).map (·.2))/\H3=H2) ⟨by rfl,Zj⟩ (λj ys H3 _ ⟨_,e⟩=>e ▸ aJ.of hu) (λj ys H3 ⟨e,_⟩=>?_) ?_ ?_⟩
   ·rw[e];unfold AU;rw[AE,AE,Zz,BQ];omega
   ·rintro j v ys H3 hj ⟨rfl,rfl⟩;obtain⟨bb,p,rfl,iU,ap,ao⟩:=Bx eA hj;refine⟨bb,_,Zj,bA.of ao,Zj,_,_,Zj,_,_,Zj,Zj,?_⟩;refine⟨_,Zj,?_,Zj⟩;rw[ZF,ap,Option.toList_some,Zt];unfold AU;rw[Zt];rfl
   ·rintro ys H3 ⟨rfl,rfl⟩ p hp;have sp:=AC (aA.refl _) hp (o:=HO.lst (AU (((Ae rows).take (bs.map V.ref).length).map (·.2))));have el:(Ae rows).take (bs.map V.ref).length=Ae rows:=by rw[AE,gN,←BQ,ZD]
    refine⟨p,((Ae rows).map (·.2)).map (λn:Nat=>(n:Int)),0,Zj,Zj,aJ.of (by rw[AB,el,Fw]),λe=>?_,λe=>?_⟩
    ·refine hR _ _ ⟨?_,L.same sp⟩;have:(Ae rows).map (·.2)=[]:=map_eq_nil_iff.mp e;rw[this]at cj;subst cj;rfl
    ·refine hR _ _ ⟨?_,L.same sp⟩;have bc:(Ae rows).map (·.2)≠ []:=λz=>e (by rw[z];rfl);rw[Lo bc,cj];rfl
  ·rintro σ H3 ⟨rfl,L3⟩;obtain⟨a3,b3,iS⟩:=L3.bS;refine⟨_,Zj,d,a3,b3,8,Zj,iS,qc,qc,λkd a4 b4 kd0 kd1=>?_⟩;have L4:=L3.roll AP a4 b4;refine⟨dQ,λq hq=>⟨q,_,Zj,bA.of AB,Zj,_,_,Zj,_,_,Zj,Zj,?_⟩⟩;have L5:=L4.same (AC (aA.refl _) hq (o:=HO.tup [V.aK,V.int 1]));refine⟨λσ H6=>σ=[some (.ref d),some (.int M),some (.ref pw),some (.ref pf),some (.ref pu),some (.int (0+(i:Int))),some (.int (bj:Int)),some (.int kd),some .aK,some (.int (As bj:Nat)),v10,v11]/\LW d pw pf pu H H6 rows,λR hR=>?_,?_⟩
   ·refine Qc (λσ H6=>LW d pw pf pu H H6 rows/\∃j:Nat,j<=20/\σ=[some (.ref d),some (.int M),some (.ref pw),some (.ref pf),some (.ref pu),some (.int (0+(i:Int))),some (.int (bj:Int)),some (.int kd),some .aK,some (.int ((2 ^ j:Nat):Int)),v10,v11]/\(j=0\/2 ^ (j - 1)<=bj)) (λσ _=>Wo σ) ⟨L5,0,qe,Zj,.inl Zj⟩ ?_ ?_
    ·rintro σ H6 ⟨L6,j,hj,rfl,hjj⟩;refine⟨_,Zj,_,Zj,_,_,Zj,Zj,_,Zj,?_⟩;refine BI (λhle=>?_) (λhle=>?_)
     ·have hle':2 ^ j<=bj:=by have:=ZW hle;exact_mod_cast this
      have hj20:j<20:=(Nat.pow_lt_pow_iff_right qc).mp (Nat.lt_of_le_of_lt hle' hh20);refine⟨_,Zj,_,_,Zj,Zj,.inr ⟨qc,qc⟩,?_⟩;have e2:(((2 ^ j:Nat):Int)*2)=((2 ^ (j+1):Nat):Int):=by rw[Nat.pow_succ];omega
      refine⟨⟨L6,j+1,qe,?_,.inr hle'⟩,?_⟩
      ·show [some (V.ref d),some (V.int M),some (V.ref pw),some (V.ref pf),some (V.ref pu),some (V.int (0+(i:Int))),some (V.int (bj:Int)),some (V.int kd),some V.aK,some (V.int (((2 ^ j:Nat):Int)*2)),v10,v11]=_;rw[e2]
      ·show(2 ^ 22 - (((2 ^ j:Nat):Int)*2)).toNat<(2 ^ 22 - ((2 ^ j:Nat):Int)).toNat;have h1:0<2 ^ j:=Nat.two_pow_pos j;have h2:2 ^ j<=2 ^ 20:=Nat.pow_le_pow_right qc hj;omega
     ·have hgt:bj<2 ^ j:=by
       have:¬ ((2 ^ j:Nat):Int)<=(bj:Int):=λz=>hle (ZM z);omega
      refine hR _ _ ⟨?_,L6⟩;rw[Ll hgt hjj]
    ·rintro σ H6 Q1 Q2 hQ ⟨v,e1,v2,e2,i,j,a,b,c,ec,q⟩;exact⟨v,e1,v2,e2,i,j,a,b,c,ec,hQ _ _ q⟩
   ·rintro σ H6 ⟨rfl,L6⟩;have hsig:∀(tv nv gJ gH:V),True:=λ_ _ _ _=>trivial;refine⟨λσ H7=>∃(tv:V) (th:Th) (gJ gH:Option V),σ=[some (.ref d),some (.int M),some (.ref pw),some (.ref pf),some (.ref pu),some (.int (0+(i:Int))),some (.int (bj:Int)),some (.int kd),some tv,some (.int (B8 (Ae rows) th:Nat)),gJ,gH]/\LW d pw pf pu H H7 rows/\ff H7 tv th/\Tk (Ae rows) th/\B8 (Ae rows) th<2 ^ 20,λR hR=>?_,?_⟩
    ·refine U6 (decide (V.int kd=V.int 5)) (decide ((2:Int) ^ (20:Int).toNat<=(As bj:Nat))) (λQ' h=>⟨_,Zj,Zj,_,Zj,h⟩) (λQ' h=>⟨_,Zj,_,_,Zj,Zj,⟨qc,qc,qc⟩,_,_,Zj,Zj,_,Zj,h⟩) ?_;refine BI (λ_=>?_) (λhc=>?_)
     ·obtain⟨x1,y1,e1⟩:=L6.bS;refine⟨_,Zj,d,x1,y1,8,Zj,e1,qc,qc,λr1 a1 b1 r10 r11=>?_⟩;have M1:=L6.roll AP a1 b1;refine⟨_,_,Zj,Zj,⟨r10,qe,qc⟩,?_⟩;obtain⟨x2,y2,e2⟩:=M1.bS;refine⟨_,Zj,d,x2,y2,64,Zj,e2,qc,qc,λr2 a2 b2 r20 r21=>?_⟩;have M2:=M1.roll AP a2 b2;obtain⟨x3,y3,e3⟩:=M2.bS;refine⟨_,Zj,d,x3,y3,20,Zj,e3,qc,qc,λr3 a3 b3 r30 r31=>?_⟩;have M3:=M2.roll AP a3 b3;refine⟨_,_,Zj,Zj,⟨r30,qe,qc⟩,?_⟩;refine⟨sl4,λp hp=>?_⟩;have M4:=M3.same (AC (aA.refl _) hp (o:=HO.lst [V.int (1*2 ^ r1.toNat),V.int r2,V.int (1*2 ^ r3.toNat),V.int 0]));obtain⟨x4,y4,e4⟩:=M4.bS;have iM:p≠d:=Ne.symm (AJ AB hp);refine⟨_,Zj,d,x4,y4,4,Zj,e4,qc,qc,λr4 a4 b4 r40 r41=>?_⟩;have M5:=M4.roll AP a4 b4;obtain⟨v,hv,d8⟩:=KU (xs:=[V.int (1*2 ^ r1.toNat),V.int r2,V.int (1*2 ^ r3.toNat),V.int 0]) r40 (by show r4<4;exact r41)
      have fA:∃n:Nat,v=.int (n:Int)/\n<2 ^ 20:=by
       have:=ZR d8;simp only[mem_cons,not_mem_nil,or_false]at this;rcases this with z |z |z |z
       ·refine⟨2 ^ r1.toNat,by rw[z];simp,?_⟩;exact(Nat.pow_lt_pow_iff_right qc).mpr qe
       ·exact⟨r2.toNat,by rw[z,Int.toNat_of_nonneg r20],qe⟩
       ·refine⟨2 ^ r3.toNat,by rw[z];simp,?_⟩;exact(Nat.pow_lt_pow_iff_right qc).mpr qe
       ·exact⟨0,z,qc⟩
      obtain⟨n,rfl,hn⟩:=fA;refine⟨p,_,r4,_,Zj,Zj,aJ.of (by rw[AH iM];exact AB),hv,?_⟩;exact⟨_,Zj,hR _ _ ⟨.int (n:Int),.num n,v10,v11,Zj,M5,Zj,trivial,hn⟩⟩
     ·refine hR _ _ ⟨.aK,.aK,v10,v11,?_,L6,Zj,trivial,?_⟩
      ·show _=[some (V.ref d),some (V.int M),some (V.ref pw),some (V.ref pf),some (V.ref pu),some (V.int (0+(i:Int))),some (V.int (bj:Int)),some (V.int kd),some V.aK,some (V.int ((As (BP ((Ae rows).map (·.2))):Nat):Int)),v10,v11];rw[cj]
      ·show As (BP ((Ae rows).map (·.2)))<2 ^ 20;rw[cj];have h2:¬ ((2:Int) ^ (20:Int).toNat<=(As bj:Nat)):=λz=>hc (by rw[ZM z,Bool.or_true]);have h3:((2:Int) ^ (20:Int).toNat)=1048576:=by decide
       omega
    ·rintro σ H7 ⟨tv,th,gJ,gH,rfl,L7,hT,hTO,hlt⟩;obtain⟨bs,hu,eA⟩:=L7.U;have gN:=Ck eA;refine⟨λσ H8=>∃(tv:V) (th:Th) (gJ gH:Option V),σ=[some (.ref d),some (.int M),some (.ref pw),some (.ref pf),some (.ref pu),some (.int (0+(i:Int))),some (.int (bj:Int)),some (.int kd),some tv,some (.int (B8 (Ae rows) th:Nat)),gJ,gH]/\LW d pw pf pu H H8 rows/\ff H8 tv th/\Tk (Ae rows) th/\B8 (Ae rows) th<2 ^ 20,λR hR=>?_,?_⟩
     ·refine Tt (decide ((5:Int)<kd)) (!(C4 (Ae rows)).isEmpty) (λQ' h=>⟨_,Zj,_,_,Zj,Zj,_,Zj,h⟩) (λQ' h=>⟨_,Zj,Nat.zero_le _,λp hp=>?_⟩) (λH8 s8=>?_)
      ·have sp:=AC (aA.refl _) hp (o:=HO.lst []);refine⟨.list (C4 (Ae rows)),.list [],BL (sp _ _ hu) (C5 (aB.cL (aQ.of sp) eA)),BL AB HH,Bw λp hp=>(DO.nm p hp).2.1,Dx,_,Zj,?_⟩;rw[KW];exact h _ sp
      ·refine BI (λhc=>?_) (λhc=>?_)
       ·have bc:0<bs.length:=by
         rw[Bool.and_eq_true]at hc;have h2:=hc.2;rw[gN,←BQ];cases hz:Ae rows with
         |nil=>rw[hz]at h2;cases h2
         |cons x r=>simp
        have L8:=L7.same s8;obtain⟨x1,y1,e1⟩:=L8.bS;refine⟨_,rfl,d,x1,y1,3,rfl,e1,qc,qc,λr1 a1 b1 r10 r11=>?_⟩;have M1:=L8.roll AP a1 b1;refine⟨_,_,rfl,rfl,_,rfl,qe,qe,?_⟩;refine Cy (lo:=0) (n:=(1+r1).toNat) (λj ys H9=>∃ns:Ww,ys=ns.map V.str/\ns.length=j/\j<=3/\(∀x∈ns,x∈(Ae rows).map (·.1))/\LW d pw pf pu H H9 rows) ⟨[],rfl,rfl,qc,(λx hx=>nomatch hx),M1⟩ ?_ ?_ ?_
        ·rintro j ys H9 ⟨ns,rfl,e,h3,_⟩;rw[AE];omega
        ·rintro j ys H9 hj ⟨ns,rfl,e,h3,fA,L9⟩;obtain⟨x2,y2,e2⟩:=L9.bS;obtain⟨cs,hu9,bg⟩:=L9.U;have ai:=Ck bg;have az:(cs.map V.ref).length=bs.length:=by rw[AE,ai,gN]
         refine⟨_,Zj,_,Zj,_,Zj,pu,_,Zj,.inl (aJ.of hu9),d,x2,y2,_,Zj,e2,by rw[az];omega,by rw[az];omega,λr2 a2 b2 r20 r21=>?_⟩;have M2:=L9.roll AP a2 b2;have hu10:(upd H9 d (.lst [.int a2,.int b2])) pu=some (.lst (cs.map V.ref)):=by rw[AH AP.ud];exact hu9
         have hcs2:aB (upd H9 d (.lst [.int a2,.int b2])) cs (BR (Ae rows)):=aB.cL (aQ.upd e2) bg;obtain⟨v,hv,d8⟩:=KU (xs:=cs.map V.ref) r20 (by exact r21);obtain⟨bb,p,rfl,_,ap,ao⟩:=Bx hcs2 d8;refine⟨pu,_,r2,_,rfl,rfl,aJ.of hu10,hv,bb,_,0,.str p.1,rfl,rfl,bA.of ao,rfl,?_⟩;refine⟨ns++[p.1],by rw[Zt];rfl,by rw[ZJ,e];rfl,qe,λx hx=>?_,M2⟩;rcases mem_append.mp hx with z |z
         ·exact fA x z
         ·rw[ZI]at z;subst z;exact Zq.mpr ⟨p,ZR ap,Zj⟩
        ·rintro ys H9 ⟨ns,rfl,e,h3,fA,L9⟩ l hl;have L10:=L9.same (AC (aA.refl _) hl (o:=HO.lst (ns.map V.str)));refine⟨l,_,Zj,.inl ⟨aJ.of AB,λt ht=>?_⟩⟩;have L11:=L10.same (AC (aA.refl _) ht (o:=HO.tup (ns.map V.str)));obtain⟨cs,hu11,bg⟩:=L11.U;have ai:=Ck bg;refine⟨_,Zj,pu,Zj,⟨_,aJ.of hu11⟩,B2 (K:=K) (a:=pu) (xs:=cs.map V.ref) (λj σ jn=>jn=upd (upd H9 l (.lst (ns.map V.str))) t (.tup (ns.map V.str))/\∃gJ gH:Option V,σ=[some (.ref d),some (.int M),some (.ref pw),some (.ref pf),some (.ref pu),some (.int (0+(i:Int))),some (.int (bj:Int)),some (.int kd),some (.ref t),some (.int (uni ((Ae rows).take j) ns:Nat)),gJ,gH]) ⟨Zj,gJ,gH,Zj⟩ (λj σ jn _ ⟨e,_⟩=>e ▸ aJ.of hu11) ?_ ?_⟩
         ·rintro j v σ jn hj ⟨rfl,gJ,gH,rfl⟩;obtain⟨bb,p,rfl,_,ap,ao⟩:=Bx bg hj;refine⟨bb,_,Zj,bA.of ao,Zj,_,_,Zj,_,_,Zj,Zj,?_⟩;refine⟨_,Zj,_,Zj,_,Zj,t,_,Zj,.inr (bA.of AB),Zj,?_,_,Zj,?_⟩
          ·rw[all_map];exact List.all_eq_true.mpr λ_ _=>rfl
          ·have eu:uni ((Ae rows).take (j+1)) ns=uni ((Ae rows).take j) ns|||(if gU (.str p.1) (ns.map V.str)then p.2 else 0):=by
            unfold uni;rw[ZF,ap,Option.toList_some,Zt];exact E9 _ _
           refine BI (λgZ=>?_) (λgZ=>?_)
           ·refine⟨_,Zj,_,_,Zj,Zj,Zj,some (.str p.1),some (.int (p.2:Int)),?_⟩;have hc3:gU (.str p.1) (ns.map V.str)=true:=gZ;rw[hc3,Zo rfl]at eu;rw[eu,←E7];rfl
           ·refine⟨_,_,Zj,Zj,Zj,some (.str p.1),some (.int (p.2:Int)),?_⟩;have hc3:gU (.str p.1) (ns.map V.str)=false:=Bool.eq_false_iff.mpr gZ;rw[hc3,Zp Bool.false_ne_true]at eu;rw[eu,←E7];rfl
         ·rintro σ jn ⟨rfl,gJ,gH,rfl⟩;have el:(Ae rows).take (cs.map V.ref).length=Ae rows:=by rw[AE,ai,←BQ,ZD]
          have en:B8 (Ae rows) (.iO ns)=uni (Ae rows) ns:=(U5 DO.nd fA).symm;have eL:ns.length=(1+r1).toNat:=e;refine hR _ _ ⟨.ref t,.iO ns,gJ,gH,by rw[el,en],L11,⟨t,Zj,AB⟩,⟨?_,qe,fA⟩,?_⟩
          ·intro z;subst z;simp at eL;omega
          ·show Ah (ns.map (look (Ae rows)))<2 ^ 20;refine Fp λn hn=>?_;obtain⟨x,hx,rfl⟩:=Zq.mp hn;obtain⟨p,hp,rfl⟩:=Zq.mp (fA x hx);rw[CT DO.nd hp];exact DO.lt p hp
       ·exact hR _ _ ⟨tv,th,gJ,gH,Zj,L7.same s8,hT.same s8,hTO,hlt⟩
     ·rintro σ H8 ⟨tv,th,gJ,gH,rfl,L8,hT,hTO,hlt⟩;obtain⟨as,hf,hP⟩:=L8.found;have a0:as.length=rows.length:=hP.length;have hw:bG[i]?=some bG[i]:=Z7 hi10;generalize ax:bG[i]=wd at hw
      have hat:g6 (bG.map V.str) (0+(i:Int))=some (.str wd):=by
       have:(0:Int)+(i:Int)=((i:Nat):Int):=by omega
       rw[this];exact Cc (by rw[ZG,hw];rfl)
      refine⟨_,Zj,.inl ⟨Zj,_,aJ.of hf⟩,_,Zj,_,Zj,pw,_,_,.str wd,Zj,Zj,aJ.of L8.words,hat,_,Zj,dQ,λp hp=>?_⟩;have sp:=AC (aA.refl _) hp (o:=HO.tup [V.str wd,tv]);have hz1:(as.map V.ref).length<sizeLine:=Ac (by rw[AE];omega);refine⟨pf,_,.ref p,Zj,Zj,sp _ _ hf,hz1,?_⟩;have t1:aQ (upd H8 p (.tup [V.str wd,tv])) (upd (upd H8 p (.tup [V.str wd,tv])) pf (.lst (as.map V.ref++[.ref p]))):=aQ.upd (sp _ _ hf);obtain⟨bs,hu,eA⟩:=L8.U;have gN:=Ck eA;have hu1:(upd (upd H8 p (.tup [V.str wd,tv])) pf (.lst (as.map V.ref++[.ref p]))) pu=some (.lst (bs.map V.ref)):=by rw[AH (Ne.symm AP.fu)];exact sp _ _ hu
      have hw1:(upd (upd H8 p (.tup [V.str wd,tv])) pf (.lst (as.map V.ref++[.ref p]))) pw=some (.lst (bG.map V.str)):=by rw[AH AP.wf];exact sp _ _ L8.words
      refine⟨_,Zj,.inl ⟨Zj,_,aJ.of hu1⟩,_,Zj,_,Zj,pw,_,_,.str wd,Zj,Zj,aJ.of hw1,hat,_,Zj,dQ,λq hq=>?_⟩;have sq:=AC (aA.refl _) hq (o:=HO.tup [V.str wd,V.int ((B8 (Ae rows) th:Nat):Int)]);have hz2:(bs.map V.ref).length<sizeLine:=Ac (by rw[AE];omega);refine⟨pu,_,.ref q,Zj,Zj,sq _ _ hu1,hz2,?_⟩;have t2:=aQ.upd (sq _ _ hu1) (ys:=bs.map V.ref++[.ref q]);have tall:=((aQ.of sp).trans t1).trans ((aQ.of sq).trans t2);obtain⟨x,y,ed⟩:=L8.bS;have RR:Oa (Ae rows) (wd,th):=⟨DO,by rw[BQ];omega,Ry wd (ZR hw),?_,hTO,hlt⟩;refine⟨_,_,_,_,_,_,_,rows++[(wd,th)],Zj,by rw[ZJ,bh];rfl,CV RO RR,?_,?_⟩
      ·rw[Zt,cz,ZF,hw,Option.toList_some];rfl
      ·refine⟨λc o ec hc=>?_,⟨x,y,?_⟩,?_,⟨as++[p],?_,?_⟩,⟨bs++[q],?_,?_⟩⟩
       ·have n1:c≠pu:=AJ ec AP.nu;have n2:c≠pf:=AJ ec AP.nf;rw[AH n1];refine sq _ _ ?_;rw[AH n2];exact sp _ _ (L8.old c o ec hc)
       ·rw[AH (Ne.symm AP.ud)];refine sq _ _ ?_;rw[AH (Ne.symm AP.fd)];exact sp _ _ ed
       ·rw[AH AP.wu];exact sq _ _ hw1
       ·rw[AH AP.fu];refine sq _ _ ?_;rw[AB,Zt];rfl
       ·refine Paired.snoc (Aw tall hP) ?_;exact⟨tv,t2 _ _ (sq _ _ (t1 _ _ AB)),hT.cL tall⟩
       ·rw[AB,Zt];rfl
       ·rw[Bv];unfold BR;rw[Zt];exact Paired.snoc (aB.cL tall eA) (t2 _ _ AB)
      ·rw[MD,cz];intro z;have key:=P7 ⟨i,hi10⟩;rw[hw]at key;have:=Option.some.inj key;exact of_decide_eq_false this z
 ·rintro σ H2 ⟨v5,v6,v7,v8,v9,v10,v11,rows,rfl,bh,RO,cz,L⟩;obtain⟨as,hf,hP⟩:=L.found;obtain⟨bs,hu,eA⟩:=L.U;refine⟨_,Zj,_,Zj,dQ,λq hq=>?_⟩;have sq:=AC (aA.refl _) hq (o:=HO.tup [V.ref pf,V.ref pu]);refine k q pf pu as bs rows _ ⟨λc o e hc=>sq _ _ (L.old c o e hc),?_⟩ AB nf0 nu0 (sq _ _ hf) (Aw (aQ.of sq) hP) (sq _ _ hu) (aB.cL (aQ.of sq) eA) qe qe RO (λx hx=>List.mem_of_mem_take (cz ▸ hx));obtain⟨x,y,e⟩:=L.bS;exact⟨x,y,sq _ _ e⟩
end
end Mk
end
section
namespace L2
open PySem
theorem Gn {X:Cx} (K:FG) (hK:X.K=K):BZ X (.builtin "isinstance") (λxs H Q=>∃v C t b,xs=[v,.ref C]/\cY K H v t/\W.kitOne K t (.ref C)=some b/\Q (.bl b) H):=by
 subst hK;intro aa s σ H xs us Q I r h;obtain⟨v,C,t,b,rfl,ty,hk,q⟩:=h;obtain⟨u,uT,rfl,ru,ruT⟩:=HS r;cases ruT;exact JI I ru ty hk λtk=>⟨.bl b,H,I.tok tk,Zj,q⟩
end L2
namespace Mk
open PySem L2 MK
structure KIsi (K:FG) (C:W3):Prop where
 cl:gP K C
 ha:W.findIn K (.ref C) "__class__" = some (some (.builtin "object.__class__"))
 hn:W.specialIn K (.builtin "object.__class__") "__get__" = some (some (.builtin "getset_descriptor.__get__"))
 ht:W.takesIn K (.builtin "object.__class__")=some true
 hm:W.mroIn K C (.type "object")=some true
 nl:W.kitOne K (.type "list") (.ref C)=some false
theorem KIsi.ty {a dx:W3}{fs:List (Str×V)} (k:KIsi K C) (e:H a=some (.ins C dx fs)):cY K H (.ref a) (.ref C):=.ins e k.cl k.ha k.hn k.ht k.hm
theorem EZ (K:FG) (C:W3):W.kitOne K (.ref C) (.ref C)=some true:=by
 unfold W.kitOne;rw[Zo (by simp)]
section
inductive spNumber (C:W3) (vs:Wy) (H:Hp) (Q:VK) (_E:XK):Prop where
 |mk (p:W3) (U:Aa) (r:Str) (x:Str) (cE:vs=[.ref p,.str x]) (cD:aG C H p U r) (cK:x∈U.map (·.1)) (d5:Q (.int (look U x:Nat)) H)
theorem R4:AK ["self", "name"] ["self", "name"] (defScope ER):=cH
theorem P9 (F:aZ K "number" "Kind.number" ER f fd) (T:EE K C) (GO:Fn P w K mg base "is_one_of" 1 ["thing", "names"] (CI K)):aD P w K mg base aP 2 f fd ["self", "name"] (spNumber C):=by
 obtain⟨fO,dO,GO,mO,kO,bO⟩:=GO.ex;refine F.m R4 λvs H Q E h=>?_;obtain⟨p,U,r,x,rfl,KA,hx,k⟩:=h;refine⟨Zj,λae A outer s hr=>?_⟩;have hu:=Ca hr;obtain⟨dx,d1,o1,d2,o2,hp,h1,h2⟩:=KA.ex
 refine⟨_,AG (Au (BH (BA (AM GO hr Zj mO kO bO .nil AL (AA (pv 1) (AA (Bm (pv 0) Zj) AD))))) (AF Am) Ab)
  (AF (AN (Bs hu (Bm (pv 0) rfl) (pv 1) (λ_ _=>rfl)))),?_⟩
 have DG:Ir H d1 (.str x) (some (V.int (look U x:Int))):=.inl ⟨_,Sum.inr x,.inr ⟨o1,h1⟩,rfl,(Bg hx).symm⟩;refine⟨_,Zj,_,Zj,p,C,dx,_,_,Zj,hp,T.cl,T.nN,IS _ _ _,.inl ⟨x,d1,Ak U,Zj,.inr ⟨o1,h1⟩,_,Zj,?_⟩⟩;rw[Bg hx];refine An ?_;exact⟨_,Zj,p,C,dx,_,_,Zj,hp,T.cl,T.nN,IS _ _ _,_,Zj,d1,_,Zj,DG,k⟩
inductive spNames (C:W3) (vs:Wy) (H:Hp) (Q:VK) (_E:XK):Prop where
 |mk (p:W3) (U:Aa) (r:Str) (cE:vs=[.ref p]) (cD:aG C H p U r) (cK:∀l H',aA H H'->H' l=some (.lst (((AS U).map (·.2)).map V.str))->Q (.ref l) H')
theorem Tv:AK ["self"] ["self"] (defScope FB):=cH
theorem R5 (F:aZ K "names" "Kind.names" FB f fd) (B:Bl mg) (T:EE K C):aD P w K mg base aP 1 f fd ["self"] (spNames C):=by
 refine F.m Tv λvs H Q E h=>?_;obtain⟨p,U,r,rfl,KA,k⟩:=h;refine⟨Zj,λae A outer s hr=>?_⟩;obtain⟨dx,d1,o1,d2,o2,hp,h1,h2⟩:=KA.ex;refine⟨_,AF (AN (BS (Hw Zj) Zj B.list Du (AA (NB PySem.F.slot_dict_values PySem.F.type_dict_values JS (Bm (pv 0) Zj)) AD))),?_⟩;refine⟨_,Zj,p,C,dx,_,_,Zj,hp,T.cl,T.nF,Fy _ _ _,d2,Zj,.inl ⟨_,.inr ⟨o2,h2⟩⟩,d2,_,Zj,Zj,.inr ⟨o2,h2⟩,λv hv=>?_⟩;have s1:aA H (upd H v (OK d2 v)):=AC (aA.refl _) hv;refine⟨v,d2,_,Zj,AB,aA.rd s1 (.inr ⟨o2,h2⟩),λl hl=>?_⟩;refine k l _ (AC s1 hl) ?_;rw[AB];unfold B0;rw[map_map,map_map];rfl
inductive spRest (C:W3) (vs:Wy) (H:Hp) (Q:VK) (_E:XK):Prop where
 |mk (p:W3) (U:Aa) (r:Str) (cE:vs=[.ref p]) (cD:aG C H p U r) (cK:Q (.str r) H)
theorem VA:AK ["self"] ["self"] (defScope Ge):=cH
theorem Tw (F:aZ K "rest" "Kind.rest" Ge f fd) (T:EE K C):aD P w K mg base aP 1 f fd ["self"] (spRest C):=by
 refine F.m VA λvs H Q E h=>?_;obtain⟨p,U,r,rfl,KA,k⟩:=h;refine⟨Zj,λae A outer s hr=>?_⟩;obtain⟨dx,d1,o1,d2,o2,hp,h1,h2⟩:=KA.ex;refine⟨_,AF (AN (Bm (pv 0) Zj)),?_⟩;exact⟨_,Zj,p,C,dx,_,_,Zj,hp,T.cl,T.nR,Gm _ _ _,k⟩
theorem R6 {p q:Str×Nat}:PyData.eqv (.tuple [.str p.1,.int (p.2:Int)]) (.tuple [.str q.1,.int (q.2:Int)])=decide (p=q):=by
 rw[Bool.eq_iff_iff];simp only[PyData.eqv,PyData.eqvAll,Bool.and_true,Bool.and_eq_true,decide_eq_true_eq,beq_iff_eq];constructor
 ·rintro⟨a,b⟩;exact Prod.ext a (by exact_mod_cast b)
 ·rintro rfl;exact⟨Zj,Zj⟩
theorem IV:∀(a b:Aa),PyData.eqv (.list (C4 a)) (.list (C4 b))=decide (a=b)
 | [],[]=>by simp[C4,PyData.eqv,PyData.eqvAll]
 | [],q::r=>by simp[C4,PyData.eqv,PyData.eqvAll]
 |p::r,[]=>by simp[C4,PyData.eqv,PyData.eqvAll]
 |p::r,q::s=>by
  have ih:=IV r s
  have h:PyData.eqv (.list (C4 (p::r))) (.list (C4 (q::s)))=(PyData.eqv (.tuple [.str p.1,.int (p.2:Int)]) (.tuple [.str q.1,.int (q.2:Int)])&&PyData.eqv (.list (C4 r)) (.list (C4 s))):=by
   simp only[C4,map_cons,PyData.eqv,PyData.eqvAll]
  rw[h,R6,ih,Bool.eq_iff_iff];simp
def Asc (U:Aa):Prop:=∀p∈U,p.1.cps.all (· < 128)=true
inductive spEqK (C:W3) (vs:Wy) (H:Hp) (Q:VK) (_E:XK):Prop where
 |mk (a b:W3) (U:Aa) (r:Str) (cE:vs=[.ref a,.ref b]) (cD:aG C H a U r) (cK:Asc U) (d5:((∃xs,H b=some (.lst xs)/\∀H',aA H H'->Q (.bl false) H')\/∃(fb:Aa) (r':Str),aG C H b fb r'/\Asc fb/\∀H',aA H H'->Q (.bl (decide (U=fb/\r=r'))) H'))
theorem Wp:AK ["self", "other"] ["self", "other"] (defScope KN):=cH
theorem VB (F:aZ K "__eq__" "Kind.__eq__" KN f fd) (B:Bl mg) (T:EE K C) (KI:KIsi K C) (mC:mg "Kind" = some (.ref C)) (GR:Mt P w K mg base C "rows" 1 ["self"] (spRows C)):aD P w K mg base aP 2 f fd ["self", "other"] (spEqK C):=by
 obtain⟨fR,dR,GR,mR,bR⟩:=GR.ex;refine F.m Wp λvs H Q E h=>?_;obtain⟨a,b,U,r,rfl,KA,h1,h⟩:=h;refine⟨Zj,λae A outer s hr=>?_⟩;have eI:=hr.units
 refine⟨_,AF (AN (Cm (AZ (Gn K Zj) Zj B.dH Gh (AA (pv 1) (AA (BY (v:=.ref C) Zj mC Zj) AD)))
  (Cm (Dg (Us K rfl eI) (Aj (pv 0) T.cl mR GR hr bR .nil AL) (Aj (pv 1) T.cl mR GR hr bR .nil AL) (AX _))
   (DL (Dg DP (Bm (pv 0) rfl) (Bm (pv 1) rfl) (AX _)))))),?_⟩
 obtain⟨dx,d1,d2,hp⟩:=KA.ins;rcases h with⟨xs,hb,k⟩ |⟨fb,r',KB,h2,k⟩
 ·refine⟨_,Zj,_,C,_,false,Zj,.lst hb,KI.nl,_,Zj,?_⟩;exact An (k _ (aA.refl _))
 ·obtain⟨dy,e1,e2,hq⟩:=KB.ins;refine⟨_,Zj,_,C,_,true,Zj,KI.ty hq,EZ K C,_,Zj,?_⟩;refine Ay ?_;refine⟨_,Zj,a,dx,_,Zj,hp,(BO _ _ _),a,U,r,Zj,KA,λl as H1 s1 hl ht=>?_⟩;refine⟨_,Zj,b,dy,_,Zj,s1 _ _ hq,(BO _ _ _),b,fb,r',Zj,KB.same s1,λl2 i0 H2 s2 d9 ht2=>?_⟩;refine⟨_,_,BL (s2 _ _ hl) (C5 (aB.same s2 ht)),BL d9 (C5 ht2),Bw h1,Bw h2,_,Zj,?_⟩;rw[IV];have iw:=s1.trans s2;refine BI (λe=>?_) (λe=>?_)
  ·have e':U=fb:=ZW e;refine⟨_,Zj,a,C,dx,_,_,Zj,iw _ _ hp,T.cl,T.nR,Gm _ _ _,_,Zj,b,C,dy,_,_,Zj,iw _ _ hq,T.cl,T.nR,Gm _ _ _,Zj,?_⟩;have:=k _ iw;have ev:decide (V.str r=V.str r')=decide (U=fb/\r=r'):=decide_eq_decide.mpr ⟨λz=>⟨e',V.str.inj z⟩,λz=>by rw[z.2]⟩;rw[ev];exact this
  ·have:=k _ iw;rw[ZP (λz=>e (ZM z.1))]at this;exact this
end
noncomputable def Nj (U:Aa) (e m:W3):LK:=[(Sum.inr "known", V.int (Ah (U.map (·.2)):Nat)),(Sum.inr "firsts", V.ref e),(Sum.inr "marks", V.ref m),(Sum.inr "bits", V.int (Ah (AO U):Nat))]
theorem VD (a b c d:V):GJ [] [((Sum.inr "known" : Key),a),(Sum.inr "firsts", b),(Sum.inr "marks", c),(Sum.inr "bits", d)]=[((Sum.inr "known" : Key),a),(Sum.inr "firsts", b),(Sum.inr "marks", c),(Sum.inr "bits", d)]:=by kernel_rfl
theorem Go (U:Aa) (e m:W3):BK (Nj U e m) (Sum.inr "known")=some (V.int (Ah (U.map (·.2)):Nat)):=by kernel_rfl
theorem FO (U:Aa) (e m:W3):BK (Nj U e m) (Sum.inr "firsts")=some (V.ref e):=by kernel_rfl
theorem QA (U:Aa) (e m:W3):BK (Nj U e m) (Sum.inr "marks")=some (V.ref m):=by kernel_rfl
theorem R7 (U:Aa) (e m:W3):BK (Nj U e m) (Sum.inr "bits")=some (V.int (Ah (AO U):Nat)):=by kernel_rfl
theorem Gp (U:Aa):(AO U).Pairwise (· < ·):=by
 have h1:=Fz U;have h2:(Av U).Nodup:=(Dw U).nodup_iff.mpr (Pz U);have h3:(Av U).Pairwise (· < ·):=List.Pairwise.imp₂ (λa b h n=>Nat.lt_of_le_of_ne h n) h1 h2;exact h3.filter _
theorem Jk (U:Aa):((AO U).map λn:Nat=>(n:Int)).sum=((Ah (AO U):Nat):Int):=by
 have hs:(AO U).sum=Ah (AO U):=Pt (λn hn=>(mem_filter.mp hn).2) (Gp U);rw[←hs];clear hs;generalize AO U=l;induction l with
 |nil=>rfl
 |cons a r ih=>rw[map_cons,sum_cons,sum_cons,ih];push_cast;rfl
theorem MF (U:Aa):Ah ((AS U).map (·.1))=Ah (U.map (·.2)):=by
 refine Nat.eq_of_testBit_eq λk=>?_;rw[CG,CG,Bool.eq_iff_iff,any_eq_true,any_eq_true];constructor
 ·rintro⟨n,hn,hb⟩;obtain⟨q,hq,rfl⟩:=Zq.mp hn;exact⟨q.1,Zq.mpr ⟨_,Cj hq,Zj⟩,hb⟩
 ·rintro⟨n,hn,hb⟩;obtain⟨p,hp,rfl⟩:=Zq.mp hn;exact⟨p.2,P1 hp,hb⟩
section
inductive spTable (vs:Wy) (H:Hp) (Q:VK) (_E:XK):Prop where
 |mk (u:W3) (bs:List W3) (U:Aa) (cE:vs=[.ref u]) (cD:H u=some (.lst (bs.map V.ref))) (cK:aB H bs (BR U)) (d5:U.length<=10) (fj:(∀p∈U,p.2<2 ^ 20)) (ir:∀t e m ms H',aA H H'->H' t=some (.dK (Nj U e m))->H' e=some (.dK (B0 (AS U)))->H' m=some (.lst (ms.map V.ref))->aB H' ms (C3 U)->Q (.ref t) H')
noncomputable abbrev VE:Ww:=["_law_due", "_law_known", "_law_firsts", "_law_name", "_law_number", "_law_marks"]
theorem scTable:AK VE ["_law_due"] (defScope EU):=cH
theorem R8 (F:aZ K "_law_table_of" "_law_table_of" EU f fd) (B:Bl mg) (GB:Fn P w K mg base "_law_bits_of" 1 ["_law_number"] spBitsOf):aD P w K mg base aP 2 f fd ["_law_due"] spTable:=by
 obtain⟨fB,dB,GB,mB,kB,bB⟩:=GB.ex;refine F.m scTable λvs H Q E h=>?_;obtain⟨u,bs,U,rfl,hu0,eA,gE,hlt,k⟩:=h;refine⟨Zj,λae A outer s hr=>?_⟩;have hu:=Ca hr
 refine⟨_,AG (Co (hs:=by kernel_rfl) (hw:=by kernel_rfl) (BB (AA AI (AA FW AD))) (Bd Zj (AV (AT (i:=1) scTable.nd Zj (Or.inl Zj)) (AV (AT (i:=2) scTable.nd Zj (Or.inr Zj)) BE))))
  (AG (Cp PassesOwn.never rfl (A5 (pv 0)) (Bd rfl (AV (AT (i:=3) scTable.nd rfl (Or.inl rfl)) (AV (AT (i:=4) scTable.nd rfl (Or.inl rfl)) BE)))
   (AG (Al (i:=1) scTable.nd rfl (Or.inl rfl) (AW Qe (pv 1) (pv 4)))
   (AF (Au (B9 (PD hu (pv 4) (pv 2))) (AF (J3 hu (pv 2) (pv 4) (pv 3) rfl)) Ab))))
  (AG (FZ (i:=5) scTable.nd rfl qd ["_law_firsts"] [some 2] qd qb qd rfl (A5 (AZ (Fb rfl) rfl B.sorted Gi (AA (pv 2) AD)))
   (λ_ _ _ _ _ _=>B4 (AQ DP (AZ (A9 K rfl) rfl B.len PySem.boot_len (AA (AM GB hr rfl mB kB bB .nil AL (AA (pv 0) AD)) AD)) AI (AX _)))
   (λ_ _ _ _ _ _=>BB (AA (Bs hu (pv 1) (pv 0) (λ_ _=>rfl)) (AA (pv 0) AD))))
  (AF (AN (TC (FX AY (pv 1) (FX AY (pv 2) (FX AY (pv 5) (FX AY (AZ (Q0 rfl) rfl B.sum Rj (AA (FY [] [] qd qb qd qd rfl (A5 (pv 5)) (λ_ _ _ _ _ _=>B3) (λ_ _ _ _ _ _=>pv 1)) AD)) TB)))) rfl rfl (by simp) qc))))),?_⟩
 refine λe he=>⟨dQ,λq hq=>⟨q,_,Zj,bA.of AB,Zj,_,_,Zj,_,_,Zj,Zj,?_⟩⟩;have s1:=AC (AC (aA.refl _) he (o:=HO.dK [])) hq (o:=HO.tup [V.int 0,V.ref e]);have gN:bs.length=U.length:=by rw[eA.length];unfold BR;rw[AE]
 refine⟨_,Zj,u,Zj,⟨_,aJ.of (s1 _ _ hu0)⟩,B2 (K:=K) (a:=u) (xs:=bs.map V.ref) (λi σ H2=>∃v3 v4:Option V,σ=[some (.ref u),some (.int (Ah ((U.take i).map (·.2)):Nat)),some (.ref e),v3,v4,none]/\aA H H2/\H2 e=some (.dK (B0 (AS (U.take i)))))
  ⟨none,none,rfl,s1,AC (aA.refl _) hq _ _ AB⟩ (λi σ H2 _ ⟨_,_,_,s2,_⟩=>aJ.of (s2 _ _ hu0)) ?_ ?_⟩
 ·rintro i v σ H2 hi ⟨v3,v4,rfl,s2,gf⟩;obtain⟨bb,p,rfl,_,ap,ao⟩:=Bx (aB.same s2 eA) hi;have et:U.take (i+1)=U.take i++[p]:=by rw[ZF,ap];rfl
  have ek:(((Ah ((U.take (i+1)).map (·.2)):Nat)):Int)=Builtin.bitOr ((Ah ((U.take i).map (·.2)):Nat):Int) (p.2:Int):=by
   rw[et,Zt,E7];exact congrArg _ (E9 _ _)
  have hle:(B0 (AS (U.take i))).length<=100:=by
   unfold B0;rw[AE];have:=C2 (U.take i);rw[Zz]at this;omega
  refine⟨bb,_,Zj,bA.of ao,Zj,_,_,Zj,_,_,Zj,Zj,?_⟩;refine⟨_,Zj,_,Zj,_,_,Zj,Zj,?_⟩;by_cases z:p.2∈(AS (U.take i)).map (·.1)
  ·refine⟨_,Zj,_,Zj,e,_,Zj,.inl ⟨_,Sum.inl (p.2:Int),.inl gf,Zj,(DX z).symm⟩,_,Zj,?_⟩;refine An ⟨_,_,by rw[ek];rfl,s2,?_⟩;rw[et,DJ,Zo (by simpa using z)];exact gf
  ·refine⟨_,Zj,_,Zj,e,_,Zj,.inl ⟨_,Sum.inl (p.2:Int),.inl gf,Zj,(Eh z).symm⟩,_,Zj,?_⟩;refine Ay ⟨_,Zj,_,Zj,_,Zj,e,_,Zj,DPut.k (k:=Sum.inl (p.2:Int)) gf (Ac qe),?_⟩;refine⟨_,_,by rw[ek];rfl,Fx s2 he,?_⟩;rw[AB,et,DJ,Zp (by simpa using z),Lu z]
 ·rintro σ H2 ⟨v3,v4,rfl,s2,gf⟩;have e1:U.take (bs.map V.ref).length=U:=by rw[AE,gN,ZD]
  rw[e1]at gf ⊢;have hle:(B0 (AS U)).length<=U.length:=by unfold B0;rw[AE];exact C2 U
  refine⟨_,Zj,e,_,Zj,.inl gf,qe,λkv gX=>?_,λl ns hl bo di=>?_⟩
  ·unfold B0 at gX;obtain⟨q,_,rfl⟩:=Zq.mp gX;exact⟨_,Zj⟩
  ·have en:=Lw bo di;subst en;have s3:=AC (aA.refl _) hl (o:=HO.lst (((Av U).map λn:Nat=>(n:Int)).map V.int));have exs:((Av U).map λn:Nat=>(n:Int)).map V.int=AU (Av U):=(Fw _).symm
   refine⟨l,Zj,⟨_,aJ.of AB⟩,BU (K:=K) (a:=l) (xs:=AU (Av U))
    (λi ys H3=>∃as,ys=as.map V.ref/\aA H2 H3/\H3 l=some (.lst (AU (Av U)))/\aB H3 as ((((Av U).take i).filter A3).map λn=>(V.str (CS (AS U) n),V.int (n:Int)))) ⟨[],rfl,s3,by rw[AB,exs],.nil⟩
    (λi ys H3 _ ⟨_,_,_,e,_⟩=>aJ.of e) (λi ys H3 ⟨as,e,_,_,t⟩=>?_) ?_ ?_⟩
   ·have:=t.length;rw[e,AE,this,AE];have h3:(((Av U).take i).filter A3).length<=((Av U).take i).length:=ZT _ _;rw[Zz]at h3;have:=Ei U;omega
   ·rintro i v ys H3 hi ⟨as,rfl,s4,hl3,ht⟩;obtain⟨n,hn,rfl⟩:=DI hi;have cy:n∈(AS U).map (·.1):=mem_keysS.mp (ZR hn);have hn42:n<2 ^ 42:=Nat.lt_trans (Oc hlt n cy) qc;have et:((Av U).take (i+1)).filter A3=((Av U).take i).filter A3++(if A3 n then [n]else []):=PySem.take_succ_filter A3 _ i n hn;refine⟨_,Zj,n,Zj,λl2 zs H4 s5 hl4 hz=>⟨l2,_,Zj,.inl (aJ.of hl4),Zj,_,Zj,?_⟩⟩
    have eb:decide (V.int ((zs.length:Nat):Int)=V.int 1)=A3 n:=by
     rw[←I0 hn42,hz];refine decide_eq_decide.mpr ⟨λh=>?_,λh=>by rw[h];rfl⟩;have:=V.int.inj h;omega
    rw[eb];have hl5:=s5 _ _ hl3;refine BI (λhm=>?_) (λhm=>?_)
    ·refine⟨_,Zj,_,Zj,e,_,Zj,.inl ⟨_,Sum.inl (n:Int),.inl (s5 _ _ (s4 _ _ gf)),Zj,(DX cy).symm⟩,_,Zj,dQ,λb hb=>?_⟩;refine⟨as++[b],by rw[Zt];rfl,AC (s4.trans s5) hb,by rw[AH (AJ hl5 hb)];exact hl5,?_⟩;rw[et,hm,Zo rfl,Zt];exact Jh (AC s5 hb) ht AB
    ·refine⟨as,Zj,s4.trans s5,hl5,?_⟩;rw[et,Zp hm,Zs];exact aB.same s5 ht
   ·rintro ys H3 ⟨as,rfl,s4,_,ht⟩ m hm
    have el:(Av U).take (AU (Av U)).length=Av U:=by
     have:(AU (Av U)).length=(Av U).length:=by unfold AU;rw[AE]
     rw[this];exact ZD
    rw[el]at ht;have ht':aB H3 as (C3 U):=ht;have s5:=AC (aA.refl _) hm (o:=HO.lst (as.map V.ref));have a0:as.length=(AO U).length:=by rw[ht'.length];exact Ji U
    refine λt ht0=>⟨_,Zj,_,Zj,_,Zj,?_⟩;have s6:=AC (aA.refl _) ht0 (o:=HO.dK []);have htm:=aB.same (s5.trans s6) ht';have hm6:=s6 _ _ (AB (H:=H3) (a:=m) (o:=HO.lst (as.map V.ref)));refine⟨_,Zj,m,Zj,⟨_,aJ.of hm6⟩,BU (K:=K) (a:=m) (xs:=as.map V.ref) (λj ys H7=>ys=AU ((AO U).take j)/\H7=upd (upd H3 m (.lst (as.map V.ref))) t (.dK [])) ⟨by rfl,Zj⟩ (λj ys H7 _ ⟨_,e⟩=>e ▸ aJ.of hm6) (λj ys H7 ⟨e,_⟩=>?_) ?_ ?_⟩
    ·rw[e];unfold AU;rw[AE,Zz];have h3:(AO U).length<=(Av U).length:=ZT _ _;have:=Ei U;omega
    ·rintro j v ys H7 hj ⟨rfl,rfl⟩;rw[ZG]at hj
     obtain⟨b,hb,rfl⟩:∃b,as[j]?=some b/\v=V.ref b:=by
      cases q:as[j]? with
      |none=>rw[q]at hj;cases hj
      |some x=>rw[q]at hj;exact⟨x,Zj,(Option.some.inj hj).symm⟩
     obtain⟨pq,gL,ao⟩:=Lx htm hb;unfold C3 at gL;rw[ZG]at gL
     obtain⟨n,hn,rfl⟩:∃n,(AO U)[j]?=some n/\pq=(V.str (CS (AS U) n),V.int (n:Int)):=by
      cases q:(AO U)[j]? with
      |none=>rw[q]at gL;cases gL
      |some x=>rw[q]at gL;exact⟨x,Zj,(Option.some.inj gL).symm⟩
     refine⟨b,_,Zj,bA.of ao,Zj,_,_,Zj,_,_,Zj,Zj,?_⟩;refine⟨_,Zj,?_,Zj⟩;rw[ZF,hn,Option.toList_some];unfold AU;rw[Zt];rfl
    ·rintro ys H7 ⟨rfl,rfl⟩ l2 d9;have el2:(AO U).take (as.map V.ref).length=AO U:=by rw[AE,a0,ZD]
     rw[el2];have s7:=AC (aA.refl _) d9 (o:=HO.lst (AU (AO U)));refine⟨l2,(AO U).map λn:Nat=>(n:Int),Zj,aJ.of (by rw[AB,Fw]),λn hn=>?_,?_,?_⟩
     ·obtain⟨x,_,rfl⟩:=Zq.mp hn;exact Z1 _
     ·rw[Jk];have:=Fp (Ru hlt);omega
     ·rw[Jk];refine⟨s7 _ _ AB,[((Sum.inr "known" : Key),V.int (Ah (U.map (·.2)):Nat)),(Sum.inr "firsts", .ref e),(Sum.inr "marks", .ref m),(Sum.inr "bits", V.int (Ah (AO U):Nat))],Zj,(by show 4<=15;decide),?_⟩;rw[VD];have nt:∀b o,H3 b=some o->b≠t:=λb o ebo=>AJ (s5 _ _ ebo) ht0
      have sAll:aA (upd H3 m (.lst (as.map V.ref))) (upd (upd (upd (upd H3 m (.lst (as.map V.ref))) t (.dK [])) l2 (.lst (AU (AO U)))) t (.dK (Nj U e m))):=λb o ebo=>by
       rw[AH (AJ ebo ht0)];exact s7 _ _ (s6 _ _ ebo)
      refine k t e m as _ ?_ AB ?_ (sAll _ _ AB) (aB.same (s5.trans sAll) ht')
      ·intro b o ebo;exact sAll _ _ (s5 _ _ (s4 _ _ (s2 _ _ ebo)))
      ·exact sAll _ _ (s5 _ _ (s4 _ _ gf))
end
theorem R9 {α:Type}{P:List α->Prop} (h0:P []) (h1:∀xs x,P xs->P (xs++[x])) (xs:List α):P xs:=by
 have key:∀l:List α,P l.reverse:=by
  intro l;induction l with
  |nil=>exact h0
  |cons a r ih=>rw[List.reverse_cons];exact h1 _ _ ih
 have:=key xs.reverse;rw[List.reverse_reverse]at this;exact this
theorem HA:∀ {ds:List PyData},(∀d∈ds,PyData.eqv d d=true)->PyData.eqvAll ds ds=true
 | [],_=>by rw[PyData.eqvAll]
 |d::r,h=>by
  rw[PyData.eqvAll,h d ZK,HA λx hx=>h x (ZS _ hx)];rfl
theorem F2 {ds:List PyData} (h:∀d∈ds,PyData.eqv d d=true):PyData.eqv (.tuple ds) (.tuple ds)=true:=by
 rw[PyData.eqv];exact HA h
theorem Cf (x:Str):PyData.eqv (.str x) (.str x)=true:=by simp[PyData.eqv]
theorem KZ (n:Int):PyData.eqv (.int n) (.int n)=true:=by simp[PyData.eqv]
theorem Oe {b:W3}{x y:Str} (h:H b=some (.tup [.str x,.str y])):BW K H (.tuple [.str x,.str y]) (.ref b):=by
 rw[BW];refine⟨b,_,Zj,bA.of h,?_⟩;rw[Ax];refine⟨_,_,Zj,by rw[BW],?_⟩;rw[Ax];refine⟨_,_,Zj,by rw[BW],?_⟩;rw[Ax]
noncomputable def AR (U:Aa):List (Str×Th):=U.map λp=>(p.1,Th.num p.2)
theorem BG (U:Aa):Ae (AR U)=U:=by
 refine R9 (P:=λU=>Ae (AR U)=U) Zj (λxs x ih=>?_) U;show Ae (AR (xs++[x]))=xs++[x];unfold AR at ih ⊢;rw[Zt,List.map_singleton,Bv,ih];rfl
theorem aO.sub {fb:Aa} (h:aO U) (s:fb.Sublist U):aO fb :=
 ⟨Nat.le_trans s.length_le h.len,λp hp=>h.lt p (s.subset hp),h.nd.sublist (s.map _),λp hp=>h.nm p (s.subset hp)⟩
theorem Dy (h:aO U):BN (AR U):=by
 intro i r hi;unfold AR at hi;rw[ZG]at hi;obtain⟨p,hp,rfl⟩:=Z6.mp hi
 have et:Ae ((AR U).take i)=U.take i:=by
  unfold AR;rw[←map_take];exact BG _
 rw[et]
 have hlt:i<U.length:=by
  rcases Nat.lt_or_ge i U.length with z |z
  ·exact z
  ·rw[List.getElem?_eq_none z]at hp;cases hp
 have hl:=h.len;refine⟨h.sub (List.take_sublist _ _),by rw[Zz];omega,h.nm p (ZR hp),λhm=>?_,trivial,h.lt p (ZR hp)⟩;obtain⟨q,hq,e⟩:=Zq.mp hm;obtain⟨j,hj⟩:=List.mem_iff_getElem?.mp hq
 have hji:j<i:=by
  rcases Nat.lt_or_ge j i with z |z
  ·exact z
  ·rw[List.getElem?_eq_none (by rw[Zz];omega)]at hj;cases hj
 rw[List.getElem?_take_of_lt hji]at hj;have nd:=h.nd;have e1:(U.map (·.1))[j]?=some q.1:=by rw[ZG,hj];rfl
 have e2:(U.map (·.1))[i]?=some p.1:=by rw[ZG,hp];rfl
 have:=(List.getElem?_inj (i:=j) (j:=i) (by rw[AE];omega) nd).mp (by rw[e1,e2,e]);omega
theorem MH {bs:List W3} (h:aB H bs (BR U)):Paired (bH H) bs (AR U):=by
 induction U generalizing bs with
 |nil =>
  have:bs=[]:=List.eq_nil_of_length_eq_zero (by rw[h.length];rfl);subst this;exact .nil
 |cons p r ih =>
  cases h with
  |cons h1 h2=>exact .cons ⟨_,h1,rfl⟩ (ih h2)
theorem QB {fs:List (Nat×Str)}{n:Nat} (h:n∈fs.map (·.1)):(n,CS fs n)∈fs:=by
 unfold CS;obtain⟨q,hq⟩:=Option.isSome_iff_exists.mp (FN h);rw[hq];have e:q.1=n:=by simpa using List.find?_some hq
 have hm:=List.mem_of_find?_eq_some hq;subst e;exact hm
theorem Wq:¬ (("own_kind" : Str) = "bits"):=by decide +kernel
noncomputable def IW (kp:W3) (n:Nat):List (Str×V):=Bz "bits" (.int (n:Int)) (Bz "own_kind" (.ref kp) [])
theorem Ka (kp:W3) (n:Nat):(IW kp n).lookup ("own_kind" : Str)=some (.ref kp):=by
 unfold IW;rw[Ai,Zp Wq,Ai,Zo rfl]
theorem Kb (kp:W3) (n:Nat):(IW kp n).lookup ("bits" : Str)=some (.int (n:Int)):=by
 unfold IW;rw[Ai,Zo rfl]
theorem MJ (kp:W3) (n:Nat) {m:Str} (h1:¬ m = "bits") (h2:¬ m = "own_kind"):(IW kp n).lookup m=none:=by
 unfold IW;rw[Ai,Zp h1,Ai,Zp h2];rfl
def dS (VC:W3) (H:Hp) (p kp:W3) (n:Nat):Prop:=∃dx,H p=some (.ins VC dx (IW kp n))
theorem dS.same {p kp:W3}{n:Nat} (s:aA H H') (h:dS VC H p kp n):dS VC H' p kp n:=by
 obtain⟨dx,h⟩:=h;exact⟨dx,s _ _ h⟩
structure Kc (K:FG) (VC:W3):Prop where
 cl:gP K VC
 nK:cI K VC "own_kind"
 nB:cI K VC "bits"
noncomputable def kn (U:Aa):Nat:=Ah (U.map (·.2))
section
inductive spIsNumber (vs:Wy) (H:Hp) (Q:VK) (_E:XK):Prop where
 |mk (n:Nat) (cE:vs=[.int (n:Int)]) (cD:n<2 ^ 40) (cK:Q (.bl true) H)
theorem Nk:AK ["thing"] ["thing"] (defScope Gf):=cH
theorem ML {tL:Tok} (F:aZ K "is_number" "is_number" Gf f fd) (hL:mg "LIMIT" = some (.int 1099511627776 tL)) (GW:Fn P w K mg base "is_whole" 1 ["thing"] spIsWhole):aD P w K mg base aP 2 f fd ["thing"] spIsNumber:=by
 obtain⟨fW,dW,GW,mW,kW,bW⟩:=GW.ex;refine F.m Nk λvs H Q E h=>?_;obtain⟨n,rfl,hn,k⟩:=h;refine⟨Zj,λae A outer s hr=>?_⟩;refine⟨_,AF (AN (Cm (AM GW hr Zj mW kW bW .nil AL (AA (pv 0) AD)) (DL (Kx Cr N7 AI (pv 0) (BY (v:=.int 1099511627776) Zj hL ⟨tL,Zj⟩))))),?_⟩;refine⟨_,Zj,(n:Int),Zj,_,Zj,?_⟩;refine Ay ?_;refine⟨_,Zj,_,_,Zj,Zj,_,Zj,?_⟩;rw[ZM (show(0:Int)<=(n:Int) by omega)];refine Ay ?_;refine⟨_,_,Zj,Zj,?_⟩;show Q (V.bl (decide ((n:Int)<1099511627776))) H
 rw[ZM (show(n:Int)<1099511627776 by have:(2:Nat) ^ 40=1099511627776:=by decide
                                     omega)]
 exact k
inductive spRestOf (C:W3) (vs:Wy) (H:Hp) (Q:VK) (_E:XK):Prop where
 |mk (kp:W3) (U:Aa) (r:Str) (n:Nat) (cE:vs=[.ref kp,.int (n:Int)]) (cD:aG C H kp U r) (cK:∀H',aA H H'->Q (.int ((n - (n&&&kn U):Nat):Int)) H')
theorem SA:AK ["kind", "number"] ["kind", "number"] (defScope KP):=cH
theorem QC (F:aZ K "rest_of" "rest_of" KP f fd) (T:EE K C) (GK:Mt P w K mg base C "known" 2 ["self"] (spKnown C)):aD P w K mg base aP 3 f fd ["kind", "number"] (spRestOf C):=by
 obtain⟨fK,dK,GK,mK,bK⟩:=GK.ex;refine F.m SA λvs H Q E h=>?_;obtain⟨kp,U,r,n,rfl,KA,k⟩:=h;refine⟨Zj,λae A outer s hr=>?_⟩;obtain⟨dx,d1,d2,hp⟩:=KA.ins;refine⟨_,AF (AN (AW Cq (pv 1) (Kw Mr (Aj (pv 0) T.cl mK GK hr bK .nil AL)))),?_⟩;refine⟨_,Zj,_,Zj,kp,dx,_,Zj,hp,(BO _ _ _),kp,U,r,Zj,KA,λH1 s1=>?_⟩;refine⟨_,Zj,_,_,Zj,Zj,?_⟩;show Q (V.int (Builtin.bitAnd (n:Int) (Builtin.bitNot ((Ah ((AS U).map (·.1)):Nat):Int)))) H1;rw[E8,MF];exact k H1 s1
inductive spVInit (C VC:W3) (vs:Wy) (H:Hp) (Q:VK) (_E:XK):Prop where
 |mk (p dx kp:W3) (U:Aa) (r:Str) (n:Nat) (cE:vs=[.ref p,.ref kp,.int (n:Int)]) (cD:H p=some (.ins VC dx [])) (cK:aG C H kp U r) (d5:n<2 ^ 40) (fj:(r = "keep" \/ n - (n&&&kn U)=0)) (ir:∀H',(∀b o,H b=some o->b≠p->H' b=some o)->dS VC H' p kp n->Q .aK H')
theorem Tx:AK ["self", "kind", "number"] ["self", "kind", "number"] (defScope FE):=cH
theorem MM (F:aZ K "__init__" "Value.__init__" FE f fd) (T:EE K C) (VT:Kc K VC)
  (GN:Fn P w K mg base "is_number" 2 ["thing"] spIsNumber) (GR:Fn P w K mg base "rest_of" 3 ["kind", "number"] (spRestOf C)) (GRe:Mt P w K mg base C "rest" 1 ["self"] (spRest C)):aD P w K mg base aP 4 f fd ["self", "kind", "number"] (spVInit C VC):=by
 obtain⟨fN,dN,GN,mN,kN,bN⟩:=GN.ex;obtain⟨fR,dR,GR,mR,kR,bR⟩:=GR.ex;obtain⟨fE,dE,GE,mE,bE⟩:=GRe.ex;refine F.m Tx λvs H Q E h=>?_;obtain⟨p,dx,kp,U,r,n,rfl,hp,KA,hn,hrest,k⟩:=h;refine⟨Zj,λae A outer s hr=>?_⟩;have cP:aH 1 _:=hr.mono qc;have gC:aH 2 _:=hr.mono qc;obtain⟨iH,d1,d2,aj⟩:=KA.ins
 refine⟨_,AG (Au (BH (BA (AM GN gC Zj mN kN bN .nil AL (AA (pv 2) AD)))) (AF Am) Ab)
  (Bb (Au (PW.pt (Eu (AQ CN (Aj (pv 1) T.cl mE GE cP bE .nil AL) AY (AX _)) (Dc (AQ CN (AM GR hr rfl mR kR bR .nil AL (AA (pv 1) (AA (pv 2) AD))) AI (AX _))))) (AF Am) Ab)
  (AG (F8 (pv 0) (pv 1) rfl) (AF (F8 (pv 0) (pv 2) rfl)))),?_⟩
 refine⟨_,Zj,n,Zj,hn,_,Zj,?_⟩;refine An ?_;refine⟨λσ H1=>σ=[some (.ref p),some (.ref kp),some (.int (n:Int))]/\aA H H1,λR hR=>?_,?_⟩
 ·refine⟨_,Zj,kp,iH,_,Zj,aj,(BO _ _ _),kp,U,r,Zj,KA,Zj,_,Zj,?_⟩;by_cases hk:r = "keep"
  ·rw[ZM (show V.str r=V.str "keep" by rw[hk])];exact An (An (hR _ _ ⟨Zj,aA.refl _⟩))
  ·rw[ZP (show ¬ V.str r=V.str "keep" from λz=>hk (V.str.inj z))];refine Ay ?_;refine⟨_,Zj,_,Zj,kp,U,r,n,Zj,KA,λH1 s1=>⟨Zj,_,Zj,?_⟩⟩;have h0:=hrest.resolve_left hk;rw[h0];exact An (hR _ _ ⟨Zj,s1⟩)
 ·rintro σ H1 ⟨rfl,s1⟩;refine⟨_,Zj,_,Zj,p,VC,dx,[],Zj,s1 _ _ hp,VT.cl,VT.nK,(by show 0<1000;decide),?_⟩;refine⟨_,Zj,_,Zj,p,VC,dx,_,Zj,AB,VT.cl,VT.nB,Nat.lt_of_le_of_lt (DF _ _ _) (by show 1<1000;decide),?_⟩;refine k _ (λb o e hb=>?_) ⟨dx,AB⟩;rw[AH hb,AH hb];exact s1 _ _ e
inductive spVNumber (VC:W3) (vs:Wy) (H:Hp) (Q:VK) (_E:XK):Prop where
 |mk (p kp:W3) (n:Nat) (cE:vs=[.ref p]) (cD:dS VC H p kp n) (cK:Q (.int (n:Int)) H)
theorem QD:AK ["self"] ["self"] (defScope Dr):=cH
theorem Nm (F:aZ K "number" "Value.number" Dr f fd) (VT:Kc K VC):aD P w K mg base aP 1 f fd ["self"] (spVNumber VC):=by
 refine F.m QD λvs H Q E h=>?_;obtain⟨p,kp,n,rfl,⟨dx,hp⟩,k⟩:=h;refine⟨Zj,λae A outer s hr=>?_⟩;refine⟨_,AF (AN (Bm (pv 0) Zj)),?_⟩;exact⟨_,Zj,p,VC,dx,_,_,Zj,hp,VT.cl,VT.nB,Kb _ _,k⟩
inductive spVKind (VC:W3) (vs:Wy) (H:Hp) (Q:VK) (_E:XK):Prop where
 |mk (p kp:W3) (n:Nat) (cE:vs=[.ref p]) (cD:dS VC H p kp n) (cK:Q (.ref kp) H)
theorem Ty:AK ["self"] ["self"] (defScope FF):=cH
theorem SB (F:aZ K "kind" "Value.kind" FF f fd) (VT:Kc K VC):aD P w K mg base aP 1 f fd ["self"] (spVKind VC):=by
 refine F.m Ty λvs H Q E h=>?_;obtain⟨p,kp,n,rfl,⟨dx,hp⟩,k⟩:=h;refine⟨Zj,λae A outer s hr=>?_⟩;refine⟨_,AF (AN (Bm (pv 0) Zj)),?_⟩;exact⟨_,Zj,p,VC,dx,_,_,Zj,hp,VT.cl,VT.nK,Ka _ _,k⟩
structure SD (P:Program) (w:World) (K:FG) (mg:SV) (base:Heap) (C VC:W3):Prop where
 VT:Kc K VC
 cls:mg "Value" = some (.ref VC)
 make:∃f fd,Mk K VC f/\aD P w K mg base aP 4 f fd ["self", "kind", "number"] (spVInit C VC)/\Binds K fd ["self", "kind", "number"] []
theorem DZ {D kp dx:W3} (hkp:H kp=none) (be:H dx=none) (bc:dx≠kp):aA H (upd (upd H dx (.own kp)) kp (.ins D dx [])):=by
 refine AC (AC (aA.refl _) be) ?_;rw[AH (Ne.symm bc)];exact hkp
theorem CJ {Hc:Hp}{kp:W3} (sN:aA H H') (hkp:H kp=none) (sc:∀b o,H' b=some o->b≠kp->Hc b=some o):aA H Hc:=λb o e=>sc b o (sN _ _ e) (AJ e hkp)
theorem Of (h:∀p∈U,p.2<2 ^ 20):kn U<2 ^ 20:=by
 unfold kn;exact Fp λn hn=>by obtain⟨p,hp,rfl⟩:=Zq.mp hn;exact h p hp
theorem VF (x y:Nat):(x |||y)+(x&&&y)=x+y:=by
 have h:=PyProof.Rows.bitOr_and (x:Int) (y:Int);rw[E7,Cd]at h;omega
theorem MO (a b:Nat):a - (a&&&b)=a ^^^ (a&&&b):=by
 have h1:(a ^^^ (a&&&b))|||(a&&&b)=a:=by
  refine Nat.eq_of_testBit_eq λk=>?_;simp only[Nat.testBit_and,Nat.testBit_xor,Nat.testBit_or];cases a.testBit k <;> cases b.testBit k <;> rfl
 have h2:(a ^^^ (a&&&b))&&&(a&&&b)=0:=by
  refine Nat.eq_of_testBit_eq λk=>?_;simp only[Nat.testBit_and,Nat.testBit_xor,Nat.zero_testBit];cases a.testBit k <;> cases b.testBit k <;> rfl
 have h3:=VF (a ^^^ (a&&&b)) (a&&&b);rw[h1,h2]at h3;omega
theorem Og (a b k:Nat):(a - (a&&&b)).testBit k=(a.testBit k && !b.testBit k):=by
 rw[MO];simp only[Nat.testBit_and,Nat.testBit_xor];cases a.testBit k <;> cases b.testBit k <;> rfl
end
section
variable {CU:W3}
inductive spErrInit (K:FG) (vs:Wy) (H:Hp) (Q:VK) (_E:XK):Prop where
 |mk (e C:W3) (dx:Option W3) (x:Str) (cE:vs=[.ref e,.str x]) (cD:A1 K C=true) (cK:H e=some (El e C dx)) (d5:Q .aK H)
theorem QE:AK ["self", "words"] ["self", "words"] (defScope BC):=cH
theorem Nn (F:FunD K "__init__" "MarkError.__init__" BC f fd) (hV:mg "ValueError" = none):aD P w K mg base aP 1 f fd ["self", "words"] (spErrInit K):=by
 refine F.ok QE (λvs H Q E h=>?_) (λae A outer s H vs Q E hr h=>?_)
 ·obtain⟨e,C,dx,x,rfl,_⟩:=h;rfl
 ·obtain⟨e,C,dx,x,rfl,hC,he,k⟩:=h;refine⟨_,AF (Dd (RE Zj hV (AA (pv 0) (AA (pv 1) AD)))),?_⟩;exact⟨_,Zj,_,Zj,e,C,dx,[.str x],Zj,(by show 1<=1000;decide),hC,he,k⟩
theorem none_of {x:W3} (s:aA H H') (h:H' x=none):H x=none:=by
 cases e:H x with
 |none=>rfl
 |some u=>rw[s _ _ e]at h;cases h
end
noncomputable def wds:Ww:=["BadRows", "BadRest", "BadText", "Unled", "BadRule", "BadName", "BadNumber", "Unlike", "BadPairs", "Never", "Nothing"]
noncomputable def wd (j:Nat):Str:=wds.getD j ""
noncomputable def gA (j:Nat):List Bool:=(List.range 11).map λi=>decide (i=j)
noncomputable def b1 (b:Bool):Int:=if b then 1 else 0
noncomputable abbrev zA (j:Nat):Wy:=[V.bl (decide (0=j)),V.bl (decide (1=j)),V.bl (decide (2=j)),V.bl (decide (3=j))]
noncomputable abbrev zB (j:Nat):Wy:=[V.bl (decide (4=j)),V.bl (decide (5=j)),V.bl (decide (6=j))]
noncomputable abbrev zC (j:Nat):Wy:=[V.bl (decide (7=j))]
noncomputable abbrev zD (j:Nat):Wy:=[V.bl (decide (8=j)),V.bl (decide (9=j)),V.bl (decide (10=j))]
noncomputable abbrev yA:Wy:=[V.str "BadRows", V.str "BadRest", V.str "BadText", V.str "Unled", V.str "BadRule", V.str "BadName", V.str "BadNumber"]
noncomputable abbrev yB:Wy:=[V.str "Unlike", V.str "BadPairs"]
theorem Oh:∀j,j<11->((gA j).map b1).sum=1:=by decide +kernel
theorem VG:∀j,j<11->(gA j)[j]?=some true/\∀m,m<j->(gA j)[m]?=some false:=by decide +kernel
theorem VH:∀j:Nat,j<11->g6 (wds.map V.str) (j:Int)=some (V.str (wd j)):=by decide +kernel
structure QF (mg:SV) (ec:Nat->W3):Prop where
 e0:mg "BadRows" = some (.ref (ec 0))
 e1:mg "BadRest" = some (.ref (ec 1))
 e2:mg "BadText" = some (.ref (ec 2))
 e3:mg "Unled" = some (.ref (ec 3))
 e4:mg "BadRule" = some (.ref (ec 4))
 e5:mg "BadName" = some (.ref (ec 5))
 e6:mg "BadNumber" = some (.ref (ec 6))
 e7:mg "Unlike" = some (.ref (ec 7))
 e8:mg "BadPairs" = some (.ref (ec 8))
 e9:mg "Never" = some (.ref (ec 9))
 iG:mg "Nothing" = some (.ref (ec 10))
 ev:mg "ValueError" = none
structure Oi (K:FG) (ec:Nat->W3) (C:W3) (j:Nat):Prop where
 hj:j<11
 kx:TY K C
 kit:∀i,i<11->W.kitOne K (.ref C) (.ref (ec i))=some (decide (i=j))
 val:W.kitOne K (.ref C) (.type "ValueError")=some true
section
variable {ec:Nat->W3}
theorem B7 {X:Cx}{a:Expr}{te:TE}{e c:W3}{oe:Obj}{x:Str}{p p2 pos:Pos} (K:FG) (hK:X.K=K) (pX:ExcP X e oe C) (k:TY K C) (hg:Gl X "isinstance") (hm:X.mg "isinstance" = none) (hgT:Gl X x) (hmT:X.mg x=some (.ref c)) (he:PE X a te)
  (dG:(x==("__debug__" : Str))=false:=by decide)
  (hs:starEach [a,.Name x p2] X.env=(false,eval a X.env)::starEach [.Name x p2] X.env:=by rfl) (dA:(backTo pos (starEach [.Name x p2] X.env)).any (·.1)=false:=by rfl) (iP:starEach [.Name x p2] X.env=(false,eval (.Name x p2) X.env)::starEach [] X.env:=by rfl) :
  PE X (.Call (.Name "isinstance" p) [a,.Name x p2] [] pos) (tCB (λxs H Q=>∃v c b,xs=[.ref e,v]/\((∃D,v=.ref D/\c=.ref D)\/∃T,v=.ty T/\c=.type T)/\(oe.dict=none\/∃d u,oe.dict=some d/\H d=some u)/\W.kitOne K (.ref C) c=some b/\Q (.bl b) H) (Ag te (Ag (tC (.ref c)) CA))):=by
 subst hK;exact AZ (JX pX k) hg hm Gh (AA he (AA (BY (v:=.ref c) hgT hmT Zj dG) AD iP) hs) qc qc hs dA
def Dz (K:FG) (ec:Nat->W3):SpS:=λe oe vs H Q=>vs=[.ref e]/\∃(C:W3) (j:Nat) (fs:Array Value),oe.cls=.ref C/\oe.data=.fields fs/\fs[2]?=some .none/\(oe.dict=none\/∃d u,oe.dict=some d/\H d=some u)/\Oi K ec C j /\
 ∀p H',aA H H'->H' p=some (.tup [.str "refused", .str (wd j)])->Q (.ref p) H'
theorem scWord:AK ["_law_e", "_law_flags", "_law_words"] ["_law_e"] (defScope ET):=cH
theorem Tz (F:aZ K "_law_word" "_law_word" ET f fd) (B:Bl mg) (M:QF mg ec):OP P w K mg base 1 f fd ["_law_e"] (Dz K ec):=by
 refine F.okS scWord (λe oe vs H Q h=>?_) (λae A outer s H vs Q e oe hh hr h=>?_)
 ·obtain⟨rfl,_⟩:=h;rfl
 ·obtain⟨rfl,C,j,fs,hc,hf,h2,hd,EA,k⟩:=h;have hj:=EA.hj
  have gY:∀H',aA H H'->(oe.dict=none\/∃d u,oe.dict=some d/\H' d=some u):=λH' s=>by
   rcases hd with z |⟨d,u,z,y⟩
   ·exact .inl z
   ·exact .inr ⟨d,u,z,s _ _ y⟩
  have kt:=EA.kit;have pX:ExcP (IB P w K mg base ["_law_e", "_law_flags", "_law_words"] "_law_word" (defScope ET) f ae A outer s H e oe) e oe C:=⟨ZK,hc,⟨fs,hf⟩⟩;have rd:g7 (IB P w K mg base ["_law_e", "_law_flags", "_law_words"] "_law_word" (defScope ET) f ae A outer s H e oe):=TV hh hf h2
  refine⟨_,AG (Al (i:=1) scWord.nd Zj (Or.inl Zj) (A6 (AA (B7 K Zj pX EA.kx Zj B.dH Zj M.e0 (pv 0)) (AA (B7 K Zj pX EA.kx Zj B.dH Zj M.e1 (pv 0)) (AA (B7 K Zj pX EA.kx Zj B.dH Zj M.e2 (pv 0)) (AA (B7 K Zj pX EA.kx Zj B.dH Zj M.e3 (pv 0)) AD))))))
   (AG (Al (i:=1) scWord.nd rfl (Or.inl rfl) (AW CB (pv 1) (A6 (AA (B7 K rfl pX EA.kx rfl B.dH rfl M.e4 (pv 0)) (AA (B7 K rfl pX EA.kx rfl B.dH rfl M.e5 (pv 0)) (AA (B7 K rfl pX EA.kx rfl B.dH rfl M.e6 (pv 0)) AD))))))
   (AG (Al (i:=1) scWord.nd rfl (Or.inl rfl) (AW CB (pv 1) (A6 (AA (B7 K rfl pX EA.kx rfl B.dH rfl M.e7 (pv 0)) AD))))
   (AG (Al (i:=1) scWord.nd rfl (Or.inl rfl) (AW CB (pv 1) (A6 (AA (B7 K rfl pX EA.kx rfl B.dH rfl M.e8 (pv 0)) (AA (B7 K rfl pX EA.kx rfl B.dH rfl M.e9 (pv 0)) (AA (B7 K rfl pX EA.kx rfl B.dH rfl M.iG (pv 0)) AD))))))
   (AG (Al (i:=2) scWord.nd rfl (Or.inl rfl) (A6 (AA AY (AA AY (AA AY (AA AY (AA AY (AA AY (AA AY AD)))))))))
   (AG (Al (i:=2) scWord.nd rfl (Or.inl rfl) (AW CB (pv 2) (A6 (AA AY (AA AY AD)))))
   (AG (Au (PW.pt (CZ (AQ CN (AZ (JT rd) rfl B.sum Rj (AA (PP [] [] qd qb qd rd (Qy (pv 1)) (λ_ _ _ _ _ _=>B3) (λ_ _ _ _ _ _=>BS O3 rfl B.int Nf (AA (pv 0) AD))) AD)) AI (AX _))
     (Bk (BH (BA (AZ (JX pX EA.kx) rfl B.dH Gh (AA (pv 0) (AA (N2 (v:=.ty "ValueError") rfl M.ev OO rfl) AD)))))))) (AF Am) Ab)
   (AF (AN (BB (AA AY (AA (Bp (BD K rfl) (AW CB (pv 2) (A6 (AA AY (AA AY AD)))) (Hj PySem.F.plainAttrs_list PySem.F.slot_list_index PySem.F.type_list_index Pe (pv 1) (AA N1 AD)) (λ_ _=>rfl)) AD))))))))))),?_⟩
  refine⟨_,Zj,_,_,_,Zj,.inl ⟨_,Zj,Zj⟩,gY _ (aA.refl _),kt 0 qc,_,Zj,_,_,_,Zj,.inl ⟨_,Zj,Zj⟩,gY _ (aA.refl _),kt 1 qc,_,Zj,_,_,_,Zj,.inl ⟨_,Zj,Zj⟩,gY _ (aA.refl _),kt 2 qc,_,Zj,_,_,_,Zj,.inl ⟨_,Zj,Zj⟩,gY _ (aA.refl _),kt 3 qc,sl4,λl1 h1=>?_⟩;have s1:=AC (aA.refl H) h1 (o:=.lst (zA j));have a1:=AB (H:=H) (a:=l1) (o:=.lst (zA j));generalize upd H l1 (.lst (zA j))=H1 at s1 a1 ⊢;refine⟨_,Zj,_,Zj,_,_,_,Zj,.inl ⟨_,Zj,Zj⟩,gY _ s1,kt 4 qc,_,Zj,_,_,_,Zj,.inl ⟨_,Zj,Zj⟩,gY _ s1,kt 5 qc,_,Zj,_,_,_,Zj,.inl ⟨_,Zj,Zj⟩,gY _ s1,kt 6 qc,jb,λl2 jh=>?_⟩;refine⟨l1,l2,_,_,Zj,Zj,(AC (aA.refl H1) jh) _ _ a1,AB,(by show 4+3<=sizeLine;decide),λl3 h3=>?_⟩;have s3:=s1.trans (AC (AC (aA.refl H1) jh (o:=.lst (zB j))) h3 (o:=.lst (zA j++zB j)));generalize e3:upd (upd H1 l2 (.lst (zB j))) l3 (.lst (zA j++zB j))=H3 at s3 ⊢;have a3:H3 l3=some (.lst (zA j++zB j)):=by rw[←e3,AB]
  refine⟨_,Zj,_,Zj,_,_,_,Zj,.inl ⟨_,Zj,Zj⟩,gY _ s3,kt 7 qc,sl1,λl4 h4=>?_⟩;refine⟨l3,l4,_,_,Zj,Zj,(AC (aA.refl H3) h4) _ _ a3,AB,(by show 7+1<=sizeLine;decide),λl5 h5=>?_⟩;have s5:=s3.trans (AC (AC (aA.refl H3) h4 (o:=.lst (zC j))) h5 (o:=.lst ((zA j++zB j)++(zC j))));generalize e5:upd (upd H3 l4 (.lst (zC j))) l5 (.lst ((zA j++zB j)++(zC j)))=H5 at s5 ⊢;have a5:H5 l5=some (.lst ((zA j++zB j)++(zC j))):=by rw[←e5,AB]
  refine⟨_,Zj,_,Zj,_,_,_,Zj,.inl ⟨_,Zj,Zj⟩,gY _ s5,kt 8 qc,_,Zj,_,_,_,Zj,.inl ⟨_,Zj,Zj⟩,gY _ s5,kt 9 qc,_,Zj,_,_,_,Zj,.inl ⟨_,Zj,Zj⟩,gY _ s5,kt 10 qc,jb,λl6 h6=>?_⟩;refine⟨l5,l6,_,_,Zj,Zj,(AC (aA.refl H5) h6) _ _ a5,AB,(by show 8+3<=sizeLine;decide),λl7 h7=>?_⟩;have s7:=s5.trans (AC (AC (aA.refl H5) h6 (o:=.lst (zD j))) h7 (o:=.lst (((zA j++zB j)++(zC j))++(zD j))));generalize e7:upd (upd H5 l6 (.lst (zD j))) l7 (.lst (((zA j++zB j)++(zC j))++(zD j)))=H7 at s7 ⊢;have a7:H7 l7=some (.lst ((gA j).map V.bl)):=by rw[←e7];exact AB
  refine⟨sl7,λl8 h8=>?_⟩;refine⟨_,Zj,dQ,λl9 h9=>?_⟩;refine⟨l8,l9,_,_,Zj,Zj,(AC (aA.refl _) h9) _ _ AB,AB,(by show 7+2<=sizeLine;decide),λl10 gE=>?_⟩;have gT:=AC (AC (AC (aA.refl H7) h8 (o:=.lst yA)) h9 (o:=.lst yB)) gE (o:=.lst (yA++yB));generalize iG:upd (upd (upd H7 l8 (.lst yA)) l9 (.lst yB)) l10 (.lst (yA++yB))=jo at gT ⊢;have a10:jo l10=some (.lst (yA++yB)):=by rw[←iG];exact AB
  have b7:=gT _ _ a7;refine⟨_,Zj,l7,Zj,⟨_,aJ.of b7⟩,BU (K:=K) (a:=l7) (xs:=(gA j).map V.bl) (λi ys H2=>ys=((gA j).take i).map (λb=>V.int (b1 b))/\H2=jo) ⟨Zj,Zj⟩ (λi ys H2 _ ⟨_,e⟩=>e ▸ aJ.of b7) (λi ys H2 ⟨e,_⟩=>?_) ?_ ?_⟩
  ·rw[e,AE,Zz];have:(gA j).length=11:=rfl;omega
  ·rintro i v ys H2 hi ⟨rfl,rfl⟩;rw[ZG]at hi;obtain⟨b,hb,rfl⟩:=Z6.mp hi;refine⟨_,Zj,.inr ⟨b,Zj,?_,Zj⟩⟩;rw[ZF,hb,Option.toList_some,Zt];rfl
  ·rintro ys H2 ⟨rfl,rfl⟩ p hp;have el:(gA j).take ((gA j).map V.bl).length=gA j:=by rw[AE];exact ZD
   rw[el];have em:(gA j).map (λb=>V.int (b1 b))=((gA j).map b1).map V.int:=by rw[map_map];rfl
   rw[em];have gi:=AC (aA.refl H2) hp (o:=.lst (((gA j).map b1).map V.int));refine⟨p,(gA j).map b1,Zj,aJ.of AB,λn hn=>?_,(by rw[Oh j hj];decide),Zj,_,Zj,?_⟩
   ·obtain⟨b,_,rfl⟩:=Zq.mp hn;unfold b1;split <;> decide
   rw[Oh j hj];refine An ?_;refine⟨_,Zj,_,_,true,Zj,.inr ⟨_,Zj,Zj⟩,gY _ (s7.trans (gT.trans gi)),EA.val,_,Zj,?_⟩;refine An ?_;refine⟨_,Zj,dQ,λl11 ji=>?_⟩;have iw:=AC gi ji (o:=.lst [V.str "Never", V.str "Nothing"]);refine⟨l10,l11,_,_,Zj,Zj,iw _ _ a10,AB,(by show 9+2<=sizeLine;decide),λl12 h12=>?_⟩;have s13:=AC iw h12 (o:=.lst ((yA++yB)++[V.str "Never", V.str "Nothing"]));have c7:=s13 _ _ b7;obtain⟨f1,f2⟩:=VG j hj;refine⟨_,Zj,.inl ⟨Zj,_,aJ.of c7⟩,l7,gA j,j,Zj,Zj,c7,f1,f2,l12,_,(j:Int),_,Zj,Zj,aJ.of AB,VH j hj,dQ,λq hq=>?_⟩;exact k q _ (s7.trans (gT.trans (AC s13 hq))) AB
end
structure UX (K:FG) (ec:Nat->W3) (cM C:W3) (j:Nat):Prop where
 ea:Oi K ec C j
 cx:A1 K C=true
 n0:(EN K C).contains (.ref (ec 0))=false
 n1:(EN K C).contains (.ref (ec 1))=false
 n2:(EN K C).contains (.ref (ec 2))=false
 n3:(EN K C).contains (.ref (ec 3))=false
 m:(EN K C).contains (.ref cM)=true
noncomputable def JA (j:Nat):Str:=(["at", "bits", "at", "name"]:Ww).getD j ""
structure MP (K:FG) (ec:Nat->W3) (C:W3) (j:Nat):Prop where
 ea:Oi K ec C j
 cx:A1 K C=true
 j4:j<4
 no:∀i,i<j->(EN K C).contains (.ref (ec i))=false
 m:(EN K C).contains (.ref (ec j))=true
 g:WE K C (JA j)
structure SE (K:FG) (mg:SV) (ec:Nat->W3) (cM:W3):Prop where
 m:mg "MarkError" = some (.ref cM)
 xm:A1 K cM=true
 x0:A1 K (ec 0)=true
 x1:A1 K (ec 1)=true
 x2:A1 K (ec 2)=true
 x3:A1 K (ec 3)=true
structure FnS (P:Program) (w:World) (K:FG) (mg:SV) (base:Heap) (x:Str) (k:Nat) (ps:Ww) (sp:SpS):Prop where
 ex:∃f fd,OP P w K mg base k f fd ps sp/\mg x=some (.ref f)/\W.keepIn K (.ref f)=true/\Binds K fd ps []
def SG (K:FG) (ec:Nat->W3) (cM C:W3) (dx:Option W3) (e:W3):TS:=λD σ H=>σ.length=2 /\
 ((∃j,UX K ec cM C j/\dx=none/\∀p H',aA H H'->H' p=some (.tup [.str "refused", .str (wd j)])->D.rt (.ref p) H') \/
  ∃j d v,MP K ec C j/\dx=some d/\H d=some (.xd [(JA j,v)])/\∀p H',aA H H'->H' p=some (.tup [.str "refused", .str (wd j),v])->D.rt (.ref p) H')
def MQ (K:FG) (ec:Nat->W3) (cM:W3) (Q:VK):XK:=λCv dx H2=>∃C,Cv=.ref C/\∀e,H2 e=some (Ey e C dx) ->
 ((∃j,UX K ec cM C j/\dx=none/\∀p H',aA (del H2 e) H'->H' p=some (.tup [.str "refused", .str (wd j)])->Q (.ref p) H') \/
  ∃j d v,MP K ec C j/\dx=some d/\(del H2 e) d=some (.xd [(JA j,v)])/\∀p H',aA (del H2 e) H'->H' p=some (.tup [.str "refused", .str (wd j),v])->Q (.ref p) H')
theorem scTold:AK ["_law_deed", "_law_e"] ["_law_deed"] (defScope At):=cH
section
variable {ec:Nat->W3}{cM:W3}
theorem SH {X:Cx} (K:FG) (hK:X.K=K):cT X (binaryOp .Add) (OB K):=hK ▸ S4
theorem T4 {k:Nat}{lf c':W3} (F:aZ K "_law_told" "_law_told" At f fd) (M:QF mg ec) (EX:SE K mg ec cM) (GW:FnS P w K mg base "_law_word" 1 ["_law_e"] (Dz K ec))
  {A:Around}{outer:List Env}{s:W4}{H:Hp}{args:Args}{Nl:Ww}{scope:Scope}{cl:List (Str×W3)}{g9:St}{name qual:Str}{params:Arguments}{body:Expr}{pm dJ:Value}{tl:XK->TE}{Q:VK}
  (hr:aH (k+2) A) (e0:dz P w K mg base A outer s H) (hb:BindsTo s fd args ((["_law_deed"]:Ww).zip [Value.ref lf])) (C:IC Nl scope cl g9 H s.heap) (iB:∀x c,cl.lookup x=some c->c∉ cQ outer)
  (h1:H lf=some (i8 lf (W.kla_obj name qual params body scope cl pm c' dJ))) (h2:H c'=some (Fg c' qual))
  (bz:bindArgs (W.kla_fn name qual params body scope cl pm (.ref c') dJ) ⟨[],[]⟩=pure [])
  (hco:scope.isCoroutine=false) (b9:scope.isGenerator=false) (hk:scope.kind=.function) (bp:∀x∈scope.names,x.2≠ .cell)
  (dj:∀(A':Around) (outer':List Env) (s':W4) (H':Hp) (E:XK),aH k (A'.deeper (W.envX qual scope s'.heap.objs.size lf (.ref c') cl))->PE (Er P w K mg base Nl qual scope lf (.ref c') cl A' outer' s' H' E) body (tl E))
  (h:tl (MQ K ec cM Q) g9 H Q):codeAny (model P w) A (.call (.ref f) args) (CR aP outer P w H s Q E0) s:=by
 obtain⟨fW,dW,GW,mW,kW,bW⟩:=GW.ex;refine F.at (N:=["_law_deed", "_law_e"]) scTold (vs:=[.ref lf]) Zj (k:=k+1) hr e0 hb (.cons Zj .nil) λae cP=>?_;have own:=TM (CX:=aP) (P:=P) (w:=w) (K:=K) (mg:=mg) (base:=base) (N:=["_law_deed", "_law_e"]) (qual := "_law_told") (scope:=defScope At) (f:=f) (cd:=ae) (A:=A) (outer:=outer) (s:=s) (H:=H) (E:=E0)
 have hrm:∀e:W3,RoomS 1 ((A.deeper (PyProof.Rows.envOfC "_law_told" (defScope At) s.heap.objs.size f ae)).mark (some (.ref e))):=λe=>by
  have q:=cP.mono (show 1<=k+1 by omega);exact⟨q.dp,q.un⟩
 refine⟨_,AF (RG (tb:=λE=>Oy (LV 0 lf c' qual (W.kla_obj name qual params body scope cl pm c' dJ) g9 (tl E))) (th:=SG K ec cM) own (λP0 xe E hx=>?_) (λCC dx=>?_)),?_⟩
 ·exact AF (AN (NN (X:=Ff (BF aP P w K mg base ["_law_deed", "_law_e"] "_law_told" (defScope At) f ae A outer s H E0) P0 xe) (i:=0) (k:=k+1) Zj (Or.inl Zj) cP C iB Zj hx bz hco b9 hk bp (λs' H'=>dj _ _ s' H' E (cP.deeper _))))
 ·intro aa s1 σ H1 D e oe T oT c I h;obtain⟨hl,⟨j,EP,rfl,kq⟩ |⟨j,d,v,EF,rfl,hxd,kq⟩⟩:=h
  ·refine(?hp:PH (BF aP P w K mg base ["_law_deed", "_law_e"] "_law_told" (defScope At) f ae A outer s H E0) CC none _ (λe=>OQ 1 (λD σ H=>σ[1]?=some (some (.ref e))/\∀p H',aA H H'->H' p=some (.tup [.str "refused", .str (wd j)])->D.rt (.ref p) H') e)) aa s1 σ H1 D e oe T oT c I ?_
   ·refine CK (Dn:=ec 0) EP.cx EX.x0 Zj M.e0 EP.n0 ?_;refine CK (Dn:=ec 1) EP.cx EX.x1 Zj M.e1 EP.n1 ?_;refine CK (Dn:=ec 2) EP.cx EX.x2 Zj M.e2 EP.n2 ?_;refine CK (Dn:=ec 3) EP.cx EX.x3 Zj M.e3 EP.n3 ?_;refine OR (Dn:=cM) (i:=1) (tb:=λ(e:W3) (D:EG) (σ:St) (H:Hp)=>σ[1]?=some (some (V.ref e))/\∀p H',aA H H'->H' p=some (.tup [.str "refused", .str (wd j)])->D.rt (.ref p) H') scTold.nd Zj Zj EP.cx EX.xm Zj EX.m EP.m (λe oe T oT c=>?_);refine λaa s2 bV H2 D2 I2 h2=>?_;obtain⟨fs,hd,hf1,hf2⟩:=c.fld;refine(?hb2:dP (BM (BF aP P w K mg base ["_law_deed", "_law_e"] "_law_told" (defScope At) f ae A outer s H E0) e oe T oT) _ (Oy (KD (Dz K ec) e oe (Ag (D9 1) CA)))) aa s2 bV H2 D2 I2 ⟨_,h2.1,Zj,CC,j,fs,c.cls,hd,hf2,.inl c.dict,EP.ea,h2.2⟩;exact AF (AN (LU (X:=BM (BF aP P w K mg base ["_law_deed", "_law_e"] "_law_told" (defScope At) f ae A outer s H E0) e oe T oT) (e:=e) (oe:=oe) GW (hrm e) Zj (by simp[BM]) Zj mW kW bW (AA (pv 1) AD)))
   ·exact⟨by rw[List.getElem?_set_self qe],kq⟩
  ·have hj4:=EF.j4;refine(?hq:PH (BF aP P w K mg base ["_law_deed", "_law_e"] "_law_told" (defScope At) f ae A outer s H E0) CC (some d) _ (λe=>OQ 1 (λD σ H=>σ[1]?=some (some (.ref e))/\H d=some (.xd [(JA j,v)])/\∀p H',aA H H'->H' p=some (.tup [.str "refused", .str (wd j),v])->D.rt (.ref p) H') e)) aa s1 σ H1 D e oe T oT c I ?_
   ·have take:∀ {x:Str}{fH:Stmt}{np pos:Pos}{hs:List ExceptHandler} (Dn:W3),A1 K Dn=true->(hg:Gl (BF aP P w K mg base ["_law_deed", "_law_e"] "_law_told" (defScope At) f ae A outer s H E0) x)->mg x=some (.ref Dn)->(EN K CC).contains (.ref Dn)=true->(x==("__debug__" : Str))=false ->
      (∀e oe T oT,jq CC (some d) e oe T oT->dP (BM (BF aP P w K mg base ["_law_deed", "_law_e"] "_law_told" (defScope At) f ae A outer s H E0) e oe T oT) [fH] (Oy (ja (OB K) (KD (Dz K ec) e oe (Ag (D9 1) CA)) (Qm (Ag (RT e oe (JA j) (D9 1)) CA))))) ->
      PH (BF aP P w K mg base ["_law_deed", "_law_e"] "_law_told" (defScope At) f ae A outer s H E0) CC (some d) (.ExceptHandler (some (.Name x np)) (some "_law_e") [fH] pos::hs) (λe=>OQ 1 (λD σ H=>σ[1]?=some (some (.ref e))/\H d=some (.xd [(JA j,v)])/\∀p H',aA H H'->H' p=some (.tup [.str "refused", .str (wd j),v])->D.rt (.ref p) H') e):=λ{x fH np pos hs} Dn hD hg hm hc dG hbod =>
     OR (Dn:=Dn) (i:=1) (tb:=λ(e:W3) (D:EG) (σ:St) (H:Hp)=>σ[1]?=some (some (V.ref e))/\H d=some (.xd [(JA j,v)])/\∀p H',aA H H'->H' p=some (.tup [.str "refused", .str (wd j),v])->D.rt (.ref p) H') scTold.nd rfl rfl EF.cx hD hg hm hc (λe oe T oT c=>by
      refine λaa s2 bV H2 D2 I2 h2=>?_;obtain⟨fs,hd,hf1,hf2⟩:=c.fld;obtain⟨g1,g2,g3⟩:=h2;refine hbod e oe T oT c aa s2 bV H2 D2 I2 ⟨_,g1,rfl,CC,j,fs,c.cls,hd,hf2,.inr ⟨d,_,c.dict,g2⟩,EF.ea,λp H' sp hp=>?_⟩;refine⟨_,g1,d,_,v,rfl,c.dict,sp _ _ g2,(by simp),sl1,λq hq=>?_⟩;have sq:=AC (aA.refl H') hq (o:=.tup [v]);refine⟨p,q,_,_,rfl,rfl,bA.of (sq _ _ hp),bA.of AB,(by simp),(by show 2+1<=sizeLine;decide),(λz=>nomatch z),λ_ r hr=>?_⟩
      exact g3 r _ (sp.trans (AC sq hr)) AB) dG
    have pX:∀e oe T oT,jq CC (some d) e oe T oT->ExcP (BM (BF aP P w K mg base ["_law_deed", "_law_e"] "_law_told" (defScope At) f ae A outer s H E0) e oe T oT) e oe CC:=λe oe T oT c=>by
     obtain⟨fs,hd,_⟩:=c.fld;exact⟨by simp[BM],c.cls,⟨fs,hd⟩⟩
    have bod:∀ {fl:Str}{p1 p2 p3 p4 p5 p6 p7:Pos}{kt:Nat},JA j=fl->∀e oe T oT,jq CC (some d) e oe T oT->dP (BM (BF aP P w K mg base ["_law_deed", "_law_e"] "_law_told" (defScope At) f ae A outer s H E0) e oe T oT) [.Return (some (.BinOp (.Call (.Name "_law_word" p1) [.Name "_law_e" p2] [] p3) .Add (.Tuple [.Attribute (.Name "_law_e" p4) fl p5] kt p6) p7)) p7] (Oy (ja (OB K) (KD (Dz K ec) e oe (Ag (D9 1) CA)) (Qm (Ag (RT e oe (JA j) (D9 1)) CA)))):=λah e oe T oT c=>by
     subst ah;exact AF (AN (AW (SH K Zj) (LU (X:=BM (BF aP P w K mg base ["_law_deed", "_law_e"] "_law_told" (defScope At) f ae A outer s H E0) e oe T oT) (e:=e) (oe:=oe) GW (hrm e) Zj (by simp[BM]) Zj mW kW bW (AA (pv 1) AD)) (BB (AA (Te (pX e oe T oT c) EF.g (pv 1) Zj) AD))))
    rcases (show j=0\/j=1\/j=2\/j=3 by omega)with z |z |z |z
    ·subst z;exact take (ec 0) EX.x0 Zj M.e0 EF.m qc (bod Zj)
    ·subst z;refine CK (Dn:=ec 0) EF.cx EX.x0 Zj M.e0 (EF.no 0 qc) ?_;exact take (ec 1) EX.x1 Zj M.e1 EF.m qc (bod Zj)
    ·subst z;refine CK (Dn:=ec 0) EF.cx EX.x0 Zj M.e0 (EF.no 0 qc) ?_;refine CK (Dn:=ec 1) EF.cx EX.x1 Zj M.e1 (EF.no 1 qc) ?_;exact take (ec 2) EX.x2 Zj M.e2 EF.m qc (bod Zj)
    ·subst z;refine CK (Dn:=ec 0) EF.cx EX.x0 Zj M.e0 (EF.no 0 qc) ?_;refine CK (Dn:=ec 1) EF.cx EX.x1 Zj M.e1 (EF.no 1 qc) ?_;refine CK (Dn:=ec 2) EF.cx EX.x2 Zj M.e2 (EF.no 2 qc) ?_;exact take (ec 3) EX.x3 Zj M.e3 EF.m qc (bod Zj)
   ·exact⟨by rw[List.getElem?_set_self qe],hxd,kq⟩
 ·refine⟨Zj,h1,h2,?_⟩
  have e:TX (BF aP P w K mg base ["_law_deed", "_law_e"] "_law_told" (defScope At) f ae A outer s H E0).N.length (SG K ec cM) { nx:=λ_ H'=>Q .aK H',rt:=Q }=MQ K ec cM Q:=by
   funext Cv dx H2;unfold TX MQ SG;simp[BF]
  rw[←e]at h;exact h
end
end Mk
end
section
namespace L2
open PySem PySem.Spec PyProof.Rows
noncomputable def T5 (ix:List Nat) (σ:St):St:=ix.map λj=>(σ[j]?).getD none
structure LamN (X:Cx) (Nl:Ww) (ix:List Nat) (scope:Scope) (bJ:List (Str×W3)):Prop where
 len:ix.length=Nl.length
 nm:∀(i:Nat) (x:Str),Nl[i]?=some x->∃j:Nat,ix[i]?=some j/\X.N[j]?=some x/\X.env.scope.names.lookup x=some .cell/\scope.names.lookup x=some .free
 cl:∀x c,bJ.lookup x=some c->X.env.cells.lookup x=some c
 has:∀x,(scope.names.lookup x=some .cell\/scope.names.lookup x=some .free)->∃c,bJ.lookup x=some c
 fn:∀x,X.fn x=true
section
variable {X:Cx}{aa:LO}{σ:St}{s:W4}{Nl:Ww}{ix:List Nat}{scope:Scope}{bJ:List (Str×W3)}
theorem LamN.cells (L:LamN X Nl ix scope bJ) (I:Inv X aa σ H s):IC Nl scope bJ (T5 ix σ) H s.heap:=by
 refine⟨λx y c h1 h2=>I.ok.inj x y c (L.cl x c h1) (L.cl y c h2),L.has,λx c h=>⟨I.cell x c (L.cl x c h),I.bP x c (L.cl x c h)⟩,λi x v h1 h2=>?_,?_⟩
 ·obtain⟨j,hj,hN,hk,hf⟩:=L.nm i x h1;refine⟨hf,?_⟩;unfold T5 at h2;rw[ZG,hj]at h2
  have hv:σ[j]?=some (some v):=by
   simp only[Option.map_some,Option.some.injEq]at h2;cases e:σ[j]? with
   |none=>rw[e]at h2;cases h2
   |some o=>rw[e]at h2;simp only[Option.getD_some]at h2;rw[h2]
  obtain⟨m,_,hl⟩:=I.loc;obtain⟨u,r,l⟩:=hl j x v hN hv (.inr (.inl hk));rcases l with⟨l,_⟩ |⟨_,c,e,z⟩
  ·rw[show X.env.kindOf x=X.env.scope.names.lookup x from rfl,hk]at l;cases l
  ·obtain⟨c2,e2⟩:=L.has x (.inr hf);have e3:=L.cl x c2 e2;rw[e]at e3;cases e3;exact⟨u,c,r,e2,z⟩
 ·unfold T5;rw[AE];exact L.len
theorem LamN.far (L:LamN X Nl ix scope bJ) (I:Inv X aa σ H s):∀x c,bJ.lookup x=some c->c∉ cQ X.stack:=λx c h z=>by
 have hc:=L.cl x c h;rcases mem_cons.mp (I.stkSub c z)with z |z
 ·exact I.iZ x c hc z
 ·obtain⟨_,o,ho,_⟩:=I.ok.cJ.mem z;exact absurd (Z2 (lt_size ho) (I.ok.ip x c (L.fn x) hc)) (ZH _)
end
end L2
namespace Mk
open PySem L2 MK
section
variable {X:Cx}{ec:Nat->W3}{cM c P0:W3}{ls:List Pos}{cG:Pos}
def Oj (K:FG) (ec:Nat->W3) (cM P0:W3) (qual:Str) (ls:List Pos) (ix:List Nat) (tl:XK->TE):TE:=λσ H Q=>aS H P0 qual ls/\∀H',JZ P0 H H'->aS H' P0 qual ls->tl (MQ K ec cM Q) (T5 ix σ) H' Q
theorem Kd {k:Nat} (F:aZ X.K "_law_told" "_law_told" At f fd) (M:QF X.mg ec) (EX:SE X.K X.mg ec cM) (GW:FnS X.prog X.w X.K X.mg X.base "_law_word" 1 ["_law_e"] (Dz X.K ec))
  (hr:aH (k+2) X.A) (hg:Gl X "_law_told") (hm:X.mg "_law_told" = some (.ref f)) (hkp:W.keepIn X.K (.ref f)=true) (hB:Binds X.K fd ["_law_deed"] [])
  {Nl:Ww}{ix:List Nat}{scope:Scope}{bJ:List (Str×W3)}{params:Arguments}{body:Expr}{tl:XK->TE}{p pos:Pos}
  (L:Ta X c P0) (hls:cG∈ls) (bc:∀q∈ls,q=cG\/(q.line==cG.line&&q.col==cG.col)=false) (ai:closureFor scope X.env=pure bJ) (df:defaultsOf params X.env=([],[])) (LN:LamN X Nl ix scope bJ)
  (bz:∀pm c' dJ,bindArgs (W.kla_fn "<lambda>" (X.env.qual ++ "<lambda>") params body scope bJ pm (.ref c') dJ) ⟨[],[]⟩=pure [])
  (hco:scope.isCoroutine=false) (b9:scope.isGenerator=false) (hk:scope.kind=.function) (bp:∀x∈scope.names,x.2≠ .cell)
  (dj:∀(lf c':W3) (A':Around) (outer':List Env) (s':W4) (H':Hp) (E:XK),aH k (A'.deeper (W.envX (X.env.qual ++ "<lambda>") scope s'.heap.objs.size lf (.ref c') bJ))->PE (Er X.prog X.w X.K X.mg X.base Nl (X.env.qual ++ "<lambda>") scope lf (.ref c') bJ A' outer' s' H' E) body (tl E))
  (he:starEach [.Lambda params body scope cG] X.env=(false,eval (.Lambda params body scope cG) X.env)::starEach [] X.env:=by rfl) (dA:(backTo pos (starEach [] X.env)).any (·.1)=false:=by rfl) :
  PE X (.Call (.Name "_law_told" p) [.Lambda params body scope cG] [] pos) (Oj X.K ec cM P0 (X.env.qual ++ "<lambda>") ls ix tl):=by
 intro aa s σ H Q I ⟨hT,h⟩;refine Z3 (Br I hg hm ?_ qc);have ha:PA X [.Lambda params body scope cG] (Ag (WB P0 (X.env.qual ++ "<lambda>") ls (λc' dJ=>W.kla_obj "<lambda>" (X.env.qual ++ "<lambda>") params body scope bJ ((X.mg "__name__").getD .none) c' dJ)) CA):=AA (Uy L hls bc ai df) AD he;refine W.callWith_K (h₀:=X.base) I.ok.mod.kin hkp (aL (ha pos aa s σ H (λvs H1=>∃lf c' dJ,vs=[.ref lf]/\JZ P0 H H1/\aS H1 P0 (X.env.qual ++ "<lambda>") ls/\H1 lf=some (i8 lf (W.kla_obj "<lambda>" (X.env.qual ++ "<lambda>") params body scope bJ ((X.mg "__name__").getD .none) c' dJ))/\H1 c'=some (Fg c' (X.env.qual ++ "<lambda>"))) I ⟨hT,λlf c' dJ H' _ hs ht h1 h2=>⟨lf,c',dJ,rfl,hs,ht,h1,h2⟩⟩) λus s1 ⟨vs,H1,I1,r,lf,c',dJ,ev,hs,ht,h1,h2⟩=>⟨I1.cC,?_⟩) he dA;subst ev;obtain⟨u,eu,ru⟩:=Bu r;subst eu;obtain rfl:u=Value.ref lf:=ru;have bb:=hB s1 [.ref lf] I1.cC rfl;rw[Zs]at bb;refine wpAny_call (codeAny_mono (T4 (k:=k) F M EX GW hr I1.fG bb (LN.cells I1) (LN.far I1) h1 h2 (bz _ _ _) hco b9 hk bp (dj lf c') (h H1 hs ht)) λr s' hq=>?_);cases r with
 |error e=>exact False.elim hq
 |ok fl =>
  cases fl with
  |ret u=>exact I1.after hq
  |next=>exact False.elim hq
  |brk=>exact False.elim hq
  |cont=>exact False.elim hq
end
section
variable {cM cR:W3}
structure VJ (P:Program) (w:World) (K:FG) (mg:SV) (base:Heap) (cM:W3):Prop where
 cls:mg "MarkError" = some (.ref cM)
 ga:W.specialIn K (.ref cM) "__getattribute__" = some (some (.builtin "type.__getattribute__"))
 rd:W.readsIn K cM (.type "type")=true
 fn:∃f fd,W.findCls K (.ref cM) (.type "type") "__init__" = some (.val (.ref f))/\aD P w K mg base aP 1 f fd ["self", "words"] (spErrInit K)/\W.keepIn K (.ref f)=true/\Binds K fd ["self", "words"] []
inductive spRestInit (K:FG) (cM:W3) (vs:Wy) (H:Hp) (Q:VK) (_E:XK):Prop where
 |mk (e C:W3) (n:Int) (cE:vs=[.ref e,.int n]) (cD:n.natAbs.log2<1920) (cK:A1 K C=true) (d5:H e=some (El e C none)) (fj:LX K C cM "bits") (ir:∀d,H d=none->d≠e->Q .aK (upd (upd H e (El e C (some d))) d (.xd [("bits", .int n)])))
theorem No:AK ["self", "bits"] ["self", "bits"] (defScope Do):=cH
theorem MR (F:aZ K "__init__" "BadRest.__init__" Do f fd) (ME:VJ P w K mg base cM):aD P w K mg base aP 2 f fd ["self", "bits"] (spRestInit K cM):=by
 obtain⟨fI,dI,hf,GI,kI,bI⟩:=ME.fn;have mM:=ME.cls;refine F.m No λvs H Q E h=>?_;obtain⟨e,C,n,rfl,hn,hC,he,S,k⟩:=h;refine⟨Zj,λae A outer s hr=>?_⟩;refine⟨_,AG (Dd (ID Zj mM ME.ga ME.rd hf GI hr kI bI .nil AL (AA (pv 0) (AA (OT qb (pv 1)) AD)))) (AF (OS (M:=cM) (pv 0) (pv 1) Zj)),?_⟩;refine⟨_,Zj,_,Zj,.inl ⟨n,Zj,hn⟩,λz=>⟨e,C,none,z,Zj,hC,he,?_⟩⟩;exact⟨_,Zj,_,Zj,e,C,Zj,he,S,k⟩
def UqR (H:Hp) (E:XK) (cR:W3) (n:Int):Prop:=∀e d H',aA H H'->H e=none->H d=none->d≠e->H' e=some (Ey e cR (some d))->H' d=some (.xd [("bits", .int n)])->E (.ref cR) (some d) H'
structure SI (P:Program) (w:World) (K:FG) (mg:SV) (base:Heap) (cM cR:W3):Prop where
 cls:mg "BadRest" = some (.ref cR)
 make:∃f fd,MkX K cR f/\aD P w K mg base aP 2 f fd ["self", "bits"] (spRestInit K cM)/\Binds K fd ["self", "bits"] []
 st:LX K cR cM "bits"
theorem QG {σ:St}{H1:Hp}{E:XK}{D:EG}{n:Int}{te:TE} (hC:A1 K cR=true) (S:LX K cR cM "bits") (hn:n.natAbs.log2<1920) (s1:aA H H1) (h:UqR H E cR n) (ht:te σ H1=λQ=>Q (.int n) H1) :
  J9 cR (J8 cR (spRestInit K cM) [] E0 (Ag te CA)) E D σ H1:=by
 show te σ H1 _;rw[ht];refine⟨(by show 1<=1000;decide),λa ha=>?_⟩;refine⟨a,cR,n,Zj,hn,hC,AB,S,λd hd bc=>⟨Zj,a,some d,Zj,?_,?_⟩⟩
 ·rw[AH (Ne.symm bc),AB]
 ·have gx:H1 d=none:=by rw[AH bc]at hd;exact hd
  refine h a d _ (λb u e=>?_) (none_of s1 ha) (none_of s1 gx) bc AB ?_
  ·have e1:=s1 _ _ e;have nb:b≠a:=AJ e1 ha;have nd:b≠d:=AJ e1 gx;rw[AH nb,AH nd,AH nb,AH nb];exact e1
  ·rw[AH bc,AB]
end
noncomputable def plain (i:Int):Nat:=if 0<=i then i.toNat else (-i - 1).toNat
noncomputable def Ao (U:Aa) (i:Int):Nat:=plain i - (plain i&&&kn U)
theorem QH (i:Int):(plain i:Int)=if 0<=i then i else -i - 1:=by
 unfold plain;split <;> omega
theorem SJ {i:Int} (h1:-1099511627776<=i) (h2:i<1099511627776):plain i<2 ^ 40:=by
 have e:(2:Nat) ^ 40=1099511627776:=by decide
 unfold plain;split <;> omega
theorem Np (x m:Nat):(x&&&m) - ((x&&&m)&&&m)=0:=by
 have h:(x&&&m)&&&m=x&&&m:=by
  refine Nat.eq_of_testBit_eq λk=>?_;simp only[Nat.testBit_and];cases x.testBit k <;> cases m.testBit k <;> rfl
 omega
theorem Gq {n:Nat} (h:n<2 ^ 40):((n:Int)).natAbs.log2<1920:=by
 rw[Int.natAbs_natCast];rcases Nat.eq_zero_or_pos n with z |z
 ·subst z;decide
 ·have:=(Nat.log2_lt qe).mpr h;omega
section
variable {cM cR:W3}
inductive spMade (C VC cR:W3) (vs:Wy) (H:Hp) (Q:VK) (E:XK):Prop where
 |mk (kp:W3) (U:Aa) (r:Str) (i:Int) (cE:vs=[.ref kp,.int i]) (cD:aG C H kp U r) (cK:kn U<2 ^ 20) (d5:0<=i) (fj:i<1099511627776) (ir:((Ao U i≠0/\r = "bar" /\ UqR H E cR (Ao U i:Nat)) \/    (¬ (Ao U i≠0/\r = "bar")/\Ao U i≠0/\r = "leave" /\ ∀H',aA H H'->Q (.int i) H') \/    (¬ (Ao U i≠0/\r = "bar")/\¬ (Ao U i≠0/\r = "leave")/\∀q H',aA H H'->dS VC H' q kp (if r = "keep" then plain i else plain i - Ao U i)->Q (.ref q) H')))
theorem scMade:AK ["kind", "number", "bits", "rest"] ["kind", "number"] (defScope OW):=cH
theorem T6 {tL:Tok} (F:aZ K "made" "made" OW f fd) (hL:mg "LIMIT" = some (.int 1099511627776 tL)) (T:EE K C) (VO:SD P w K mg base C VC) (RO:SI P w K mg base cM cR)
  (GW:Fn P w K mg base "is_whole" 1 ["thing"] spIsWhole) (GR:Fn P w K mg base "rest_of" 3 ["kind", "number"] (spRestOf C)) (GRe:Mt P w K mg base C "rest" 1 ["self"] (spRest C)) :
  aD P w K mg base (eN P w) 6 f fd ["kind", "number"] (spMade C VC cR):=by
 obtain⟨fW,dW,GW,mW,kW,bW⟩:=GW.ex;obtain⟨fR,dR,GR,mR,kR,bR⟩:=GR.ex;obtain⟨fE,dE,GE,mE,bE⟩:=GRe.ex;obtain⟨fI,dI,MI,GI,bI⟩:=VO.make;obtain⟨fX,dX,MX,GX,bX⟩:=RO.make;have mV:=VO.cls;have mB:=RO.cls;refine F.n scMade λvs H Q E h=>?_;obtain⟨kp,U,r,i,rfl,KA,hk20,hi1,gM,h⟩:=h;refine⟨Zj,λae A outer s hr=>?_⟩;have cP:aH 1 _:=hr.mono qc;have gC:aH 2 _:=hr.mono qc;have gd:aH 3 _:=hr.mono qc;have rz:=J7 (P:=P) (w:=w) (K:=K) (mg:=mg) (base:=base) (N:=["kind", "number", "bits", "rest"]) (qual := "made") (scope:=defScope OW) (f:=f) (cd:=ae) (A:=A) (outer:=outer) (s:=s) (H:=H) (E:=E);obtain⟨iH,d1,d2,aj⟩:=KA.ins
 refine⟨_,AG (Au (PW.pt (CZ (BH (BA (AM GW cP Zj mW kW bW .nil AL (AA (pv 1) AD)))) (Bk (BH (Ct Cr N7 (Kw Qf (BY (v:=.int 1099511627776) Zj hL ⟨tL,Zj⟩)) (pv 1) (BY (v:=.int 1099511627776) Zj hL ⟨tL,Zj⟩)))))) (AF Am) Ab)
  (Bb (Al (i:=2) scMade.nd rfl (Or.inl rfl) (Bn (AQ Qh (pv 1) AI (AX _)) (pv 1) (AW Js (Kw Qf (pv 1)) AI)))
  (AG (Al (i:=3) scMade.nd rfl (Or.inl rfl) (AM GR gd rfl mR kR bR .nil AL (AA (pv 0) (AA (pv 2) AD))))
  (Bb (Au (PW.pt (Eu (AQ CN (pv 3) AI (AX _)) (Dc (AQ DP (Aj (pv 0) T.cl mE GE cP bE .nil AL) AY (AX _))))) (AF (Fe rz rfl MX.cls (Fd MX GX gd rfl mB bX .nil AL (AA (pv 3) AD)))) Ab)
  (AG (Au (AQ N7 (pv 1) AI (AX _)) (AF Am) Ab)
  (Bb (Au (PW.pt (Eu (AQ CN (pv 3) AI (AX _)) (Dc (AQ DP (Aj (pv 0) T.cl mE GE cP bE .nil AL) AY (AX _))))) (AF (AN (pv 1))) Ab)
  (AF (AN (N9 MI GI hr rfl mV bI .nil AL (AA (pv 0) (AA (Bn (AQ DP (Aj (pv 0) T.cl mE GE cP bE .nil AL) AY (AX _)) (pv 2) (AW Js (pv 2) (pv 3))) AD)))))))))),?_⟩
 have gK:(Gk d1 d2 r).lookup ("rest" : Str)=none:=(BO _ _ _);refine⟨_,Zj,i,Zj,_,Zj,?_⟩;refine An ?_;refine⟨_,Zj,_,Zj,_,_,Zj,Zj,_,Zj,?_⟩;rw[ZM (show -1099511627776<=i by omega)];refine Ay ?_;refine⟨_,_,Zj,Zj,_,Zj,?_⟩;rw[ZM (show i<1099511627776 from gM)];refine An ?_;refine⟨λσ H1=>σ=[some (.ref kp),some (.int i),some (.int (plain i:Nat)),none]/\H1=H,λR hR=>?_,?_⟩
 ·refine⟨_,Zj,_,_,Zj,Zj,_,Zj,?_⟩;have e:=QH i;rw[Zo hi1]at e;rw[ZM (show 0<=i from hi1)];refine Ay ⟨_,Zj,hR _ _ ⟨?_,Zj⟩⟩;rw[e];rfl
 rintro σ H0 ⟨rfl,rfl⟩;refine⟨_,Zj,_,Zj,kp,U,r,plain i,Zj,KA,λH1 s1=>?_⟩;have hb40:=SJ (show -1099511627776<=i by omega) gM;have hs40:Ao U i<2 ^ 40:=Nat.lt_of_le_of_lt (Nat.sub_le _ _) hb40;have KA1:=KA.same s1;have c8:=s1 _ _ aj;have eS:∀n:Nat,decide (V.int (n:Int)=V.int 0)=decide (n=0):=λn=>decide_eq_decide.mpr ⟨λz=>by have:=V.int.inj z;omega,λz=>by rw[z];rfl⟩;refine⟨λσ H2=>¬ (Ao U i≠0/\r = "bar")/\σ=[some (.ref kp),some (.int i),some (.int (plain i:Nat)),some (.int (Ao U i:Nat))]/\H2=H1,λR hR=>?_,?_⟩
 ·refine⟨_,Zj,Zj,_,Zj,?_⟩;show if (!decide (V.int ((Ao U i:Nat):Int)=V.int 0))=true then _ else _
  rw[eS];by_cases hz:Ao U i=0
  ·rw[ZM hz];exact An (An (hR _ _ ⟨λz=>z.1 hz,Zj,Zj⟩))
  ·rw[ZP hz];refine Ay ?_;refine⟨_,Zj,kp,iH,_,Zj,c8,gK,kp,U,r,Zj,KA1,Zj,_,Zj,?_⟩;by_cases cq:r = "bar"
   ·rw[ZM (show V.str r=V.str "bar" by rw[cq])];refine Ay ?_;rcases h with⟨_,_,hU⟩ |⟨hn,_⟩ |⟨hn,_⟩
    ·exact QG (te:=D9 3) MX.cls RO.st (Gq hs40) s1 hU (by funext Q';exact propext ⟨λ⟨v,e,q⟩=>by cases e;exact q,λq=>⟨_,Zj,q⟩⟩)
    ·exact absurd ⟨hz,cq⟩ hn
    ·exact absurd ⟨hz,cq⟩ hn
   ·rw[ZP (show ¬ V.str r=V.str "bar" from λz=>cq (V.str.inj z))];exact An (hR _ _ ⟨λz=>cq z.2,Zj,Zj⟩)
 rintro σ H2 ⟨hnb,rfl,rfl⟩;refine⟨_,rfl,_,_,rfl,rfl,_,rfl,?_⟩;rcases h with⟨z1,z2,_⟩ |⟨_,hs0,hlv,k⟩ |⟨_,hnl,k⟩
 ·exact absurd ⟨z1,z2⟩ hnb
 ·rw[ZP (show ¬ i<0 by omega)];refine An ?_;refine⟨λ_ _=>False,λR hR=>?_,λ_ _ z=>z.elim⟩;refine⟨_,Zj,Zj,_,Zj,?_⟩;show if (!decide (V.int ((Ao U i:Nat):Int)=V.int 0))=true then _ else _
  rw[eS,ZP hs0];refine Ay ?_;refine⟨_,Zj,kp,iH,_,Zj,c8,gK,kp,U,r,Zj,KA1,Zj,_,Zj,?_⟩;rw[ZM (show V.str r=V.str "leave" by rw[hlv])];exact Ay ⟨_,Zj,k _ s1⟩
 ·rw[ZP (show ¬ i<0 by omega)];refine An ?_;refine⟨λσ H3=>σ=[some (.ref kp),some (.int i),some (.int (plain i:Nat)),some (.int (Ao U i:Nat))]/\H3=H2,λR hR=>?_,?_⟩
  ·refine⟨_,Zj,Zj,_,Zj,?_⟩;show if (!decide (V.int ((Ao U i:Nat):Int)=V.int 0))=true then _ else _
   rw[eS];by_cases hz:Ao U i=0
   ·rw[ZM hz];exact An (An (hR _ _ ⟨Zj,Zj⟩))
   ·rw[ZP hz];refine Ay ?_;refine⟨_,Zj,kp,iH,_,Zj,c8,gK,kp,U,r,Zj,KA1,Zj,_,Zj,?_⟩;rw[ZP (show ¬ V.str r=V.str "leave" from λz=>hnl ⟨hz,V.str.inj z⟩)];exact An (hR _ _ ⟨Zj,Zj⟩)
  rintro σ H3 ⟨rfl,rfl⟩;refine⟨_,Zj,_,Zj,kp,iH,_,Zj,c8,gK,kp,U,r,Zj,KA1,Zj,_,Zj,?_⟩
  have fin:∀n:Nat,n=(if r = "keep" then plain i else plain i - Ao U i)->n<2 ^ 40->(r = "keep" \/ n - (n&&&kn U)=0)->∀q dq,H3 q=none->H3 dq=none->dq≠q->spVInit C VC [.ref q,.ref kp,.int (n:Int)] (upd (upd H3 dq (.own q)) q (.ins VC dq [])) (λv H4=>v=.aK/\Q (.ref q) H4) E0:=λn en hn hk q dq hq hdq bc=>by
   have sN:=DZ (D:=VC) hq hdq bc;exact⟨q,dq,kp,U,r,n,Zj,AB,KA1.same sN,hn,hk,λH4 s4 hV=>⟨Zj,k q H4 (s1.trans (CJ sN hq s4)) (en ▸ hV)⟩⟩
  by_cases cu:r = "keep"
  ·rw[ZM (show V.str r=V.str "keep" by rw[cu])];refine Ay ⟨_,Zj,?_⟩;exact fin (plain i) (by rw[Zo cu]) hb40 (.inl cu)
  ·rw[ZP (show ¬ V.str r=V.str "keep" from λz=>cu (V.str.inj z))];refine An ⟨_,Zj,_,Zj,_,_,Zj,Zj,?_⟩;have hle:Ao U i<=plain i:=Nat.sub_le _ _;have es:((plain i:Nat):Int) - ((Ao U i:Nat):Int)=((plain i - Ao U i:Nat):Int):=by omega
   have ek:plain i - Ao U i=plain i&&&kn U:=by
    unfold Ao;have:=Nat.and_le_left (n:=plain i) (m:=kn U);omega
   intro q dq hq hdq bc;have:=fin (plain i - Ao U i) (by rw[Zp cu]) qe (.inr (by rw[ek];exact Np _ _)) q dq hq hdq bc;rw[←es]at this;exact this
end
theorem Ek {α β:Type}{F:α->β->Prop}:∀ {xs:List α}{ys:List β}{i:Nat}{a:α},Paired F xs ys->xs[i]?=some a->∃b,ys[i]?=some b/\F a b
 |_,_,_,_,.nil,e=>by simp at e
 |_,_,0,_,.cons r _,e=>by simp at e;subst e;exact⟨_,Zj,r⟩
 |_,_,i+1,x,.cons _ t,e=>by
  obtain⟨u,h1,h2⟩:=Ek (i:=i) (a:=x) t (by simpa using e);exact⟨u,by simpa using h1,h2⟩
theorem SK {x:W3} (s:aA H H') (h:H' x=none):H x=none:=by
 cases e:H x with
 |none=>rfl
 |some o=>rw[s _ _ e]at h;cases h
noncomputable def A4 (U:Aa) (n:Nat):Ww:=((AO U).filter λm=>decide (m&&&n≠0)).map (CS (AS U))
theorem C7 (U:Aa):(AO U).length<=U.length:=Nat.le_trans (ZT _ _) (Ei U)
section
inductive spVMarks (C VC:W3) (vs:Wy) (H:Hp) (Q:VK) (_E:XK):Prop where
 |mk (p kp:W3) (n:Nat) (U:Aa) (r:Str) (cE:vs=[.ref p]) (cD:dS VC H p kp n) (cK:aG C H kp U r) (d5:U.length<=60) (fj:∀l H',aA H H'->H l=none->H' l=some (.lst ((A4 U n).map V.str))->Q (.ref l) H')
theorem SL:AK ["self"] ["self"] (defScope ES):=cH
theorem QI (F:aZ K "marks" "Value.marks" ES f fd) (T:EE K C) (VT:Kc K VC) (GM:Mt P w K mg base C "marks" 2 ["self"] (spMarks C)):aD P w K mg base aP 3 f fd ["self"] (spVMarks C VC):=by
 obtain⟨fM,dM,GM,mM,bM⟩:=GM.ex;refine F.m SL λvs H Q E h=>?_;obtain⟨p,kp,n,U,r,rfl,⟨dx,hp⟩,KA,h60,k⟩:=h;refine⟨Zj,λae A outer s hr=>?_⟩;obtain⟨iH,d1,d2,aj⟩:=KA.ins
 refine⟨_,AF (AN (FY ["self"] [some 0] qd qb qd qd Zj (A5 (Aj (Bm (pv 0) Zj) T.cl mM GM hr bM .nil AL))
  (λ_ _ _ _ _ _=>B4 (AQ CN (AW Cq (pv 1) (OY K rfl (pv 2) rfl)) AI (AX _))) (λ_ _ _ _ _ _=>pv 0))),?_⟩
 refine⟨_,Zj,p,VC,dx,_,_,Zj,hp,VT.cl,VT.nK,Ka _ _,kp,iH,_,Zj,aj,(BO _ _ _),kp,U,r,Zj,KA,h60,λl as H1 s1 hl ht=>?_⟩;have az:=C7 U;have a0:as.length=(AO U).length:=by rw[ht.length];unfold C3;rw[AE]
 refine⟨l,Zj,⟨_,aJ.of hl⟩,BU (K:=K) (a:=l) (xs:=as.map V.ref) (λi ys H2=>ys=((((AO U).take i).filter λm=>decide (m&&&n≠0)).map (CS (AS U))).map V.str/\H2=H1) ⟨Zj,Zj⟩ (λi ys H2 _ ⟨_,e⟩=>e ▸ aJ.of hl) (λi ys H2 ⟨e,_⟩=>?_) ?_ ?_⟩
 ·rw[e,AE,AE];have h3:(((AO U).take i).filter λm=>decide (m&&&n≠0)).length<=((AO U).take i).length:=ZT _ _;rw[Zz]at h3;omega
 ·rintro i v ys H2 hi ⟨rfl,rfl⟩;rw[ZG]at hi;obtain⟨b,hb,rfl⟩:=Z6.mp hi
  obtain⟨pr,fw,ao⟩:∃pr,(C3 U)[i]?=some pr/\H2 b=some (.tup [pr.1,pr.2]):=by
   exact Ek ht hb
  unfold C3 at fw;rw[ZG]at fw;obtain⟨m,hm,rfl⟩:=Z6.mp fw;refine⟨b,_,Zj,bA.of ao,Zj,_,_,Zj,_,_,Zj,Zj,?_⟩;refine⟨_,Zj,_,Zj,p,VC,dx,_,_,Zj,s1 _ _ hp,VT.cl,VT.nB,Kb _ _,_,_,Zj,Zj,Zj,_,Zj,?_⟩;have et:(((AO U).take (i+1)).filter λm=>decide (m&&&n≠0))=((AO U).take i).filter (λm=>decide (m&&&n≠0))++(if decide (m&&&n≠0)then [m]else []):=PySem.take_succ_filter (λm=>decide (m&&&n≠0)) _ i m hm
  have ed:(!decide (V.int (Builtin.bitAnd (m:Int) (n:Int))=V.int 0))=decide (m&&&n≠0):=by
   rw[Cd];by_cases z:m&&&n=0
   ·rw[z];rfl
   ·rw[ZM z,ZP (λy=>z (by have:=V.int.inj y;omega))];rfl
  show if (!decide (V.int (Builtin.bitAnd (m:Int) (n:Int))=V.int 0))=true then _ else _
  rw[ed];refine BI (λhq=>?_) (λhq=>?_)
  ·refine⟨_,Zj,?_,Zj⟩;rw[et,Zo hq,Zt,Zt];rfl
  ·refine⟨?_,Zj⟩;rw[et,Zp hq,Zs]
 ·rintro ys H2 ⟨rfl,rfl⟩ q hq;have el:(AO U).take (as.map V.ref).length=AO U:=by rw[AE,a0];exact ZD
  rw[el];exact k q _ (AC s1 hq) (SK s1 hq) AB
inductive spMarkBits (C:W3) (vs:Wy) (H:Hp) (Q:VK) (_E:XK):Prop where
 |mk (kp:W3) (U:Aa) (r:Str) (cE:vs=[.ref kp]) (cD:aG C H kp U r) (cK:U.length<=60) (d5:∀H',aA H H'->Q (.int (Ah (AO U):Nat)) H')
theorem Nq:AK ["kind"] ["kind"] (defScope Ga):=cH
theorem MS (F:aZ K "mark_bits" "mark_bits" Ga f fd) (T:EE K C) (GM:Mt P w K mg base C "marks" 2 ["self"] (spMarks C)) (GU:Fn P w K mg base "union_of" 1 ["numbers"] (spUnionOf K)):aD P w K mg base aP 3 f fd ["kind"] (spMarkBits C):=by
 obtain⟨fM,dM,GM,mM,bM⟩:=GM.ex;obtain⟨fU,dU,GU,mU,kU,bU⟩:=GU.ex;refine F.m Nq λvs H Q E h=>?_;obtain⟨kp,U,r,rfl,KA,h60,k⟩:=h;refine⟨Zj,λae A outer s hr=>?_⟩;obtain⟨iH,d1,d2,aj⟩:=KA.ins;have cP:aH 1 _:=hr.mono qc;refine⟨_,AF (AN (AM GU cP Zj mU kU bU .nil AL (AA (FY [] [] qd qb qd qd Zj (A5 (Aj (pv 0) T.cl mM GM hr bM .nil AL)) (λ_ _ _ _ _ _=>B3) (λ_ _ _ _ _ _=>pv 1)) AD))),?_⟩;refine⟨_,Zj,kp,iH,_,Zj,aj,(BO _ _ _),kp,U,r,Zj,KA,h60,λl as H1 s1 hl ht=>?_⟩;have az:=C7 U;have a0:as.length=(AO U).length:=by rw[ht.length];unfold C3;rw[AE]
 refine⟨l,Zj,⟨_,aJ.of hl⟩,BU (K:=K) (a:=l) (xs:=as.map V.ref) (λi ys H2=>ys=AU ((AO U).take i)/\H2=H1) ⟨Zj,Zj⟩ (λi ys H2 _ ⟨_,e⟩=>e ▸ aJ.of hl) (λi ys H2 ⟨e,_⟩=>?_) ?_ ?_⟩
 ·rw[e];unfold AU;rw[AE,Zz];omega
 ·rintro i v ys H2 hi ⟨rfl,rfl⟩;rw[ZG]at hi;obtain⟨b,hb,rfl⟩:=Z6.mp hi;obtain⟨pr,fw,ao⟩:∃pr,(C3 U)[i]?=some pr/\H2 b=some (.tup [pr.1,pr.2]):=Ek ht hb;unfold C3 at fw;rw[ZG]at fw;obtain⟨m,hm,rfl⟩:=Z6.mp fw;refine⟨b,_,Zj,bA.of ao,Zj,_,_,Zj,_,_,Zj,Zj,_,Zj,?_,Zj⟩;rw[ZF,hm,Option.toList_some];unfold AU;rw[Zt];rfl
 ·rintro ys H2 ⟨rfl,rfl⟩ q hq;have el:(AO U).take (as.map V.ref).length=AO U:=by rw[AE,a0];exact ZD
  rw[el];exact⟨q,AO U,Zj,aJ.of AB,k _ (AC s1 hq)⟩
inductive spVRest (C VC:W3) (vs:Wy) (H:Hp) (Q:VK) (_E:XK):Prop where
 |mk (p kp:W3) (n:Nat) (U:Aa) (r:Str) (cE:vs=[.ref p]) (cD:dS VC H p kp n) (cK:aG C H kp U r) (d5:U.length<=60) (fj:∀H',aA H H'->Q (.int ((n - (n&&&Ah (AO U)):Nat):Int)) H')
theorem T7:AK ["self"] ["self"] (defScope FH):=cH
theorem SM (F:aZ K "rest" "Value.rest" FH f fd) (VT:Kc K VC) (GB:Fn P w K mg base "mark_bits" 3 ["kind"] (spMarkBits C)):aD P w K mg base aP 4 f fd ["self"] (spVRest C VC):=by
 obtain⟨fB,dB,GB,mB,kB,bB⟩:=GB.ex;refine F.m T7 λvs H Q E h=>?_;obtain⟨p,kp,n,U,r,rfl,⟨dx,hp⟩,KA,h60,k⟩:=h;refine⟨Zj,λae A outer s hr=>?_⟩;refine⟨_,AF (AN (AW Cq (Bm (pv 0) Zj) (Kw Mr (AM GB hr Zj mB kB bB .nil AL (AA (Bm (pv 0) Zj) AD))))),?_⟩;refine⟨_,Zj,p,VC,dx,_,_,Zj,hp,VT.cl,VT.nB,Kb _ _,_,Zj,p,VC,dx,_,_,Zj,hp,VT.cl,VT.nK,Ka _ _,kp,U,r,Zj,KA,h60,λH1 s1=>⟨_,Zj,_,_,Zj,Zj,?_⟩⟩;show Q (V.int (Builtin.bitAnd (n:Int) (Builtin.bitNot ((Ah (AO U):Nat):Int)))) H1;rw[E8];exact k H1 s1
end
def AtV (v:V):Prop:=v=.aK\/∃n:Int,v=.int n/\n.natAbs.log2<1920
section
variable {cM cR:W3}
inductive spRowsInit (K:FG) (cM:W3) (vs:Wy) (H:Hp) (Q:VK) (_E:XK):Prop where
 |mk (e C:W3) (v:V) (cE:vs=[.ref e,v]) (cD:AtV v) (cK:A1 K C=true) (d5:H e=some (El e C none)) (fj:LX K C cM "at") (ir:∀d,H d=none->d≠e->Q .aK (upd (upd H e (El e C (some d))) d (.xd [("at", v)])))
theorem Nr:AK ["self", "at"] ["self", "at"] (defScope Dm):=cH
theorem MU (F:aZ K "__init__" "BadRows.__init__" Dm f fd) (ME:VJ P w K mg base cM):aD P w K mg base aP 2 f fd ["self", "at"] (spRowsInit K cM):=by
 obtain⟨fI,dI,hf,GI,kI,bI⟩:=ME.fn;have mM:=ME.cls;refine F.m Nr λvs H Q E h=>?_;obtain⟨e,C,v,rfl,hn,hC,he,S,k⟩:=h;refine⟨Zj,λae A outer s hr=>?_⟩;refine⟨_,AG (Dd (ID Zj mM ME.ga ME.rd hf GI hr kI bI .nil AL (AA (pv 0) (AA (OT qb (pv 1)) AD)))) (AF (OS (M:=cM) (pv 0) (pv 1) Zj)),?_⟩;refine⟨_,Zj,_,Zj,hn.elim (λz=>.inr (.inr z)) .inl,λz=>⟨e,C,none,z,Zj,hC,he,?_⟩⟩;exact⟨_,Zj,_,Zj,e,C,Zj,he,S,k⟩
def i5 (H:Hp) (E:XK) (cR:W3) (v:V):Prop:=∀e d H',aA H H'->H e=none->H d=none->d≠e->H' e=some (Ey e cR (some d))->H' d=some (.xd [("at", v)])->E (.ref cR) (some d) H'
structure Ke (P:Program) (w:World) (K:FG) (mg:SV) (base:Heap) (cM cR:W3):Prop where
 cls:mg "BadRows" = some (.ref cR)
 make:∃f fd,MkX K cR f/\aD P w K mg base aP 2 f fd ["self", "at"] (spRowsInit K cM)/\Binds K fd ["self", "at"] []
 st:LX K cR cM "at"
theorem Gr {σ:St}{H1:Hp}{E:XK}{D:EG}{v:V}{te:TE} (hC:A1 K cR=true) (S:LX K cR cM "at") (hn:AtV v) (s1:aA H H1) (h:i5 H E cR v) (ht:∀Q:VK,Q v H1->te σ H1 Q) :
  J9 cR (J8 cR (spRowsInit K cM) [] E0 (Ag te CA)) E D σ H1:=by
 refine ht _ ?_;refine⟨(by show 1<=1000;decide),λa ha=>?_⟩;refine⟨a,cR,v,Zj,hn,hC,AB,S,λd hd bc=>⟨Zj,a,some d,Zj,?_,?_⟩⟩
 ·rw[AH (Ne.symm bc),AB]
 ·have gx:H1 d=none:=by rw[AH bc]at hd;exact hd
  refine h a d _ (λb u e=>?_) (none_of s1 ha) (none_of s1 gx) bc AB ?_
  ·have e1:=s1 _ _ e;have nb:b≠a:=AJ e1 ha;have nd:b≠d:=AJ e1 gx;rw[AH nb,AH nd,AH nb,AH nb];exact e1
  ·rw[AH bc,AB]
end
def cX (K:FG) (T:String) (H:Hp) (v:V):Prop:=(∃t,(∀H,cY K H v t)/\W.kitOne K t (.type T)=some false)\/(∃a xs,v=.ref a/\H a=some (.tup xs)/\W.kitOne K (.type "tuple") (.type T)=some false) \/
 ∃a xs,v=.ref a/\H a=some (.lst xs)/\(∀x y:Int,xs≠ [.int x,.int y])/\W.kitOne K (.type "list") (.type T)=some false
theorem cX.ty {T:String}{v:V} (h:cX K T H v):∃t,cY K H v t/\W.kitOne K t (.type T)=some false:=by
 rcases h with⟨t,h,k⟩ |⟨a,xs,rfl,h,k⟩ |⟨a,xs,rfl,h,_,k⟩
 ·exact⟨t,h H,k⟩
 ·exact⟨_,.tup h,k⟩
 ·exact⟨_,.lst h,k⟩
theorem cX.same {T:String}{v:V} (s:aA H H') (h:cX K T H v):cX K T H' v:=by
 rcases h with h |⟨a,xs,e,h,k⟩ |⟨a,xs,e,h,n,k⟩
 ·exact .inl h
 ·exact .inr (.inl ⟨a,xs,e,s _ _ h,k⟩)
 ·exact .inr (.inr ⟨a,xs,e,s _ _ h,n,k⟩)
section
inductive spNameN (K:FG) (vs:Wy) (H:Hp) (Q:VK) (_E:XK):Prop where
 |mk (v:_) (cE:vs=[v]) (cD:cX K "str" H v) (cK:Q (.bl false) H)
theorem SN {tL:Tok} (F:aZ K "is_name" "is_name" HG f fd) (B:Bl mg) (hL:mg "LONGEST_NAME" = some (.int 6 tL)):aD P w K mg base aP 1 f fd ["thing"] (spNameN K):=by
 refine F.m Lm λvs H Q E h=>?_;obtain⟨v,rfl,hv,k⟩:=h;refine⟨Zj,λae A outer s hr=>?_⟩;refine⟨_,Bb (Au (PW.pt (CZ (BH (BA (BJ K Zj Zj B.dH Zj B.str FL (pv 0)))) (Bk (BH (Ct Cr Cr AI (AZ (A9 K Zj) Zj B.len PySem.boot_len (AA (pv 0) AD)) (BY (v:=.int 6) Zj hL ⟨tL,Zj⟩)))))) (AF (AN N1)) Ab) (AF Am),?_⟩;refine⟨λ_ _=>False,λR hR=>?_,λ_ _ z=>z.elim⟩;obtain⟨t,ht,hk⟩:=hv.ty;exact⟨_,Zj,_,_,_,false,Zj,ht,hk,_,Zj,Ay (Ay k)⟩
inductive spOneOfN (K:FG) (vs:Wy) (H:Hp) (Q:VK) (_E:XK):Prop where
 |mk (v:V) (d:W3) (cE:vs=[v,.ref d]) (cD:cX K "str" H v) (cK:Q (.bl false) H)
theorem QJ (F:aZ K "is_one_of" "is_one_of" Fs f fd) (B:Bl mg):aD P w K mg base aP 1 f fd ["thing", "names"] (spOneOfN K):=by
 refine F.ok Je (λvs H Q E h=>?_) (λae A outer s H vs Q E hr h=>?_)
 ·obtain⟨v,d,rfl,_⟩:=h;rfl
 ·have hu:=Ca hr;obtain⟨v,d,rfl,hv,k⟩:=h;refine⟨_,AF (AN (Cm (BJ K Zj Zj B.dH Zj B.str FL (pv 0)) (DL (QV (Hm hu (pv 0) (pv 1)))))),?_⟩;obtain⟨t,ht,hk⟩:=hv.ty;exact⟨_,Zj,_,_,_,false,Zj,ht,hk,_,Zj,An k⟩
def NoWh (K:FG) (H:Hp) (v:V):Prop:=v=.bl true\/cX K "int" H v
def IY (K:FG):Sp:=λvs H Q _=>(∃i:Int,vs=[.int i]/\Q (.bl true) H)\/∃v,vs=[v]/\NoWh K H v/\Q (.bl false) H
theorem QK (F:aZ K "is_whole" "is_whole" Fq f fd) (B:Bl mg):aD P w K mg base aP 1 f fd ["thing"] (IY K):=by
 refine F.ok Jg (λvs H Q E h=>?_) (λae A outer s H vs Q E hr h=>?_)
 ·rcases h with⟨i,rfl,_⟩ |⟨v,rfl,_⟩ <;> rfl
 ·refine⟨_,AF (AN (Cm (BJ K rfl rfl B.dH rfl B.int Nf (pv 0)) (DL (QW (BJ K rfl rfl B.dH rfl B.bool OX (pv 0)))))),?_⟩;rcases h with⟨n,rfl,k⟩ |⟨v,rfl,hv,k⟩
  ·refine⟨_,Zj,_,_,_,true,Zj,.int n,Zj,_,Zj,?_⟩;exact⟨_,Zj,_,_,_,false,Zj,.int n,qd,_,Zj,k⟩
  ·rcases hv with rfl |hv
   ·refine⟨_,Zj,_,_,_,true,Zj,.bl true,qd,_,Zj,?_⟩;exact⟨_,Zj,_,_,_,true,Zj,.bl true,Zj,_,Zj,k⟩
   ·obtain⟨t,ht,hk⟩:=hv.ty;exact⟨_,Zj,_,_,_,false,Zj,ht,hk,_,Zj,An k⟩
noncomputable def inD (kvs:LK):V->Bool
 | .str x=>(BK kvs (Sum.inr x:Key)).isSome
 |_=>false
theorem QL {z:V} (kvs:LK) (h:cX K "str" H z):inD kvs z=false:=by
 cases z with
 |str x =>
  obtain⟨t,ht,hk⟩:=h.ty;cases ht;exact absurd (show W.kitOne K (.type "str") (.type "str")=some true from rfl) (by rw[hk];exact λz=>nomatch z)
 |_=>rfl
inductive spIsNamesV (K:FG) (vs:Wy) (H:Hp) (Q:VK) (_E:XK):Prop where
 |mk (a d:W3) (xs:Wy) (kvs:LK) (cE:vs=[.ref a,.ref d]) (cD:H a=some (.tup xs)) (cK:xs.length<=1000) (d5:Rd H d (.dK kvs)) (fj:(∀z∈xs,(∃x,z=.str x)\/cX K "str" H z)) (ir:∀H',aA H H'->Q (.bl (decide (0<xs.length)&&xs.all (inD kvs))) H')
theorem MV (F:aZ K "is_names_of" "is_names_of" Dp f fd) (B:Bl mg) (GO:Fn P w K mg base "is_one_of" 1 ["thing", "names"] (λvs H Q E=>CI K vs H Q E\/spOneOfN K vs H Q E)):aD P w K mg base aP 2 f fd ["parts", "ahead"] (spIsNamesV K):=by
 obtain⟨fO,dO,GO,mO,kO,bO⟩:=GO.ex;refine F.m G2 λvs H Q E h=>?_;obtain⟨a,d,xs,kvs,rfl,ha,hz,hd,hx,k⟩:=h;refine⟨Zj,λae A outer s hr=>?_⟩;have hu:=Ca hr
 refine⟨_,AF (AN (Cm (Dg JF (AZ Dh Zj B.len PySem.boot_len (AA (pv 0) AD)) AI (AX _))
  (DL (AZ (Hx rfl) rfl B.all Nd (AA (Bf ["ahead"] [some 1] qd qb qd rfl (Mn (pv 0)) (λ_ _ _ _ _ _=>B3)
   (λ_ _ _ _ _ _=>AM GO hr rfl mO kO bO .nil AL (AA (pv 0) (AA (pv 1) AD)))) AD))))),?_⟩
 refine⟨_,Zj,a,_,Zj,.inr (bA.of ha),_,_,Zj,Zj,_,Zj,?_⟩;refine BI (λh1=>?_) (λh1=>?_)
 ·have gy:0<xs.length:=by have:=ZW h1;omega
  refine⟨_,Zj,a,Zj,⟨_,bA.of ha⟩,Ht (K:=K) (a:=a) (xs:=xs) (λi ys H2=>H2=H/\ys=(xs.take i).map λx=>V.bl (inD kvs x)) ⟨Zj,Zj⟩ (λi ys H2 _ ⟨e,_⟩=>e ▸ bA.of ha) (λi ys H2 ⟨_,e⟩=>?_) ?_ ?_⟩
  ·rw[e,AE,Zz];omega
  ·rintro i v ys H2 hi ⟨rfl,rfl⟩
   have fin:∀b,b=inD kvs v->(H2=H2/\(xs.take i).map (λx=>V.bl (inD kvs x))++[V.bl b]=(xs.take (i+1)).map λx=>V.bl (inD kvs x)):=λb hb=>by
    refine⟨Zj,?_⟩;rw[ZF,hi,Zt,hb];rfl
   rcases hx v (ZR hi)with⟨x,rfl⟩ |hv
   ·exact⟨_,Zj,_,Zj,.inl (.inl ⟨x,d,kvs,Zj,hd,Zj,(fin _ Zj).2⟩)⟩
   ·exact⟨_,Zj,_,Zj,.inr ⟨v,d,Zj,hv,Zj,(fin _ (QL kvs hv).symm).2⟩⟩
  ·rintro ys H2 ⟨rfl,rfl⟩ p hp;refine⟨p,xs.map (inD kvs),Zj,aJ.of (by rw[AB,ZD,map_map];rfl),?_⟩
   have e:(decide (0<xs.length)&&xs.all (inD kvs))=(xs.map (inD kvs)).all id:=by
    rw[ZM gy,Bool.true_and,all_map];rfl
   rw[←e];exact k _ (AC (aA.refl _) hp)
 ·have gy:¬ 0<xs.length:=λz=>h1 (ZM qe);have:=k H (aA.refl H);rw[ZP gy,Bool.false_and]at this;exact this
inductive BadTup (K:FG) (U:Aa) (H:Hp) (tv:V):Prop where
 |mk (a:_) (xs:_) (cE:tv=.ref a) (cD:H a=some (.tup xs)) (cK:xs.length<=1000) (d5:(∀z∈xs,(∃x,z=.str x)\/cX K "str" H z)) (fj:(decide (0<xs.length)&&xs.all (inD (Ak U)))=false)
inductive spThingB (K:FG) (vs:Wy) (H:Hp) (Q:VK) (_E:XK):Prop where
 |mk (tv:V) (d:W3) (U:Aa) (cE:vs=[tv,.ref d]) (cD:Rd H d (.dK (Ak U))) (cK:((∃i,tv=.int i/\Q (.int i) H)\/(tv≠ .aK/\cX K "tuple" H tv/\NoWh K H tv/\Q .aK H)\/(BadTup K U H tv/\∀H',aA H H'->Q .aK H')))
theorem QM (F:aZ K "thing_number" "thing_number" Ce f fd) (B:Bl mg) (GN:Fn P w K mg base "next_mark" 1 ["numbers"] (spNextMark K)) (GI:Fn P w K mg base "is_names_of" 2 ["parts", "ahead"] (spIsNamesV K))
  (GU:Fn P w K mg base "union_of" 1 ["numbers"] (spUnionOf K)) (GW:Fn P w K mg base "is_whole" 1 ["thing"] (IY K)):aD P w K mg base aP 3 f fd ["thing", "ahead"] (spThingB K):=by
 obtain⟨fN,dN,GN,mN,kN,bN⟩:=GN.ex;obtain⟨fI,dI,GI,mI,kI,bI⟩:=GI.ex;obtain⟨fU,dU,GU,mU,kU,bU⟩:=GU.ex;obtain⟨fW,dW,GW,mW,kW,bW⟩:=GW.ex;refine F.m OZ λvs H Q E h=>?_;obtain⟨tv,d,U,rfl,hd,hT⟩:=h;refine⟨Zj,λae A outer s hr=>?_⟩;have hu:=Ca hr;have cP:aH 1 _:=hr.mono qc
 refine⟨_,AG (Au (B9 (F5 (pv 0))) (AF Am) Ab)
  (AG (Au (PW.pt (Eu (BA (BJ K rfl rfl B.dH rfl B.tuple EV (pv 0))) (Dc (BA (AM GI hr rfl mI kI bI .nil AL (AA (pv 0) (AA (pv 1) AD)))))))
   (AF Am) Ab)
  (AG (Au (BA (AM GW cP rfl mW kW bW .nil AL (AA (pv 0) AD))) (AF (AN (pv 0))) Ab)
  (AF (AN Bj)))),?_⟩
 refine⟨_,rfl,_,rfl,?_⟩;rcases hT with⟨i,rfl,k⟩ |⟨hn,ht,hw,k⟩ |⟨⟨a,xs,rfl,ha,hz,hx,hf⟩,k⟩
 ·refine BI (λz=>absurd (ZW z) (by intro q;cases q)) (λ_=>?_);refine⟨_,Zj,_,_,_,false,Zj,.int _,qd,_,Zj,?_⟩;refine An ⟨_,Zj,.inl ⟨i,Zj,_,Zj,?_⟩⟩;exact Ay ⟨_,Zj,k⟩
 ·refine BI (λz=>absurd (ZW z) hn) (λ_=>?_);obtain⟨t,ht,hk⟩:=ht.ty;refine⟨_,Zj,_,_,_,false,Zj,ht,hk,_,Zj,?_⟩;refine An ⟨_,Zj,.inr ⟨tv,Zj,hw,_,Zj,?_⟩⟩;exact An k
 ·refine BI (λz=>absurd (ZW z) (by intro q;cases q)) (λ_=>?_);refine⟨_,Zj,_,_,_,true,Zj,.tup ha,Zj,_,Zj,?_⟩;refine⟨_,Zj,_,Zj,a,d,xs,Ak U,Zj,ha,hz,hd,hx,λH1 s1=>⟨_,Zj,?_⟩⟩;rw[hf];refine An ⟨_,Zj,.inr ⟨_,Zj,.inr (.inr (.inl ⟨a,xs,Zj,s1 _ _ ha,qd⟩)),_,Zj,?_⟩⟩;exact An (k _ s1)
end
section
variable {cM cA cU:W3}
def BadTh (K:FG) (U:Aa) (H:Hp) (tv:V):Prop:=(∃i:Int,tv=.int i/\¬ (0<=i/\i<=1048575))\/(tv≠ .aK/\cX K "tuple" H tv/\NoWh K H tv)\/BadTup K U H tv\/(tv=.aK/\1048575<As (BP (U.map (·.2))))
def BadRow (K:FG) (U:Aa) (H:Hp) (v:V):Prop:=cX K "tuple" H v\/∃a xs,v=.ref a/\H a=some (.tup xs)/\(xs.length≠2\/∃n t,xs=[n,t] /\
 (cX K "str" H n\/∃x,n=.str x/\x.cps.all (· < 128)=true/\x.length<=1000/\(Dv x=true->x∉ U.map (·.1)->BadTh K U H t)))
theorem NoWh.same {v:V} (s:aA H H') (h:NoWh K H v):NoWh K H' v:=h.imp id (·.same s)
theorem BadTup.same {v:V} (s:aA H H') (h:BadTup K U H v):BadTup K U H' v:=by
 obtain⟨a,xs,e,h,l,z,f⟩:=h;exact⟨a,xs,e,s _ _ h,l,λy hy=>(z y hy).imp id (·.same s),f⟩
theorem BadTh.same {v:V} (s:aA H H') (h:BadTh K U H v):BadTh K U H' v:=by
 rcases h with h |⟨a,b,c⟩ |h |h
 ·exact .inl h
 ·exact .inr (.inl ⟨a,b.same s,c.same s⟩)
 ·exact .inr (.inr (.inl (h.same s)))
 ·exact .inr (.inr (.inr h))
theorem BadRow.same {v:V} (s:aA H H') (h:BadRow K U H v):BadRow K U H' v:=by
 rcases h with h |⟨a,xs,e,h,g⟩
 ·exact .inl (h.same s)
 ·refine .inr ⟨a,xs,e,s _ _ h,?_⟩;rcases g with g |⟨n,t,e,g⟩
  ·exact .inl g
  ·refine .inr ⟨n,t,e,?_⟩;rcases g with g |⟨x,e,h1,h2,g⟩
   ·exact .inl (g.same s)
   ·exact .inr ⟨x,e,h1,h2,λi j=>(g i j).same s⟩
inductive spRowB (K:FG) (vs:Wy) (H:Hp) (Q:VK) (_E:XK):Prop where
 |mk (v:V) (d:W3) (U:Aa) (cE:vs=[v,.ref d]) (cD:BadRow K U H v) (cK:Rd H d (.dK (Ak U))) (d5:aO U) (fj:∀H',aA H H'->Q .aK H')
theorem T8 {tg:Tok} (F:aZ K "row_number" "row_number" Dq f fd) (B:Bl mg) (hG:mg "GREATEST" = some (.int 1048575 tg)) (GN:Fn P w K mg base "is_name" 1 ["thing"] (λvs H Q E=>spIsName vs H Q E\/spNameN K vs H Q E)) (GT:Fn P w K mg base "thing_number" 3 ["thing", "ahead"] (λvs H Q E=>spThing vs H Q E\/spThingB K vs H Q E)) :
  aD P w K mg base aP 4 f fd ["row", "ahead"] (spRowB K):=by
 obtain⟨fN,dN,GN,mN,kN,bN⟩:=GN.ex;obtain⟨fT,dT,GT,mT,kT,bT⟩:=GT.ex;refine F.m eE λvs H Q E h=>?_;obtain⟨v,d,U,rfl,hB,hd,DO,k⟩:=h;refine⟨Zj,λae A outer s hr=>?_⟩;have hu:=Ca hr;have cP:aH 1 _:=hr.mono qc
 refine⟨_,AG (Au (PW.pt (CZ (BH (BA (BJ K Zj Zj B.dH Zj B.tuple EV (pv 0)))) (Bk (AQ CN (AZ (A9 K Zj) Zj B.len PySem.boot_len (AA (pv 0) AD)) AI (AX _))))) (AF (AN Bj)) Ab)
  (AG (Co (pv 0) (Bd rfl (AV (AT (i:=2) eE.nd rfl (Or.inl rfl)) (AV (AT (i:=3) eE.nd rfl (Or.inl rfl)) BE))))
  (AG (Au (PW.pt (CZ (BH (BA (AM GN cP rfl mN kN bN .nil AL (AA (pv 2) AD)))) (Bk (B9 (Hm hu (pv 2) (pv 1)))))) (AF (AN Bj)) Ab)
  (AG (Al (i:=4) eE.nd rfl (Or.inl rfl) (AM GT hr rfl mT kT bT .nil AL (AA (pv 3) (AA (pv 1) AD))))
  (AG (Au (PW.pt (CZ (B9 (F5 (pv 4))) (Bk (BH (Ct Cr Cr AI (pv 4) (BY (v:=.int 1048575) rfl hG ⟨tg,rfl⟩)))))) (AF (AN Bj)) Ab)
  (AF (AN (pv 4))))))),?_⟩
 rcases hB with hB |⟨a,xs,rfl,ha,hB⟩
 ·obtain⟨t,ht,hk⟩:=hB.ty;exact⟨_,Zj,_,_,_,false,Zj,ht,hk,_,Zj,Ay (Ay (k _ (aA.refl _)))⟩
 refine⟨_,rfl,_,_,_,true,rfl,.tup ha,rfl,_,rfl,?_⟩;refine An ?_;refine⟨_,rfl,a,_,rfl,.inr (bA.of ha),rfl,_,rfl,?_⟩;rcases hB with hB |⟨n,t,rfl,hB⟩
 ·rw[ZP (show ¬ V.int (xs.length:Int)=V.int 2 from λz=>hB (by have:=V.int.inj z;omega))];exact Ay (k _ (aA.refl _))
 refine K2 rfl ?_;refine⟨_,rfl,a,_,rfl,bA.of ha,rfl,_,_,rfl,_,_,rfl,rfl,?_⟩;rcases hB with hB |⟨x,rfl,h1,h2,hB⟩
 ·exact⟨_,Zj,.inr ⟨n,Zj,hB,_,Zj,Ay (Ay (k _ (aA.refl _)))⟩⟩
 refine⟨_,rfl,.inl ⟨x,rfl,h1,h2,λH1 s1=>⟨_,rfl,?_⟩⟩⟩;cases hx:Dv x with
 |false=>exact Ay (Ay (k _ s1))
 |true =>
 refine An ?_;by_cases hd2:x∈U.map (·.1)
 ·refine⟨_,Zj,_,Zj,d,_,Zj,.inl ⟨Ak U,Sum.inr x,aA.rd s1 hd,Zj,(Bg hd2).symm⟩,_,Zj,?_⟩;exact Ay (k _ s1)
 refine⟨_,rfl,_,rfl,d,_,rfl,.inl ⟨Ak U,Sum.inr x,aA.rd s1 hd,rfl,(B6 hd2).symm⟩,_,rfl,?_⟩;refine An ?_;have hB:=hB hx hd2;rcases hB with⟨i,rfl,hi⟩ |⟨b1,b2,b3⟩ |hB |⟨rfl,hi⟩
 ·refine⟨_,Zj,_,Zj,.inr ⟨_,d,U,Zj,aA.rd s1 hd,.inl ⟨i,Zj,?_⟩⟩⟩;refine⟨_,Zj,_,Zj,?_⟩;refine BI (λz=>absurd (ZW z) (by intro q;cases q)) (λ_=>?_);refine⟨_,Zj,_,_,Zj,Zj,_,Zj,?_⟩;by_cases h0:0<=i
  ·rw[ZM h0];refine Ay ⟨_,_,Zj,Zj,_,Zj,?_⟩;rw[ZP (show ¬ i<=1048575 from λz=>hi ⟨h0,z⟩)];exact Ay (k _ s1)
  ·rw[ZP h0];exact An ⟨_,Zj,Ay (k _ s1)⟩
 ·refine⟨_,Zj,_,Zj,.inr ⟨t,d,U,Zj,aA.rd s1 hd,.inr (.inl ⟨b1,b2.same s1,b3.same s1,?_⟩)⟩⟩;refine⟨_,Zj,_,Zj,?_⟩;exact BI (λ_=>Ay (k _ s1)) (λz=>absurd Zj z)
 ·refine⟨_,Zj,_,Zj,.inr ⟨t,d,U,Zj,aA.rd s1 hd,.inr (.inr ⟨hB.same s1,λH2 s2=>?_⟩)⟩⟩;refine⟨_,Zj,_,Zj,?_⟩;exact BI (λ_=>Ay (k _ (s1.trans s2))) (λz=>absurd Zj z)
 ·refine⟨_,Zj,_,Zj,.inl ⟨.aK,.aK,d,U,Zj,Zj,aA.rd s1 hd,DO,True.intro,λH2 s2=>?_⟩⟩;refine⟨_,Zj,_,Zj,?_⟩;refine BI (λz=>absurd (ZW z) (by intro q;cases q)) (λ_=>?_);refine⟨_,Zj,_,_,Zj,Zj,_,Zj,?_⟩;refine BI (λ_=>?_) (λz=>absurd (ZM (Z1 _)) z);refine⟨_,_,Zj,Zj,_,Zj,?_⟩;rw[ZP (show ¬ ((B8 U .aK:Nat):Int)<=1048575 by show ¬ ((As (BP (U.map (·.2))):Nat):Int)<=1048575;omega)];exact Ay (k _ (s1.trans s2))
def VL (K:FG) (H:Hp) (v:V):Prop:=cX K "list" H v\/∃a xs,v=.ref a/\H a=some (.lst xs)/\(xs.length=0\/10<xs.length)
structure WH (K:FG) (H:Hp) (v:V) (rows:List (Str×Th)):Prop where
 ex:∃l xs u,v=.ref l/\H l=some (.lst xs)/\xs.length<=10/\(∀(i:Nat) r,rows[i]?=some r->∃b,xs[i]?=some (.ref b)/\bH H b r)/\xs[rows.length]?=some u/\BadRow K (Ae rows) H u
 ok:BN rows
def WI (K:FG) (cA:W3) (H:Hp) (E:XK) (v:V):Prop:=(VL K H v/\i5 H E cA .aK)\/∃rows:List (Str×Th),WH K H v rows/\i5 H E cA (.int (rows.length:Nat))
inductive spNumberedB (K:FG) (cA:W3) (vs:Wy) (H:Hp) (Q:VK) (E:XK):Prop where
 |mk (v:_) (cE:vs=[v]) (cD:WI K cA H E v)
theorem Kh {tM:Tok} (F:aZ K "numbered" "numbered" DV f fd) (B:Bl mg) (hM:mg "MOST_ROWS" = some (.int 10 tM)) (RX:Ke P w K mg base cM cA)
  (GR:Fn P w K mg base "row_number" 4 ["row", "ahead"] (λvs H Q E=>spRow vs H Q E\/spRowB K vs H Q E)):aD P w K mg base (eN P w) 5 f fd ["rows"] (spNumberedB K cA):=by
 obtain⟨fX,dX,MX,GX,bX⟩:=RX.make;have mX:=RX.cls;obtain⟨fR,dR,GR,mR,kR,bR⟩:=GR.ex;refine F.n aW λvs H Q E h=>?_;obtain⟨v,rfl,hv⟩:=h;refine⟨Zj,λae A outer s hr=>?_⟩;have hu:=Ca hr;have gd:aH 3 _:=hr.mono qc;have rz:=J7 (P:=P) (w:=w) (K:=K) (mg:=mg) (base:=base) (N:=["rows", "numbers", "at", "row", "number"]) (qual := "numbered") (scope:=defScope DV) (f:=f) (cd:=ae) (A:=A) (outer:=outer) (s:=s) (H:=H) (E:=E)
 refine⟨_,AG (Au (PW.pt (CZ (BH (BA (BJ K Zj Zj B.dH Zj B.list Du (pv 0)))) (Bk (BH (Ct Cr Cr AI (AZ (A9 K Zj) Zj B.len PySem.boot_len (AA (pv 0) AD)) (BY (v:=.int 10) Zj hM ⟨tM,Zj⟩)))))) (AF (Fe rz Zj MX.cls (Fd MX GX gd Zj mX bX .nil AL (AA Bj AD)))) Ab)
  (AG (Al (i:=1) aW.nd rfl (Or.inl rfl) FW)
  (AG (Cp PassesOwn.leaving rfl (OI rfl B.enum (AA (pv 0) AD)) (Bd rfl (AV (AT (i:=2) aW.nd rfl (Or.inl rfl)) (AV (AT (i:=3) aW.nd rfl (Or.inl rfl)) BE)))
   (AG (Al (i:=4) aW.nd rfl (Or.inl rfl) (AM GR hr rfl mR kR bR .nil AL (AA (pv 3) (AA (pv 1) AD))))
   (AG (Au (B9 (F5 (pv 4))) (AF (Fe rz rfl MX.cls (Fd MX GX gd rfl mX bX .nil AL (AA (pv 2) AD)))) Ab)
   (AF (J3 hu (pv 1) (Bp (Eg K rfl) (pv 3) AI (λ_ _=>rfl)) (pv 4) rfl)))))
  (AF (AN (pv 1))))),?_⟩
 rcases hv with⟨hv,hU⟩ |⟨rows,⟨⟨l,xs,u,rfl,hl,gE,cc,hat,dl⟩,RO⟩,hU⟩
 ·have go:∀ {σ:St}{D:EG},J9 cA (J8 cA (spRowsInit K cM) [] E0 (Ag (tC .aK) CA)) E D σ H:=λ{σ D}=>Gr (te:=tC .aK) MX.cls RX.st (.inl rfl) (aA.refl _) hU (λ_ z=>z);rcases hv with hv |⟨a,xs,rfl,ha,hl⟩
  ·obtain⟨t,ht,hk⟩:=hv.ty;exact⟨_,Zj,_,_,_,false,Zj,ht,hk,_,Zj,Ay (Ay go)⟩
  ·refine⟨_,Zj,_,_,_,true,Zj,.lst ha,Zj,_,Zj,An ?_⟩;refine⟨_,Zj,a,xs,Zj,.inl (aJ.of ha),_,_,Zj,Zj,_,Zj,?_⟩;by_cases h1:(1:Int)<=(xs.length:Int)
   ·rw[ZM h1];refine Ay ⟨_,_,Zj,Zj,_,Zj,?_⟩;rw[ZP (show ¬ (xs.length:Int)<=10 by omega)];exact Ay go
   ·rw[ZP h1];exact An ⟨_,Zj,Ay go⟩
 ·have hlt:rows.length<xs.length:=(Z8.mp hat).1;refine⟨_,Zj,_,_,_,true,Zj,.lst hl,Zj,_,Zj,An ?_⟩;refine⟨_,Zj,l,_,Zj,.inl (aJ.of hl),_,_,Zj,Zj,_,Zj,?_⟩;refine BI (λ_=>?_) (λz=>absurd (ZM qe) z);refine⟨_,_,Zj,Zj,_,Zj,?_⟩;refine K2 (show((xs.length:Nat):Int)<=10 by omega) ?_;intro d gg
  refine⟨_,Zj,l,Zj,⟨_,aJ.of (AC (aA.refl _) gg _ _ hl)⟩,Lr (K:=K) (a:=l) (xs:=xs) (λi σ H2=>i<=rows.length/\∃v1 v2 v3:Option V,σ=[some (.ref l),some (.ref d),v1,v2,v3]/\aA H H2/\H2 d=some (.dK (Ak (Ae (rows.take i)))))
   ⟨Nat.zero_le _,none,none,none,rfl,AC (aA.refl _) gg,AB⟩ (λi σ H2 _ ⟨_,_,_,_,_,s2,_⟩=>aJ.of (s2 _ _ hl)) ?_ ?_⟩
  ·rintro i y σ H2 p hi ⟨hle,v1,v2,v3,rfl,s2,hd2⟩ hp;have s3:aA H (upd H2 p (.tup [.int i,y])):=AC s2 hp;have iS:(upd H2 p (.tup [.int i,y])) d=some (.dK (Ak (Ae (rows.take i)))):=by rw[AH (AJ hd2 hp)];exact hd2
   refine⟨p,_,Zj,bA.of AB,Zj,_,_,Zj,_,_,Zj,Zj,?_⟩;by_cases e:i=rows.length
   ·subst e;rw[hat]at hi;cases hi;rw[ZD]at iS;refine⟨_,Zj,_,Zj,.inr ⟨u,d,Ae rows,Zj,dl.same s3,.inl iS,C6 RO qe,λH4 s4=>?_⟩⟩;refine⟨_,Zj,_,Zj,?_⟩;refine BI (λ_=>?_) (λz=>absurd Zj z);refine Gr (te:=D9 2) MX.cls RX.st (.inr ⟨_,Zj,?_⟩) (s3.trans s4) hU (λQ z=>⟨_,Zj,z⟩);rw[Int.natAbs_natCast]
    have h2:rows.length<2 ^ 10:=by have:(10:Nat)<2 ^ 10:=by decide
                                   omega
    rcases Nat.eq_zero_or_pos rows.length with z |z
    ·rw[z];decide
    ·have:=(Nat.log2_lt qe).mpr h2;omega
   ·have gq:i<rows.length:=by omega
    have hr':rows[i]?=some rows[i]:=Z7 gq;obtain⟨b,hb,hra⟩:=cc i _ hr';rw[hb]at hi;cases hi;have R1:=RO i _ hr';refine⟨_,Zj,_,Zj,.inl ⟨b,d,rows[i],Ae (rows.take i),Zj,hra.same s3,.inl iS,R1,λH4 s4=>?_⟩⟩;refine⟨_,Zj,_,Zj,?_⟩;refine BI (λz=>absurd (ZW z) (by intro q;cases q)) (λ_=>?_);obtain⟨tv,ao,_⟩:=hra.same (s3.trans s4);refine⟨_,Zj,_,Zj,_,Zj,b,_,0,.str rows[i].1,Zj,Zj,bA.of ao,Zj,d,_,Zj,DPut.k (k:=Sum.inr rows[i].1) (s4 _ _ iS) (Ac (by rw[DW,BQ,Zz];omega)),?_⟩;refine⟨gq,_,_,_,Zj,Fx (s3.trans s4) gg,?_⟩;rw[AB,Ob R1.new,ZF,hr',Option.toList_some,Bv]
  ·rintro σ H2 ⟨hle,_⟩;omega
end
section
variable {cM cA cU cB:W3}
structure FnR (P:Program) (w:World) (K:FG) (mg:SV) (base:Heap) (x:Str) (k:Nat) (ps:Ww) (sp:Sp):Prop where
 ex:∃f fd,aD P w K mg base (eN P w) k f fd ps sp/\mg x=some (.ref f)/\W.keepIn K (.ref f)=true/\Binds K fd ps []
inductive spInitB (K:FG) (C cA:W3) (vs:Wy) (H:Hp) (Q:VK) (E:XK):Prop where
 |mk (p dx:W3) (v r:V) (cE:vs=[.ref p,v,r]) (cD:H p=some (.ins C dx [])) (cK:WI K cA H E v)
theorem SO (F:aZ K "__init__" "Kind.__init__" BV f fd) (GN:FnR P w K mg base "numbered" 5 ["rows"] (spNumberedB K cA)):aD P w K mg base (eN P w) 6 f fd ["self", "rows", "rest"] (spInitB K C cA):=by
 obtain⟨fN,dN,GN,mN,kN,bN⟩:=GN.ex;refine F.n Rq λvs H Q E h=>?_;obtain⟨p,dx,v,r,rfl,hp,h⟩:=h;refine⟨Zj,λae A outer s hr=>?_⟩;have ps:=UU (P:=P) (w:=w) (K:=K) (mg:=mg) (base:=base) (N:=["self", "rows", "rest"]) (qual := "Kind.__init__") (scope:=defScope BV) (f:=f) (cd:=ae) (A:=A) (outer:=outer) (s:=s) (H:=H) (E:=E);have never:∀ {st:List Stmt},dP (BF (eN P w) P w K mg base ["self", "rows", "rest"] "Kind.__init__" (defScope BV) f ae A outer s H E) st (λ_ _ _=>False):=λ{st} _ _ _ _ _ _ z=>z.elim;exact⟨_,AG (F8 (pv 0) (AM GN hr Zj mN kN bN .nil ps (AA (pv 1) AD)) Zj) never,_,Zj,v,Zj,h⟩
end
end Mk
end
section
namespace Mk
open PySem L2 MK PySem.NumText
noncomputable def Bq (U:Aa) (n:Nat):Nat:=n - (n&&&Ah (AO U))
noncomputable def cZ (U:Aa) (n:Nat):Ww:=A4 U n++(if Bq U n=0 then []else [Str.ofString (toString ((Bq U n:Nat):Int))])
noncomputable def BX (U:Aa) (n:Nat):Option Str:=((AS U).map (·.2)).find? λx=>decide (look U x=n)
noncomputable def Az (U:Aa) (n:Nat):Str:=match BX U n with
 |some x=>x
 |none=>if cZ U n=[]then "0" else Txt.join "|" (cZ U n)
theorem Ol {α:Type}{f:α->Bool}{l:List α}{i:Nat}{a:α} (h:(l.take i).find? f=none) (e:l[i]?=some a) (hf:f a=true):l.find? f=some a:=by
 have hi:=(Z8.mp e).1
 have:l=l.take i++a::l.drop (i+1):=by
  have h1:=List.take_append_drop i l;rw[List.drop_eq_getElem_cons hi,(Z8.mp e).2]at h1;exact h1.symm
 rw[this,List.find?_append,h,find?_cons,hf];rfl
theorem Jl {α:Type}{f:α->Bool}{l:List α}{i:Nat}{a:α} (h:(l.take i).find? f=none) (e:l[i]?=some a) (hf:f a=false):(l.take (i+1)).find? f=none:=by
 rw[ZF,e,List.find?_append,h];show Option.or none (List.find? f [a])=none;rw[find?_cons,hf];rfl
section
variable {DC bd:W3}
inductive spTxt (C VC:W3) (vs:Wy) (H:Hp) (Q:VK) (_E:XK):Prop where
 |mk (p kp:W3) (n:Nat) (U:Aa) (r:Str) (cE:vs=[.ref p]) (cD:dS VC H p kp n) (cK:aG C H kp U r) (d5:U.length<=10) (fj:(U.map (·.1)).Nodup) (ir:n<2 ^ 40) (z_6:JoinOk "|" (cZ U n)=true) (z_7:∀H',aA H H'->Q (.str (Az U n)) H')
noncomputable abbrev Wr:Ww:=["value", "kind", "name", "parts"]
theorem scTxt:AK Wr ["value"] (defScope KQ):=cH
theorem VM (F:aZ K "text_of" "text_of" KQ f fd) (B:Bl mg) (T:EE K C) (VT:Kc K VC) (GVK:Mt P w K mg base VC "kind" 1 ["self"] (spVKind VC)) (GVN:Mt P w K mg base VC "number" 1 ["self"] (spVNumber VC)) (GN:Mt P w K mg base C "names" 1 ["self"] (spNames C)) (GK:Mt P w K mg base C "number" 2 ["self", "name"] (spNumber C)) (GM:Mt P w K mg base VC "marks" 3 ["self"] (spVMarks C VC)) (GR:Mt P w K mg base VC "rest" 4 ["self"] (spVRest C VC)):aD P w K mg base aP 5 f fd ["value"] (spTxt C VC):=by
 obtain⟨fVK,dVK,GVK,mVK,bVK⟩:=GVK.ex;obtain⟨fVN,dVN,GVN,mVN,bVN⟩:=GVN.ex;obtain⟨fN,dN,GN,mN,bN⟩:=GN.ex;obtain⟨fK,dK,GK,mK,bK⟩:=GK.ex;obtain⟨fM,dM,GM,mM,bM⟩:=GM.ex;obtain⟨fR,dR,GR,mR,bR⟩:=GR.ex;refine F.m scTxt λvs H Q E h=>?_;obtain⟨p,kp,n,U,r,rfl,hV,KA,gE,ndn,hn,aE,q⟩:=h;refine⟨Zj,λae A outer s hr=>?_⟩;have cP:aH 1 _:=hr.mono qc;have gC:aH 2 _:=hr.mono qc;have gd:aH 3 _:=hr.mono qc;have nd:=scTxt.nd;obtain⟨dv,hv⟩:=id hV;obtain⟨dk,e1,e2,hk⟩:=KA.ins
 refine⟨_,AG (Al (i:=1) nd Zj (Or.inl Zj) (Aj (pv 0) VT.cl mVK GVK cP bVK .nil AL))
  (AG (Cp PassesOwn.never rfl (A5 (Aj (pv 1) T.cl mN GN cP bN .nil AL)) (AT (i:=2) nd rfl (Or.inl rfl))
   (AF (Au (AQ DP (S2 (pv 1) T.cl mK GK gC bK .nil AL (AA (pv 2) AD)) (Aj (pv 0) VT.cl mVN GVN cP bVN .nil AL) (AX _)) (AF (AN (pv 2))) Ab)))
  (AG (Al (i:=3) nd rfl (Or.inl rfl) (Aj (pv 0) VT.cl mM GM gd bM .nil AL))
  (Bb (Au (AQ CN (Aj (pv 0) VT.cl mR GR hr bR .nil AL) AI (AX _)) (AF (Dd (Hj PySem.F.plainAttrs_list PySem.F.slot_list_append PySem.F.type_list_append GG (pv 3) (AA (BS FR rfl B.str FL (AA (Aj (pv 0) VT.cl mR GR hr bR .nil AL) AD)) AD)))) Ab)
  (AF (AN (Bn (AQ JF (AZ (A9 K rfl) rfl B.len PySem.boot_len (AA (pv 3) AD)) AI (AX _)) (Hj PySem.F.plainAttrs_str PySem.F.slot_str_join PySem.F.type_str_join OU AY (AA (pv 3) AD)) AY)))))),?_⟩
 refine⟨_,Zj,p,dv,_,Zj,hv,MJ _ _ qb qb,p,kp,n,Zj,hV,?_⟩;refine⟨_,Zj,kp,dk,_,Zj,hk,(BO _ _ _),kp,U,r,Zj,KA,λl H1 s1 hl=>?_⟩;refine⟨l,Zj,⟨_,aJ.of hl⟩,B2 (K:=K) (a:=l) (xs:=((AS U).map (·.2)).map V.str) (λi σ H2=>(∃v2,σ=[some (.ref p),some (.ref kp),v2,none])/\H2=H1/\(((AS U).map (·.2)).take i).find? (λx=>decide (look U x=n))=none) ⟨⟨_,Zj⟩,Zj,Zj⟩ (λi σ H2 _ e=>e.2.1 ▸ aJ.of hl) ?_ ?_⟩
 ·rintro i x σ H2 hi ⟨⟨v2,rfl⟩,rfl,hf⟩;rw[ZG]at hi;obtain⟨y,hy,rfl⟩:=Z6.mp hi
  have ay:y∈U.map (·.1):=by
   obtain⟨c,hc,rfl⟩:=Zq.mp (ZR hy);exact Zq.mpr ⟨_,Cj hc,Zj⟩
  refine⟨_,Zj,kp,dk,_,Zj,s1 _ _ hk,(BO _ _ _),_,Zj,kp,U,r,y,Zj,KA.same s1,ay,_,Zj,p,dv,_,Zj,s1 _ _ hv,MJ _ _ qb qb,p,kp,n,Zj,hV.same s1,Zj,_,Zj,?_⟩;by_cases hq:look U y=n
  ·rw[ZM (show V.int (look U y:Nat)=V.int (n:Int) by rw[hq])];refine Ay ⟨_,Zj,?_⟩
   have e:Az U n=y:=by
    unfold Az BX;rw[Ol hf hy (ZM hq)]
   rw[←e];exact q _ s1
  ·rw[ZP (show ¬ V.int (look U y:Nat)=V.int (n:Int)from λz=>hq (by have:=V.int.inj z;omega))];exact An ⟨⟨_,Zj⟩,Zj,Jl hf hy (ZP hq)⟩
 rintro σ H2 ⟨⟨v2,rfl⟩,rfl,hf⟩;rw[AE,ZD]at hf
 have eT:Az U n=if cZ U n=[]then ("0" : Str)else Txt.join "|" (cZ U n):=by
  unfold Az BX;rw[hf]
 rw[eT]at q;refine⟨_,Zj,p,dv,_,Zj,s1 _ _ hv,MJ _ _ qb qb,p,kp,n,U,r,Zj,hV.same s1,KA.same s1,qe,λl2 H3 s3 hn2 d9=>?_⟩;have s13:=s1.trans s3
 have hvl:(A4 U n).length<=10:=by
  unfold A4;rw[AE];exact Nat.le_trans (ZT _ _) (Nat.le_trans (C7 U) gE)
 refine⟨λσ H'=>σ=[some (.ref p),some (.ref kp),v2,some (.ref l2)]/\aA H H'/\H' l2=some (.lst ((cZ U n).map V.str)),λR hR=>?_,?_⟩
 ·refine⟨_,Zj,p,dv,_,Zj,s13 _ _ hv,MJ _ _ qb qb,p,kp,n,U,r,Zj,hV.same s13,KA.same s13,qe,λH4 s4=>⟨Zj,_,Zj,?_⟩⟩;have s14:=s13.trans s4;by_cases h0:Bq U n=0
  ·rw[ZM (show V.int ((n - (n&&&Ah (AO U)):Nat):Int)=V.int 0 from congrArg (λz:Nat=>V.int (z:Int)) h0)];refine An (hR _ _ ⟨Zj,s14,?_⟩);unfold cZ;rw[Zo h0,Zs];exact s4 _ _ d9
  ·rw[ZP (show ¬ V.int ((n - (n&&&Ah (AO U)):Nat):Int)=V.int 0 from λz=>h0 (by have:=V.int.inj z;unfold Bq;omega))];refine Ay ⟨_,Zj,.inl ⟨Zj,_,aJ.of (s4 _ _ d9)⟩,_,Zj,p,dv,_,Zj,s14 _ _ hv,MJ _ _ qb qb,p,kp,n,U,r,Zj,hV.same s14,KA.same s14,qe,λH5 s5=>?_⟩;have hle:=Nat.sub_le n (n&&&Ah (AO U));refine⟨((Bq U n:Nat):Int),Zj,Gq (by unfold Bq;omega),l2,_,_,Zj,Zj,s5 _ _ (s4 _ _ d9),Ac (by rw[AE];omega),hR _ _ ⟨Zj,λb o e=>?_,?_⟩⟩
   ·rw[AH (AJ (s1 _ _ e) hn2)];exact s5 _ _ (s14 _ _ e)
   ·rw[AB];unfold cZ;rw[Zp h0,Zt];rfl
 rintro σ H4 ⟨rfl,s4,hl4⟩;refine⟨_,Zj,l2,_,Zj,.inl (aJ.of hl4),_,_,Zj,Zj,_,Zj,?_⟩;have qq:=q H4 s4;by_cases hw0:cZ U n=[]
 ·rw[Zo hw0]at qq;rw[hw0];exact An qq
 ·rw[Zp hw0]at qq;have hl0:0<(cZ U n).length:=length_pos_iff.mpr hw0;rw[ZM (show(((cZ U n).map V.str).length:Int)>0 by rw[AE];omega)];exact Ay ⟨Zj,_,Zj, "|", l2,cZ U n,Zj,Zj,hl4,aE,qq⟩
end
theorem Ef (x:Str):x.cps.toList.length=x.length:=Array.length_toList
theorem F3 (nd:(U.map (·.1)).Nodup) (n:Nat):BX U n=((AS U).find? λq=>decide (q.1=n)).map (·.2):=by
 have:∀fs:List (Nat×Str),(∀q∈fs,look U q.2=q.1)->(fs.map (·.2)).find? (λx=>decide (look U x=n))=(fs.find? λq=>decide (q.1=n)).map (·.2):=by
  intro fs;induction fs with
  |nil=>intro _;rfl
  |cons q r ih =>
   intro h;rw[map_cons,find?_cons,find?_cons,h q (ZK ..)];cases decide (q.1=n)with
   |true=>rfl
   |false=>exact ih λx hx=>h x (ZS _ hx)
 exact this _ λq hq=>CT nd (Cj hq)
noncomputable def QN (c:Nat):Bool:=decide (48<=c)&&decide (c<=57)
noncomputable abbrev dg (m:Nat):List Nat:=(Nat.toDigits 10 m).map Char.toNat
theorem Om {m:Nat} (h:¬ m<10):dg m=dg (m / 10)++dg (m % 10):=by
 have hm:m % 10<10:=Nat.mod_lt m qc;have t:Nat.toDigits 10 (m / 10)++Nat.toDigits 10 (m % 10)=Nat.toDigits 10 (10*(m / 10)+m % 10):=Nat.toDigits_append_toDigits qc qe hm;rw[Nat.div_add_mod]at t;show(Nat.toDigits 10 m).map Char.toNat=_;rw[←t,Zt]
theorem Nt {m:Nat} (h:m<10):dg m=[m+48]:=by
 show(Nat.toDigits 10 m).map Char.toNat=_;rw[Nat.toDigits_of_lt_base h];have:∀d:Nat,d<10->[(Nat.digitChar d)].map Char.toNat=[d+48]:=by decide
 exact this m h
theorem SQ (m:Nat):(dg m).all QN=true:=by
 induction m using Nat.strongRecOn with
 |_ m ih =>
  by_cases h1:m<10
  ·rw[Nt h1];simp[QN];omega
  ·rw[Om h1,List.all_append,ih (m / 10) qe,ih (m % 10) qe];rfl
noncomputable abbrev IZ (n:Nat):Str:=Str.ofString (toString ((n:Nat):Int))
theorem Ki (n:Nat):(IZ n).cps.toList=dg n:=by
 show(Str.ofString (toString (Int.ofNat n))).cps.toList=_;rw[PyProof.Rows.text_ofNat]
theorem On {n:Nat} (h:n<2 ^ 40):Bq U n<2 ^ 40:=Nat.lt_of_le_of_lt (Nat.sub_le ..) h
theorem VN {m:Nat} (h:m∈AO U):(CS (AS U) m,m)∈U:=Cj (QB (mem_keysS.mp (mem_filter.mp h).1))
structure WdS (x:Str):Prop where
 as:x.cps.all (· < 128)=true
 len:x.length<=13
theorem VP {x:Str} (h:Dv x=true):x.length<=6:=by
 unfold Dv at h;simp only[Bool.and_eq_true,decide_eq_true_eq]at h;exact h.1.2
theorem VQ {n:Nat} (h:n<2 ^ 40):WdS (IZ n):=by
 have e:=Ki n;have hd:=SQ n;have sl:=Ef (IZ n)
 have hl:(dg n).length<=13:=by
  rw[AE];exact toDigits_len_pow qc qc (Nat.lt_trans h qc)
 rw[e]at sl;refine⟨?_,qe⟩;rw[←Array.all_toList,List.all_eq_true,e];intro c hc;have:=List.all_eq_true.mp hd c hc;simp[QN]at this;exact ZM qe
theorem SR (D:aO U) {n:Nat} (h:n<2 ^ 40):∀x∈cZ U n,WdS x:=λx hx=>by
 rcases mem_append.mp hx with z |z
 ·obtain⟨m,hm,rfl⟩:=Zq.mp z;obtain⟨h1,h2,_⟩:=D.nm _ (VN (mem_filter.mp hm).1);have:=VP h1;exact⟨h2,Nat.le_trans this qc⟩
 ·split at z
  ·cases z
  ·rw[ZI.mp z];exact VQ (On h)
theorem Oo (D:aO U) (n:Nat):(A4 U n).length<=10:=by
 unfold A4;rw[AE];exact Nat.le_trans (ZT _ _) (Nat.le_trans (C7 U) D.len)
theorem Kj (D:aO U) {n:Nat} (h:n<2 ^ 40):JoinOk "|" (cZ U n)=true:=by
 have key:∀(ws:Ww) (a:Nat),(∀x∈ws,x.length<=13)->ws.foldl (λa x=>a+x.length+("|" : Str).length) a<=a+14*ws.length:=by
  intro ws;induction ws with
  |nil=>intro a _;exact Zx _
  |cons w r ih =>
   intro a hw;have h1:=hw w (ZK ..);have h2:=ih (a+w.length+("|" : Str).length) λx hx=>hw x (ZS _ hx);have h3:("|" : Str).length=1:=by decide +kernel
   rw[foldl_cons];rw[h3]at h2 ⊢;simp only[length_cons];omega
 have h1:=key (cZ U n) 0 λx hx=>(SR D h x hx).len;have gE:=Oo D n
 have ji:(cZ U n).length<=11:=by
  unfold cZ;rw[ZJ];split
  ·simp;omega
  ·simp;omega
 unfold JoinOk;rw[List.foldl_toArray']
 ·show(!decide (_>sizeLine))=true
  rw[ZP (by unfold sizeLine;have:(2:Nat) ^ 24=16777216:=by decide
            omega)]
  rfl
 ·simp
theorem Nu {ms:List W3}{i:Nat}{v:V} (h:aB H ms (C3 U)) (e:(ms.map V.ref)[i]?=some v):∃b n,v=.ref b/\(AO U)[i]?=some n/\H b=some (.tup [.str (CS (AS U) n),.int (n:Int)]):=by
 rw[ZG]at e;obtain⟨b,hb,rfl⟩:=Z6.mp e;obtain⟨pr,fw,ao⟩:∃pr,(C3 U)[i]?=some pr/\H b=some (.tup [pr.1,pr.2]):=Ek h hb;unfold C3 at fw;rw[ZG]at fw;obtain⟨m,hm,rfl⟩:=Z6.mp fw;exact⟨b,m,Zj,hm,ao⟩
structure eK (H:Hp) (t e m:W3) (ms:List W3) (U:Aa):Prop where
 tab:H t=some (.dK (Nj U e m))
 fst:H e=some (.dK (B0 (AS U)))
 mrk:H m=some (.lst (ms.map V.ref))
 its:aB H ms (C3 U)
theorem eK.same {t e m:W3}{ms:List W3} (h:eK H t e m ms U) (s:aA H H'):eK H' t e m ms U:=⟨s _ _ h.tab,s _ _ h.fst,s _ _ h.mrk,aB.same s h.its⟩
section
inductive spLTx (vs:Wy) (H:Hp) (Q:VK) (_E:XK):Prop where
 |mk (t e m:W3) (ms:List W3) (U:Aa) (n:Nat) (cE:vs=[.ref t,.int (n:Int)]) (cD:eK H t e m ms U) (cK:aO U) (d5:n<2 ^ 40) (fj:∀H',aA H H'->Q (.str (Az U n)) H')
noncomputable abbrev Ws:Ww:=["_law_table", "_law_number", "_law_words", "_law_strange"]
theorem scLTx:AK Ws ["_law_table", "_law_number"] (defScope FK):=cH
theorem VR (F:aZ K "_law_text_of" "_law_text_of" FK f fd) (B:Bl mg):aD P w K mg base aP 1 f fd ["_law_table", "_law_number"] spLTx:=by
 refine F.m scLTx λvs H Q E h=>?_;obtain⟨t,e,m,ms,U,n,rfl,L,D,hn,q⟩:=h;refine⟨Zj,λae A outer s hr=>?_⟩;have hu:=Ca hr;have eI:=hr.units;have nd:=scLTx.nd
 refine⟨_,AG (Au (B9 (Hm hu (pv 1) (Bs hu (pv 0) AY (λ_ _=>rfl)))) (AF (AN (Bs hu (Bs hu (pv 0) AY (λ_ _=>rfl)) (pv 1) (λ_ _=>rfl)))) Ab)
  (AG (LB (i:=2) nd rfl qd ["_law_number"] [some 1] qd qb qd qd rfl (A5 (Bs hu (pv 0) AY (λ_ _=>rfl))) (λ_ _ _ _ _ _=>B4 (AQ CN (AW Cq (pv 2) (pv 1)) AI (AX _))) (λ_ _ _ _ _ _=>pv 0))
  (AG (Al (i:=3) nd rfl (Or.inl rfl) (AW Js (pv 1) (AW Cq (pv 1) (Bs hu (pv 0) AY (λ_ _=>rfl)))))
  (Bb (Al (i:=2) nd rfl (Or.inl rfl) (AW CB (pv 2) (Bn (AQ JF (pv 3) AI (AX _)) (A6 (AA (BS FR rfl B.str FL (AA (pv 3) AD)) AD)) (A6 AD))))
  (AF (AN (Bn (AQ (EK K rfl eI) (pv 2) (A6 AD) (AX _)) (Hj PySem.F.plainAttrs_str PySem.F.slot_str_join PySem.F.type_str_join OU AY (AA (pv 2) AD)) AY)))))),?_⟩
 have ej:=Kj D hn;have gE:=Oo D n;by_cases hf:n∈(AS U).map (·.1)
 ·refine⟨_,Zj,_,Zj,t,_,Zj,.inl ⟨_,Sum.inr "firsts", .inl L.tab,Zj,(FO _ _ _).symm⟩,e,_,Zj,.inl ⟨_,Sum.inl (n:Int),.inl L.fst,Zj,(DX hf).symm⟩,_,Zj,?_⟩;refine Ay ⟨_,Zj,t,_,Zj,.inl ⟨_,Sum.inr "firsts", .inl L.tab,Zj,(FO _ _ _).symm⟩,_,Zj,e,_,Zj,.inl ⟨_,Sum.inl (n:Int),.inl L.fst,Zj,(DX hf).symm⟩,?_⟩
  have et:Az U n=CS (AS U) n:=by
   unfold Az;rw[F3 D.nd];unfold CS;obtain⟨c,hc⟩:=Option.isSome_iff_exists.mp (FN hf);rw[hc];rfl
  rw[←et];exact q _ (aA.refl _)
 ·have et:Az U n=if cZ U n=[]then ("0" : Str)else Txt.join "|" (cZ U n):=by
   have:(AS U).find? (λq=>decide (q.1=n))=none:=by
    rw[find?_eq_none];intro x hx z;exact hf (Zq.mpr ⟨x,hx,ZW z⟩)
   unfold Az;rw[F3 D.nd,this];rfl
  rw[et]at q;refine⟨_,Zj,_,Zj,t,_,Zj,.inl ⟨_,Sum.inr "firsts", .inl L.tab,Zj,(FO _ _ _).symm⟩,e,_,Zj,.inl ⟨_,Sum.inl (n:Int),.inl L.fst,Zj,(Eh hf).symm⟩,_,Zj,?_⟩;refine An ?_
  have az:(ms.map V.ref).length=(AO U).length:=by
   have h1:=L.its.length;rw[Ji]at h1;rw[AE,h1]
  refine⟨_,Zj,t,_,Zj,.inl ⟨_,Sum.inr "marks", .inl L.tab,Zj,(QA _ _ _).symm⟩,m,Zj,⟨_,aJ.of L.mrk⟩,BU (K:=K) (a:=m) (xs:=ms.map V.ref) (λi ys H2=>ys=((((AO U).take i).filter λm=>decide (m&&&n≠0)).map (CS (AS U))).map V.str/\H2=H) ⟨Zj,Zj⟩ (λi ys H2 _ ⟨_,e⟩=>e ▸ aJ.of L.mrk) (λi ys H2 ⟨e,_⟩=>?_) ?_ ?_⟩
  ·rw[e,AE,AE];have h3:(((AO U).take i).filter λm=>decide (m&&&n≠0)).length<=((AO U).take i).length:=ZT _ _;rw[Zz]at h3;have h4:=C7 U;have h5:=D.len;omega
  ·rintro i v ys H2 hi ⟨rfl,rfl⟩;obtain⟨b,k,rfl,hk,ao⟩:=Nu L.its hi;refine⟨b,_,Zj,bA.of ao,Zj,_,_,Zj,_,_,Zj,Zj,?_⟩;refine⟨_,Zj,_,Zj,_,_,Zj,Zj,Zj,_,Zj,?_⟩;have eT:(((AO U).take (i+1)).filter λm=>decide (m&&&n≠0))=((AO U).take i).filter (λm=>decide (m&&&n≠0))++(if decide (k&&&n≠0)then [k]else []):=PySem.take_succ_filter (λm=>decide (m&&&n≠0)) _ i k hk
   have ed:(!decide (V.int (Builtin.bitAnd (n:Int) (k:Int))=V.int 0))=decide (k&&&n≠0):=by
    rw[Cd,Nat.and_comm];by_cases z:k&&&n=0
    ·rw[z];rfl
    ·rw[ZM z,ZP (λy=>z (by have:=V.int.inj y;omega))];rfl
   show if (!decide (V.int (Builtin.bitAnd (n:Int) (k:Int))=V.int 0))=true then _ else _
   rw[ed];refine BI (λhq=>?_) (λhq=>?_)
   ·refine⟨_,Zj,?_,Zj⟩;rw[eT,Zo hq,Zt,Zt];rfl
   ·refine⟨?_,Zj⟩;rw[eT,Zp hq,Zs]
  ·rintro ys H2 ⟨rfl,rfl⟩ l hl;rw[az,ZD];show _;have s1:=AC (aA.refl _) hl (o:=HO.lst ((A4 U n).map V.str));have h1:=AB (H:=H2) (a:=l) (o:=HO.lst ((A4 U n).map V.str));have gl:∀ {R:Hp->Prop},R (upd H2 l (HO.lst ((A4 U n).map V.str)))->R (upd H2 l (HO.lst ((((AO U).filter λm=>decide (m&&&n≠0)).map (CS (AS U))).map V.str))):=λh=>h;refine gl ?_;generalize upd H2 l (HO.lst ((A4 U n).map V.str))=H3 at s1 h1 ⊢;refine⟨_,Zj,_,Zj,_,Zj,t,_,Zj,.inl ⟨_,Sum.inr "bits", .inl (s1 _ _ L.tab),Zj,(R7 _ _ _).symm⟩,_,_,Zj,Zj,_,_,Zj,Zj,?_⟩
   have er:V.int ((n:Int) - Builtin.bitAnd (n:Int) ((Ah (AO U):Nat):Int))=V.int ((Bq U n:Nat):Int):=by
    rw[Cd];unfold Bq;have:=Nat.and_le_left (n:=n) (m:=Ah (AO U));congr 1;omega
   refine⟨λσ H'=>(∃v3,σ=[some (.ref t),some (.int (n:Int)),some (.ref v3),some (V.int ((n:Int) - Builtin.bitAnd (n:Int) ((Ah (AO U):Nat):Int)))]/\H' v3=some (.lst ((cZ U n).map V.str)))/\aA H2 H',λR hR=>?_,?_⟩
   ·show _;refine⟨_,Zj,_,Zj,_,_,Zj,Zj,_,Zj,?_⟩;have er':(n:Int) - Builtin.bitAnd (n:Int) ((Ah (AO U):Nat):Int)=((Bq U n:Nat):Int):=V.int.inj er;rw[er'];by_cases h0:Bq U n=0
    ·rw[h0,ZP (show ¬ ((0:Nat):Int)>0 by omega)];refine An ⟨(by show 0<=sizeLine;decide),λp hp=>?_⟩;have s2:=AC s1 hp (o:=HO.lst []);refine⟨l,p,_,_,Zj,Zj,AC (aA.refl _) hp _ _ h1,AB,Nat.le_of_lt (Ac (by simp;omega)),λc hc=>hR _ _ ⟨⟨c,?_,?_⟩,AC s2 hc⟩⟩
     ·rfl
     ·rw[AB];unfold cZ;rw[Zo h0,Zs,Zs]
    ·rw[ZM (show((Bq U n:Nat):Int)>0 by omega)];refine Ay ⟨_,Zj,⟨((Bq U n:Nat):Int),congrArg (λv=>[v]) er,Gq (On hn),sl1,λp hp=>?_⟩⟩;have s2:=AC s1 hp (o:=HO.lst [V.str (IZ (Bq U n))]);refine⟨l,p,_,_,Zj,Zj,AC (aA.refl _) hp _ _ h1,AB,Nat.le_of_lt (Ac (by simp;omega)),λc hc=>hR _ _ ⟨⟨c,Zj,?_⟩,AC s2 hc⟩⟩;rw[AB];unfold cZ;rw[Zp h0,Zt];rfl
   ·rintro σ H4 ⟨⟨c,rfl,hc⟩,s4⟩;refine⟨_,Zj,(by show 0<=sizeLine;decide),λp hp=>?_⟩;have s5:=AC (aA.refl _) hp (o:=HO.lst []);have hp5:=AB (H:=H4) (a:=p) (o:=HO.lst []);generalize upd H4 p (HO.lst [])=H5 at s5 hp5 ⊢;refine⟨_,_,BL (s5 _ _ hc) (IT _),BL hp5 HH,G3 λx hx=>(SR D hn x hx).as,Dx,_,Zj,?_⟩;have qq:=q H5 (s4.trans s5);by_cases hw:cZ U n=[]
    ·rw[Zo hw]at qq;rw[hw];exact An qq
    ·rw[Zp hw]at qq
     have:PyData.eqv (.list ((cZ U n).map PyData.str)) (.list [])=false:=by
      cases e:cZ U n with
      |nil=>exact absurd e hw
      |cons a r=>simp[PyData.eqv,PyData.eqvAll]
     rw[this];exact Ay ⟨Zj,_,Zj, "|", c,cZ U n,Zj,Zj,s5 _ _ hc,ej,qq⟩
end
theorem MW:∀ {a b:List Nat},a.Pairwise (· < ·)->b.Pairwise (· < ·)->(∀x,x∈a ↔ x∈b)->a=b
 | [],[],_,_,_=>rfl
 | [],y::b,_,_,h=>by have:=(h y).mpr (ZK ..);cases this
 |x::a,[],_,_,h=>by have:=(h x).mp (ZK ..);cases this
 |x::a,y::b,ha,hb,h=>by
  obtain⟨ha1,ha2⟩:=pairwise_cons.mp ha;obtain⟨iU,fZ⟩:=pairwise_cons.mp hb
  have e:x=y:=by
   rcases mem_cons.mp ((h x).mp (ZK ..))with z |z
   ·exact z
   ·rcases mem_cons.mp ((h y).mpr (ZK ..))with q |q
    ·exact q.symm
    ·have h1:=ha1 y q;have h2:=iU x z;omega
  subst e;rw[MW ha2 fZ λz=>⟨λhz=>?_,λhz=>?_⟩]
  ·rcases mem_cons.mp ((h z).mp (ZS _ hz))with q |q
   ·have:=ha1 z hz;omega
   ·exact q
  ·rcases mem_cons.mp ((h z).mpr (ZS _ hz))with q |q
   ·have:=iU z hz;omega
   ·exact q
theorem HI (nd:(U.map (·.1)).Nodup) {n:Nat}{x:Str} (h:BX U n=some x):(x,n)∈U:=by
 rw[F3 nd]at h;obtain⟨q,hq,rfl⟩:=Z6.mp h;have h1:=List.find?_some hq;have h2:=Cj (List.mem_of_find?_eq_some hq);rw[←ZW h1];exact h2
theorem Op (nd:(U.map (·.1)).Nodup) {n:Nat}:BX U n=none ↔ n∉ (AS U).map (·.1):=by
 rw[F3 nd,Option.map_eq_none_iff,find?_eq_none];constructor
 ·intro h z;obtain⟨q,hq,rfl⟩:=Zq.mp z;exact h q hq (ZM Zj)
 ·intro h q hq z;exact h (Zq.mpr ⟨q,hq,ZW z⟩)
theorem MY (nd:(U.map (·.1)).Nodup) (n:Nat):CS (AS U) n=(BX U n).getD (Str.ofString ""):=by
 rw[F3 nd];rfl
theorem D0 (k n:Nat):2 ^ k&&&n≠0 ↔ n.testBit k=true:=by
 constructor
 ·intro h;cases e:n.testBit k with
  |true=>rfl
  |false =>
   refine absurd (Nat.eq_of_testBit_eq λi=>?_) h;rw[Nat.testBit_and,Nat.testBit_two_pow,Nat.zero_testBit];by_cases z:k=i
   ·rw[←z,e,Bool.and_false]
   ·rw[ZP z,Bool.false_and]
 ·intro h z;have:=congrArg (λx=>x.testBit k) z;simp only[Nat.testBit_and,Nat.zero_testBit,h,Nat.testBit_two_pow_self]at this;cases this
theorem FA (k:Nat):A3 (2 ^ k)=true:=by
 have h:(2 ^ k&&&(2 ^ k - 1))=0:=by
  refine Nat.eq_of_testBit_eq λi=>?_;rw[Nat.testBit_and,Nat.testBit_two_pow,Nat.testBit_two_pow_sub_one,Nat.zero_testBit];by_cases z:k=i
  ·rw[z];simp
  ·rw[ZP z,Bool.false_and]
 unfold A3;simp[h,Nat.two_pow_pos]
theorem Cl (nd:(U.map (·.1)).Nodup) {m:Nat}:m∈AO U ↔ (∃k,m=2 ^ k)/\BX U m≠none:=by
 unfold AO;rw[mem_filter,mem_keysS];constructor
 ·rintro⟨h1,h2⟩;obtain⟨k,rfl⟩:=CM h2;exact⟨⟨k,Zj⟩,λz=>(Op nd).mp z h1⟩
 ·rintro⟨⟨k,rfl⟩,h⟩;refine⟨Decidable.byContradiction λz=>h ((Op nd).mpr z),FA k⟩
theorem SS {a b:Aa} (na:(a.map (·.1)).Nodup) (nb:(b.map (·.1)).Nodup) {n:Nat} (h:∀k,n.testBit k=true->BX a (2 ^ k)=BX b (2 ^ k)):cZ a n=cZ b n:=by
 have hf:(AO a).filter (λm=>decide (m&&&n≠0))=(AO b).filter (λm=>decide (m&&&n≠0)):=by
  refine MW ((Gp a).filter _) ((Gp b).filter _) λm=>?_;rw[mem_filter,mem_filter,Cl na,Cl nb,decide_eq_true_eq];constructor
  ·rintro⟨⟨⟨k,rfl⟩,h1⟩,h2⟩;exact⟨⟨⟨k,Zj⟩,by rw[←h k ((D0 k n).mp h2)];exact h1⟩,h2⟩
  ·rintro⟨⟨⟨k,rfl⟩,h1⟩,h2⟩;exact⟨⟨⟨k,Zj⟩,by rw[h k ((D0 k n).mp h2)];exact h1⟩,h2⟩
 have hv:A4 a n=A4 b n:=by
  unfold A4;rw[hf];refine List.map_congr_left λm hm=>?_;obtain⟨h1,h2⟩:=mem_filter.mp hm;obtain⟨⟨k,rfl⟩,_⟩:=(Cl nb).mp h1;rw[MY na,MY nb,h k ((D0 k n).mp (ZW h2))]
 have bit:∀ {U:Aa} (nd:(U.map (·.1)).Nodup) (k:Nat),(Ah (AO U)).testBit k=(BX U (2 ^ k)).isSome:=λ{U} nd k=>by
  rw[CG];cases e:BX U (2 ^ k)with
  |none =>
   rw[Option.isSome_none,List.any_eq_false];intro m hm z;obtain⟨⟨j,rfl⟩,h2⟩:=(Cl nd).mp hm;rw[Nat.testBit_two_pow,decide_eq_true_eq]at z;subst z;exact h2 e
  |some x =>
   rw[Option.isSome_some];exact any_eq_true.mpr ⟨2 ^ k,(Cl nd).mpr ⟨⟨k,rfl⟩,by rw[e];exact λz=>nomatch z⟩,Nat.testBit_two_pow_self⟩
 have hr:Bq a n=Bq b n:=by
  unfold Bq;refine Nat.eq_of_testBit_eq λk=>?_;rw[Og,Og,bit na,bit nb];cases e:n.testBit k with
  |false=>rfl
  |true=>rw[h k e]
 unfold cZ;rw[hv,hr]
theorem FP {n:Nat}{x:Str} (h:BX U n=some x):Az U n=x:=by
 unfold Az;rw[h]
theorem HJ {n:Nat} (h:BX U n=none):Az U n=if cZ U n=[]then ("0" : Str)else Txt.join "|" (cZ U n):=by
 unfold Az;rw[h]
theorem MZ (h:BX U 0=none):Az U 0 = "0" := by
 rw[HJ h]
 have e1:A4 U 0=[]:=by
  unfold A4;rw[map_eq_nil_iff,List.filter_eq_nil_iff];intro m _ z;exact ZW z (Nat.and_zero m)
 have e2:Bq U 0=0:=by
  unfold Bq;omega
 have:cZ U 0=[]:=by
  unfold cZ;rw[e1,Zo e2];rfl
 rw[Zo this]
theorem Kk (nd:(U.map (·.1)).Nodup) {k:Nat} (h:BX U (2 ^ k)=none):Az U (2 ^ k)=IZ (2 ^ k):=by
 rw[HJ h]
 have no:∀m∈AO U,2 ^ k&&&m=0:=λm hm=>by
  obtain⟨⟨j,rfl⟩,h2⟩:=(Cl nd).mp hm;refine Decidable.byContradiction λz=>?_;have:=(D0 k (2 ^ j)).mp z;rw[Nat.testBit_two_pow,decide_eq_true_eq]at this;subst this;exact h2 h
 have e1:A4 U (2 ^ k)=[]:=by
  unfold A4;rw[map_eq_nil_iff,List.filter_eq_nil_iff];intro m hm z;exact ZW z (by rw[Nat.and_comm];exact no m hm)
 have e2:Bq U (2 ^ k)=2 ^ k:=by
  unfold Bq
  have:2 ^ k&&&Ah (AO U)=0:=by
   refine Decidable.byContradiction λz=>?_;have:=(D0 k _).mp z;rw[CG]at this;obtain⟨m,hm,hb⟩:=any_eq_true.mp this;exact(D0 k m).mpr hb (no m hm)
  rw[this,Nat.sub_zero]
 have hp:2 ^ k≠0:=Nat.ne_of_gt (Nat.two_pow_pos k)
 have:cZ U (2 ^ k)=[IZ (2 ^ k)]:=by
  unfold cZ;rw[e1,e2,Zp hp];rfl
 rw[this,Zp (by simp)];rfl
theorem SU (n:Nat):∃c r,(IZ n).cps.toList=c::r/\QN c=true:=by
 rw[Ki];have h:=SQ n;cases e:dg n with
 |nil =>
  exfalso
  have:∀m,dg m≠ []:=λm=>by
   by_cases h1:m<10
   ·rw[Nt h1];simp
   ·rw[Om h1,Nt (Nat.mod_lt m qc)];simp
  exact this n e
 |cons c r =>
  rw[e]at h;simp only[all_cons,Bool.and_eq_true]at h;exact⟨c,r,Zj,h.1⟩
theorem T9 {x:Str} (h:Dv x=true) {c:Nat}{r:List Nat} (e:x.cps.toList=c::r):QN c=false:=by
 unfold Dv at h;simp only[Bool.and_eq_true,decide_eq_true_eq]at h;have:=List.all_eq_true.mp h.2 c (by rw[e];exact ZK ..);simp[IN]at this;simp[QN];omega
theorem Kl {x:Str} (h:Dv x=true) (n:Nat):x≠IZ n:=λz=>by
 obtain⟨c,r,e,hc⟩:=SU n;rw[←z]at e;rw[T9 h e]at hc;cases hc
theorem Ma:(IZ 0)=("0" : Str):=by decide +kernel
theorem UA {n m:Nat} (h:IZ n=IZ m):n=m:=by
 have:=congrArg (λz:Str=>digitsVal z.cps.toList) h;simp only[Ki]at this;rw[show digitsVal (dg n)=n from W.KIN.val_back n,show digitsVal (dg m)=m from W.KIN.val_back m]at this;exact this
theorem HK (D:aO U) {n:Nat}{x:Str} (h:BX U n=some x):Dv x=true:=(D.nm _ (HI D.nd h)).1
theorem UB (D:aO U) {n m:Nat}{x:Str} (h:BX U n=some x) (h':BX U m=some x):n=m:=by
 have h1:=CT D.nd (HI D.nd h);have h2:=CT D.nd (HI D.nd h');simp only at h1 h2;omega
theorem SW {a b:Aa} (A:aO a) (B:aO b) {k:Nat} (h:Az a (2 ^ k)=Az b (2 ^ k)):BX a (2 ^ k)=BX b (2 ^ k):=by
 cases ea:BX a (2 ^ k)with
 |none =>
  cases eb:BX b (2 ^ k)with
  |none=>rfl
  |some y =>
   rw[Kk A.nd ea,FP eb]at h;exact absurd h.symm (Kl (HK B eb) _)
 |some x =>
  cases eb:BX b (2 ^ k)with
  |none =>
   rw[Kk B.nd eb,FP ea]at h;exact absurd h (Kl (HK A ea) _)
  |some y =>
   rw[FP ea,FP eb]at h;rw[h]
noncomputable def By (b:Aa) (r:Str) (n:Nat):Option Str :=
 if n - (n&&&kn b)=0 then some (Az b n)else if r = "bar" \/ r = "leave" then none else some (Az b (if r = "keep" then n else n&&&kn b))
def Db (a b:Aa) (r:Str) (n:Nat):Prop:=(n&&&kn b≠n/\r≠ "keep")\/Az a n≠Az b n
theorem Bi (n m:Nat):n - (n&&&m)=0 ↔ n&&&m=n:=by
 have:=Nat.and_le_left (n:=n) (m:=m);omega
theorem QO {a b:Aa}{r:Str}{n:Nat} (h:By b r n≠some (Az a n)):Db a b r n:=by
 unfold By at h;unfold Db;by_cases h0:n - (n&&&kn b)=0
 ·rw[Zo h0]at h;exact .inr λz=>h (by rw[z])
 ·rw[Zp h0]at h;by_cases hk:r = "keep"
  ·subst hk;rw[Zp qb,Zo rfl]at h;exact .inr λz=>h (by rw[z])
  ·exact .inl ⟨λz=>h0 ((Bi _ _).mpr z),hk⟩
theorem D3 {n m:Nat} (h:n&&&m=n) {k:Nat} (hk:n.testBit k=true):m.testBit k=true:=by
 have:=congrArg (λz=>z.testBit k) h;simp only[Nat.testBit_and,hk,Bool.true_and]at this;exact this
theorem Ie {n:Nat}{k:Nat} (hk:n.testBit k=true):2 ^ k&&&n=2 ^ k:=by
 refine Nat.eq_of_testBit_eq λi=>?_;rw[Nat.testBit_and,Nat.testBit_two_pow];by_cases z:k=i
 ·rw[←z,hk];simp
 ·rw[ZP z,Bool.false_and]
theorem Ig {n k:Nat} (hk:n.testBit k=true):2 ^ k<=n:=Nat.ge_two_pow_of_testBit hk
theorem UC {n m:Nat} (h:n&&&m≠n):∃k,n.testBit k=true/\m.testBit k=false:=by
 refine Classical.byContradiction λz=>h (Nat.eq_of_testBit_eq λi=>?_);rw[Nat.testBit_and];cases e:n.testBit i with
 |false=>rfl
 |true =>
  cases e2:m.testBit i with
  |true=>rfl
  |false=>exact absurd ⟨i,e,e2⟩ z
theorem Mb {a b:Aa} (A:aO a) (B:aO b) {r:Str}{n:Nat} (hn:n&&&kn a=n) (ht:Az a n≠Az b n) (sub:∀ {k},n.testBit k=true->2 ^ k&&&kn a=2 ^ k) (hl:∀m,m&&&kn a=m->m<n->¬ Db a b r m) :
  n=0\/(∃k,n=2 ^ k)\/BX a n≠none\/BX b n≠none:=by
 refine Classical.byContradiction λz=>?_;have z2:∀k,n≠2 ^ k:=λk e=>z (.inr (.inl ⟨k,e⟩));have za:BX a n=none:=Decidable.byContradiction λq=>z (.inr (.inr (.inl q)));have zb:BX b n=none:=Decidable.byContradiction λq=>z (.inr (.inr (.inr q)));refine ht ?_;rw[HJ za,HJ zb,SS A.nd B.nd λk hk=>SW A B ?_];have h1:=Ig hk;have h2:=z2 k;exact Decidable.byContradiction λq=>hl _ (sub hk) qe (.inr q)
theorem Nv {a b:Aa} (A:aO a) (B:aO b) {r:Str} (hr:r∈aU) {n:Nat} (hn:n&&&kn a=n) (h:Db a b r n) (hl:∀m,m&&&kn a=m->m<n->¬ Db a b r m) :
  By b r n≠some (Az a n)/\(n=0\/(∃k,n=2 ^ k)\/BX a n≠none\/BX b n≠none):=by
 have sub:∀ {k},n.testBit k=true->2 ^ k&&&kn a=2 ^ k:=λhk=>Ie (D3 hn hk);by_cases hw:n&&&kn b=n
 ·-- all its bits are known there
  have ht:Az a n≠Az b n:=h.elim (λz=>absurd hw z.1) id;refine⟨?_,?_⟩
  ·unfold By;rw[Zo ((Bi _ _).mpr hw)];exact λz=>ht (Option.some.inj z).symm
  ·exact Mb A B hn ht sub hl
 ·by_cases hk:r = "keep"
  ·have ht:Az a n≠Az b n:=h.elim (λz=>absurd hk z.2) id;refine⟨?_,Mb A B hn ht sub hl⟩;unfold By;rw[Zp (λz=>hw ((Bi _ _).mp z)),hk,Zp qb,Zo rfl];exact λz=>ht (Option.some.inj z).symm
  ·obtain⟨k,h1,h2⟩:=UC hw
   have hb:¬ 2 ^ k&&&kn b=2 ^ k:=λz=>by
    have:=D3 z (Nat.testBit_two_pow_self (n:=k));rw[h2]at this;cases this
   have e:n=2 ^ k:=by
    rcases Nat.lt_or_ge (2 ^ k) n with z |z
    ·exact absurd (.inl ⟨hb,hk⟩) (hl _ (sub h1) z)
    ·have:=Ig h1;omega
   refine⟨?_,.inr (.inl ⟨k,e⟩)⟩;subst e;unfold By;rw[Zp (λz=>hw ((Bi _ _).mp z))];split
   ·exact λz=>nomatch z
   ·have e0:2 ^ k&&&kn b=0:=Decidable.byContradiction λz=>by
     have:=(D0 k _).mp z;rw[h2]at this;cases this
    rw[e0];intro z;have z:=Option.some.inj z;have l0:Az a 0=Az b 0:=Decidable.byContradiction λq=>hl 0 (Nat.zero_and _) (Nat.two_pow_pos k) (.inr q);rw[←l0]at z;cases ea:BX a (2 ^ k)with
    |none =>
     rw[Kk A.nd ea]at z;cases e1:BX a 0 with
     |none =>
      rw[MZ e1,←Ma]at z;have:=UA z;have:=Nat.two_pow_pos k;omega
     |some x =>
      rw[FP e1]at z;exact Kl (HK A e1) _ z
    |some x =>
     rw[FP ea]at z;cases e1:BX a 0 with
     |none =>
      rw[MZ e1,←Ma]at z;exact Kl (HK A ea) _ z.symm
     |some y =>
      rw[FP e1]at z;subst z;have:=UB A ea e1;have:=Nat.two_pow_pos k;omega
theorem UD:bootBuiltins "dict" = some (.type "dict"):=by decide +kernel
theorem Jm:∀(ps kvs:LK),((kvs++ps).map (·.1)).Nodup->GV kvs ps=kvs++ps
 | [],kvs,_=>(Zs _).symm
 |p::r,kvs,h=>by
  have hn:BK kvs p.1=none:=by
   cases e:BK kvs p.1 with
   |none=>rfl
   |some v =>
    have h1:=TD e;rw[Zt,List.nodup_append]at h;exact absurd Zj (h.2.2 _ h1 p.1 (ZK ..))
  show GV (CO kvs p.1 p.2) r=_;rw[Hk _ hn,Jm r,List.append_assoc]
  ·rfl
  ·rw[List.append_assoc];exact h
theorem Nw (nd:(U.map (·.1)).Nodup):GV [] (Ak U)=Ak U:=by
 refine Jm _ [] ?_;rw[List.nil_append];unfold Ak;rw[map_map];have:(U.map λp=>(Sum.inr p.1:Key))=(U.map (·.1)).map Sum.inr:=by rw[map_map];rfl
 show(U.map λp=>(Sum.inr p.1:Key)).Nodup;rw[this];exact List.Pairwise.map _ (λa b h z=>h (by injection z)) nd
noncomputable def Km (U ac:Aa):V:=match U.find? λp=>decide (p∉ ac)with
 |some p=>.str p.1
 |none=>.aK
theorem SY (nd:(ac.map (·.1)).Nodup) (p:Str×Nat):(!decide ((BK (Ak ac) (Sum.inr p.1:Key)).getD .aK=V.int (p.2:Int)))=decide (p∉ ac):=by
 by_cases h:p.1∈ac.map (·.1)
 ·rw[Bg h];show(!decide (V.int (look ac p.1:Int)=V.int (p.2:Int)))=_;by_cases hp:p∈ac
  ·rw[CT nd hp,ZM rfl,ZP (λz=>z hp)];rfl
  ·rw[ZM hp,ZP λz=>hp ?_]
   ·rfl
   ·have z:=V.int.inj z;obtain⟨q,hq,e⟩:=Zq.mp h;have:=CT nd hq;rw[e]at this;have:q=p:=Prod.ext e qe;exact this ▸ hq
 ·rw[B6 h];show(!decide (V.aK=V.int (p.2:Int)))=_;rw[ZP (λz=>nomatch z),ZM (show ¬ p∈ac from λz=>h (Zq.mpr ⟨p,z,rfl⟩))];rfl
section
inductive spBrk (C:W3) (vs:Wy) (H:Hp) (Q:VK) (_E:XK):Prop where
 |mk (k o:W3) (U ac:Aa) (r r2:Str) (cE:vs=[.ref k,.ref o]) (cD:aG C H k U r) (cK:aG C H o ac r2) (d5:ac.length<=10) (fj:(ac.map (·.1)).Nodup) (ir:∀H',aA H H'->Q (Km U ac) H')
noncomputable abbrev Wt:Ww:=["kind", "other", "numbers", "name", "number"]
theorem scBrk:AK Wt ["kind", "other"] (defScope KR):=cH
theorem VU (F:aZ K "broken" "broken" KR f fd) (hD:mg "dict" = none) (T:EE K C) (GR:Mt P w K mg base C "rows" 1 ["self"] (spRows C)):aD P w K mg base aP 2 f fd ["kind", "other"] (spBrk C):=by
 obtain⟨fR,dR,GR,mR,bR⟩:=GR.ex;refine F.m scBrk λvs H Q E h=>?_;obtain⟨k,o,U,ac,r,r2,rfl,KA,KB,gE,nd2,q⟩:=h;refine⟨Zj,λae A outer s hr=>?_⟩;have hu:=Ca hr;have nd:=scBrk.nd;obtain⟨dk,e1,e2,hk⟩:=KA.ins;obtain⟨dk',e3,e4,hk'⟩:=KB.ins
 refine⟨_,AG (Al (i:=2) nd Zj (Or.inl Zj) (BS (NQ Zj) Zj hD UD (AA (Aj (pv 1) T.cl mR GR hr bR .nil AL) AD)))
  (AG (Cp PassesOwn.never rfl (A5 (Aj (pv 0) T.cl mR GR hr bR .nil AL)) (Bd rfl (AV (AT (i:=3) nd rfl (Or.inl rfl)) (AV (AT (i:=4) nd rfl (Or.inl rfl)) BE)))
   (AF (Au (AQ CN (Qs hu (pv 2) (pv 3) ⟨rfl,rfl,rfl,rfl⟩) (pv 4) (AX _)) (AF (AN (pv 3))) Ab)))
  (AF (AN Bj))),?_⟩
 refine⟨_,Zj,o,dk',_,Zj,hk',(BO _ _ _),o,ac,r2,Zj,KB,λl as H1 s1 hl hts=>?_⟩
 have a0:as.length=(Ak ac).length:=by
  have:=hts.length;unfold BR at this;rw[DW,this,AE]
 refine⟨l,as,Ak ac,Zj,aJ.of hl,a0,by rw[DW];omega,λi b q hb hq=>?_,λd hd=>?_⟩
 ·obtain⟨p,hp,ao⟩:=C1 hts hb;obtain⟨p',hp',rfl⟩:=Lv hq;unfold BR at hp;rw[ZG,hp']at hp;cases hp;exact bA.of ao
 rw[Nw nd2];have s2:=s1.trans (AC (aA.refl _) hd (o:=HO.dK (Ak ac)));have hd2:=AB (H:=H1) (a:=d) (o:=HO.dK (Ak ac));generalize upd H1 d (HO.dK (Ak ac))=H2 at s2 hd2 ⊢;refine⟨_,Zj,k,dk,_,Zj,s2 _ _ hk,(BO _ _ _),k,U,r,Zj,KA.same s2,λl3 bs H3 s3 hl3 eA=>?_⟩;refine⟨l3,Zj,⟨_,aJ.of hl3⟩,B2 (K:=K) (a:=l3) (xs:=bs.map V.ref) (λi σ H4=>(∃v3 v4,σ=[some (.ref k),some (.ref o),some (.ref d),v3,v4])/\H4=H3/\(U.take i).find? (λp=>decide (p∉ ac))=none) ⟨⟨_,_,Zj⟩,Zj,Zj⟩ (λi σ H4 _ e=>e.2.1 ▸ aJ.of hl3) ?_ ?_⟩
 ·rintro i v σ H4 hi ⟨⟨v3,v4,rfl⟩,rfl,hf⟩;obtain⟨b,p,rfl,_,hp,ao⟩:=Bx eA hi;refine⟨b,_,Zj,bA.of ao,Zj,_,_,Zj,_,_,Zj,Zj,?_⟩;refine⟨_,Zj,d,Zj,?_,_,Zj,BK (Ak ac) (Sum.inr p.1:Key),.inl ⟨Ak ac,Sum.inr p.1,.inl (s3 _ _ hd2),Zj,Zj⟩,_,Zj,?_,?_⟩
  ·exact .inl ⟨_,.inl (s3 _ _ hd2)⟩
  ·by_cases hm:p.1∈ac.map (·.1)
   ·rw[Bg hm];rfl
   ·rw[B6 hm];rfl
  ·refine⟨_,Zj,?_⟩;rw[SY nd2 p];by_cases aq:p∈ac
   ·rw[ZP (λz=>z aq)];exact An ⟨⟨_,_,Zj⟩,Zj,Jl hf hp (ZP λz=>z aq)⟩
   ·rw[ZM aq];refine Ay ⟨_,Zj,?_⟩
    have e:Km U ac=V.str p.1:=by
     unfold Km;rw[Ol hf hp (ZM aq)]
    rw[←e];exact q _ (s2.trans s3)
 ·rintro σ H4 ⟨⟨v3,v4,rfl⟩,rfl,hf⟩;rw[AE,show bs.length=U.length by have:=eA.length;unfold BR at this;rw[this,AE],ZD]at hf
  have e:Km U ac=.aK:=by
   unfold Km;rw[hf]
  show Q .aK _;rw[←e];exact q _ (s2.trans s3)
end
noncomputable def gV3 (vs zs:Wy):Wy:=match vs,zs with | [a,b],[c]=>[a,b,c] |_,_=>[]
noncomputable def gU3 (us ws:Wx):Wx:=match us,ws with | [a,b],[c]=>[a,b,c] |_,_=>[]
structure Nx (P:Program) (w:World) (K:FG) (mg:SV) (base:Heap) (C cA:W3):Prop where
 T:EE K C
 cls:mg "Kind" = some (.ref C)
 dH:KIsi K C
 make:∃f fd,Mk K C f/\aD P w K mg base aP 6 f fd ["self", "rows", "rest"] (spInit C)/\aD P w K mg base (eN P w) 6 f fd ["self", "rows", "rest"] (spInitB K C cA)/\(∃gI,Jv K fd ["self", "rows", "rest"] ["rest"] gI gV3)
theorem i5.of {E:XK}{cA:W3}{v:V} (s:aA H H') (h:i5 H E cA v):i5 H' E cA v:=λe d H2 s2 h1 h2=>h e d H2 (s.trans s2) (none_of s h1) (none_of s h2)
section
variable {cM cA cR:W3}
structure Gon (H:Hp) (U:Aa) (l:W3) (bs:List W3) (more:List (Str×Th)):Prop where
 hl:H l=some (.lst (bs.map V.ref))
 hP:Paired (bH H) bs more
 DO:aO U
 pos:0<U.length
 few:U.length+more.length<=10
inductive spGon (K:FG) (C cA:W3) (vs:Wy) (H:Hp) (Q:VK) (E:XK):Prop where
 |mk (k:W3) (U:Aa) (r:Str) (v:V) (cE:vs=[.ref k,v]) (cD:aG C H k U r) (cK:((cX K "list" H v/\i5 H E cA .aK)\/∃(l:W3) (bs:List W3) (more:List (Str×Th)),v=.ref l/\Gon H U l bs more /\     ((BN (AR U++more)/\r∈aU/\∀q H',aA H H'->aG C H' q (Ae (AR U++more)) r->Q (.ref q) H') \/      ∃(n:Nat) (b:W3),n<more.length/\BN (AR U++more.take n)/\bs[n]?=some b/\BadRow K (Ae (AR U++more.take n)) H (.ref b)/\i5 H E cA (.int ((U.length+n:Nat):Int)))))
theorem WJ:AK ["kind", "rows"] ["kind", "rows"] (defScope Ft):=cH
theorem D4 {α β:Type}{F:α->β->Prop}:∀ {xs:List α}{ys:List β}{xs':List α}{cS:List β},Paired F xs ys->Paired F xs' cS->Paired F (xs++xs') (ys++cS)
 | [],[],_,_,.nil,h=>h
 |_::_,_::_,_,_,.cons p r,h=>.cons p (D4 r h)
theorem VW (F:aZ K "gone_on" "gone_on" Ft f fd) (B:Bl mg) (KO:Nx P w K mg base C cA) (RX:Ke P w K mg base cM cA) (GR:Mt P w K mg base C "rows" 1 ["self"] (spRows C)) (GT:Mt P w K mg base C "rest" 1 ["self"] (spRest C)):aD P w K mg base (eN P w) 8 f fd ["kind", "rows"] (spGon K C cA):=by
 obtain⟨fR,dR,GR,mR,bR⟩:=GR.ex;obtain⟨fT,dT,GT,mT,bT⟩:=GT.ex;obtain⟨fX,dX,MX,GX,bX⟩:=RX.make;have mX:=RX.cls;obtain⟨fI,dI,MI,GI,GIB,gI,kbI⟩:=KO.make;have mC:=KO.cls;have T:=KO.T;refine F.n WJ λvs H Q E h=>?_;obtain⟨k,U,r,v,rfl,KA,h⟩:=h;refine⟨Zj,λae A outer s hr=>?_⟩;have cP:aH 1 _:=hr.mono qc;have gd:aH 3 _:=hr.mono qc;have rz:=J7 (P:=P) (w:=w) (K:=K) (mg:=mg) (base:=base) (N:=["kind", "rows"]) (qual := "gone_on") (scope:=defScope Ft) (f:=f) (cd:=ae) (A:=A) (outer:=outer) (s:=s) (H:=H) (E:=E);have ps:=UU (P:=P) (w:=w) (K:=K) (mg:=mg) (base:=base) (N:=["kind", "rows"]) (qual := "gone_on") (scope:=defScope Ft) (f:=f) (cd:=ae) (A:=A) (outer:=outer) (s:=s) (H:=H) (E:=E);obtain⟨dk,e1,e2,hk⟩:=KA.ins
 refine⟨_,AG (Au (BH (BA (BJ K Zj Zj B.dH Zj B.list Du (pv 1)))) (AF (Fe rz Zj MX.cls (Fd MX GX gd Zj mX bX .nil AL (AA Bj AD)))) Ab)
  (AF (AN (Pg MI (GI.up.or GIB) hr rfl mC kbI ps (AA (AW CB (Aj (pv 0) T.cl mR GR cP bR .nil AL) (pv 1)) AD) (FS (Aj (pv 0) T.cl mT GT cP bT .nil AL) HW)))),?_⟩
 rcases h with⟨hv,hU⟩ |⟨l,bs,more,rfl,G,h⟩
 ·obtain⟨t,ht,hkk⟩:=hv.ty;exact⟨_,Zj,_,_,_,false,Zj,ht,hkk,_,Zj,Ay (Gr (te:=tC .aK) MX.cls RX.st (.inl Zj) (aA.refl _) hU (λ_ z=>z))⟩
 ·have az:=G.hP.length;have hfew:=G.few;refine⟨_,Zj,_,_,_,true,Zj,.lst G.hl,Zj,_,Zj,An ?_⟩;refine⟨_,Zj,k,dk,_,Zj,hk,(BO _ _ _),k,U,r,Zj,KA,λl1 as H1 s1 hl1 has=>?_⟩
  have a0:as.length=U.length:=by
   have:=has.length;unfold BR at this;rw[this,AE]
  refine⟨_,rfl,l1,l,as.map V.ref,bs.map V.ref,rfl,rfl,hl1,s1 _ _ G.hl,Nat.le_of_lt (Ac (by rw[AE,AE];omega)),λl2 d9=>?_⟩;have s2:=s1.trans (AC (aA.refl _) d9 (o:=HO.lst (as.map V.ref++bs.map V.ref)));have iw:=AC (aA.refl _) d9 (o:=HO.lst (as.map V.ref++bs.map V.ref));have h2:=AB (H:=H1) (a:=l2) (o:=HO.lst (as.map V.ref++bs.map V.ref));generalize upd H1 l2 (HO.lst (as.map V.ref++bs.map V.ref))=H2 at s2 iw h2 ⊢;refine⟨_,rfl,k,dk,_,rfl,s2 _ _ hk,(BO _ _ _),k,U,r,rfl,KA.same s2,?_⟩;intro p dp hp hdp bc;have sN:=DZ (D:=C) hp hdp bc;have s3:=s2.trans sN;have h3:=sN _ _ h2;have iz:=AB (H:=upd H2 dp (.own p)) (a:=p) (o:=HO.ins C dp []);have hP3:Paired (bH (upd (upd H2 dp (.own p)) p (.ins C dp []))) (as++bs) (AR U++more):=D4 (MH (aB.same (iw.trans sN) has)) (Aw (aQ.of s3) G.hP);rw[←Zt]at h3;rcases h with⟨RO,aw,q⟩ |⟨n,b,hn,RO,hb,dl,hU⟩
  ·refine .inl ⟨p,dp,l2,AR U++more,r,Zj,iz,⟨as++bs,h3,hP3⟩,?_,?_,RO,aw,λH4 sd KA4=>⟨Zj,q p H4 (s2.trans (CJ sN hp sd)) KA4⟩⟩
   ·have:=G.pos;unfold AR;rw[ZJ,AE];omega
   ·unfold AR;rw[ZJ,AE];omega
  ·refine .inr ⟨p,dp,.ref l2,.str r,Zj,iz,.inr ⟨AR U++more.take n,⟨⟨l2,_,.ref b,Zj,h3,?_,λi rw_ hi=>?_,?_,dl.same s3⟩,RO⟩,?_⟩⟩
   ·rw[AE,ZJ];omega
   ·have gM:(AR U++more)[i]?=some rw_:=by
     rw[List.getElem?_append]at hi ⊢;split
     ·rename_i hlt;rw[Zo hlt]at hi;exact hi
     ·rename_i hlt;rw[Zp hlt,List.getElem?_take]at hi;split at hi
      ·exact hi
      ·cases hi
    obtain⟨hil,_⟩:=Z8.mp gM;have iA:=hP3.length;have fZ:(as++bs)[i]?=some (as++bs)[i]:=Z7 qe;obtain⟨y,hy,hF⟩:=C1 hP3 fZ;rw[gM]at hy;cases hy;exact⟨_,by rw[ZG,fZ];rfl,hF⟩
   ·have e:(AR U++more.take n).length=as.length+n:=by
     unfold AR;rw[ZJ,AE,Zz,a0];omega
    rw[e,ZG,List.getElem?_append_right qe,show as.length+n - as.length=n by omega,hb];rfl
   ·have e:(AR U++more.take n).length=U.length+n:=by
     unfold AR;rw[ZJ,AE,Zz];omega
    rw[e];exact hU.of s3
end
noncomputable def Bc (n:Nat):List Nat:=(C0 n).map λk=>2 ^ k
theorem VX {xs ys:List Int} (h1:xs.Pairwise (· <= ·)) (h2:ys.Pairwise (· <= ·)) (p:xs.Perm ys):xs=ys:=p.eq_of_pairwise (λa b _ _ h h'=>Int.le_antisymm h h') h1 h2
noncomputable def CY (xs:List Nat):List Int:=xs.map λ(n:Nat)=>(n:Int)
theorem Gs (xs:List Nat):AU xs=(CY xs).map V.int:=by unfold AU CY;rw[map_map];rfl
theorem Ih:∀(ks acc:List Key) (x:Key),x∈CD acc ks ↔ x∈ks\/x∈acc
 | [],acc,x=>by simp[CD]
 |k::r,acc,x=>by
  show x∈CD (Em acc k) r ↔ _;rw[Ih r,Rc,mem_cons];constructor
  ·rintro (h |h |h)
   ·exact .inl (.inr h)
   ·exact .inl (.inl h)
   ·exact .inr h
  ·rintro ((h |h) |h)
   ·exact .inr (.inl h)
   ·exact .inl h
   ·exact .inr (.inr h)
theorem F4:∀(ks acc:List Key),acc.Nodup->(CD acc ks).Nodup
 | [],acc,h=>h
 |k::r,acc,h=>F4 r _ (NU h k)
theorem SZ {a b:Nat} (h:(a:Int)=(b:Int)):a=b:=Int.ofNat.inj h
theorem UE (ns:List Nat):∃ms:List Nat,CD [] ((CY ns).map Sum.inl)=(CY ms).map Sum.inl/\ms.Nodup/\(∀x,x∈ms ↔ x∈ns)/\ms.length<=ns.length:=by
 have hm:=λx=>Ih ((CY ns).map Sum.inl) [] x;have hn:=F4 ((CY ns).map Sum.inl) [] nodup_nil;have hl:=IG ((CY ns).map Sum.inl) [];generalize CD [] ((CY ns).map Sum.inl)=ks at hm hn hl
 have ex:∀ks:List Key,(∀x∈ks,∃n:Nat,n∈ns/\x=Sum.inl (n:Int))->∃ms:List Nat,ks=(CY ms).map Sum.inl:=λks=>by
  induction ks with
  |nil=>exact λ_=>⟨[],rfl⟩
  |cons k r ih =>
   intro h;obtain⟨n,_,e⟩:=h k (ZK ..);obtain⟨ms,em⟩:=ih λx hx=>h x (ZS _ hx);exact⟨n::ms,by rw[e,em];rfl⟩
 have fA:∀ {n:Nat}{l:List Nat},(Sum.inl (n:Int):Key)∈(CY l).map Sum.inl ↔ n∈l:=λ{n l}=>by
  unfold CY;rw[map_map,Zq];constructor
  ·rintro⟨m,hm,e⟩;have:(m:Int)=(n:Int):=by injection e
   exact SZ this ▸ hm
  ·exact λh=>⟨n,h,Zj⟩
 obtain⟨ms,em⟩:=ex ks λx hx=>by
  rcases (hm x).mp hx with z |z
  ·obtain⟨i,hi,rfl⟩:=Zq.mp z;obtain⟨n,hn,rfl⟩:=Zq.mp hi;exact⟨n,hn,Zj⟩
  ·cases z
 subst em;refine⟨ms,Zj,?_,λx=>?_,?_⟩
 ·unfold CY at hn;rw[map_map]at hn;exact(pairwise_map.mp hn).imp λh e=>h (by rw[e])
 ·rw[←fA (l:=ms),hm,fA];exact⟨λh=>h.elim id (λz=>by cases z),.inl⟩
 ·unfold CY at hl;simpa using hl
theorem Sa {ms:List Nat}{ns:List Int} (nd:ms.Nodup) (p:ns.Perm (CY ms)) (h:ns.Pairwise (· <= ·)):∃ts:List Nat,ns=CY ts/\ts.Pairwise (· < ·)/\∀x,x∈ts ↔ x∈ms:=by
 have hp:=List.mergeSort_perm ms λa b=>decide (a<=b);have hs:(ms.mergeSort λa b=>decide (a<=b)).Pairwise (· <= ·):=(List.pairwise_mergeSort (le:=λa b=>decide (a<=b)) (λa b c h1 h2=>ZM (Nat.le_trans (ZW h1) (ZW h2))) (λa b=>by rcases Nat.le_total a b with z |z <;> simp[z]) ms).imp λh=>ZW h;refine⟨ms.mergeSort λa b=>decide (a<=b),VX h ?_ (p.trans ?_),?_,λx=>hp.mem_iff⟩
 ·unfold CY;rw[pairwise_map];exact hs.imp λh=>Int.ofNat_le.mpr h
 ·exact(hp.map _).symm
 ·have gp:(ms.mergeSort λa b=>decide (a<=b)).Nodup:=hp.nodup_iff.mpr nd;exact(hs.and gp).imp λh=>Nat.lt_of_le_of_ne h.1 h.2
section
def Kn:Sp:=λvs H Q _=>∃n:Nat,vs=[.int (n:Int)]/\∀l H',aA H H'->H' l=some (.lst (AU (Bc n)))->Q (.ref l) H'
noncomputable def C8 (n i:Nat):List Nat:=((List.range i).filter λk=>n.testBit k).map λk=>2 ^ k
theorem DK (n i:Nat):C8 n (i+1)=C8 n i++(if n.testBit i then [2 ^ i]else []):=by
 unfold C8;rw[List.range_succ,filter_append,Zt,filter_cons,filter_nil];split <;> rfl
theorem Sb (F:aZ K "_law_bits_of" "_law_bits_of" Dt f fd) (B:Bl mg):aD P w K mg base aP 1 f fd ["_law_number"] Kn:=by
 refine F.m Ly λvs H Q E h=>?_;obtain⟨n,rfl,k⟩:=h;refine⟨Zj,λae A outer s hr=>?_⟩
 refine⟨_,AF (AN (Bf ["_law_number"] [some 0] qd qb qd Zj (Ch Zj B.range (AA AI AD))
  (λ_ _ _ _ _ _=>B4 (AQ DP (AW Cq (AW Mq (pv 1) (pv 0)) AI) AI (AX _)))
  (λ_ _ _ _ _ _=>AW F6 AI (pv 0)))),?_⟩
 refine⟨42,Zj,qc,qc,?_⟩;refine Cy (lo:=0) (n:=42) (λi ys H2=>ys=AU (C8 n i)/\i<=42/\H2=H) ⟨Zj,qc,Zj⟩ ?_ ?_ ?_
 ·rintro i ys H2 ⟨e,hi,_⟩;have:=ZT (λk=>n.testBit k) (List.range i);rw[length_range]at this;rw[e];unfold AU C8;rw[AE,AE];omega
 ·rintro i ys H2 hi ⟨e,_,rfl⟩;refine⟨_,Zj,_,Zj,_,_,Zj,Zj,qe,_,_,Zj,Zj,?_⟩;refine⟨Zj,_,Zj,?_⟩;refine BI (λh=>?_) (λh=>?_)
  ·have hb:n.testBit i=true:=by rw[←Ej];exact h
   refine⟨_,Zj,_,_,Zj,Zj,⟨qe,by first |decide |omega,by first |decide |omega⟩,?_,qe,Zj⟩;rw[DK,hb,e];unfold AU;rw[Zt];congr 1;simp
  ·have hb:n.testBit i=false:=by rw[←Ej];exact Bool.eq_false_iff.mpr h
   refine⟨?_,qe,Zj⟩;rw[DK,hb,e];simp
 ·rintro ys H2 ⟨e,_,rfl⟩ l hl;refine k l _ (AC (aA.refl _) hl) ?_;rw[AB,e];rfl
end
def KX (H H':Hp):Prop:=∀b o,H b=some o->(∀C dx,o≠Ey b C dx)->H' b=some o
theorem KX.refl (H:Hp):KX H H:=λ_ _ e _=>e
theorem KX.trans {H1 H2:Hp} (a:KX H H1) (b:KX H1 H2):KX H H2:=λc o e h=>b c o (a c o e h) h
theorem KX.of (s:aA H H'):KX H H':=λb o e _=>s b o e
theorem KX.exc {H1:Hp}{e' C':W3}{dx:Option W3} (s1:aA H H1) (he:H1 e'=some (Ey e' C' dx)):KX H (del H1 e'):=λb o eb hn=>by
 have eb1:=s1 _ _ eb;have ij:b≠e':=λz=>by subst z;rw[he]at eb1;cases eb1;exact hn _ _ rfl
 unfold del;rw[Zp ij];exact eb1
theorem aG.kx {p:W3}{r:Str} (s:KX H H') (h:aG C H p U r):aG C H' p U r:=by
 obtain⟨dx,d1,o1,d2,o2,a,b,c⟩:=h.ex;exact⟨⟨dx,d1,o1,d2,o2,s _ _ a (λ_ _ z=>nomatch z),s _ _ b (λ_ _ z=>nomatch z),s _ _ c (λ_ _ z=>nomatch z)⟩⟩
theorem UF {x qual:Str}{st:Stmt}{N ps:Ww}{k:Nat}{sp:Sp} (F:aZ K x qual st f fd) (S:AK N ps (defScope st)) (len:∀vs H Q E,sp vs H Q E->vs.length=ps.length)
  (bn:∀(ae:Value) (A:Around) (outer:List Env) (s:W4) (H:Hp) (vs:Wy) (Q:VK) (E:XK),aH k (A.deeper (PyProof.Rows.envOfC qual (defScope st) s.heap.objs.size f ae))->sp vs H Q E ->
   ∃t,dP (BF aP P w K mg base N qual (defScope st) f ae A outer s H E) (defBody st) t/\t { nx:=λ_ H'=>Q .aK H',rt:=Q } (Bo N vs) H):aD P w K mg base aP (k+1) f fd ps sp:=by
 obtain⟨oc,od,kV,doc,pm,an,ae,ct,eV,rfl,lk,eo⟩:=F.ex;exact Kz lk eo S len λA outer s H vs Q E hr fv=>bn ae A outer s H vs Q E hr fv
noncomputable def WK:Option Str->V
 |some x=>.str x
 |none=>.aK
theorem Jn (n:Nat):plain (n:Int)=n:=by
 unfold plain;rw[Zo qe];omega
theorem Mc (U:Aa) (n:Nat):Ao U (n:Int)=n - (n&&&kn U):=by
 unfold Ao;rw[Jn]
section
variable {cM cA cR:W3}
def Sc (C:W3):Sp:=λvs H Q _=>∃(k:W3) (n:Nat) (U:Aa) (r:Str),vs=[.ref k,.int (n:Int)]/\aG C H k U r/\aO U/\n<2 ^ 20/\∀H',KX H H'->Q (WK (By U r n)) H'
theorem scTby:AK ["kind", "number", "value"] ["kind", "number"] (defScope Fu):=cH
theorem VY (F:aZ K "text_by" "text_by" Fu f fd) (B:Bl mg) (VT:Kc K VC) (VI:KIsi K VC) (mV:mg "Value" = some (.ref VC)) (hI:W.kitOne K (.type "int") (.ref VC)=some false) (mL:mg "BadRest" = some (.ref cR)) (xL:A1 K cR=true) (sL:(EN K cR).contains (.ref cR)=true)
  (GM:FnR P w K mg base "made" 6 ["kind", "number"] (spMade C VC cR)) (GX:Fn P w K mg base "text_of" 5 ["value"] (spTxt C VC)):aD P w K mg base aP 7 f fd ["kind", "number"] (Sc C):=by
 obtain⟨fM,dM,GM,mM,kM,bM⟩:=GM.ex;obtain⟨fX,dX,GX,mX,kX,bX⟩:=GX.ex;refine UF F scTby (λvs H Q E h=>?_) (λae A outer s H vs Q E hr h=>?_)
 ·obtain⟨k,n,U,r,rfl,_⟩:=h;rfl
 ·obtain⟨k,n,U,r,rfl,KA,D,hn,q⟩:=h;have hr5:aH 5 _:=hr.mono qc;have nd:=scTby.nd;have own:=TM (CX:=aP) (P:=P) (w:=w) (K:=K) (mg:=mg) (base:=base) (N:=["kind", "number", "value"]) (qual := "text_by") (scope:=defScope Fu) (f:=f) (cd:=ae) (A:=A) (outer:=outer) (s:=s) (H:=H) (E:=E)
  refine⟨_,AG (RG (tb:=λE=>Sw (Gx (spMade C VC cR) [] E (Ag (D9 0) (Ag (D9 1) CA))) (Cn 2)) (th:=λCC _ _ D _ H=>CC=cR/\D.rt .aK H) own (λP0 xe E hx=>?_) (λCC dx=>?_))
   (AF (AN (Bn (BA (AZ (Gn K rfl) rfl B.dH Gh (AA (pv 2) (AA (BY (v:=.ref VC) rfl mV rfl) AD)))) (AM GX hr5 rfl mX kX bX .nil AL (AA (pv 2) AD)) Bj))),?_⟩
  ·exact AF (Al (i:=2) nd Zj (Or.inl Zj) (AM GM hr Zj mM kM bM .nil hx (AA (pv 0) (AA (pv 1) AD))))
  ·rintro aa s1 σ H1 D e oe T oT c I ⟨rfl,hq⟩;refine(RV (X:=BF aP P w K mg base ["kind", "number", "value"] "text_by" (defScope Fu) f ae A outer s H E) (x := "BadRest") (Dn:=CC) (tb:=λ_=>Oy (tC .aK)) xL xL Zj mL sL (λe oe T oT c=>AF (AN Bj))) aa s1 σ H1 D e oe T oT c I hq
  ·have n40:(2:Nat) ^ 40=1099511627776:=by decide
   have n20:(2:Nat) ^ 20=1048576:=by decide
   have es:=Mc U n;have ep:=Jn n;refine⟨_,Zj,_,Zj,k,U,r,(n:Int),Zj,KA,Of D.lt,qe,qe,?_⟩;rw[es,ep];by_cases hb:n - (n&&&kn U)≠0/\r = "bar"
   ·refine .inl ⟨hb.1,hb.2,λe0 d0 H1 s1 he0 au bc hE hX=>⟨cR,Zj,λe' he'=>⟨Zj,?_⟩⟩⟩;have:=q _ (KX.exc s1 he');rw[show By U r n=none by unfold By;rw[Zp hb.1,Zo (.inl hb.2)]]at this;exact this
   ·by_cases hl:n - (n&&&kn U)≠0/\r = "leave"
    ·refine .inr (.inl ⟨hb,hl.1,hl.2,λH1 s1=>?_⟩);refine⟨_,Zj,_,_,_,false,Zj,.int _,hI,_,Zj,An ?_⟩;have:=q _ (KX.of s1);rw[show By U r n=none by unfold By;rw[Zp hl.1,Zo (.inr hl.2)]]at this;exact this
    ·refine .inr (.inr ⟨hb,hl,λv H1 s1 hV=>?_⟩);obtain⟨dv,hv⟩:=id hV;refine⟨_,Zj,_,_,_,true,Zj,VI.ty hv,EZ K VC,_,Zj,Ay ?_⟩
     have hm:(if r = "keep" then n else n - (n - (n&&&kn U)))<=n:=by
      split
      ·exact Zx _
      ·exact Nat.sub_le ..
     refine⟨_,Zj,v,k,_,U,r,Zj,hV,KA.same s1,D.len,D.nd,qe,Kj D qe,λH2 s2=>?_⟩;have:=q _ (KX.of (s1.trans s2))
     have e:By U r n=some (Az U (if r = "keep" then n else n - (n - (n&&&kn U)))):=by
      have hle:=Nat.and_le_left (n:=n) (m:=kn U);unfold By;by_cases h0:n - (n&&&kn U)=0
      ·rw[Zo h0,h0,Nat.sub_zero,ite_self]
      ·rw[Zp h0,Zp (λz=>z.elim (λy=>hb ⟨h0,y⟩) (λy=>hl ⟨h0,y⟩)),show n - (n - (n&&&kn U))=n&&&kn U by omega]
     rw[e]at this;exact this
end
theorem VZ:bootBuiltins "set" = some (.type "set"):=by decide +kernel
theorem Md (n m:Nat):decide (V.int (Builtin.bitAnd (n:Int) (Builtin.bitNot (m:Int)))=V.int 0)=decide (n&&&m=n):=by
 rw[E8];have:=Bi n m;by_cases h:n&&&m=n
 ·rw[ZM h,this.mpr h];rfl
 ·rw[ZP h,ZP λz=>h (this.mp ?_)];have:=V.int.inj z;omega
structure UG (a b:Aa) (ts:List Nat):Prop where
 asc:ts.Pairwise (· < ·)
 sub:∀n∈ts,n&&&kn a=n
 all:∀n,n&&&kn a=n->(n=0\/(∃k,n=2 ^ k)\/BX a n≠none\/BX b n≠none)->n∈ts
 len:ts.length<=60
section
variable {cM cA cR:W3}
def Sd (C:W3):Sp:=λvs H Q _=>∃(k o:W3) (a b:Aa) (r r2:Str),vs=[.ref k,.ref o]/\aG C H k a r/\aG C H o b r2/\aO a/\aO b/\∀l ts H',aA H H'->H' l=some (.lst (AU ts))->UG a b ts->Q (.ref l) H'
noncomputable abbrev Wu:Ww:=["kind", "other", "known", "bits", "named"]
theorem scTel:AK Wu ["kind", "other"] (defScope CW):=cH
theorem Va (F:aZ K "telling_numbers" "telling_numbers" CW f fd) (B:Bl mg) (hS:mg "set" = none) (T:EE K C) (GK:Mt P w K mg base C "known" 2 ["self"] (spKnown C)) (GR:Mt P w K mg base C "rows" 1 ["self"] (spRows C)):aD P w K mg base aP 3 f fd ["kind", "other"] (Sd C):=by
 obtain⟨fK,dK,GK,mK,bK⟩:=GK.ex;obtain⟨fR,dR,GR,mR,bR⟩:=GR.ex;refine F.m scTel λvs H Q E h=>?_;obtain⟨k,o,a,b,r,r2,rfl,KA,KB,DA,DB,q⟩:=h;refine⟨Zj,λae A outer s hr=>?_⟩;have cP:aH 1 _:=hr.mono qc;have nd:=scTel.nd;obtain⟨dk,e1,e2,hk⟩:=KA.ins;obtain⟨dk',e3,e4,hk'⟩:=KB.ins;have gK:∀ {x y:W3}{z:Str}{m:Str},¬ m = "rule" -> ¬ m = "firsts" -> ¬ m = "numbers" -> (Gk x y z).lookup m=none:=λh1 h2 h3=>BO _ _ _ h1 h2 h3
 refine⟨_,AG (Al (i:=2) nd Zj (Or.inr Zj) (Aj (pv 0) T.cl mK GK hr bK .nil AL))
  (Bb (FZ (i:=3) nd rfl qd ["known"] [some 2] qd qb qd rfl (Ch rfl B.range (AA (Qr PySem.F.plainAttrs_int PySem.F.slot_int_bit_length PySem.F.type_int_bit_length Fc (pv 2)) AD)) (λ_ _ _ _ _ _=>B4 (AQ DP (AW Cq (AW Mq (pv 1) (pv 0)) AI) AI (AX _))) (λ_ _ _ _ _ _=>AW F6 AI (pv 0)))
  (Bb (LB (i:=4) nd rfl qd ["known"] [some 2] qd qb qd qd rfl (A5 (AW CB (Aj (pv 0) T.cl mR GR cP bR .nil AL) (Aj (pv 1) T.cl mR GR cP bR .nil AL))) (λ_ _ _ _ _ _=>B4 (AQ DP (AW Cq (pv 1) (Kw Mr (pv 2))) AI (AX _))) (λ_ _ _ _ _ _=>pv 1))
  (AF (AN (AZ (KL rfl) rfl B.sorted Gi (AA (BS (Ps rfl) rfl hS VZ (AA (AW CB (AW CB (A6 (AA AI AD)) (pv 3)) (pv 4)) AD)) AD)))))),?_⟩
 refine⟨_,Zj,k,dk,_,Zj,hk,gK qb qb qb,k,a,r,Zj,KA,λH1 s1=>?_⟩;rw[MF,show Ah (a.map (·.2))=kn a from rfl];have hkn:=Of DA.lt;have hib:=IQ hkn;refine⟨λσ H'=>(∃p,σ=[some (.ref k),some (.ref o),some (.int (kn a:Nat)),some (.ref p),none]/\H' p=some (.lst (AU (C8 (kn a) (Builtin.Int.intBits (kn a:Nat))))))/\aA H H',λR hR=>?_,?_⟩
 ·refine⟨_,Zj,Zj,_,Zj,Zj,_,Zj,qe,qe,?_⟩;rw[Int.toNat_natCast];refine Cy (lo:=0) (n:=Builtin.Int.intBits (kn a:Nat)) (λi ys H2=>ys=AU (C8 (kn a) i)/\i<=20/\H2=H1) ⟨Zj,qc,Zj⟩ ?_ ?_ ?_
  ·rintro i ys H2 ⟨e,hi,_⟩;have:=ZT (λk=>(kn a).testBit k) (List.range i);rw[length_range]at this;rw[e];unfold AU C8;rw[AE,AE];omega
  ·rintro i ys H2 hi ⟨e,_,rfl⟩;refine⟨_,Zj,_,Zj,_,_,Zj,Zj,qe,_,_,Zj,Zj,?_⟩;refine⟨Zj,_,Zj,?_⟩;refine BI (λh=>?_) (λh=>?_)
   ·have hb:(kn a).testBit i=true:=by rw[←Ej];exact h
    refine⟨_,Zj,_,_,Zj,Zj,⟨qe,by first |decide |omega,by first |decide |omega⟩,?_,qe,Zj⟩;rw[DK,hb,e];unfold AU;rw[Zt];congr 1;simp
   ·have hb:(kn a).testBit i=false:=by rw[←Ej];exact Bool.eq_false_iff.mpr h
    refine⟨?_,qe,Zj⟩;rw[DK,hb,e];simp
  ·rintro ys H2 ⟨e,_,rfl⟩ l hl;exact hR _ _ ⟨⟨l,Zj,by rw[AB,e]⟩,AC s1 hl⟩
 rintro σ H2 ⟨⟨p,rfl,hp⟩,s2⟩;clear s1
 have a0:(BR a++BR b).length<=20:=by
  have h1:=DA.len;have h2:=DB.len;unfold BR;rw[ZJ,AE,AE];omega
 refine⟨λσ H'=>(∃p4,σ=[some (.ref k),some (.ref o),some (.int (kn a:Nat)),some (.ref p),some (.ref p4)]/\H' p4=some (.lst (AU (((a++b).map (·.2)).filter λn=>decide (n&&&kn a=n)))))/\aA H2 H',λR hR=>?_,?_⟩
 ·refine⟨_,Zj,k,dk,_,Zj,s2 _ _ hk,gK qb qb qb,k,a,r,Zj,KA.same s2,λl3 as H3 s3 hl3 has=>?_⟩;have s23:=s2.trans s3;refine⟨_,Zj,o,dk',_,Zj,s23 _ _ hk',gK qb qb qb,o,b,r2,Zj,KB.same s23,λl4 bs H4 s4 hl4 eA=>?_⟩
  have hT:aB H4 (as++bs) (BR (a++b)):=by
   have:BR (a++b)=BR a++BR b:=by unfold BR;rw[Zt]
   rw[this];exact D4 (aB.same s4 has) eA
  have hln:(as++bs).length=(a++b).length:=by
   have:=hT.length;unfold BR at this;rw[this,AE]
  have hl20:(a++b).length<=20:=by
   unfold BR at a0;rw[ZJ,AE,AE]at a0;rw[ZJ];omega
  refine⟨l3,l4,as.map V.ref,bs.map V.ref,Zj,Zj,s4 _ _ hl3,hl4,Nat.le_of_lt (Ac (by rw[AE,AE,←ZJ];omega)),λl5 hl5=>?_⟩;have s5:=(s3.trans s4).trans (AC (aA.refl _) hl5 (o:=HO.lst (as.map V.ref++bs.map V.ref)));have h5:=AB (H:=H4) (a:=l5) (o:=HO.lst (as.map V.ref++bs.map V.ref));have hT5:=aB.same (AC (aA.refl _) hl5 (o:=HO.lst (as.map V.ref++bs.map V.ref))) hT;generalize upd H4 l5 (HO.lst (as.map V.ref++bs.map V.ref))=H5 at s5 h5 hT5 ⊢;rw[←Zt]at h5;refine⟨l5,Zj,⟨_,aJ.of h5⟩,BU (K:=K) (a:=l5) (xs:=(as++bs).map V.ref) (λi ys H6=>ys=AU ((((a++b).take i).map (·.2)).filter λn=>decide (n&&&kn a=n))/\H6=H5) ⟨Zj,Zj⟩ (λi ys H6 _ ⟨_,e⟩=>e ▸ aJ.of h5) (λi ys H6 ⟨e,_⟩=>?_) ?_ ?_⟩
  ·rw[e];unfold AU;rw[AE];refine Nat.le_trans (ZT _ _) ?_;rw[AE,Zz];omega
  ·rintro i v ys H6 hi ⟨rfl,rfl⟩;obtain⟨bb,pr,rfl,_,fw,ao⟩:=Bx hT5 hi;refine⟨bb,_,Zj,bA.of ao,Zj,_,_,Zj,_,_,Zj,Zj,?_⟩;refine⟨_,Zj,_,Zj,_,Zj,_,_,Zj,Zj,Zj,_,Zj,?_⟩
   have eT:(((a++b).take (i+1)).map (·.2)).filter (λn=>decide (n&&&kn a=n))=(((a++b).take i).map (·.2)).filter (λn=>decide (n&&&kn a=n))++(if decide (pr.2&&&kn a=pr.2)then [pr.2]else []):=by
    rw[ZF,fw,Zt,filter_append];congr 1;show List.filter _ [pr.2]=_;rw[filter_cons,filter_nil]
   show if decide (V.int (Builtin.bitAnd (pr.2:Int) (Builtin.bitNot ((kn a:Nat):Int)))=V.int 0)=true then _ else _
   rw[Md];refine BI (λhq=>?_) (λhq=>?_)
   ·refine⟨_,Zj,?_,Zj⟩;rw[eT,Zo hq];unfold AU;rw[Zt];rfl
   ·refine⟨?_,Zj⟩;rw[eT,Zp hq,Zs]
  ·rintro ys H6 ⟨e,rfl⟩ p4 hp4;rw[AE,hln,ZD]at e;subst e;exact hR _ _ ⟨⟨p4,Zj,AB⟩,AC s5 hp4⟩
 rintro σ H3 ⟨⟨p4,rfl,hp4⟩,s3⟩;have s23:=s2.trans s3;have iz:=s3 _ _ hp;generalize gN:C8 (kn a) (Builtin.Int.intBits (kn a:Nat))=bl at iz;generalize hnm:(((a++b).map (·.2)).filter λn=>decide (n&&&kn a=n))=nl at hp4
 have lbl:bl.length<=20:=by
  rw[←gN];unfold C8;rw[AE];refine Nat.le_trans (ZT _ _) ?_;rw[length_range];exact hib
 have lnl:nl.length<=20:=by
  rw[←hnm];refine Nat.le_trans (ZT _ _) ?_;unfold BR at a0;rw[ZJ,AE,AE]at a0;rw[AE,ZJ];omega
 have ln (l:List Nat):(AU l).length=l.length:=AE _;refine⟨sl1,λq1 hq1=>?_⟩;have t1:=AC (aA.refl _) hq1 (o:=HO.lst [V.int 0]);refine⟨_,Zj,q1,p,[V.int 0],AU bl,Zj,Zj,AB,t1 _ _ iz,Nat.le_of_lt (Ac (by rw[ln];show 1+_<=1000;omega)),λq2 iQ=>?_⟩;have t2:=t1.trans (AC (aA.refl _) iQ (o:=HO.lst ([V.int 0]++AU bl)));have g2':=AB (H:=upd H3 q1 (HO.lst [V.int 0])) (a:=q2) (o:=HO.lst ([V.int 0]++AU bl));generalize upd (upd H3 q1 (HO.lst [V.int 0])) q2 (HO.lst ([V.int 0]++AU bl))=H4 at t2 g2' ⊢;refine⟨_,Zj,q2,p4,[V.int 0]++AU bl,AU nl,Zj,Zj,g2',t2 _ _ hp4,Nat.le_of_lt (Ac (by rw[ZJ,ln,ln];show 1+_+_<=1000;omega)),λq3 hq3=>?_⟩
 have el:[V.int 0]++AU bl++AU nl=AU ([0]++bl++nl):=by
  unfold AU;rw[Zt,Zt];rfl
 rw[el];have t3:=t2.trans (AC (aA.refl _) hq3 (o:=HO.lst (AU ([0]++bl++nl))));have g3:=AB (H:=H4) (a:=q3) (o:=HO.lst (AU ([0]++bl++nl)));generalize upd H4 q3 (HO.lst (AU ([0]++bl++nl)))=H5 at t3 g3 ⊢;obtain⟨ms,em,ndm,hmm,lm⟩:=UE ([0]++bl++nl)
 have l3:([0]++bl++nl).length<=41:=by
  rw[ZJ,ZJ];show 1+_+_<=41;omega
 refine⟨q3,(CY ([0]++bl++nl)).map Sum.inl,Zj,?_,?_,λq4 hq4=>?_⟩
 ·refine aJ.of ?_;rw[g3,Gs,map_map];rfl
 ·unfold CY;rw[AE,AE];omega
 rw[em];refine⟨q4,CY ms,Zj,AB,by unfold CY;rw[AE];omega,λl ns hl bo hasc=>?_⟩;obtain⟨ts,rfl,hts,htm⟩:=Sa ndm bo hasc
 have tlen:ts.length=ms.length:=by
  have:=bo.length_eq;unfold CY at this;rw[AE,AE]at this;exact this
 have mb:∀ {x},x∈bl ↔ ∃j,(kn a).testBit j=true/\x=2 ^ j:=λ{x}=>by
  rw[←gN];unfold C8;rw[Zq];constructor
  ·rintro⟨j,hj,e⟩;exact⟨j,(mem_filter.mp hj).2,e.symm⟩
  ·rintro⟨j,hj,e⟩;refine⟨j,mem_filter.mpr ⟨mem_range.mpr ?_,hj⟩,e.symm⟩;have h1:=Ig hj;have h2:=Nat.two_pow_pos j;rw[CQ qe];have:=(Nat.le_log2 qe).mpr h1;omega
 refine q l ts _ ((s23.trans t3).trans (AC (AC (aA.refl _) hq4) hl)) (by rw[AB,Gs]) ⟨hts,λn hn=>?_,λn hn hc=>?_,qe⟩
 ·have:=(hmm n).mp ((htm n).mp hn);rw[mem_append,mem_append]at this;rcases this with (z |z) |z
  ·rw[ZI.mp z,Nat.zero_and]
  ·obtain⟨j,hj,rfl⟩:=mb.mp z;exact Ie hj
  ·rw[←hnm]at z;exact ZW (mem_filter.mp z).2
 ·refine(htm n).mpr ((hmm n).mpr ?_);rw[mem_append,mem_append];rcases hc with z |⟨j,z⟩ |z
  ·exact .inl (.inl (ZI.mpr z))
  ·refine .inl (.inr (mb.mpr ⟨j,?_,z⟩));rw[z]at hn;exact D3 hn Nat.testBit_two_pow_self
  ·refine .inr ?_;rw[←hnm];refine mem_filter.mpr ⟨?_,ZM hn⟩
   have go:∀ {d:Aa},aO d->BX d n≠none->∃x,(x,n)∈d:=λ{d} D h=>by
    cases e:BX d n with
    |none=>exact absurd e h
    |some x=>exact⟨x,HI D.nd e⟩
   rcases z with z |z
   ·obtain⟨x,hx⟩:=go DA z;exact Zq.mpr ⟨_,ZQ _ hx,Zj⟩
   ·obtain⟨x,hx⟩:=go DB z;exact Zq.mpr ⟨_,ZU _ hx,Zj⟩
end
inductive Ret (a b:Aa) (r:Str) (v:V):Prop
 |at (n:Nat) (e:v=.int (n:Int)) (hn:n&&&kn a=n) (h:Db a b r n) (hl:∀m,m&&&kn a=m->m<n->¬ Db a b r m)
 |no (e:v=.aK) (hl:∀m,m&&&kn a=m->¬ Db a b r m)
theorem Se {p:Nat->Prop}{n:Nat} (h:p n):∃m,m<=n/\p m/\∀k,k<m->¬ p k:=by
 induction n using Nat.strongRecOn with
 |_ n ih =>
  by_cases z:∃k,k<n/\p k
  ·obtain⟨k,hk,hp⟩:=z;obtain⟨m,h1,h2,h3⟩:=ih k hk hp;exact⟨m,qe,h2,h3⟩
  ·exact⟨n,Zx _,h,λk hk hp=>z ⟨k,hk,hp⟩⟩
theorem Ii {a b:Aa} (A:aO a) (B:aO b) {r:Str} (hr:r∈aU) {ts:List Nat} (T:UG a b ts) {n:Nat} (hn:n&&&kn a=n) (h:Db a b r n):∃m∈ts,m<=n/\By b r m≠some (Az a m):=by
 obtain⟨m,h1,⟨h2,h3⟩,h4⟩:=Se (p:=λm=>m&&&kn a=m/\Db a b r m) ⟨hn,h⟩;obtain⟨t1,t2⟩:=Nv A B hr h2 h3 λk hk hlt hl=>h4 k hlt ⟨hk,hl⟩;exact⟨m,T.all m h2 t2,h1,t1⟩
theorem Vb {a b:Aa} (A:aO a) (B:aO b) {r:Str} (hr:r∈aU) {ts:List Nat} (T:UG a b ts) {i n:Nat} (hi:ts[i]?=some n) (hp:∀t∈ts.take i,By b r t=some (Az a t)) (h:By b r n≠some (Az a n)):Ret a b r (.int (n:Int)):=by
 have hm:=ZR hi;refine .at n Zj (T.sub n hm) (QO h) λm hm2 hlt hl=>?_;obtain⟨t,ht,hle,hb⟩:=Ii A B hr T hm2 hl;obtain⟨j,hj⟩:=List.getElem?_of_mem ht;refine hb (hp t ?_)
 have hji:j<i:=by
  rcases Nat.lt_or_ge j i with z |z
  ·exact z
  ·exfalso;obtain⟨hil,ei⟩:=Z8.mp hi;obtain⟨hjl,ej⟩:=Z8.mp hj;rcases Nat.eq_or_lt_of_le z with q |q
   ·subst q;rw[hi]at hj;cases hj;omega
   ·have:=(List.pairwise_iff_getElem.mp T.asc) i j hil hjl q;omega
 refine ZR (i:=j) ?_;rw[List.getElem?_take,Zo hji];exact hj
theorem Vc {a b:Aa} (A:aO a) (B:aO b) {r:Str} (hr:r∈aU) {ts:List Nat} (T:UG a b ts) (hp:∀t∈ts,By b r t=some (Az a t)):Ret a b r .aK:=.no rfl λm hm hl=>by
 obtain⟨t,ht,_,hb⟩:=Ii A B hr T hm hl;exact hb (hp t ht)
theorem Vd (o:Option Str) (x:Str):(!decide (WK o=V.str x))=!decide (o=some x):=by
 cases o with
 |none=>rfl
 |some y =>
  show(!decide (V.str y=V.str x))=_;by_cases h:y=x
  ·rw[h,ZM rfl,ZM rfl]
  ·rw[ZP (λz=>h (V.str.inj z)),ZP (λz=>h (Option.some.inj z))]
section
variable {cM cA cR:W3}
def Ve (C:W3):Sp:=λvs H Q _=>∃(k o:W3) (a b:Aa) (r r2:Str),vs=[.ref k,.ref o]/\aG C H k a r/\aG C H o b r2/\aO a/\aO b/\r2∈aU/\∀v H',KX H H'->Ret a b r2 v->Q v H'
theorem scFr:AK ["kind", "other", "number"] ["kind", "other"] (defScope Ds):=cH
theorem WL (F:aZ K "first_retold" "first_retold" Ds f fd) (VO:SD P w K mg base C VC)
  (GT:Fn P w K mg base "telling_numbers" 3 ["kind", "other"] (Sd C)) (GB:Fn P w K mg base "text_by" 7 ["kind", "number"] (Sc C)) (GX:Fn P w K mg base "text_of" 5 ["value"] (spTxt C VC)):aD P w K mg base aP 8 f fd ["kind", "other"] (Ve C):=by
 obtain⟨fT,dT,GT,mT,kT,bT⟩:=GT.ex;obtain⟨fB,dB,GB,mB,kB,bB⟩:=GB.ex;obtain⟨fX,dX,GX,mX,kX,bX⟩:=GX.ex;obtain⟨fI,dI,MI,GI,bI⟩:=VO.make;have mV:=VO.cls;refine F.m scFr λvs H Q E h=>?_;obtain⟨k,o,a,b,r,r2,rfl,KA,KB,DA,DB,aw,q⟩:=h;refine⟨Zj,λae A outer s hr=>?_⟩;have gd:aH 3 _:=hr.mono qc;have hr5:aH 5 _:=hr.mono qc;have nd:=scFr.nd
 refine⟨_,AG (Cp PassesOwn.never Zj (A5 (AM GT gd Zj mT kT bT .nil AL (AA (pv 0) (AA (pv 1) AD)))) (AT (i:=2) nd Zj (Or.inl Zj))
   (AF (Au (AQ CN (AM GB hr rfl mB kB bB .nil AL (AA (pv 1) (AA (pv 2) AD))) (AM GX hr5 rfl mX kX bX .nil AL (AA (N9 MI GI hr5 rfl mV bI .nil AL (AA (pv 0) (AA (pv 2) AD))) AD)) (AX _)) (AF (AN (pv 2))) Ab)))
  (AF (AN Bj)),?_⟩
 refine⟨_,rfl,_,rfl,k,o,a,b,r,r2,rfl,KA,KB,DA,DB,λl ts H1 s1 hl T=>?_⟩;refine⟨l,rfl,⟨_,aJ.of hl⟩,B2 (K:=K) (a:=l) (xs:=AU ts) (λi σ H2=>(∃v2,σ=[some (.ref k),some (.ref o),v2])/\KX H1 H2/\∀t∈ts.take i,By b r2 t=some (Az a t)) ⟨⟨_,rfl⟩,KX.refl _,λt ht=>by cases ht⟩ (λi σ H2 _ e=>aJ.of (e.2.1 _ _ hl (λ_ _ z=>nomatch z))) ?_ ?_⟩
 ·rintro i v σ H2 hi ⟨⟨v2,rfl⟩,k2,hp⟩;obtain⟨n,hn,rfl⟩:=DI hi;have hnm:=ZR hn;have ci:=T.sub n hnm;have hkn:=Of DA.lt
  have hlt:n<2 ^ 20:=by
   have:=Nat.and_le_right (n:=n) (m:=kn a);omega
  have k02:=(KX.of s1).trans k2;refine⟨_,Zj,_,Zj,o,n,b,r2,Zj,KB.kx k02,DB,hlt,λH3 k3=>?_⟩;have k03:=k02.trans k3;refine⟨_,Zj,_,Zj,?_⟩;intro pv dv hpv hdv bc;have sN:=DZ (D:=VC) hpv hdv bc;refine⟨pv,dv,k,a,r,n,Zj,AB,(KA.kx k03).same sN,Nat.lt_trans hlt qc,.inr ((Bi _ _).mpr ci),λH4 sd hV=>?_⟩;have s4:=CJ sN hpv sd;have k04:=k03.trans (KX.of s4);refine⟨Zj,pv,k,n,a,r,Zj,hV,KA.kx k04,DA.len,DA.nd,Nat.lt_trans hlt qc,Kj DA (Nat.lt_trans hlt qc),λH5 s5=>?_⟩;have k15:=((k2.trans k3).trans (KX.of s4)).trans (KX.of s5);refine⟨?_,_,Zj,?_⟩
  ·cases By b r2 n <;> rfl
  rw[Vd];by_cases hq:By b r2 n=some (Az a n)
  ·rw[ZM hq];refine An ⟨⟨_,rfl⟩,k15,λt ht=>?_⟩;rw[ZF,hn]at ht;rcases mem_append.mp ht with z |z
   ·exact hp t z
   ·obtain rfl:=ZI.mp z;exact hq
  ·rw[ZP hq];exact Ay ⟨_,Zj,q _ _ ((KX.of s1).trans k15) (Vb DA DB aw T hn hp hq)⟩
 ·rintro σ H2 ⟨⟨v2,rfl⟩,k2,hp⟩;have:(AU ts).length=ts.length:=AE _;rw[this,ZD]at hp;exact q _ _ ((KX.of s1).trans k2) (Vc DA DB aw T hp)
end
structure FunC (K:FG) (x qual:Str) (st:Stmt) (f:W3) (fd:FuncData) (c:W3):Prop where
 ex:∃(oc:Value) (od:Option W3) (kV doc pm:Value) (an:Option W3) (ct:Value) (eV:Array (Option Value)),
  fd=W.fnOf x qual (defArgs st) (defBody st) (defScope st) .none kV doc pm an (.ref c) ct/\K.lookup f=some ⟨oc,od,.func fd,eV⟩/\W.codeIn K (.ref c) qual=true
theorem FunC.ok {x qual:Str}{st:Stmt}{c:W3}{N ps:Ww}{k:Nat}{sp:Sp} (F:FunC K x qual st f fd c) (S:AK N ps (defScope st)) (len:∀vs H Q E,sp vs H Q E->vs.length=ps.length)
  (bn:∀(A:Around) (outer:List Env) (s:W4) (H:Hp) (vs:Wy) (Q:VK) (E:XK),aH k (A.deeper (PyProof.Rows.envOfC qual (defScope st) s.heap.objs.size f (.ref c)))->sp vs H Q E ->
   ∃t,dP (BF aP P w K mg base N qual (defScope st) f (.ref c) A outer s H E).fY (defBody st) t/\t { nx:=λ_ H'=>Q .aK H',rt:=Q } (Bo N vs) H):aD P w K mg base aP (k+1) f fd ps sp:=by
 obtain⟨oc,od,kV,doc,pm,an,ct,eV,rfl,lk,eo⟩:=F.ex;refine Kz lk eo S len λA outer s H vs Q E hr fv=>?_;obtain⟨t,h,q⟩:=bn A outer s H vs Q E hr fv;exact⟨t,h.fY,q⟩
noncomputable def Oq:Stmt->List Stmt | .For _ _ b _ _=>b |_=>[]
noncomputable def Vf:Stmt->Expr | .Assign _ v _=>v |_=>.Name "" ⟨0,0,0,0⟩
noncomputable def C9 (i:Nat):Expr->Expr | .Call _ es _ _=>es.getD i (.Name "" ⟨0,0,0,0⟩) |e=>e
noncomputable def WM:Stmt->Expr | .If (.Compare l _ _ _) _ _ _=>l |_=>.Name "" ⟨0,0,0,0⟩
noncomputable def Sf (l:List Stmt) (i:Nat):Stmt:=l.getD i (.Pass ⟨0,0,0,0⟩)
noncomputable def Sg:List Stmt:=Oq (Sf (defBody ED) 0)
noncomputable def Jo:Expr:=Vf (Sf Sg 6)
noncomputable def Jp:Expr:=WM (Sf (Oq (Sf Sg 14)) 0)
noncomputable def Jq:Expr:=WM (Sf Sg 15)
noncomputable def Ko:Expr->Expr | .Lambda _ b _ _=>b |e=>e
noncomputable def Ny:Expr->Arguments | .Lambda a _ _ _=>a |_=>defArgs ED
noncomputable def Ij:Expr->Scope | .Lambda _ _ sc _=>sc |_=>defScope ED
noncomputable def Gu:Expr->Pos | .Lambda _ _ _ p=>p |_=>⟨0,0,0,0⟩
noncomputable def LS:List Pos:=[Gu (C9 0 Jo),Gu (C9 0 Jp),Gu (C9 0 Jq)]
theorem Sh (j:Nat):∀l,LS[j]?=some l->∀q∈LS,q=l\/(q.line==l.line&&q.col==l.col)=false:=by
 have key:(LS.all λl=>LS.all λq=>decide (q=l) || !(q.line==l.line&&q.col==l.col))=true:=by decide +kernel
 intro l hl q hq;have h1:=List.all_eq_true.mp (List.all_eq_true.mp key l (ZR hl)) q hq;rw[Bool.or_eq_true]at h1;rcases h1 with z |z
 ·exact .inl (ZW z)
 ·exact .inr (by rw[Bool.not_eq_true']at z;exact z)
theorem Gv {α β:Type} [BEq α] [LawfulBEq α] {x:α}{v:β}:∀ {l:List (α×β)},l.lookup x=some v->(x,v)∈l
  | [],h=>by cases h
  | (y,u)::r,h=>by
    rw[Zy]at h;cases e:x==y with
    |true =>
      rw[e]at h;cases h;rw[eq_of_beq e];exact ZK ..
    |false =>
      rw[e]at h;exact ZS _ (Gv h)
theorem UH {scope:Scope}{bJ:List (Str×W3)} (h:scope.names.all (λp=>!(p.2 == .cell ||p.2 == .free)||(bJ.lookup p.1).isSome)=true):∀x,(scope.names.lookup x=some .cell\/scope.names.lookup x=some .free)->∃c,bJ.lookup x=some c:=λx hx=>by
 have g:∀k,scope.names.lookup x=some k->(k == .cell ||k == .free)=true->∃c,bJ.lookup x=some c:=λk e hk=>by
  have:=List.all_eq_true.mp h _ (Gv e);simp only[hk,Bool.not_true,Bool.false_or]at this;exact Option.isSome_iff_exists.mp this
 rcases hx with z |z
 ·exact g _ z rfl
 ·exact g _ z rfl
noncomputable def qL:Str := "law.<locals>." ++ "<lambda>"
def Keeps (H H':Hp):Prop:=∀b o,H b=some o->(∀x y:Int,o≠ .lst [.int x,.int y])->(∀ps,o≠ .fk ps)->(∀g,o≠ .ext g)->H' b=some o
theorem aG.keeps {p:W3}{r:Str} (s:Keeps H H') (h:aG C H p U r):aG C H' p U r:=by
 obtain⟨dx,d1,o1,d2,o2,a,b,c⟩:=h.ex;exact⟨⟨dx,d1,o1,d2,o2,s _ _ a (λ_ _ z=>nomatch z) (λ_ z=>nomatch z) (λ_ z=>nomatch z),s _ _ b (λ_ _ z=>nomatch z) (λ_ z=>nomatch z) (λ_ z=>nomatch z),s _ _ c (λ_ _ z=>nomatch z) (λ_ z=>nomatch z) (λ_ z=>nomatch z)⟩⟩
theorem aB.keeps {as:List W3}{ps:List (V×V)} (s:Keeps H H') (h:aB H as ps):aB H' as ps:=aB.cL (λb xs e=>s _ _ e (λ_ _ z=>nomatch z) (λ_ z=>nomatch z) (λ_ z=>nomatch z)) h
theorem Kp {ms:List W3}{x y:Int}:HO.lst (ms.map V.ref)≠ .lst [.int x,.int y]:=λz=>by
 injection z with z
 cases ms with
 |nil=>cases z
 |cons a r=>cases z
theorem aS.same {P0:W3}{q:Str}{ls:List Pos} (s:aA H H') (h:aS H P0 q ls):aS H' P0 q ls:=by
 obtain⟨ps,h1,h2,h3⟩:=h;refine⟨ps,s _ _ h1,h2,λx hx=>?_⟩;rcases h3 x hx with z |⟨c,z1,z2⟩
 ·exact .inl z
 ·exact .inr ⟨c,z1,s _ _ z2⟩
theorem aS.bQ {d:W3}{P0:W3}{q:Str}{ls:List Pos}{x y:Int} (hd:H d=some (.lst [.int x,.int y])) (s:F1 d H H') (h:aS H P0 q ls):aS H' P0 q ls:=by
 obtain⟨ps,h1,h2,h3⟩:=h;refine⟨ps,s.old _ _ h1 (λz=>by subst z;rw[hd]at h1;cases h1),h2,λx hx=>?_⟩;rcases h3 x hx with z |⟨c,z1,z2⟩
 ·exact .inl z
 ·exact .inr ⟨c,z1,s.old _ _ z2 (λz=>by subst z;rw[hd]at z2;cases z2)⟩
theorem aS.ne {d:W3}{P0:W3}{q:Str}{ls:List Pos}{xs:Wy} (hd:H d=some (.lst xs)) (h:aS H P0 q ls):d≠P0:=λz=>by
 obtain⟨ps,h1,_⟩:=h;subst z;rw[hd]at h1;cases h1
def Rl (d P0:W3) (H H':Hp):Prop:=∀b o,H b=some o->b≠d->b≠P0->(∀g,o≠ .ext g)->H' b=some o
theorem Rl.refl {d P0:W3} (H:Hp):Rl d P0 H H:=λ_ _ e _ _ _=>e
theorem Rl.trans {d P0:W3}{H1 H2:Hp} (a:Rl d P0 H H1) (b:Rl d P0 H1 H2):Rl d P0 H H2:=λc o e h1 h2 h3=>b c o (a c o e h1 h2 h3) h1 h2 h3
theorem Rl.same {d P0:W3} (s:aA H H'):Rl d P0 H H':=λb o e _ _ _=>s b o e
theorem Rl.bQ {d P0:W3} (s:F1 d H H'):Rl d P0 H H':=λb o e h _ _=>s.old b o e h
theorem Rl.d6 {d P0:W3} (s:JZ P0 H H'):Rl d P0 H H':=λb o e _ h _=>s b o h e
theorem HB {c':W3}{q:Str}{dx:Option W3}:Fg c' q≠Ey c' C dx:=λz=>by
 have h:({ objs:=Array.replicate (c'+1) ⟨.ref C,dx,.fields (Array.replicate 6 .none),#[]⟩ }:Heap).get? c'=some ⟨.ref C,dx,.fields (Array.replicate 6 .none),#[]⟩:=by
  unfold Heap.get?;rw[Array.getElem?_replicate,Zo (Nat.lt_succ_self _)]
 have hz:=congrFun (HO.ext.inj z) { objs:=Array.replicate (c'+1) ⟨.ref C,dx,.fields (Array.replicate 6 .none),#[]⟩ };have hy:=hz.mpr ⟨_,_,h,rfl,rfl,rfl,qc,qc⟩;obtain⟨c1,oc,vs,t,e,ho,hd,hq⟩:=hy;cases e;rw[h]at ho;cases ho;cases hd;rw[Array.getElem?_replicate]at hq;split at hq <;> cases hq
structure Wb (d P0:W3) (H:Hp):Prop where
 bS:∃x y:Int,H d=some (.lst [.int x,.int y])
 tab:aS H P0 qL LS
theorem Wb.keeps {d P0:W3} (s:Rl d P0 H H') (h:Wb d P0 H):Keeps H H':=λb o eb h1 h2 h3=>by
 refine s b o eb (λz=>?_) (λz=>?_) h3
 ·subst z;obtain⟨x,y,hd⟩:=h.bS;rw[hd]at eb;cases eb;exact h1 _ _ rfl
 ·subst z;obtain⟨ps,hp,_⟩:=h.tab;rw[hp]at eb;cases eb;exact h2 _ rfl
theorem Wb.same {d P0:W3} (s:aA H H') (h:Wb d P0 H):Wb d P0 H':=⟨by obtain⟨x,y,z⟩:=h.bS;exact⟨x,y,s _ _ z⟩,aS.same s h.tab⟩
theorem Wb.d6 {d P0:W3} (s:JZ P0 H H') (ht:aS H' P0 qL LS) (h:Wb d P0 H):Wb d P0 H':=by
 obtain⟨x,y,hd⟩:=h.bS;exact⟨⟨x,y,s _ _ (aS.ne hd h.tab) hd⟩,ht⟩
theorem Wb.exc {d P0:W3}{H1 H2:Hp}{e' C':W3}{dx:Option W3} (s1:aA H H1) (he:H1 e'=some (Ey e' C' dx)) (s2:aA (del H1 e') H2) (h:Wb d P0 H):Wb d P0 H2/\Rl d P0 H H2:=by
 have old:∀b o,H b=some o->o≠Ey b C' dx->H2 b=some o:=λb o eb hn=>by
  have eb1:=s1 _ _ eb;refine s2 _ _ ?_;have ij:b≠e':=λz=>by subst z;rw[he]at eb1;cases eb1;exact hn rfl
  unfold del;rw[Zp ij];exact eb1
 refine⟨⟨?_,?_⟩,λb o eb _ _ hx=>old b o eb (hx _)⟩
 ·obtain⟨x,y,hd⟩:=h.bS;exact⟨x,y,old _ _ hd (λz=>nomatch z)⟩
 ·obtain⟨ps,h1,h2,h3⟩:=h.tab;refine⟨ps,old _ _ h1 (λz=>nomatch z),h2,λx hx=>?_⟩;rcases h3 x hx with z |⟨c,z1,z2⟩
  ·exact .inl z
  ·exact .inr ⟨c,z1,old _ _ z2 HB⟩
theorem Me {b:W3}{x y:Str}{n:Int} (h:H b=some (.tup [.str x,.str y,.int n])):BW K H (.tuple [.str x,.str y,.int n]) (.ref b):=by
 rw[BW];refine⟨b,_,Zj,bA.of h,?_⟩;rw[Ax];refine⟨_,_,Zj,by rw[BW],?_⟩;rw[Ax];refine⟨_,_,Zj,by rw[BW],?_⟩;rw[Ax];refine⟨_,_,Zj,by rw[BW],?_⟩;rw[Ax]
theorem Mf {x y:Str}{n:Int} (h1:x.cps.all (· < 128)=true) (h2:y.cps.all (· < 128)=true):SeqAt.shaped (.tuple [.str x,.str y,.int n])=true:=by
 unfold SeqAt.shaped;simp only[Bool.and_eq_true,decide_eq_true_eq];refine⟨?_,?_⟩
 ·rw[PyData.canLay0];refine KY λd hd=>?_;simp only[mem_cons,not_mem_nil,or_false]at hd;rcases hd with rfl |rfl |rfl
  ·rw[PyData.canLay0];exact DY h1
  ·rw[PyData.canLay0];exact DY h2
  ·rw[PyData.canLay0]
 ·simp only[PyData.depth,PyData.depthAll];omega
theorem Si (x y:Str) (n:Int):PyData.eqv (.tuple [.str x,.str y,.int n]) (.tuple [.str x,.str y,.int n])=true:=F2 λd hd=>by
 simp only[mem_cons,not_mem_nil,or_false]at hd;rcases hd with rfl |rfl |rfl
 ·exact Cf _
 ·exact Cf _
 ·exact KZ _
theorem Ik {ec:Nat->W3}{cM cA:W3}{Q:VK}{d P0:W3}{v:V} (EF:MP K ec cA 0) (W:Wb d P0 H)
  (h:∀p H',Wb d P0 H'->Rl d P0 H H'->H' p=some (.tup [.str "refused", .str "BadRows", v])->Q (.ref p) H'):i5 H (MQ K ec cM Q) cA v:=λe dx H1 s1 _ _ _ _ hX=>⟨cA,rfl,λe' he'=>.inr ⟨0,dx,v,EF,rfl,by
 have iC:dx≠e':=λz=>by rw[←z,hX]at he';cases he'
 show del H1 e' dx=_;unfold del;rw[Zp iC];exact hX,λp H2 s2 hp=>by
 obtain⟨W2,R2⟩:=W.exc s1 he' s2
 exact h p H2 W2 R2 hp⟩⟩
theorem Il {x y:Str} (h1:x.cps.all (· < 128)=true:=by decide +kernel) (h2:y.cps.all (· < 128)=true:=by decide +kernel):SeqAt.shaped (.tuple [.str x,.str y])=true:=by
 unfold SeqAt.shaped;simp only[Bool.and_eq_true,decide_eq_true_eq];refine⟨?_,?_⟩
 ·rw[PyData.canLay0];refine KY λd hd=>?_;simp only[mem_cons,not_mem_nil,or_false]at hd;rcases hd with rfl |rfl
  ·rw[PyData.canLay0];exact DY h1
  ·rw[PyData.canLay0];exact DY h2
 ·simp only[PyData.depth,PyData.depthAll];omega
theorem UI (x y:Str):PyData.eqv (.tuple [.str x,.str y]) (.tuple [.str x,.str y])=true:=F2 λd hd=>by
 simp only[mem_cons,not_mem_nil,or_false]at hd;rcases hd with rfl |rfl
 ·exact Cf _
 ·exact Cf _
def Os (K:FG) (P0:W3):Sp:=λvs H Q _=>∃(a:W3) (ns:List Int),vs=[.ref a]/\aJ K H a (ns.map V.int)/\ns.length<=63/\aS H P0 qL LS/\∀H',Q (.bl true) H'
noncomputable abbrev JB:Ww:=["_law_script", "_law_dice", "_law_rows", "_law_due", "_law_way", "_law_own", "_law_other", "_law_some", "_law_later", "_law_goal", "_law_numbers", "_law_bit", "_law_lacks", "_law_bad", "_law_kind", "_law_more"]
theorem scLaw:AK JB ["_law_script"] (defScope ED):=cH
section
variable {cM cA c P0:W3}{ec:Nat->W3}
theorem Kq {X:Cx}{Nl:Ww}{ix:List Nat}{scope:Scope}{bJ:List (Str×W3)} (h1:ix.length=Nl.length)
  (h2:(List.range Nl.length).all (λi=>match Nl[i]?,ix[i]? with |some x,some j=>decide (X.N[j]?=some x)&&decide (X.env.scope.names.lookup x=some .cell)&&decide (scope.names.lookup x=some .free) |_,_=>false)=true)
  (h3:∀p∈bJ,X.env.cells.lookup p.1=some p.2) (h4:scope.names.all (λp=>!(p.2 == .cell ||p.2 == .free)||(bJ.lookup p.1).isSome)=true) (h5:∀x,X.fn x=true):LamN X Nl ix scope bJ:=by
 refine⟨h1,λi x h=>?_,λx c h=>h3 _ (Gv h),UH h4,h5⟩;have hi:i<Nl.length:=(Z8.mp h).1;have:=List.all_eq_true.mp h2 i (mem_range.mpr hi);rw[h]at this;cases e:ix[i]? with
 |none=>rw[e]at this;cases this
 |some j =>
  rw[e]at this;simp only[Bool.and_eq_true,decide_eq_true_eq]at this;exact⟨j,Zj,this.1.1,this.1.2,this.2⟩
section
variable {f0 fT0:W3}{dT0:FuncData}{A:Around}{outer:List Env}{s:W4}{E:XK}
 (FT:aZ K "_law_told" "_law_told" At fT0 dT0) (je:mg "_law_told" = some (.ref fT0)) (jl:Binds K dT0 ["_law_deed"] []) (M:QF mg ec) (EX:SE K mg ec cM) (GW:FnS P w K mg base "_law_word" 1 ["_law_e"] (Dz K ec)) (LC:Ta (BF aP P w K mg base JB "law" (defScope ED) f0 (.ref c) A outer s H E).fY c P0) (hr:aH 10 (BF aP P w K mg base JB "law" (defScope ED) f0 (.ref c) A outer s H E).fY.A) {fX:W3}{dX:FuncData} (GX:aD P w K mg base (eN P w) 8 fX dX ["kind", "rows"] (spGon K C cA)) (mX:mg "gone_on" = some (.ref fX)) (kX:W.keepIn K (.ref fX)=true) (bX:Binds K dX ["kind", "rows"] [])
include FT je jl M EX GW LC hr GX mX kX bX
theorem Vg:PE (BF aP P w K mg base JB "law" (defScope ED) f0 (.ref c) A outer s H E).fY Jo (Oj K ec cM P0 qL LS [14,15] (λE=>Gx (spGon K C cA) [] E (Ag (D9 0) (Ag (D9 1) CA)))) :=
   Kd (X:=(BF aP P w K mg base JB "law" (defScope ED) f0 (.ref c) A outer s H E).fY) (params:=Ny (C9 0 Jo)) (body:=Ko (C9 0 Jo)) (scope:=Ij (C9 0 Jo)) (Nl:=["_law_kind", "_law_more"]) (k:=8) (cG:=Gu (C9 0 Jo)) FT M EX GW hr rfl je FT.kp jl LC (ZR (i:=0) rfl) (Sh 0 _ rfl) rfl rfl (Kq rfl qd (by intro p hp;simp only[mem_cons,not_mem_nil,or_false]at hp;rcases hp with rfl |rfl <;> kernel_rfl) qd (λ_=>rfl)) (λ_ _ _=>rfl) rfl rfl rfl qb
    (λlf c' A' outer' s' H' E hr=>AM GX (hr.mono qc) rfl mX kX bX .nil RN (AA (pv 0) (AA (pv 1) AD)))
theorem Vh:PE (BF aP P w K mg base JB "law" (defScope ED) f0 (.ref c) A outer s H E).fY Jp (Oj K ec cM P0 qL LS [14,13] (λE=>Gx (spGon K C cA) [] E (Ag (D9 0) (Ag (D9 1) CA)))) :=
   Kd (X:=(BF aP P w K mg base JB "law" (defScope ED) f0 (.ref c) A outer s H E).fY) (params:=Ny (C9 0 Jp)) (body:=Ko (C9 0 Jp)) (scope:=Ij (C9 0 Jp)) (Nl:=["_law_kind", "_law_bad"]) (k:=8) (cG:=Gu (C9 0 Jp)) FT M EX GW hr rfl je FT.kp jl LC (ZR (i:=1) rfl) (Sh 1 _ rfl) rfl rfl (Kq rfl qd (by intro p hp;simp only[mem_cons,not_mem_nil,or_false]at hp;rcases hp with rfl |rfl <;> kernel_rfl) qd (λ_=>rfl)) (λ_ _ _=>rfl) rfl rfl rfl qb
    (λlf c' A' outer' s' H' E hr=>AM GX (hr.mono qc) rfl mX kX bX .nil RN (AA (pv 0) (AA (pv 1) AD)))
theorem Vi:PE (BF aP P w K mg base JB "law" (defScope ED) f0 (.ref c) A outer s H E).fY Jq (Oj K ec cM P0 qL LS [14] (λE=>Gx (spGon K C cA) [] E (Ag (D9 0) (Ag (S0 (Ag (Qm (Ag (tC (.str "ZA")) (Ag (tC (.int 1)) CA))) (Ag (Qm (Ag (tC (.str "ZA")) (Ag (tC (.int 2)) CA))) CA))) CA)))) :=
   Kd (X:=(BF aP P w K mg base JB "law" (defScope ED) f0 (.ref c) A outer s H E).fY) (params:=Ny (C9 0 Jq)) (body:=Ko (C9 0 Jq)) (scope:=Ij (C9 0 Jq)) (Nl:=["_law_kind"]) (k:=8) (cG:=Gu (C9 0 Jq)) FT M EX GW hr rfl je FT.kp jl LC (ZR (i:=2) rfl) (Sh 2 _ rfl) rfl rfl (Kq rfl qd (by intro p hp;simp only[mem_cons,not_mem_nil,or_false]at hp;rcases hp with rfl <;> kernel_rfl) qd (λ_=>rfl)) (λ_ _ _=>rfl) rfl rfl rfl qb
    (λlf c' A' outer' s' H' E hr=>AM GX (hr.mono qc) rfl mX kX bX .nil RN (AA (pv 0) (AA (A6 (AA (BB (AA AY (AA AI AD))) (AA (BB (AA AY (AA AI AD))) AD))) AD)))
end
end
noncomputable abbrev pD (p:Str×Nat):PyData:=.tuple [.str p.1,.int (p.2:Int)]
theorem QP (p q:Str×Nat):Spec.same (pD p) (pD q)=decide (p=q):=by
 simp only[Spec.same,Spec.sameAll,Bool.and_true];rw[Bool.eq_iff_iff,Bool.and_eq_true,decide_eq_true_eq];constructor
 ·rintro⟨h1,h2⟩;have h2:=eq_of_beq h2;exact Prod.ext (eq_of_beq h1) qe
 ·rintro rfl;exact⟨beq_self_eq_true _,beq_self_eq_true _⟩
theorem Mg (d:PyData):∀ds:List PyData,0<=Spec.countIn d ds
 | []=>by simp[Spec.countIn]
 |e::r=>by
  have:=Mg d r;simp only[Spec.countIn];split <;> omega
theorem Im (p:Str×Nat):∀U:Aa,(!decide (Spec.countIn (pD p) (C4 U)≠0))=decide (p∉ U)
 | []=>by simp[Spec.countIn,C4]
 |q::r=>by
  have ih:=Im p r;have nn:=Mg (pD p) (C4 r)
  have e:Spec.countIn (pD p) (C4 (q::r))=(if decide (q=p)=true then 1 else 0)+Spec.countIn (pD p) (C4 r):=by
   show Spec.countIn (pD p) (pD q::C4 r)=_;rw[←QP];simp only[Spec.countIn]
  rw[e];by_cases h:q=p
  ·subst h;rw[ZM (show q=q from rfl),Zo rfl,ZM (show 1+Spec.countIn (pD q) (C4 r)≠0 by omega),ZP λz=>z (ZK ..)];rfl
  ·rw[ZP h,Zp Bool.false_ne_true,Int.zero_add,ih];rw[Bool.eq_iff_iff,decide_eq_true_eq,decide_eq_true_eq,mem_cons];exact⟨λz y=>y.elim (λe=>h e.symm) z,λz y=>z (.inr y)⟩
theorem Nz (p q:Str×Nat):SeqAt.noMix (pD q) (pD p)=true:=by simp[SeqAt.noMix,SeqAt.noMixAll]
noncomputable def Ea (U ac:Aa):Ww:=(U.filter λp=>decide (p∉ ac)).map (·.1)
theorem Sj (U ac:Aa):Km U ac=match (Ea U ac).head? with |some x=>.str x |none=>.aK:=by
 unfold Km Ea;rw[List.head?_map,List.head?_filter];cases U.find? λp=>decide (p∉ ac) <;> rfl
theorem Ot (h:∀p∈U,p∈ac):Km U ac=.aK:=by
 unfold Km;have:U.find? (λp=>decide (p∉ ac))=none:=find?_eq_none.mpr λp hp z=>ZW z (h p hp);rw[this]
theorem UJ {n m k:Nat} (h:n<=m):HT.bY m k (some (n:Int))=n:=by
 show(if (n:Int)<0 then ((n:Int)+(m:Int)).toNat else min ((n:Int)).toNat m)=n;rw[Zp qe];omega
theorem Mh (xs:Wy) {n:Nat} (h:n<=xs.length):HZ xs none (some (n:Int))=xs.take n:=by
 unfold HZ;rw[UJ h];rfl
theorem Eb {α β:Type}{F:α->β->Prop}:∀ {xs:List α}{ys:List β},Paired F xs ys->∀n,Paired F (xs.take n) (ys.take n)
 |_,_,.nil,n=>by rw[List.take_nil,List.take_nil];exact .nil
 |_,_,.cons p r,0=>.nil
 |_,_,.cons p r,n+1=>.cons p (Eb r n)
theorem Sk (a b:List (Str×Th)):∃e,Ae (a++b)=Ae a++e:=by
 have:∀(b:List (Str×Th)) (acc:Aa),∃e,b.foldl (λU r=>U++[(r.1,B8 U r.2)]) acc=acc++e:=λb=>by
  induction b with
  |nil=>exact λacc=>⟨[],(Zs _).symm⟩
  |cons x r ih =>
   intro acc;obtain⟨e,he⟩:=ih (acc++[(x.1,B8 acc x.2)]);exact⟨(x.1,B8 acc x.2)::e,by rw[foldl_cons,he,List.append_assoc];rfl⟩
 unfold Ae;rw[foldl_append];exact this b _
theorem Kr (U:Aa) (more:List (Str×Th)):∃e,Ae (AR U++more)=U++e:=by
 obtain⟨e,he⟩:=Sk (AR U) more;rw[BG]at he;exact⟨e,he⟩
noncomputable abbrev iL:Str×Th:=("ZA", .aK)
noncomputable abbrev rwB (v:Nat):Str×Th:=("ZB", .num v)
noncomputable abbrev rwC (x:Str):Str×Th:=("ZC", .iO [x, "ZB"])
noncomputable abbrev Cb (x:Str) (v:Nat):List (Str×Th):=[iL,rwB v,rwC x]
theorem z_nm:Py "ZA" /\ Py "ZB" /\ Py "ZC" := by
 have:∀x∈(["ZA", "ZB", "ZC"]:Ww),(Dv x&&x.cps.all (· < 128)&&decide (x.length<=1000))=true:=by decide +kernel
 have key:∀x∈(["ZA", "ZB", "ZC"]:Ww),Py x:=λx hx=>by
  have:=this x hx;simp only[Bool.and_eq_true,decide_eq_true_eq]at this;exact⟨this.1.1,this.1.2,this.2⟩
 exact⟨key _ qb,key _ qb,key _ qb⟩
theorem Sl (l:List Nat):∀a,l.foldl max a=a\/l.foldl max a∈l:=by
 induction l with
 |nil=>exact λa=>.inl rfl
 |cons x r ih =>
  intro a;rw[foldl_cons];rcases ih (max a x)with h |h
  ·rw[h];rcases Nat.le_total a x with z |z
   ·rw[Nat.max_eq_right z];exact .inr (ZK ..)
   ·rw[Nat.max_eq_left z];exact .inl rfl
  ·exact .inr (ZS _ h)
theorem QQ (ns:List Nat):BP ns<=Ah ns:=by
 rcases Sl ns 0 with h |h
 ·unfold BP;rw[h];exact Nat.zero_le _
 ·have key:∀ {n},n∈ns->n<=Ah ns:=λ{n} hn=>by
   have:n&&&Ah ns=n:=Nat.eq_of_testBit_eq λk=>by
    rw[Nat.testBit_and,CG];cases e:n.testBit k with
    |false=>rfl
    |true =>
     rw[Bool.true_and];exact any_eq_true.mpr ⟨n,hn,e⟩
   have:=Nat.and_le_right (n:=n) (m:=Ah ns);omega
  exact key h
theorem Sm (h:¬ As (BP (U.map (·.2)))<2 ^ 20):2 ^ 19<=kn U:=by
 refine Nat.le_trans ?_ (QQ (U.map (·.2)));refine Classical.byContradiction λz=>h ?_;have hm:BP (U.map (·.2))<2 ^ 19:=by omega
 have:Builtin.Int.intBits (BP (U.map (·.2)):Nat)<=19:=by
  rcases Nat.eq_zero_or_pos (BP (U.map (·.2)))with e |hp
  ·rw[e];decide
  ·rw[CQ hp];have:=(Nat.log2_lt qe).mpr hm;omega
 unfold As;exact Nat.lt_of_le_of_lt (Nat.pow_le_pow_right qc this) qc
theorem Vj (x:Str) (v:Nat) (n:Nat):(n=0/\(Cb x v).take n=[])\/(1<=n/\∃r,(Cb x v).take n=iL::r):=by
 cases n with
 |zero=>exact .inl ⟨rfl,rfl⟩
 |succ n=>exact .inr ⟨Nat.succ_pos _,_,rfl⟩
theorem Sn (D:aO U) (h6:U.length<=6) (hz:∀x∈(["ZA", "ZB", "ZC"]:Ww),x∉ U.map (·.1)) {x:Str} (hx:x∈U.map (·.1)) {v:Nat} (hv:v<2 ^ 20) (hA:As (BP (U.map (·.2)))<2 ^ 20):∀n,n<=3->BN (AR U++(Cb x v).take n):=by
 have r0:=Dy D;have l0:(AR U).length=U.length:=AE _;have e0:Ae (AR U)=U:=BG U;have k1:BN (AR U++[iL]):=CV r0 ⟨by rw[e0];exact D,by rw[e0];omega,z_nm.1,by rw[e0];exact hz _ qb,True.intro,by rw[e0];exact hA⟩;have e1:Ae (AR U++[iL])=U++[(("ZA" : Str),As (BP (U.map (·.2))))]:=by rw[Bv,e0];rfl
 have D1:=C6 k1 (by rw[ZJ,l0];show _+1<=10;omega);have k2:BN ((AR U++[iL])++[rwB v]):=CV k1 ⟨D1,by rw[e1,ZJ];show _+1<10;omega,z_nm.2.1,?_,True.intro,hv⟩
 ·have e2:Ae ((AR U++[iL])++[rwB v])=(U++[(("ZA" : Str),As (BP (U.map (·.2))))])++[(("ZB" : Str),v)]:=by rw[Bv,e1];rfl
  have D2:=C6 k2 (by rw[ZJ,ZJ,l0];show _+1+1<=10;omega);have k3:BN (((AR U++[iL])++[rwB v])++[rwC x]):=CV k2 ⟨D2,by rw[e2,ZJ,ZJ];show _+1+1<10;omega,z_nm.2.2,?_,?_,?_⟩
  ·intro n hn;rw[List.append_assoc]at k2;rw[List.append_assoc,List.append_assoc]at k3
   match n,hn with
   |0,_=>rw[show(Cb x v).take 0=[]from rfl,Zs];exact r0
   |1,_=>exact k1
   |2,_=>exact k2
   |3,_=>exact k3
  ·rw[e2,Zt,Zt];show("ZC" : Str)∉ _;intro z;rcases mem_append.mp z with z |z
   ·rcases mem_append.mp z with z |z
    ·exact hz "ZC" qb z
    ·exact absurd (show("ZC" : Str) = "ZA" from ZI.mp z) qb
   ·exact absurd (show("ZC" : Str) = "ZB" from ZI.mp z) qb
  ·rw[e2];refine⟨by simp,(by show 2<=10;decide),λy hy=>?_⟩;rw[Zt,Zt];rcases mem_cons.mp hy with rfl |hy
   ·exact ZQ _ (ZQ _ hx)
   ·rw[ZI.mp hy];exact ZU _ (ZI.mpr Zj)
  ·rw[e2]at D2 ⊢;refine Fp λn hn=>?_;obtain⟨y,_,rfl⟩:=Zq.mp hn;unfold look;cases e:((U++[(("ZA" : Str),As (BP (U.map (·.2))))])++[(("ZB" : Str),v)]).find? λp=>decide (p.1=y)with
   |none=>decide
   |some p=>exact D2.lt p (List.mem_of_find?_eq_some e)
 ·rw[e1,Zt];show("ZB" : Str)∉ _;intro z;rcases mem_append.mp z with z |z
  ·exact hz "ZB" qb z
  ·exact absurd (show("ZB" : Str) = "ZA" from ZI.mp z) qb
noncomputable def Cg (bs:List Nat):List Nat:=bs.foldl (λacc b=>acc++acc.map (· |||b)) [0]
theorem Io (bs:List Nat) (b:Nat):Cg (bs++[b])=Cg bs++(Cg bs).map (· |||b):=by unfold Cg;rw[foldl_append];rfl
theorem UK (bs:List Nat):(Cg bs).length=2 ^ bs.length:=R9 (P:=λbs=>(Cg bs).length=2 ^ bs.length) rfl (λxs x ih=>by
 rw[Io,ZJ,AE,ih,ZJ,length_singleton,Nat.pow_succ]
 omega) bs
theorem UL (ks:List Nat):∀n,n∈Cg (ks.map λk=>2 ^ k) ↔ ∀i,n.testBit i=true->i∈ks:=R9 (P:=λks=>∀n,n∈Cg (ks.map λk=>2 ^ k) ↔ ∀i,n.testBit i=true->i∈ks) (λn=>by
 constructor
 ·intro h i hi;rw[ZI.mp h,Nat.zero_testBit]at hi;cases hi
 ·intro h;refine ZI.mpr (Nat.eq_of_testBit_eq λi=>?_);rw[Nat.zero_testBit];cases e:n.testBit i with
  |false=>rfl
  |true=>cases h i e) (λks k ih n=>by
 rw[Zt,List.map_singleton,Io,mem_append,Zq,ih];constructor
 ·rintro (h |⟨m,hm,rfl⟩) i hi
  ·exact ZQ _ (h i hi)
  ·rw[Nat.testBit_or,Bool.or_eq_true]at hi;rcases hi with hi |hi
   ·exact ZQ _ ((ih m).mp hm i hi)
   ·rw[Nat.testBit_two_pow,decide_eq_true_eq]at hi;exact ZU _ (ZI.mpr hi.symm)
 ·intro h;cases e:n.testBit k with
  |false =>
   refine .inl λi hi=>?_;rcases mem_append.mp (h i hi)with z |z
   ·exact z
   ·rw[ZI.mp z,e]at hi;cases hi
  |true =>
   refine .inr ⟨n ^^^ 2 ^ k,(ih _).mpr λi hi=>?_,Nat.eq_of_testBit_eq λi=>?_⟩
   ·rw[Nat.testBit_xor,Nat.testBit_two_pow]at hi;by_cases z:k=i
    ·rw[←z,e,ZM rfl]at hi;cases hi
    ·rw[ZP z,Bool.xor_false]at hi;rcases mem_append.mp (h i hi)with y |y
     ·exact y
     ·exact absurd (ZI.mp y).symm z
   ·rw[Nat.testBit_or,Nat.testBit_xor,Nat.testBit_two_pow];by_cases z:k=i
    ·rw[←z,e,ZM rfl];rfl
    ·rw[ZP z,Bool.xor_false,Bool.or_false]) ks
theorem So {m:Nat} (hm:m<2 ^ 20) (n:Nat):n∈Cg (Bc m) ↔ n&&&m=n:=by
 unfold Bc;rw[UL];constructor
 ·intro h;refine Nat.eq_of_testBit_eq λi=>?_;rw[Nat.testBit_and];cases e:n.testBit i with
  |false=>rfl
  |true =>
   rw[Bool.true_and];exact(mem_filter.mp (h i e)).2
 ·intro h i hi;have hb:=D3 h hi;refine mem_filter.mpr ⟨mem_range.mpr ?_,hb⟩;rcases Nat.lt_or_ge i 42 with z |z
  ·exact z
  ·have:=Ig hb;have:=Nat.pow_le_pow_right (n:=2) qc z;have:(2:Nat) ^ 20<=2 ^ 42:=by decide
   omega
theorem UM {m:Nat} (hm:m<2 ^ 20):(Bc m).length<=20:=by
 unfold Bc C0;rw[AE,show(42:Nat)=20+22 from rfl,List.range_add,filter_append]
 have:((List.range 22).map (20 + ·)).filter (λk=>m.testBit k)=[]:=by
  rw[List.filter_eq_nil_iff];intro k hk hb;obtain⟨j,_,rfl⟩:=Zq.mp hk;have h1:=Ig hb;have h2:(2:Nat) ^ 20<=2 ^ (20+j):=Nat.pow_le_pow_right qc qe;omega
 rw[this,Zs];refine Nat.le_trans (ZT _ _) ?_;rw[length_range];exact Zx _
theorem Sq (l:List Int):∀a,(l.foldl DT a=a\/l.foldl DT a∈l)/\l.foldl DT a<=a/\∀x∈l,l.foldl DT a<=x:=by
 induction l with
 |nil=>exact λa=>⟨.inl rfl,Int.le_refl _,λx hx=>by cases hx⟩
 |cons y r ih =>
  intro a;obtain⟨h1,h2,h3⟩:=ih (DT a y)
  have e:DT a y=a/\a<=y\/DT a y=y/\y<=a:=by
   unfold DT;split
   ·exact .inr ⟨Zj,qe⟩
   ·exact .inl ⟨Zj,qe⟩
  rw[foldl_cons];refine⟨?_,?_,λx hx=>?_⟩
  ·rcases h1 with h1 |h1
   ·rcases e with⟨e,_⟩ |⟨e,_⟩
    ·exact .inl (h1.trans e)
    ·refine .inr ?_;rw[h1,e];exact ZK ..
   ·exact .inr (ZS _ h1)
  ·rcases e with⟨e,_⟩ |⟨e,_⟩ <;> omega
  ·rcases mem_cons.mp hx with rfl |hx
   ·rcases e with⟨e,_⟩ |⟨e,_⟩ <;> omega
   ·exact h3 x hx
theorem Vk {l:List Int} (h:l≠ []):l.foldl DT (l.headD 0)∈l/\∀x∈l,l.foldl DT (l.headD 0)<=x:=by
 cases l with
 |nil=>exact absurd rfl h
 |cons y r =>
  obtain⟨h1,h2,h3⟩:=Sq (y::r) y;refine⟨?_,h3⟩;rcases h1 with h1 |h1
  ·rw[List.headD_cons,h1];exact ZK ..
  ·exact h1
noncomputable def DD (a b:Aa) (r:Str) (ns:List Nat):List Nat:=ns.filter (λn=>!decide (n&&&kn b=n) && !decide (r = "keep"))++ns.filter (λn=>!decide (Az a n=Az b n))
theorem QR {a b:Aa}{r:Str}{ns:List Nat}{n:Nat}:n∈DD a b r ns ↔ n∈ns/\Db a b r n:=by
 unfold DD Db;rw[mem_append,mem_filter,mem_filter];simp only[Bool.and_eq_true,Bool.not_eq_true',decide_eq_false_iff_not];constructor
 ·rintro (⟨h,h1,h2⟩ |⟨h,h1⟩)
  ·exact⟨h,.inl ⟨h1,h2⟩⟩
  ·exact⟨h,.inr h1⟩
 ·rintro⟨h,⟨h1,h2⟩ |h1⟩
  ·exact .inl ⟨h,h1,h2⟩
  ·exact .inr ⟨h,h1⟩
theorem Vl {a b:Aa}{r:Str} (ha:kn a<2 ^ 20) {v:V} (h:Ret a b r v) :
  (DD a b r (Cg (Bc (kn a)))=[]->v=.aK)/\(DD a b r (Cg (Bc (kn a)))≠ []->v=.int ((CY (DD a b r (Cg (Bc (kn a))))).foldl DT ((CY (DD a b r (Cg (Bc (kn a))))).headD 0))):=by
 have hm:∀n,n∈DD a b r (Cg (Bc (kn a))) ↔ n&&&kn a=n/\Db a b r n:=λn=>by rw[QR,So ha]
 generalize DD a b r (Cg (Bc (kn a)))=L at hm;cases h with
 |no e hl =>
  refine⟨λ_=>e,λz=>?_⟩;obtain⟨n,hn⟩:=List.exists_mem_of_ne_nil L z;exact absurd ((hm n).mp hn).2 (hl n ((hm n).mp hn).1)
 | «at» n e hn h hl =>
  have hnL:=(hm n).mpr ⟨hn,h⟩;refine⟨λz=>(by rw[z]at hnL;cases hnL),λz=>?_⟩;have bc:CY L≠ []:=λy=>z (map_eq_nil_iff.mp y);obtain⟨h1,h2⟩:=Vk bc;have h3:=h2 (n:Int) (Zq.mpr ⟨n,hnL,rfl⟩);obtain⟨m,hmL,em⟩:=Zq.mp h1;have h4:=hl m ((hm m).mp hmL).1;have h5:¬ m<n:=λq=>h4 q ((hm m).mp hmL).2;rw[e];congr 1;omega
theorem Sr {a:Aa}{r:Str}{v:V} (h:Ret a a r v):v=.aK:=by
 cases h with
 |no e hl=>exact e
 | «at» n e hn h hl=>exact absurd h λz=>z.elim (λy=>y.1 hn) λy=>y rfl
end Mk
end
section
namespace L2
open PySem
theorem DE {X:Cx}{st:Stmt}{rest:List Stmt}{t u:TS} (h1:PSw X st t) (h2:fg X rest u):fg X (st::rest) (WG t u):=⟨Bb h1.h h2.h⟩
end L2
namespace Mk
open PySem L2 MK PySem.NumText
structure Ad where
 (a d f u t e m kp:W3) (bs ms:List W3)
noncomputable def iJ (a:W3) (f:Nat->Option V):St:=[some (.ref a),f 1,f 2,f 3,f 4,f 5,f 6,f 7,f 8,f 9,f 10,f 11,f 12,f 13,f 14,f 15]
noncomputable def eU (z:Ad) (r:Str) (o x7 x8 x9 x10 fP x12 gQ x15:Option V):St:=[some (.ref z.a),some (.ref z.d),some (.ref z.f),some (.ref z.u),some (.str r),some (.ref z.t),o,x7,x8,x9,x10,fP,x12,gQ,some (.ref z.kp),x15]
theorem WN (z:Ad) (r:Str) (o x7 x8 x9 x10 fP x12 gQ x15:Option V):∃f,eU z r o x7 x8 x9 x10 fP x12 gQ x15=iJ z.a f:=⟨λn=>(eU z r o x7 x8 x9 x10 fP x12 gQ x15).getD n none,rfl⟩
structure RdI (a l P0:W3) (as:List W3) (i:Nat) (σ:St) (H:Hp):Prop where
 st:∃f,σ=iJ a f
 hl:H l=some (.lst (as.map V.ref))
 tb:aS H P0 qL LS
 ds:∀(j:Nat) b,i<=j->as[j]?=some b->∃x y:Int,H b=some (.lst [.int x,.int y])
theorem RdI.fin {a l d P0:W3}{as:List W3}{i:Nat}{σ aN:St} (h:RdI a l P0 as i σ H) (nd:as.Nodup) (hla:l∉ as) (eP:as[i]?=some d) (R:Rl d P0 H H') (hT:aS H' P0 qL LS) (hs:∃f,aN=iJ a f):RdI a l P0 as (i+1) aN H':=by
 refine⟨hs,R _ _ h.hl (λz=>hla (z ▸ ZR eP)) (aS.ne h.hl h.tb) (λ_ z=>nomatch z),hT,λj b hj e=>?_⟩
 have hbd:b≠d:=λz=>by
  subst z;obtain⟨hj2,ej⟩:=Z8.mp e;obtain⟨gM,ei⟩:=Z8.mp eP;exact(List.pairwise_iff_getElem.mp nd) i j gM hj2 qe (by rw[ei,ej])
 obtain⟨x5,y5,e5⟩:=h.ds j b qe e;exact⟨x5,y5,R _ _ e5 hbd (aS.ne e5 h.tb) (λ_ z=>nomatch z)⟩
theorem Keeps.k {b:W3}{o:HO} (s:Keeps H H') (h:H b=some o) (h1:∀x y:Int,o≠ .lst [.int x,.int y]:=by intros;exact λz=>nomatch z) (h2:∀ps,o≠ .fk ps:=by intros;exact λz=>nomatch z) (h3:∀g,o≠ .ext g:=by intros;exact λz=>nomatch z):H' b=some o:=s b o h h1 h2 h3
structure Wf (C P0:W3) (z:Ad) (U:Aa) (r:Str) (H:Hp):Prop where
 wb:Wb z.d P0 H
 ka:aG C H z.kp U r
 lt:eK H z.t z.e z.m z.ms U
 hu:H z.u=some (.lst (z.bs.map V.ref))
 eA:aB H z.bs (BR U)
theorem eK.keeps {t e m:W3}{ms:List W3} (s:Keeps H H') (h:eK H t e m ms U):eK H' t e m ms U:=⟨s.k h.tab,s.k h.fst,s.k h.mrk (λ_ _=>Kp),aB.keeps s h.its⟩
theorem Wf.go {P0:W3}{z:Ad}{r:Str} (h:Wf C P0 z U r H) (R:Rl z.d P0 H H') (wb:Wb z.d P0 H'):Wf C P0 z U r H':=by
 have kp:=h.wb.keeps R;exact⟨wb,h.ka.keeps kp,h.lt.keeps kp,kp.k h.hu (λ_ _=>Kp),aB.keeps kp h.eA⟩
structure Gd (z:Ad) (P0:W3) (H0 H:Hp):Prop where
 rl:Rl z.d P0 H0 H
 wb:Wb z.d P0 H
section
variable {z:Ad}{P0 a:W3}{H0:Hp}{r:Str}
theorem Gd.wf (g:Gd z P0 H0 H) (W0:Wf C P0 z U r H0):Wf C P0 z U r H:=W0.go g.rl g.wb
theorem Gd.go (g:Gd z P0 H0 H) (R:Rl z.d P0 H H') (wb:Wb z.d P0 H'):Gd z P0 H0 H':=⟨g.rl.trans R,wb⟩
theorem Gd.same (g:Gd z P0 H0 H) (s:aA H H'):Gd z P0 H0 H':=g.go (Rl.same s) (g.wb.same s)
theorem Gd.bQ (g:Gd z P0 H0 H) (s:F1 z.d H H'):Gd z P0 H0 H':=by
 obtain⟨x,y,hd⟩:=g.wb.bS;exact g.go (Rl.bQ s) ⟨s.bS,aS.bQ hd s g.wb.tab⟩
theorem Gd.d6 (g:Gd z P0 H0 H) (s:JZ P0 H H') (ht:aS H' P0 qL LS):Gd z P0 H0 H':=g.go (Rl.d6 s) (g.wb.d6 s ht)
theorem Gd.kp (g:Gd z P0 H0 H) (R:Rl z.d P0 H H'):Keeps H H':=g.wb.keeps R
theorem KX.rl {d:W3} (s:KX H H'):Rl d P0 H H':=λb o e _ _ hx=>s b o e λ_ _=>hx _
theorem KX.wb {d:W3} (s:KX H H') (h:Wb d P0 H):Wb d P0 H':=by
 obtain⟨x,y,hd⟩:=h.bS;refine⟨⟨x,y,s _ _ hd (λ_ _ z=>nomatch z)⟩,?_⟩;obtain⟨ps,h1,h2,h3⟩:=h.tab;refine⟨ps,s _ _ h1 (λ_ _ z=>nomatch z),h2,λx hx=>?_⟩;rcases h3 x hx with z |⟨c,z1,z2⟩
 ·exact .inl z
 ·exact .inr ⟨c,z1,s _ _ z2 (λ_ _=>HB)⟩
theorem Gd.kx (g:Gd z P0 H0 H) (s:KX H H'):Gd z P0 H0 H':=g.go s.rl (s.wb g.wb)
end
structure i6 (C o:W3) (U:Aa) (r:Str) (H:Hp):Prop where
 ka:aG C H o U r
 D:aO U
 rr:r∈aU
theorem i6.keeps {o:W3}{r:Str} (s:Keeps H H') (h:i6 C o U r H):i6 C o U r H':=⟨h.ka.keeps s,h.D,h.rr⟩
theorem i6.same {o:W3}{r:Str} (s:aA H H') (h:i6 C o U r H):i6 C o U r H':=⟨h.ka.same s,h.D,h.rr⟩
inductive Lat (C:W3) (U:Aa) (r:Str) (p:W3) (cs:List W3) (more:List (Str×Th)) (v:V) (H:Hp):Prop
 |kind (q:W3) (e:v=.ref q) (ka:aG C H q (Ae (AR U++more)) r) (RO:BN (AR U++more)) (hp:H p=some (.lst (cs.map V.ref))) (hP:Paired (bH H) cs more)
 |bad (q:W3) (e:v=.ref q) (h:H q=some (.tup [.str "refused", .str "BadRows", .int (U.length:Nat)])) (big:2 ^ 19<=kn U)
theorem Gw {d:W3}{x y x' y':Int} (h:H d=some (.lst [.int x,.int y])):F1 d H (upd H d (.lst [.int x',.int y'])):=⟨λb o e hb=>by rw[AH hb];exact e,⟨x',y',AB⟩⟩
section
variable {cM cA c P0:W3}{ec:Nat->W3}
theorem Vm {f0 fT0:W3}{dT0:FuncData} (F:FunC K "law" "law" ED f0 fd c) (FT:aZ K "_law_told" "_law_told" At fT0 dT0) (je:mg "_law_told" = some (.ref fT0)) (jl:Binds K dT0 ["_law_deed"] [])
  (hC:W.CodeHd base c P0) (hBu:base.BuiltinsAt mg P0) (B:Bl mg) (KO:Nx P w K mg base C cA) (neK:W.findIn K (.ref C) "__ne__" = some (some (.builtin "object.__ne__"))) (hmK:W.mroIn K C (.type "object")=some true) (tuK:W.kitOne K (.type "tuple") (.ref C)=some false) (M:QF mg ec) (EX:SE K mg ec cM) (GWd:FnS P w K mg base "_law_word" 1 ["_law_e"] (Dz K ec)) (EA:MP K ec cA 0)
  (GRd:Fn P w K mg base "_law_rounds" 2 ["_law_script", "_law_most"] (spRounds K)) (GL:Fn P w K mg base "_law_lines" 3 ["_law_dice", "_law_most"] spLines) (GRu:Fn P w K mg base "_law_rule_of" 3 ["_law_dice"] spRuleOf) (GT:Fn P w K mg base "_law_table_of" 2 ["_law_due"] spTable)
  (GRo:Fn P w K mg base "_law_roll" 2 ["_law_dice", "_law_many"] spRoll) (GBe:Fn P w K mg base "_law_bits_of" 1 ["_law_number"] Kn) (GLx:Fn P w K mg base "_law_text_of" 1 ["_law_table", "_law_number"] spLTx)
  (GR:Mt P w K mg base C "rows" 1 ["self"] (spRows C)) (GTs:Mt P w K mg base C "rest" 1 ["self"] (spRest C)) (GE:Mt P w K mg base C "__eq__" 2 ["self", "other"] (spEqK C))
  (GBk:Fn P w K mg base "broken" 2 ["kind", "other"] (spBrk C)) (GFr:Fn P w K mg base "first_retold" 8 ["kind", "other"] (Ve C)) (GGo:FnR P w K mg base "gone_on" 8 ["kind", "rows"] (spGon K C cA)) :
  aD P w K mg base aP 11 f0 fd ["_law_script"] (Os K P0):=by
 obtain⟨fRd,dRd,GRd,mRd,kRd,bRd⟩:=GRd.ex;obtain⟨fL,dL,GL,mL,kL,bL⟩:=GL.ex;obtain⟨fRu,dRu,GRu,mRu,kRu,bRu⟩:=GRu.ex;obtain⟨fT,dT,GT,mT,kT,bT⟩:=GT.ex;obtain⟨fRo,dRo,GRo,mRo,kRo,bRo⟩:=GRo.ex;obtain⟨fBe,dBe,GBe,mBe,kBe,bBe⟩:=GBe.ex;obtain⟨fLx,dLx,GLx,mLx,kLx,bLx⟩:=GLx.ex;obtain⟨fR,dR,GR,mR,bR⟩:=GR.ex;obtain⟨fTs,dTs,GTs,mTs,bTs⟩:=GTs.ex;obtain⟨fE,dE,GE,mE,bE⟩:=GE.ex;obtain⟨fBk,dBk,GBk,mBk,kBk,bBk⟩:=GBk.ex;obtain⟨fFr,dFr,GFr,mFr,kFr,bFr⟩:=GFr.ex;obtain⟨fGo,dGo,GGo,mGo,kGo,bGo⟩:=GGo.ex;obtain⟨fI,dI,MI,GI,GIB,gI,kbI⟩:=KO.make;have mC:=KO.cls;have T:=KO.T;have KI:=KO.dH;refine F.ok scLaw (λvs H Q E h=>?_) (λA outer s H vs Q E hr h=>?_)
 ·obtain⟨a,ns,rfl,_⟩:=h;rfl
 ·obtain⟨a,ns,rfl,hS,h63,hTab,kend⟩:=h;have hu:=Ca hr;have eI:=hr.units;have hu65:=hr.in1.units;have cP:aH 1 _:=hr.mono qc;have gC:aH 2 _:=hr.mono qc;have gd:aH 3 _:=hr.mono qc;have hr7:aH 7 _:=hr.mono qc;have hr8:aH 8 _:=hr.mono qc;have nd:=scLaw.nd;have LC:Ta (BF aP P w K mg base JB "law" (defScope ED) f0 (.ref c) A outer s H E).fY c P0:=⟨rfl,hC,hBu⟩
  refine⟨_,fg.h (NO (RU PassesOwn.never Zj (NP (Cz GRd gC Zj mRd kRd bRd .nil AL (Ba (.mk (pv 0)) (Ba (.mk AI) DS)))) (AT (i:=1) nd Zj (Or.inl Zj))
    (NO (.mk (Co (fh.h (Cz GL gd rfl mL kL bL .nil AL (Ba (.mk (pv 1)) (Ba (.mk AI) DS)))) (Bd rfl (AV (AT (i:=2) nd rfl (Or.inl rfl)) (AV (AT (i:=3) nd rfl (Or.inl rfl)) BE)))))
    (NO (.mk (Co (hs:=by kernel_rfl) (hw:=by kernel_rfl) (BB (AA (fh.h (Cz GRu gd rfl mRu kRu bRu .nil AL (Ba (.mk (pv 1)) DS))) (AA (fh.h (Cz GT gC rfl mT kT bT .nil AL (Ba (.mk (pv 3)) DS))) AD))) (Bd rfl (AV (AT (i:=4) nd rfl (Or.inl rfl)) (AV (AT (i:=5) nd rfl (Or.inr rfl)) BE)))))
    (DE (.mk (Co (hs:=by kernel_rfl) (hw:=by kernel_rfl) (BB (AA (Hy MI GI hr7 rfl mC kbI (AA (pv 2) AD) (FS (pv 4) HW)) (AA (Hy MI GI hr7 rfl mC kbI (AA (fh.h (Wm (Eg K rfl) (Cz GL gd rfl mL kL bL .nil AL (Ba (.mk (pv 1)) (Ba (.mk AI) DS))) (.mk AI) (λ_ _=>rfl))) AD) (FS (fh.h (Cz GRu gd rfl mRu kRu bRu .nil AL (Ba (.mk (pv 1)) DS))) HW)) AD))) (Bd rfl (AV (AT (i:=14) nd rfl (Or.inr rfl)) (AV (AT (i:=6) nd rfl (Or.inr rfl)) BE)))))
    (DE (.mk (FZ (i:=7) nd rfl qd ["_law_other"] [some 6] qd qb qd rfl (A5 (pv 3)) (λ_ _ _ _ _ _=>B4 (AQ (Pl K rfl hu65) (pv 0) (Aj (pv 1) T.cl mR GR cP bR .nil AL) rfl)) (λ_ _ _ _ _ _=>Bp (Eg K rfl) (pv 0) AI (λ_ _=>rfl))))
    (DE (KF (.mk (PW.pt (CZ (AQ CN (AM GBk gC rfl mBk kBk bBk .nil AL (AA (pv 14) (AA (pv 6) AD))) (Bn (AQ (EK K rfl eI) (pv 7) (A6 AD) (AX _)) (Bp (BD K rfl) (pv 7) AI (λ_ _=>rfl)) Bj) (AX _)) (Bk (B9 (Jr (AM GBk gC rfl mBk kBk bBk .nil AL (AA (pv 14) (AA (pv 14) AD))))))))) (DH (.mk Am)) EO)
    (DE (LY (i:=15) nd rfl (Or.inr rfl) (.mk (HY OF (fh.h (UW (Ba (.mk (BB (AA AY (AA Bj AD)))) (Ba (.mk (BB (AA AY (AA (fh.h (Cz GRo gC rfl mRo kRo bRo .nil AL (Ba (.mk (pv 1)) (Ba (.mk AI) DS)))) AD)))) (Ba (.mk (BB (AA AY (AA (BB (AA (Bp (Eg K rfl) (Bp (BD K rfl) (pv 3) AI (λ_ _=>rfl)) AI (λ_ _=>rfl)) (AA AY AD))) AD)))) DS))))) Jw (Jx (fh.h (Cz GRo gC rfl mRo kRo bRo .nil AL (Ba (.mk (pv 1)) (Ba (.mk AI) DS))))))))
    (DE (LY (i:=8) nd rfl (Or.inl rfl) (.mk (Vg FT je jl M EX GWd LC hr GGo mGo kGo bGo)))
    (DE (KF (.mk (BA (AZ (Gn K rfl) rfl B.dH Gh (AA (pv 8) (AA (BY (v:=.ref C) rfl mC rfl) AD)))))
     (DE (KF (.mk (PW.pt (CZ (AQ (Q7 GE gd bE mE neK hmK) (pv 8) (Hy MI GI hr7 rfl mC kbI (AA (AW CB (pv 3) (pv 15)) AD) (FS (pv 4) HW)) (AX _)) (Bk (AQ (EK K rfl eI) (HY OF (Aj (pv 8) T.cl mR GR cP bR .nil AL) Jw (Jx (AZ (A9 K rfl) rfl B.len PySem.boot_len (AA (pv 3) AD)))) (pv 3) (AX _)))))) (DH (.mk Am)) EO)
     (DE (KF (.mk (B9 (Jr (AM GBk gC rfl mBk kBk bBk .nil AL (AA (pv 14) (AA (pv 8) AD)))))) (DH (.mk Am)) EO)
     (DH (LY (i:=6) nd rfl (Or.inr rfl) (.mk (Bn (AQ DP (fh.h (Cz GRo gC rfl mRo kRo bRo .nil AL (Ba (.mk (pv 1)) (Ba (.mk AI) DS)))) AI (AX _)) (pv 8) (pv 6)))))))
     (DH (KF (.mk (PW.pt (CZ (AQ (EK K rfl eI) (HY Uj (pv 8) Jw (Jx AI)) (BB (AA AY (AA AY AD))) (AX _)) (Bk (AQ N7 (Bs hu (pv 5) AY (λ_ _=>rfl)) (AW Mp AI AI) (AX _)))))) (DH (.mk Am)) EO)))
    (DE (.mk (Co (hs:=by kernel_rfl) (hw:=by kernel_rfl) (BB (AA (fh.h (Cz GT gC rfl mT kT bT .nil AL (Ba (.mk (Aj (pv 6) T.cl mR GR cP bR .nil AL)) DS))) (AA (A6 (AA AI AD)) AD))) (Bd rfl (AV (AT (i:=9) nd rfl (Or.inr rfl)) (AV (AT (i:=10) nd rfl (Or.inl rfl)) BE)))))
    (DE (RU PassesOwn.never rfl (NP (Cz GBe cP rfl mBe kBe bBe .nil AL (Ba (.mk (Bs hu (pv 5) AY (λ_ _=>rfl))) DS))) (AT (i:=11) nd rfl (Or.inr rfl)) (DH (LY (i:=10) nd rfl (Or.inl rfl) (WF CB (.mk (pv 10)) (.mk (Bf ["_law_bit"] [some 11] qd qb qd rfl (A5 (pv 10)) (λ_ _ _ _ _ _=>B3) (λ_ _ _ _ _ _=>AW Qe (pv 0) (pv 1))))))))
    (DE (.mk (FZ (i:=12) nd rfl qd ["_law_goal", "_law_other"] [some 9,some 6] qd qb qd rfl (A5 (pv 10)) (λ_ _ _ _ _ _=>B4 (PW.pt (Eu (AQ CN (AW Cq (pv 0) (Bs hu (pv 1) AY (λ_ _=>rfl))) (pv 0) (AX _)) (Dc (AQ CN (Aj (pv 2) T.cl mTs GTs cP bTs .nil AL) AY (AX _)))))) (λ_ _ _ _ _ _=>pv 0)))
    (DE (LY (i:=12) nd rfl (Or.inl rfl) (WF CB (.mk (pv 12)) (.mk (Bf ["_law_own", "_law_goal"] [some 5,some 9] qd qb qd rfl (A5 (pv 10)) (λ_ _ _ _ _ _=>B4 (AQ CN (AM GLx cP rfl mLx kLx bLx .nil AL (AA (pv 1) (AA (pv 0) AD))) (AM GLx cP rfl mLx kLx bLx .nil AL (AA (pv 2) (AA (pv 0) AD))) (AX _))) (λ_ _ _ _ _ _=>pv 0)))))
    (DE (KF (.mk (AQ CN (AM GFr hr8 rfl mFr kFr bFr .nil AL (AA (pv 14) (AA (pv 6) AD))) (Bn (AQ (EK K rfl eI) (pv 12) (A6 AD) (AX _)) (AZ (Pk K rfl rfl) rfl B.min Rk (AA (pv 12) AD)) Bj) (AX _))) (DH (.mk Am)) EO)
    (DE (KF (.mk (B9 (Jr (AM GFr hr8 rfl mFr kFr bFr .nil AL (AA (pv 14) (AA (pv 14) AD)))))) (DH (.mk Am)) EO)
    (DE (RU PassesOwn.never rfl (NP (UW (Ba (.mk Bj) (Ba (.mk AI) (Ba (.mk (BB AD)) (Ba (.mk AY) DS)))))) (AT (i:=13) nd rfl (Or.inr rfl)) (DH (KF (.mk (AQ (EK K rfl eI) (Vh FT je jl M EX GWd LC hr GGo mGo kGo bGo) (BB (AA AY (AA AY (AA Bj AD)))) (AX _))) (DH (.mk Am)) EO)))
    (DH (KF (.mk (AQ (EK K rfl eI) (Vi FT je jl M EX GWd LC hr GGo mGo kGo bGo) (BB (AA AY (AA AY (AA (AW Df (AZ (A9 K rfl) rfl B.len PySem.boot_len (AA (pv 3) AD)) AI) AD)))) (AX _))) (DH (.mk Am)) EO))))))))))))))))))
   (DH (.mk (AN N1)))),?_⟩
  refine⟨_,Zj,a,ns,Zj,hS,h63,λl as H1 s1 hl nd' hla h5 bx=>?_⟩
  refine⟨l,Zj,⟨_,aJ.of hl⟩,B2 (K:=K) (a:=l) (xs:=as.map V.ref) (λi σ H2=>RdI a l P0 as i σ H2)
   ⟨⟨λ_=>none,rfl⟩,hl,aS.same s1 hTab,λj b _ e=>(bx b (ZR e)).2⟩ (λi σ H2 _ R=>aJ.of R.hl) ?_ (λσ H2 R=>by obtain⟨f,rfl⟩:=R.st;exact kend _)⟩
  rintro i v σ H2 hi RI;rw[ZG]at hi;obtain⟨d,eP,rfl⟩:=Z6.mp hi;obtain⟨x,y,hd⟩:=RI.ds i d (Zx _) eP;obtain⟨g,rfl⟩:=RI.st;refine⟨_,Zj,d,x,y,6,Zj,qc,qc,hd,λq f u fs bs0 rows Ha sXa hq hfn hun hf hP hu0 eA r0 r10 RO ax=>?_⟩;refine⟨q,_,Zj,bA.of hq,Zj,_,_,Zj,_,_,Zj,Zj,?_⟩;obtain⟨xa,ya,hda⟩:=sXa.bS;have fd_:f≠d:=λz=>by rw[z,hd]at hfn;cases hfn
  have ud:u≠d:=λz=>by rw[z,hd]at hun;cases hun
  have DO:=C6 RO qe;refine⟨_,rfl,d,xa,ya,rfl,hda,λr Hb aw sXb=>?_⟩;obtain⟨xb,yb,dG⟩:=sXb.bS;have tX:aQ Ha Hb:=λb xs e=>sXb.old _ _ e (QS e hda λz=>nomatch z);have av:=sXb.old _ _ hu0 ud;have c9:=aB.cL tX eA;have hPb:Paired (bH Hb) fs rows:=Aw tX hP;have hfb:=sXb.old _ _ hf fd_;refine⟨_,rfl,u,bs0,Ae rows,rfl,av,c9,DO.len,DO.lt,λt e m ms Hc sc ht he hm ba=>?_⟩;refine⟨dQ,λtp htp=>?_⟩;have stp:=AC (aA.refl _) htp (o:=HO.tup [V.str r,V.ref t]);refine⟨tp,_,rfl,bA.of AB,rfl,_,_,rfl,_,_,rfl,rfl,?_⟩;have sbd:=sc.trans stp;have LT0:eK (upd Hc tp (HO.tup [V.str r,V.ref t])) t e m ms (Ae rows):=eK.same ⟨ht,he,hm,ba⟩ stp;generalize upd Hc tp (HO.tup [V.str r,V.ref t])=Hd at sbd LT0 ⊢;clear stp;have gN:bs0.length=(Ae rows).length:=by rw[Ck c9,BQ]
  have pos:0<(Ae rows).length:=by rw[BQ];exact r0
  have h6:(Ae rows).length<=6:=by rw[BQ];omega
  have zN:∀x∈(["ZA", "ZB", "ZC"]:Ww),x∉ (Ae rows).map (·.1):=λx hx hm=>by
   rw[MD]at hm;have:=ax x hm;simp only[mem_cons,not_mem_nil,or_false]at hx;rcases hx with rfl |rfl |rfl <;> exact absurd this qb
  refine⟨λσ H'=>∃(z:Ad) (o:W3) (ac:Aa) (r2:Str),σ=eU z r (some (.ref o)) (g 7) (g 8) (g 9) (g 10) (g 11) (g 12) (g 13) (g 15)/\z.a=a/\z.d=d/\z.bs.length=(Ae rows).length/\Wf C P0 z (Ae rows) r H'/\Rl d P0 H2 H'/\i6 C o ac r2 H',λR hR=>?_,?_⟩
  ·refine⟨_,Zj,_,Zj,?_⟩;intro k dk hk hdk bc;have sN:=DZ (D:=C) hk hdk bc;refine⟨k,dk,f,rows,r,Zj,AB,⟨fs,sN _ _ (sbd _ _ hfb),Aw (aQ.of (sbd.trans sN)) hPb⟩,r0,qe,RO,aw,λH0 sd KA=>⟨Zj,?_⟩⟩;have sb0:=sbd.trans (CJ sN hk sd);have LT1:=LT0.same (CJ sN hk sd);have au:=sb0 _ _ dG;refine⟨_,Zj,d,xb,yb,6,Zj,qc,qc,au,λq2 f2 u2 fs2 bs2 af He sXe iQ hfn2 hun2 hf2 hP2 hu2 hbs2 r02 r102 RO2 hwd2=>?_⟩;refine⟨q2,_,0,_,Zj,Zj,bA.of iQ,Zj,?_⟩;obtain⟨xe,ye,iC⟩:=sXe.bS;refine⟨_,Zj,d,xe,ye,Zj,iC,λr2 Hf hrr2 sXf=>?_⟩;obtain⟨xf,yf,hdf⟩:=sXf.bS;have f2d:f2≠d:=λz=>by rw[z,au]at hfn2;cases hfn2
   have tX2:aQ He Hf:=λb xs e=>sXf.old _ _ e (QS e iC λz=>nomatch z);intro k2 dk2 hk2 hdk2 cn;have sN2:=DZ (D:=C) hk2 hdk2 cn;refine⟨k2,dk2,f2,af,r2,rfl,AB,⟨fs2,sN2 _ _ (sXf.old _ _ hf2 f2d),Aw ((aQ.of sN2)) (Aw tX2 hP2)⟩,r02,qe,RO2,hrr2,λHg sdg KA2=>⟨rfl,?_⟩⟩;have sfg:=CJ sN2 hk2 sdg;refine⟨dQ,λtp2 htp2=>?_⟩;have gR:=AC (aA.refl _) htp2 (o:=HO.tup [V.ref k,V.ref k2]);refine⟨tp2,_,rfl,bA.of AB,rfl,_,_,rfl,_,_,rfl,rfl,?_⟩;have sfh:=sfg.trans gR;have KA2':=KA2.same gR;generalize upd Hg tp2 (HO.tup [V.ref k,V.ref k2])=Hh at sfh KA2' ⊢;have R1:Rl d P0 H2 H0:=((Rl.bQ sXa).trans (Rl.bQ sXb)).trans (Rl.same sb0);have R2:Rl d P0 H0 Hh:=((Rl.bQ sXe).trans (Rl.bQ sXf)).trans (Rl.same sfh);have hT0:aS H0 P0 qL LS:=aS.same sb0 (aS.bQ hda sXb (aS.bQ hd sXa RI.tb));have wb0:Wb d P0 H0:=⟨⟨_,_,au⟩,hT0⟩;have hTh:aS Hh P0 qL LS:=aS.same sfh (aS.bQ iC sXf (aS.bQ au sXe hT0));have wbh:Wb d P0 Hh:=⟨⟨_,_,sfh _ _ hdf⟩,hTh⟩;have W0:Wf C P0 ⟨a,d,f,u,t,e,m,k,bs0,ms⟩ (Ae rows) r H0:=⟨wb0,KA,LT1,sb0 _ _ av,aB.cL (aQ.of sb0) c9⟩;refine hR _ _ ⟨⟨a,d,f,u,t,e,m,k,bs0,ms⟩,k2,Ae af,r2,rfl,rfl,rfl,gN,W0.go R2 wbh,R1.trans R2,KA2',C6 RO2 qe,hrr2⟩
  rintro σ H0 ⟨z,o,ac,r2,rfl,rfl,rfl,dm,W0,R0,O0⟩;have fin:∀ {σ H'},(∃f,σ=iJ z.a f)->Gd z P0 H0 H'->RdI z.a l P0 as (i+1) σ H':=λhs G=>RI.fin nd' hla eP (R0.trans G.rl) G.wb.tab hs;have G0:Gd z P0 H0 H0:=⟨Rl.refl _,W0.wb⟩;generalize hdue:Ae rows=U at *;clear hdue c9 av hPb LT0 sbd tX hfb hP eA hu0 hf ax RO r10 r0 gN hd hda dG;have hk20:=Of DO.lt;have asc:Asc U:=λp hp=>(DO.nm p hp).2.1;have al:Asc ac:=λp hp=>(O0.D.nm p hp).2.1;obtain⟨dko,eo1,eo2,hko⟩:=O0.ka.ins;have gK:∀ {x y:W3}{z:Str}{m:Str},¬ m = "rule" -> ¬ m = "firsts" -> ¬ m = "numbers" -> (Gk x y z).lookup m=none:=λh1 h2 h3=>BO _ _ _ h1 h2 h3;refine⟨λσ H'=>∃p,σ=eU z r (some (.ref o)) (some (.ref p)) (g 8) (g 9) (g 10) (g 11) (g 12) (g 13) (g 15)/\H' p=some (.lst ((Ea U ac).map V.str))/\aA H0 H',λR hR=>?_,?_⟩
  ·refine⟨_,Zj,z.u,Zj,⟨_,aJ.of W0.hu⟩,BU (K:=K) (a:=z.u) (xs:=z.bs.map V.ref) (λi ys H'=>ys=(Ea (U.take i) ac).map V.str/\aA H0 H') ⟨Zj,aA.refl _⟩ (λi ys H' _ h=>aJ.of (h.2 _ _ W0.hu)) (λi ys H' ⟨e,_⟩=>?_) ?_ ?_⟩
   ·rw[e];unfold Ea;rw[AE,AE];refine Nat.le_trans (ZT _ _) ?_;rw[Zz];omega
   ·rintro i v ys H' hi ⟨rfl,s'⟩;obtain⟨b,p,rfl,_,hp,ao⟩:=Bx (aB.same s' W0.eA) hi;refine⟨_,Zj,_,Zj,o,dko,_,Zj,s' _ _ hko,gK qb qb qb,o,ac,r2,Zj,O0.ka.same s',λl2 i0 H3 s3 d9 db=>?_⟩;refine⟨pD p,C4 ac,Lz (s3 _ _ ao),BL d9 (C5 db),MB (asc p (ZR hp)),Bw al,λy hy=>?_,_,Zj,?_⟩
    ·obtain⟨q,_,rfl⟩:=Zq.mp hy;exact Nz p q
    rw[Im]
    have eT:Ea (U.take (i+1)) ac=Ea (U.take i) ac++(if decide (p∉ ac)then [p.1]else []):=by
     unfold Ea;rw[ZF,hp,filter_append,Zt];congr 1;show List.map _ (List.filter _ [p])=_;rw[filter_cons,filter_nil];split <;> rfl
    refine BI (λhq=>?_) (λhq=>?_)
    ·refine⟨_,Zj,b,_,0,_,Zj,Zj,bA.of (s3 _ _ ao),Zj,?_,s'.trans s3⟩;rw[eT,Zo hq,Zt];rfl
    ·refine⟨?_,s'.trans s3⟩;rw[eT,Zp hq,Zs]
   ·rintro ys H' ⟨rfl,s'⟩ p hp;rw[AE,dm,ZD];exact hR _ _ ⟨p,Zj,AB,AC s' hp⟩
  rintro σ H3 ⟨p7,rfl,h7,s3⟩;have b10:U.length<=10:=DO.len;refine⟨λσ H'=>σ=eU z r (some (.ref o)) (some (.ref p7)) (g 8) (g 9) (g 10) (g 11) (g 12) (g 13) (g 15)/\aA H0 H',λR hR=>?_,?_⟩
  ·have kk:∀H',aA H0 H'->∀Q':Bool->Hp->Prop,(∀H2,aA H0 H2->Q' false H2)->Qi (UO (Gx (spBrk C) [] E0 (Ag (D9 14) (Ag (D9 14) CA)))) (eU z r (some (.ref o)) (some (.ref p7)) (g 8) (g 9) (g 10) (g 11) (g 12) (g 13) (g 15)) H' Q':=λH' s' Q' q=>by
    refine⟨_,Zj,_,Zj,z.kp,z.kp,U,U,r,r,Zj,W0.ka.same s',W0.ka.same s',b10,DO.nd,λH2 s2=>?_⟩;rw[Ot λp hp=>hp];exact⟨_,Zj,q _ (s'.trans s2)⟩
   refine⟨_,Zj,_,Zj,z.kp,o,U,ac,r,r2,Zj,W0.ka.same s3,O0.ka.same s3,O0.D.len,O0.D.nd,λH4 s4=>?_⟩;have s04:=s3.trans s4;refine⟨_,Zj,(by show 0<=sizeLine;decide),λp hp=>?_⟩;have sp:=AC (aA.refl _) hp (o:=HO.lst []);refine⟨_,_,BL (sp _ _ (s4 _ _ h7)) (IT (Ea U ac)),BL AB HH,G3 (λx hx=>?_),Dx,_,Zj,?_⟩
   ·unfold Ea at hx;obtain⟨p,hp,rfl⟩:=Zq.mp hx;exact asc p (mem_filter.mp hp).1
   have s05:=s04.trans sp;have h75:=sp _ _ (s4 _ _ h7);generalize upd H4 p (HO.lst [])=H5 at s05 h75 ⊢;rw[KW,Sj];cases hsn:Ea U ac with
   |nil =>
    refine An ⟨Zj,_,Zj,?_⟩;exact An (kk _ s05 _ λH2 s2=>An (hR _ _ ⟨Zj,s2⟩))
   |cons x rest =>
    rw[hsn]at h75;refine Ay ⟨_,Zj,p7,_,0,V.str x,Zj,Zj,aJ.of h75,(show g6 _ ((0:Nat):Int)=_ from Cc Zj),Zj,_,Zj,?_⟩;show if (!decide (V.str x=V.str x))=true then _ else _
    rw[ZM rfl];exact An (kk _ s05 _ λH2 s2=>An (hR _ _ ⟨Zj,s2⟩))
  rintro σ H4 ⟨rfl,s4⟩;have G4:=G0.same s4;have O4:=O0.same s4;clear h7 s3;have h0b:0<z.bs.length:=by omega
  obtain⟨b0,hb0⟩:∃b,z.bs[0]?=some b:=⟨_,Z7 h0b⟩;obtain⟨v0,p0,ev0,_,hp0,hbt0⟩:=Bx (G4.wf W0).eA (i:=0) (v:=.ref b0) (by rw[ZG,hb0];rfl);cases ev0;have hx0:p0.1∈U.map (·.1):=Zq.mpr ⟨p0,ZR hp0,rfl⟩;refine⟨λσ H'=>∃(p:W3) (cs:List W3) (n v:Nat),σ=eU z r (some (.ref o)) (some (.ref p7)) (g 8) (g 9) (g 10) (g 11) (g 12) (g 13) (some (.ref p))/\n<=3/\v<2 ^ 20/\H' p=some (.lst (cs.map V.ref))/\Paired (bH H') cs ((Cb p0.1 v).take n)/\Gd z P0 H0 H'/\Keeps H4 H',λR hR=>?_,?_⟩
  ·obtain⟨x4,y4,hd4⟩:=G4.wb.bS;have hu4:=(G4.wf W0).hu;refine⟨dQ,λq1 hq1=>?_⟩;have ic:=AC (aA.refl _) hq1 (o:=HO.tup [V.str "ZA", V.aK]);have t1:=AB (H:=H4) (a:=q1) (o:=HO.tup [V.str "ZA", V.aK]);have G5:=G4.same ic;have K5:Keeps H4 _:=λb o e _ _ _=>ic b o e;have hd5:=ic _ _ hd4;generalize upd H4 q1 (HO.tup [V.str "ZA", V.aK])=H5 at ic t1 G5 K5 hd5 ⊢;refine⟨_,Zj,z.d,x4,y4,64,Zj,hd5,qc,qc,λrv a' b' hrv0 hrv1=>?_⟩;have X6:F1 z.d H5 (upd H5 z.d (.lst [.int a',.int b'])):=Gw hd5;have G6:=G5.bQ X6;have K6:=G5.kp (Rl.bQ (P0:=P0) X6);have t1':=K6.k t1;have hd6:=AB (H:=H5) (a:=z.d) (o:=HO.lst [.int a',.int b']);generalize upd H5 z.d (.lst [.int a',.int b'])=H6 at X6 G6 K6 t1' hd6 ⊢;refine⟨dQ,λq2 iQ=>?_⟩;obtain⟨rn,rfl⟩:=Int.eq_ofNat_of_zero_le hrv0;have s2':=AC (aA.refl _) iQ (o:=HO.tup [V.str "ZB", V.int (rn:Int)]);have t2:=AB (H:=H6) (a:=q2) (o:=HO.tup [V.str "ZB", V.int (rn:Int)]);refine⟨_,Zj,z.u,_,0,V.ref b0,Zj,Zj,aJ.of (s2' _ _ ((G6.wf W0).hu)),(show g6 _ ((0:Nat):Int)=_ from Cc (by rw[ZG,hb0];rfl)),_,_,0,_,Zj,Zj,bA.of (s2' _ _ (K6.k (K5.k hbt0))),Zj,dQ,λq3 hq3=>?_⟩;have s3':=s2'.trans (AC (aA.refl _) hq3 (o:=HO.tup [V.str p0.1,V.str "ZB"]));have t3:=AB (H:=upd H6 q2 (HO.tup [V.str "ZB", V.int (rn:Int)])) (a:=q3) (o:=HO.tup [V.str p0.1,V.str "ZB"]);have t2':=AC (aA.refl _) hq3 (o:=HO.tup [V.str p0.1,V.str "ZB"]) _ _ t2;generalize upd (upd H6 q2 (HO.tup [V.str "ZB", V.int (rn:Int)])) q3 (HO.tup [V.str p0.1,V.str "ZB"])=H7 at s3' t3 t2' ⊢;refine⟨dQ,λq4 hq4=>?_⟩;have s4':=s3'.trans (AC (aA.refl _) hq4 (o:=HO.tup [V.str "ZC", V.ref q3]));have t4:=AB (H:=H7) (a:=q4) (o:=HO.tup [V.str "ZC", V.ref q3]);have s74:=AC (aA.refl _) hq4 (o:=HO.tup [V.str "ZC", V.ref q3]);have t3':=s74 _ _ t3;have t2'':=s74 _ _ t2';generalize upd H7 q4 (HO.tup [V.str "ZC", V.ref q3])=H8 at s4' t4 t3' t2'' ⊢;refine⟨jb,λq5 hq5=>?_⟩;have s5':=s4'.trans (AC (aA.refl _) hq5 (o:=HO.lst [V.ref q1,V.ref q2,V.ref q4]));have s85:=AC (aA.refl _) hq5 (o:=HO.lst [V.ref q1,V.ref q2,V.ref q4]);have t5:=AB (H:=H8) (a:=q5) (o:=HO.lst [V.ref q1,V.ref q2,V.ref q4]);have hP5:Paired (bH (upd H8 q5 (HO.lst [V.ref q1,V.ref q2,V.ref q4]))) [q1,q2,q4] (Cb p0.1 rn):=.cons ⟨_,s5' _ _ t1',rfl⟩ (.cons ⟨_,s85 _ _ t2'',rfl⟩ (.cons ⟨_,s85 _ _ t4,q3,rfl,s85 _ _ t3'⟩ .nil));generalize upd H8 q5 (HO.lst [V.ref q1,V.ref q2,V.ref q4])=H9 at s5' t5 hP5 ⊢;clear s4' s85 s74 t2'' t3' t4 t3 t2' t2 s2' s3';refine⟨_,Zj,z.d,a',b',4,Zj,s5' _ _ hd6,qc,qc,λn a2 b2 iR hn1=>?_⟩;have G9:=G6.same s5';have X10:F1 z.d H9 (upd H9 z.d (.lst [.int a2,.int b2])):=Gw (s5' _ _ hd6);have G10:=G9.bQ X10;have K10:=G9.kp (Rl.bQ (P0:=P0) X10);have t10:=K10.k t5;have hP10:=Aw (λb xs e=>K10.k e) hP5;have K4:Keeps H4 (upd H9 z.d (.lst [.int a2,.int b2])):=λb o e h1 h2 h3=>K10 _ _ (s5' _ _ (K6 _ _ (K5 _ _ e h1 h2 h3) h1 h2 h3)) h1 h2 h3;generalize upd H9 z.d (.lst [.int a2,.int b2])=jo at G10 K10 t10 hP10 K4 ⊢;obtain⟨nn,rfl⟩:=Int.eq_ofNat_of_zero_le iR;refine⟨_,Zj,q5,_,Zj,aJ.of t10,λp hp=>?_⟩;have gi:=AC (aA.refl _) hp (o:=HO.lst (HZ [V.ref q1,V.ref q2,V.ref q4] none (some (nn:Int))))
   have ec:HZ [V.ref q1,V.ref q2,V.ref q4] none (some (nn:Int))=(([q1,q2,q4].take nn).map V.ref):=by
    rw[Mh _ (by show nn<=3;omega),map_take];rfl
   rw[ec]at gi ⊢
   have rn20:rn<2 ^ 20:=by
    have:(2:Nat) ^ 20=1048576:=by decide
    omega
   refine hR _ _ ⟨p,[q1,q2,q4].take nn,nn,rn,Zj,qe,rn20,AB,Eb (Aw (aQ.of gi) hP10) nn,G10.same gi,λb o e h1 h2 h3=>gi _ _ (K4 b o e h1 h2 h3)⟩
  rintro σ H5 ⟨fQ,cs,n5,v5,rfl,hn5,hv5,h15,hP5,G5,K5⟩;have O5:=O4.keeps K5;clear K5 hbt0 O4 G4 s4;have hlc:=hP5.length;have hl3:((Cb p0.1 v5).take n5).length<=3:=by rw[Zz];exact Nat.min_le_right _ _
  refine⟨λσ H'=>∃v8,σ=eU z r (some (.ref o)) (some (.ref p7)) (some v8) (g 9) (g 10) (g 11) (g 12) (g 13) (some (.ref fQ))/\Gd z P0 H0 H'/\i6 C o ac r2 H'/\Lat C U r fQ cs ((Cb p0.1 v5).take n5) v8 H',λR hR=>?_,?_⟩
  ·refine⟨G5.wb.tab,λH6 sB hT6=>?_⟩;have G6:=G5.d6 sB hT6;have K6:=G5.kp (Rl.d6 sB);have W6:=G6.wf W0;have h6':=K6.k h15 (λ_ _=>Kp);have hP6:Paired (bH H6) cs ((Cb p0.1 v5).take n5):=Aw (λb xs e=>K6.k e) hP5;have O6:=O5.keeps K6;refine⟨_,Zj,_,Zj,z.kp,U,r,.ref fQ,Zj,W6.ka,.inr ⟨fQ,cs,(Cb p0.1 v5).take n5,Zj,⟨h6',hP6,DO,pos,qe⟩,?_⟩⟩;have good:=λ(RO:BN (AR U++(Cb p0.1 v5).take n5)) (q:W3) (H7:Hp) (s7:aA H6 H7) (KA7:aG C H7 q (Ae (AR U++(Cb p0.1 v5).take n5)) r)=>hR (eU z r (some (.ref o)) (some (.ref p7)) (some (.ref q)) (g 9) (g 10) (g 11) (g 12) (g 13) (some (.ref fQ))) H7 ⟨_,rfl,G6.same s7,O6.same s7,.kind q rfl KA7 RO (s7 _ _ h6') (Aw (aQ.of s7) hP6)⟩;by_cases hA:As (BP (U.map (·.2)))<2 ^ 20
   ·exact .inl ⟨Sn DO h6 zN hx0 hv5 hA n5 hn5,aw,good (Sn DO h6 zN hx0 hv5 hA n5 hn5)⟩
   ·rcases Vj p0.1 v5 n5 with⟨_,e⟩ |⟨h1,rest,e⟩
    ·have RO:BN (AR U++(Cb p0.1 v5).take n5):=by
      rw[e,Zs];exact Dy DO
     exact .inl ⟨RO,aw,good RO⟩
    ·have e1:(Cb p0.1 v5).take n5=iL::rest:=e;rw[e1]at hP6
     obtain⟨c0,cr,ecs⟩:∃c0 cr,cs=c0::cr:=by
      cases cs with
      |nil=>cases hP6
      |cons x y=>exact⟨x,y,rfl⟩
     subst ecs;obtain⟨tv,hc0,htv⟩:bH H6 c0 iL:=by cases hP6 with |cons p r=>exact p
     cases htv;have e0:Ae (AR U++((Cb p0.1 v5).take n5).take 0)=U:=by rw[take_zero,Zs,BG]
     refine .inr ⟨0,c0,by rw[e1];exact Nat.succ_pos _,by rw[take_zero,Zs];exact Dy DO,Zj,?_,Ik EA G6.wb λq H7 wb7 rl7 hq7=>hR _ _ ⟨_,Zj,G6.go rl7 wb7,O6.keeps (G6.kp rl7),.bad q Zj hq7 (Sm hA)⟩⟩;rw[e0];have zn:=z_nm.1;refine .inr ⟨c0,_,Zj,hc0,.inr ⟨_,_,Zj,.inr ⟨"ZA", Zj,zn.2.1,zn.2.2,λ_ _=>.inr (.inr (.inr ⟨Zj,?_⟩))⟩⟩⟩;have:(2:Nat) ^ 20=1048576:=by decide
     omega
  rintro σ H6 ⟨v8,rfl,G6,O6,L6⟩;clear h15 hP5 G5 O5;generalize hmr:(Cb p0.1 v5).take n5=more at *;clear hmr;obtain⟨ex,hex⟩:=Kr U more;refine⟨λσ H'=>∃(o':W3) (ad:Aa) (r3:Str),σ=eU z r (some (.ref o')) (some (.ref p7)) (some v8) (g 9) (g 10) (g 11) (g 12) (g 13) (some (.ref fQ))/\Gd z P0 H0 H'/\i6 C o' ad r3 H',λR hR=>?_,?_⟩
  ·cases L6 with
   |bad q e hq big =>
    subst e;refine⟨_,Zj,_,_,_,false,Zj,.tup hq,tuK,_,Zj,An ?_⟩;have W6:=G6.wf W0;refine⟨_,Zj,_,Zj,q,_,Zj,bA.of hq,λz=>?_,λp hp=>?_⟩
    ·exact absurd z.2 (by show ¬ HT.bY 3 3 (some 2)=3;decide)
    have sp:=AC (aA.refl _) hp (o:=HO.tup [V.str "refused", V.str "BadRows"]);refine⟨dQ,λp2 aq=>?_⟩;have sp2:=AC sp aq (o:=HO.tup [V.str "refused", V.str "BadRows"]);refine⟨_,_,Oe (AC (aA.refl _) aq _ _ AB),Oe AB,Il,Il,_,Zj,?_⟩;rw[UI];refine An ?_;have W7:=(G6.same sp2).wf W0;refine⟨_,Zj,z.t,_,Zj,.inl ⟨_,Sum.inr "known", .inl W7.lt.tab,Zj,(Go _ _ _).symm⟩,_,_,Zj,Zj,⟨qc,qc,qc⟩,_,_,Zj,Zj,_,Zj,?_⟩;rw[ZP (show ¬ ((Ah (U.map (·.2)):Nat):Int)<(2:Int) ^ (19:Int).toNat from λz=>?_)]
    ·exact An (hR _ _ ⟨o,ac,r2,Zj,G6.same sp2,O6.same sp2⟩)
    ·have b1:(2:Nat) ^ 19<=Ah (U.map (·.2)):=big;have e1:(2:Int) ^ (19:Int).toNat=524288:=by decide
     have e2:(2:Nat) ^ 19=524288:=by decide
     omega
   |kind q e ka RO hp hP =>
    subst e;obtain⟨dq,eq1,eq2,hq⟩:=ka.ins;refine⟨_,Zj,_,_,_,true,Zj,KI.ty hq,EZ K C,_,Zj,Ay ?_⟩
    have az:(AR U++more).length<=10:=by
     unfold AR;rw[ZJ,AE];omega
    have D8:=C6 RO az;have asc8:Asc (Ae (AR U++more)):=λp hp=>(D8.nm p hp).2.1;generalize hd8:Ae (AR U++more)=eZ at *;refine⟨λσ H'=>σ=eU z r (some (.ref o)) (some (.ref p7)) (some (.ref q)) (g 9) (g 10) (g 11) (g 12) (g 13) (some (.ref fQ))/\aA H6 H',λR' hR'=>?_,?_⟩
    ·have W6:=G6.wf W0;refine⟨_,Zj,_,Zj,_,Zj,z.u,fQ,z.bs.map V.ref,cs.map V.ref,Zj,Zj,W6.hu,hp,Nat.le_of_lt (Ac (by rw[AE,AE];omega)),λl1 hl1=>?_⟩;have ic:=AC (aA.refl _) hl1 (o:=HO.lst (z.bs.map V.ref++cs.map V.ref));have gy:=AB (H:=H6) (a:=l1) (o:=HO.lst (z.bs.map V.ref++cs.map V.ref));generalize upd H6 l1 (HO.lst (z.bs.map V.ref++cs.map V.ref))=H7 at ic gy ⊢;rw[←Zt]at gy;refine⟨_,Zj,?_⟩;intro k dk hk hdk bc;have sN:=DZ (D:=C) hk hdk bc;refine⟨k,dk,l1,AR U++more,r,Zj,AB,⟨z.bs++cs,sN _ _ gy,D4 (MH (aB.same (ic.trans sN) W6.eA)) (Aw (aQ.of (ic.trans sN)) hP)⟩,?_,az,RO,aw,λH8 sd KA8=>⟨Zj,?_⟩⟩
     ·unfold AR;rw[ZJ,AE];omega
     rw[hd8]at KA8;have s8:=ic.trans (CJ sN hk sd);obtain⟨dk8,ek1,ek2,hk8⟩:=KA8.ins;refine⟨q,dq,_,k,dk8,_,Zj,Zj,s8 _ _ hq,hk8,q,k,eZ,r,Zj,ka.same s8,asc8,.inr ⟨eZ,r,KA8,asc8,λH9 s9=>?_⟩⟩;rw[ZM (show eZ=eZ/\r=r from⟨rfl,rfl⟩)];refine⟨true,Zj,true,Zj,_,Zj,An ?_⟩;have s09:=s8.trans s9;refine⟨_,Zj,q,dq,_,Zj,s09 _ _ hq,gK qb qb qb,q,eZ,r,Zj,ka.same s09,λl2 i0 jo gT d9 db=>?_⟩;have s010:=s09.trans gT;have W10:=W6.go (Rl.same s010) (W6.wb.same s010);refine⟨_,Zj,z.u,_,Zj,.inl (aJ.of W10.hu),_,Zj,l2,_,Zj,aJ.of d9,λl3 hl3'=>?_⟩
     have l8:i0.length=eZ.length:=by
      have:=db.length;unfold BR at this;rw[this,AE]
     have dl8:eZ.length=U.length+ex.length:=by rw[hex,ZJ]
     have ec:HZ (i0.map V.ref) none (some (((z.bs.map V.ref).length:Nat):Int))=(i0.take U.length).map V.ref:=by
      rw[Mh _ (by rw[AE,AE];omega),map_take,AE,dm]
     rw[ec];have gi:=AC (aA.refl _) hl3' (o:=HO.lst ((i0.take U.length).map V.ref));have ji:=AB (H:=jo) (a:=l3) (o:=HO.lst ((i0.take U.length).map V.ref));generalize upd jo l3 (HO.lst ((i0.take U.length).map V.ref))=H11 at gi ji ⊢
     have et:(BR eZ).take U.length=BR U:=by
      unfold BR;rw[←map_take,hex,List.take_left]
     have hT11:aB H11 (i0.take U.length) (BR U):=by
      rw[←et];exact Eb (aB.same gi db) _
     refine⟨_,Zj,_,_,BL ji (C5 hT11),BL (gi _ _ W10.hu) (C5 (aB.same gi W10.eA)),Bw asc,Bw asc,_,Zj,?_⟩;rw[IV,ZM rfl];exact An (hR' _ _ ⟨Zj,s010.trans gi⟩)
    rintro σ H7 ⟨rfl,s7⟩;refine⟨λσ H'=>σ=eU z r (some (.ref o)) (some (.ref p7)) (some (.ref q)) (g 9) (g 10) (g 11) (g 12) (g 13) (some (.ref fQ))/\aA H6 H',λR' hR'=>?_,?_⟩
    ·have W6:=G6.wf W0;refine⟨_,Zj,_,Zj,z.kp,q,U,eZ,r,r,Zj,W6.ka.same s7,ka.same s7,D8.len,D8.nd,λH8 s8=>?_⟩;rw[Ot λp hp=>by rw[hex];exact ZQ _ hp];exact⟨_,Zj,An (hR' _ _ ⟨Zj,s7.trans s8⟩)⟩
    rintro σ H8 ⟨rfl,s8⟩;have G8:=G6.same s8;obtain⟨x8,y8,hd8'⟩:=G8.wb.bS;refine⟨_,Zj,z.d,x8,y8,2,Zj,hd8',qc,qc,λrv a' b' h0 h1=>?_⟩;have X9:F1 z.d H8 (upd H8 z.d (.lst [.int a',.int b'])):=Gw hd8';have G9:=G8.bQ X9;have K9:=G8.kp (Rl.bQ (P0:=P0) X9);have O9:=(O6.same s8).keeps K9;have ka9:=(ka.same s8).keeps K9;refine⟨Zj,_,Zj,?_⟩;refine BI (λ_=>?_) (λ_=>?_)
    ·exact⟨_,Zj,hR _ _ ⟨q,eZ,r,Zj,G9,ka9,D8,aw⟩⟩
    ·exact⟨_,Zj,hR _ _ ⟨o,ac,r2,Zj,G9,O9⟩⟩
  rintro σ H7 ⟨o',ad,r3,rfl,G7,O7⟩;clear L6 G6 O6 O0;have W7:=G7.wf W0;obtain⟨dk3,ek31,ek32,hk3⟩:=O7.ka.ins;have am:Asc ad:=λp hp=>(O7.D.nm p hp).2.1;refine⟨λσ H'=>∃(t2 e2 m2 pl:W3) (ms2:List W3),σ=eU z r (some (.ref o')) (some (.ref p7)) (some v8) (some (.ref t2)) (some (.ref pl)) (g 11) (g 12) (g 13) (some (.ref fQ))/\eK H' t2 e2 m2 ms2 ad/\H' pl=some (.lst (AU [0]))/\aA H7 H',λR hR=>?_,?_⟩
  ·refine⟨_,Zj,o',dk3,_,Zj,hk3,gK qb qb qb,o',ad,r3,Zj,O7.ka,λl1 as1 H8 s8 hl1 has1=>?_⟩;refine⟨l1,as1,ad,Zj,hl1,has1,O7.D.len,O7.D.lt,λt2 e2 m2 ms2 H9 s9 ht2 gf hm2 hms2=>?_⟩;refine⟨sl1,λpl dA=>?_⟩;have spl:=AC (aA.refl _) dA (o:=HO.lst [V.int 0]);refine⟨dQ,λtp htp=>?_⟩;have stp:=AC (aA.refl _) htp (o:=HO.tup [V.ref t2,V.ref pl]);refine⟨tp,_,Zj,bA.of AB,Zj,_,_,Zj,_,_,Zj,Zj,?_⟩;exact hR _ _ ⟨t2,e2,m2,pl,ms2,Zj,eK.same ⟨ht2,gf,hm2,hms2⟩ (spl.trans stp),stp _ _ AB,(s8.trans s9).trans (spl.trans stp)⟩
  rintro σ H8 ⟨t2,e2,m2,pl,ms2,rfl,LT8,hpl8,s8⟩;have hb20:=UM hk20
  have ul:∀bs:List Nat,bs.length<=20->(AU (Cg bs)).length<=1048576:=λbs h=>by
   unfold AU;rw[AE,UK];exact Nat.le_trans (Nat.pow_le_pow_right qc h) qc
  have sz:(1048576:Nat)+1048576<=sizeLine:=by decide
  refine⟨λσ H'=>∃(pn:W3) (fP:Option V),σ=eU z r (some (.ref o')) (some (.ref p7)) (some v8) (some (.ref t2)) (some (.ref pn)) fP (g 12) (g 13) (some (.ref fQ))/\H' pn=some (.lst (AU (Cg (Bc (kn U)))))/\aA H8 H',λR hR=>?_,?_⟩
  ·have W8:=W7.go (Rl.same s8) (W7.wb.same s8);refine⟨_,Zj,z.t,_,Zj,.inl ⟨_,Sum.inr "known", .inl W8.lt.tab,Zj,(Go _ _ _).symm⟩,kn U,Zj,λlb Hb sb hlb=>?_⟩;refine⟨lb,Zj,⟨_,aJ.of hlb⟩,B2 (K:=K) (a:=lb) (xs:=AU (Bc (kn U))) (λj σ H'=>(∃(pn:W3) (fP:Option V),σ=eU z r (some (.ref o')) (some (.ref p7)) (some v8) (some (.ref t2)) (some (.ref pn)) fP (g 12) (g 13) (some (.ref fQ))/\H' pn=some (.lst (AU (Cg ((Bc (kn U)).take j)))))/\aA Hb H') ⟨⟨pl,_,Zj,sb _ _ hpl8⟩,aA.refl _⟩ (λj σ H' _ h=>aJ.of (h.2 _ _ hlb)) ?_ ?_⟩
   ·rintro j v σ H9 hj ⟨⟨pn,fP,rfl,bf⟩,s9⟩;obtain⟨bt,ao,rfl⟩:=DI hj;have lt20:((Bc (kn U)).take j).length<=20:=by rw[Zz];omega
    have lu:=ul _ lt20
    have et:Cg ((Bc (kn U)).take (j+1))=Cg ((Bc (kn U)).take j)++(Cg ((Bc (kn U)).take j)).map (· |||bt):=by
     rw[ZF,ao];exact Io _ _
    generalize Cg ((Bc (kn U)).take j)=us at bf lu et;refine⟨_,Zj,_,Zj,pn,Zj,⟨_,aJ.of bf⟩,E5 (K:=K) (a:=pn) (xs:=AU us) (λi ys H'=>ys=AU ((us.take i).map (· |||bt))/\H'=H9) ⟨Zj,Zj⟩ (λi ys H' _ ⟨_,e⟩=>e ▸ aJ.of bf) (λi ys H' ⟨e,_⟩=>?_) ?_ ?_⟩
    ·rw[e];unfold AU at lu ⊢;rw[AE]at lu;rw[AE,AE,Zz];omega
    ·rintro i v ys H' hi ⟨rfl,rfl⟩;obtain⟨n,hn,rfl⟩:=DI hi;refine⟨_,Zj,_,Zj,_,_,Zj,Zj,?_,Zj⟩;rw[ZF,hn,Zt];show AU _++[V.int (Builtin.bitOr (n:Int) (bt:Int))]=_;rw[E7];unfold AU;rw[Zt];rfl
    ·rintro ys H' ⟨rfl,rfl⟩ p hp
     have e1:us.take (AU us).length=us:=by
      unfold AU;rw[AE,ZD]
     rw[e1];have sp:=AC (aA.refl _) hp (o:=HO.lst (AU (us.map (· |||bt))));refine⟨pn,p,AU us,AU (us.map (· |||bt)),Zj,Zj,sp _ _ bf,AB,?_,λcp hcp=>⟨⟨cp,_,Zj,?_⟩,s9.trans (AC sp hcp)⟩⟩
     ·unfold AU at lu ⊢;rw[AE]at lu;rw[AE,AE,AE];omega
     ·rw[AB,et];unfold AU;rw[Zt]
   ·rintro σ H9 ⟨⟨pn,fP,rfl,bf⟩,s9⟩
    have e1:(Bc (kn U)).take (AU (Bc (kn U))).length=Bc (kn U):=by
     unfold AU;rw[AE,ZD]
    rw[e1]at bf;exact hR _ _ ⟨pn,fP,Zj,bf,sb.trans s9⟩
  rintro σ H9 ⟨pn,fP,rfl,bf,s9⟩;have s79:=s8.trans s9;have LT9:=LT8.same s9;have W9:=W7.go (Rl.same s79) (W7.wb.same s79);have lu:=ul _ hb20
  have ci:∀n∈Cg (Bc (kn U)),n<2 ^ 40:=λn hn=>by
   have:=(So hk20 n).mp hn;have:=Nat.and_le_right (n:=n) (m:=kn U);have:(2:Nat) ^ 20<=2 ^ 40:=by decide
   omega
  generalize hus:Cg (Bc (kn U))=us at bf lu ci
  have lus:us.length<=1048576:=by
   unfold AU at lu;rw[AE]at lu;exact lu
  clear hpl8 LT8
  have snoc:∀(f:Nat->Bool) (i n:Nat),us[i]?=some n->AU ((us.take (i+1)).filter f)=AU ((us.take i).filter f)++(if f n then [V.int (n:Int)]else []):=λf i n hn=>by
   rw[PySem.take_succ_filter f _ i n hn];unfold AU;rw[Zt];congr 1;split <;> rfl
  have fl:∀(f:Nat->Bool) (i:Nat),(AU ((us.take i).filter f)).length<=1048576:=λf i=>by
   unfold AU;rw[AE];refine Nat.le_trans (ZT _ _) ?_;rw[Zz];omega
  have full:us.take (AU us).length=us:=by
   unfold AU;rw[AE,ZD]
  refine⟨λσ H'=>∃pk:W3,σ=eU z r (some (.ref o')) (some (.ref p7)) (some v8) (some (.ref t2)) (some (.ref pn)) fP (some (.ref pk)) (g 13) (some (.ref fQ))/\H' pk=some (.lst (AU (us.filter λn=>!decide (n&&&kn ad=n) && !decide (r3 = "keep"))))/\aA H9 H',λR hR=>?_,?_⟩
  ·refine⟨_,Zj,pn,Zj,⟨_,aJ.of bf⟩,E5 (K:=K) (a:=pn) (xs:=AU us) (λi ys H'=>ys=AU ((us.take i).filter λn=>!decide (n&&&kn ad=n) && !decide (r3 = "keep"))/\H'=H9) ⟨Zj,Zj⟩ (λi ys H' _ ⟨_,e⟩=>e ▸ aJ.of bf) (λi ys H' ⟨e,_⟩=>by rw[e];have:=fl (λn=>!decide (n&&&kn ad=n) && !decide (r3 = "keep")) i;omega) ?_ ?_⟩
   ·rintro i v ys H' hi ⟨rfl,rfl⟩;obtain⟨n,hn,rfl⟩:=DI hi;refine⟨_,Zj,_,Zj,t2,_,Zj,.inl ⟨_,Sum.inr "known", .inl LT9.tab,Zj,(Go _ _ _).symm⟩,_,_,Zj,Zj,_,Zj,Zj,_,Zj,?_⟩
    have ea:(!decide (V.int (Builtin.bitAnd (n:Int) ((Ah (ad.map (·.2)):Nat):Int))=V.int (n:Int)))=!decide (n&&&kn ad=n):=by
     rw[Cd];congr 1;by_cases h:n&&&kn ad=n
     ·rw[ZM h];exact ZM (by show V.int ((n&&&kn ad:Nat):Int)=_;rw[h])
     ·rw[ZP h];exact ZP λq=>h (by have:=V.int.inj q;show n&&&Ah (ad.map (·.2))=n;omega)
    show if (!decide (V.int (Builtin.bitAnd (n:Int) ((Ah (ad.map (·.2)):Nat):Int))=V.int (n:Int)))=true then _ else _
    rw[ea,snoc _ i n hn];cases e1:!decide (n&&&kn ad=n)with
    |false =>
     refine An (An ⟨?_,Zj⟩);rw[Bool.false_and,Zp Bool.false_ne_true,Zs]
    |true =>
     have ka9:=O7.ka.same s79;refine Ay ⟨_,Zj,o',dk3,_,Zj,s79 _ _ hk3,gK qb qb qb,o',ad,r3,Zj,ka9,Zj,_,Zj,?_⟩
     have eb:(!decide (V.str r3=V.str "keep"))=!decide (r3 = "keep"):=by
      congr 1;by_cases h:r3 = "keep"
      ·rw[ZM h,ZM (by rw[h])]
      ·rw[ZP h,ZP λq=>h (V.str.inj q)]
     rw[eb,Bool.true_and];cases e2:!decide (r3 = "keep")with
     |false =>
      refine An ⟨?_,Zj⟩;rw[Zp Bool.false_ne_true,Zs]
     |true =>
      refine Ay ⟨_,Zj,?_,Zj⟩;rw[Zo rfl]
   ·rintro ys H' ⟨rfl,rfl⟩ p hp;rw[full];exact hR _ _ ⟨p,Zj,AB,AC (aA.refl _) hp⟩
  rintro σ jo ⟨pk,rfl,aj,gT⟩;have hpn10:=gT _ _ bf;have LT10:=LT9.same gT;have LW10:=W9.lt.same gT;refine⟨λσ H'=>∃pk:W3,σ=eU z r (some (.ref o')) (some (.ref p7)) (some v8) (some (.ref t2)) (some (.ref pn)) fP (some (.ref pk)) (g 13) (some (.ref fQ))/\H' pk=some (.lst (AU (DD U ad r3 us)))/\aA H9 H',λR hR=>?_,?_⟩
  ·refine⟨_,Zj,_,Zj,pn,Zj,⟨_,aJ.of hpn10⟩,E5 (K:=K) (a:=pn) (xs:=AU us) (λi ys H'=>ys=AU ((us.take i).filter λn=>!decide (Az U n=Az ad n))/\aA jo H') ⟨Zj,aA.refl _⟩ (λi ys H' _ h=>aJ.of (h.2 _ _ hpn10)) (λi ys H' ⟨e,_⟩=>by rw[e];have:=fl (λn=>!decide (Az U n=Az ad n)) i;omega) ?_ ?_⟩
   ·rintro i v ys H' hi ⟨rfl,s'⟩;obtain⟨n,hn,rfl⟩:=DI hi;have n40:=ci n (ZR hn);refine⟨_,Zj,_,Zj,z.t,z.e,z.m,z.ms,U,n,Zj,LW10.same s',DO,n40,λHa sa=>?_⟩;refine⟨_,Zj,_,Zj,t2,e2,m2,ms2,ad,n,Zj,LT10.same (s'.trans sa),O7.D,n40,λHb sb=>?_⟩;refine⟨Zj,_,Zj,?_⟩
    have ea:(!decide (V.str (Az U n)=V.str (Az ad n)))=!decide (Az U n=Az ad n):=by
     congr 1;by_cases h:Az U n=Az ad n
     ·rw[ZM h,ZM (by rw[h])]
     ·rw[ZP h,ZP λq=>h (V.str.inj q)]
    rw[ea,snoc _ i n hn];refine BI (λhq=>?_) (λhq=>?_)
    ·refine⟨_,Zj,?_,(s'.trans sa).trans sb⟩;rw[Zo hq]
    ·refine⟨?_,(s'.trans sa).trans sb⟩;rw[Zp hq,Zs]
   ·rintro ys H' ⟨rfl,s'⟩ p hp;rw[full];have sp:=AC (aA.refl _) hp (o:=HO.lst (AU (us.filter λn=>!decide (Az U n=Az ad n))));have f1:=fl (λn=>!decide (n&&&kn ad=n) && !decide (r3 = "keep")) us.length;have f2:=fl (λn=>!decide (Az U n=Az ad n)) us.length;rw[ZD]at f1 f2;refine⟨pk,p,_,_,Zj,Zj,sp _ _ (s' _ _ aj),AB,qe,λcp hcp=>hR _ _ ⟨cp,Zj,?_,((gT.trans s').trans sp).trans (AC (aA.refl _) hcp)⟩⟩;rw[AB];unfold DD AU;rw[Zt]
  rintro σ H11 ⟨pk,rfl,aj,gi⟩;clear hpn10 LT10 LW10 bf snoc fl full gT LT9;have s711:=s79.trans gi;have G11:=G7.same s711;have O11:=O7.same s711;clear W9 s711 s79 gi s9 s8;have rq:=λ{v:V}=>Vl (a:=U) (b:=ad) (r:=r3) hk20 (v:=v);rw[hus]at rq;generalize DD U ad r3 us=L at aj rq;clear hus ci lu lus;refine⟨λσ H'=>σ=eU z r (some (.ref o')) (some (.ref p7)) (some v8) (some (.ref t2)) (some (.ref pn)) fP (some (.ref pk)) (g 13) (some (.ref fQ))/\KX H11 H',λR hR=>?_,?_⟩
  ·have W11:=G11.wf W0;refine⟨_,rfl,_,rfl,z.kp,o',U,ad,r,r3,rfl,W11.ka,O11.ka,DO,O11.D,O11.rr,λv jn k12 dn=>?_⟩;obtain⟨rq1,rq2⟩:=rq dn;have hpk12:=k12 _ _ aj (λ_ _ z=>nomatch z);refine⟨_,rfl,(by show 0<=sizeLine;decide),λp hp=>?_⟩;have sp:=AC (aA.refl _) hp (o:=HO.lst []);refine⟨_,_,BL (sp _ _ hpk12) (MA L),BL AB HH,MC L,Dx,_,rfl,?_⟩;have jf:=k12.trans (KX.of sp);have hpk13:=sp _ _ hpk12;generalize upd jn p (HO.lst [])=H13 at jf hpk13 ⊢;rw[KW];cases hL:L with
   |nil =>
    rw[rq1 hL];exact An ⟨Zj,_,Zj,An (hR _ _ ⟨Zj,jf⟩)⟩
   |cons n0 rest =>
    have hLne:L≠ []:=by rw[hL];exact λz=>nomatch z
    have e:=rq2 hLne;rw[hL]at e;refine Ay ⟨_,Zj,pk,CY L,Zj,by rw[←Gs];exact aJ.of hpk13,λz=>hLne (map_eq_nil_iff.mp z),?_⟩;rw[hL,e];refine⟨Zj,_,Zj,?_⟩;rw[ZM rfl];exact An (hR _ _ ⟨Zj,jf⟩)
  rintro σ jn ⟨rfl,k12⟩;have G12:=G11.kx k12;clear rq aj G11 O11 k12;refine⟨λσ H'=>σ=eU z r (some (.ref o')) (some (.ref p7)) (some v8) (some (.ref t2)) (some (.ref pn)) fP (some (.ref pk)) (g 13) (some (.ref fQ))/\KX jn H',λR hR=>?_,?_⟩
  ·have W12:=G12.wf W0;refine⟨_,Zj,_,Zj,z.kp,z.kp,U,U,r,r,Zj,W12.ka,W12.ka,DO,DO,aw,λv H13 jf dn=>?_⟩;rw[Sr dn];exact⟨_,Zj,An (hR _ _ ⟨Zj,jf⟩)⟩
  rintro σ H13 ⟨rfl,jf⟩;have G13:=G12.kx jf;clear jf G12
  have shp3:∀v:PyData,(v=.none\/∃n:Int,v=.int n)->SeqAt.shaped (.tuple [.str "refused", .str "BadRows", v])=true:=λv hv=>by
   rcases hv with rfl |⟨n,rfl⟩
   ·decide +kernel
   ·exact Mf qb qb
  have dat3:∀ {H:Hp}{b:W3},H b=some (.tup [.str "refused", .str "BadRows", .aK])->BW K H (.tuple [.str "refused", .str "BadRows", .none]) (.ref b):=λ{H b} h=>by
   rw[BW];refine⟨b,_,Zj,bA.of h,?_⟩;rw[Ax];refine⟨_,_,Zj,by rw[BW],?_⟩;rw[Ax];refine⟨_,_,Zj,by rw[BW],?_⟩;rw[Ax];refine⟨_,_,Zj,by rw[BW],?_⟩;rw[Ax]
  refine⟨λσ H'=>∃gQ,σ=eU z r (some (.ref o')) (some (.ref p7)) (some v8) (some (.ref t2)) (some (.ref pn)) fP (some (.ref pk)) gQ (some (.ref fQ))/\Gd z P0 H0 H',λR hR=>?_,?_⟩
  ·refine⟨(by show 0<=sizeLine;decide),λqt hqt=>?_⟩;have st1:=AC (aA.refl _) hqt (o:=HO.tup []);have ht1:=AB (H:=H13) (a:=qt) (o:=HO.tup []);have G14:=G13.same st1;generalize upd H13 qt (HO.tup [])=H14 at st1 ht1 G14 ⊢;refine⟨sl4,λlb hlb=>?_⟩;have gR:=AC (aA.refl _) hlb (o:=HO.lst [V.aK,V.int 5,V.ref qt,V.str "A"]);have d9:=AB (H:=H14) (a:=lb) (o:=HO.lst [V.aK,V.int 5,V.ref qt,V.str "A"]);have ht2:=gR _ _ ht1;have G15:=G14.same gR;generalize upd H14 lb (HO.lst [V.aK,V.int 5,V.ref qt,V.str "A"])=H15 at d9 ht2 G15 ⊢;clear gR st1 ht1;refine⟨lb,Zj,⟨_,aJ.of d9⟩,B2 (K:=K) (a:=lb) (xs:=[V.aK,V.int 5,V.ref qt,V.str "A"]) (λj σ H'=>(∃gQ,σ=eU z r (some (.ref o')) (some (.ref p7)) (some v8) (some (.ref t2)) (some (.ref pn)) fP (some (.ref pk)) gQ (some (.ref fQ)))/\Gd z P0 H0 H'/\H' lb=some (.lst [V.aK,V.int 5,V.ref qt,V.str "A"])/\H' qt=some (.tup [])) ⟨⟨_,Zj⟩,G15,d9,ht2⟩ (λj σ H' _ h=>aJ.of h.2.2.1) ?_ (λσ H' ⟨⟨gQ,e⟩,G,_⟩=>hR _ _ ⟨gQ,e,G⟩)⟩;rintro j v σ H16 hj ⟨⟨gQ,rfl⟩,G16,hl16,ht16⟩
   have hv:cX K "list" H16 v:=by
    have hm:=ZR hj;simp only[mem_cons,not_mem_nil,or_false]at hm;rcases hm with rfl |rfl |rfl |rfl
    ·exact .inl ⟨_,λ_=>.aK,qd⟩
    ·exact .inl ⟨_,λ_=>.int 5,qd⟩
    ·exact .inr (.inl ⟨qt,_,Zj,ht16,qd⟩)
    ·exact .inl ⟨_,λ_=>.str _,qd⟩
   refine⟨G16.wb.tab,λH17 sB hT17=>?_⟩;have G17:=G16.d6 sB hT17;have K17:=G16.kp (Rl.d6 sB);have ht17:=K17.k ht16;have hl17:=K17.k hl16 (λ_ _ z=>nomatch z)
   have hv17:cX K "list" H17 v:=by
    rcases hv with h |⟨a,xs,e,h,k⟩ |⟨a,xs,e,h,n,k⟩
    ·exact .inl h
    ·exact .inr (.inl ⟨a,xs,e,K17.k h,k⟩)
    ·exact .inr (.inr ⟨a,xs,e,K17.k h (λx y z=>n x y (HO.lst.inj z)),n,k⟩)
   have W17:=G17.wf W0;refine⟨_,rfl,_,rfl,z.kp,U,r,v,rfl,W17.ka,.inl ⟨hv17,Ik EA G17.wb λq H18 wb18 rl18 hq18=>?_⟩⟩;have G18:=G17.go rl18 wb18;have K18:=G17.kp rl18;refine⟨jb,λq2 iQ=>?_⟩;have sq:=AC (aA.refl _) iQ (o:=HO.tup [V.str "refused", V.str "BadRows", V.aK]);refine⟨_,_,dat3 (sq _ _ hq18),dat3 AB,shp3 _ (.inl rfl),shp3 _ (.inl rfl),_,rfl,?_⟩;rw[show PyData.eqv (.tuple [.str "refused", .str "BadRows", .none]) (.tuple [.str "refused", .str "BadRows", .none])=true by decide +kernel];exact An ⟨⟨_,rfl⟩,G18.same sq,sq _ _ (K18.k hl17 (λ_ _ z=>nomatch z)),sq _ _ (K18.k ht17)⟩
  rintro σ H14 ⟨gQ,rfl,G14⟩;clear G13;refine⟨G14.wb.tab,λH15 sB hT15=>?_⟩;have G15:=G14.d6 sB hT15;refine⟨_,Zj,?_⟩;refine⟨dQ,λq1 hq1=>?_⟩;have ic:=AC (aA.refl _) hq1 (o:=HO.tup [V.str "ZA", V.int 1]);have t1':=AB (H:=H15) (a:=q1) (o:=HO.tup [V.str "ZA", V.int 1]);have G16:=G15.same ic;generalize upd H15 q1 (HO.tup [V.str "ZA", V.int 1])=H16 at t1' G16 ⊢;refine⟨dQ,λq2 iQ=>?_⟩;have s2':=AC (aA.refl _) iQ (o:=HO.tup [V.str "ZA", V.int 2]);have t2':=AB (H:=H16) (a:=q2) (o:=HO.tup [V.str "ZA", V.int 2]);have t1'':=s2' _ _ t1';have G17:=G16.same s2';generalize upd H16 q2 (HO.tup [V.str "ZA", V.int 2])=H17 at t2' t1'' G17 ⊢;refine⟨dQ,λlz hlz=>?_⟩;have s3':=AC (aA.refl _) hlz (o:=HO.lst [V.ref q1,V.ref q2]);have iA:=AB (H:=H17) (a:=lz) (o:=HO.lst [V.ref q1,V.ref q2]);have t1:=s3' _ _ t1'';have t2:=s3' _ _ t2';have G18:=G17.same s3';generalize upd H17 lz (HO.lst [V.ref q1,V.ref q2])=H18 at iA t1 t2 G18 ⊢;have W18:=G18.wf W0;have zn:=z_nm.1;have e1:Ae (AR U++[(("ZA" : Str),Th.num 1)])=U++[(("ZA" : Str),1)]:=by rw[Bv,BG];rfl
  have RO1:BN (AR U++[(("ZA" : Str),Th.num 1)]):=CV (Dy DO) ⟨by rw[BG];exact DO,by rw[BG];omega,zn,by rw[BG];exact zN _ qb,True.intro,by show 1<2 ^ 20;decide⟩;refine⟨z.kp,U,r,.ref lz,Zj,W18.ka,.inr ⟨lz,[q1,q2],[("ZA", .num 1),("ZA", .num 2)],Zj,⟨iA,.cons ⟨_,t1,Zj⟩ (.cons ⟨_,t2,Zj⟩ .nil),DO,pos,by show U.length+2<=10;omega⟩,.inr ⟨1,q2,qc,RO1,Zj,?_,Ik EA G18.wb λq H19 wb19 rl19 hq19=>?_⟩⟩⟩
  ·show BadRow K (Ae (AR U++[(("ZA" : Str),Th.num 1)])) H18 (.ref q2);rw[e1];refine .inr ⟨q2,_,Zj,t2,.inr ⟨_,_,Zj,.inr ⟨"ZA", Zj,zn.2.1,zn.2.2,λ_ h=>absurd ?_ h⟩⟩⟩;rw[Zt];exact ZU _ (ZI.mpr Zj)
  have G19:=G18.go rl19 wb19;have W19:=G19.wf W0;refine⟨_,Zj,z.u,_,Zj,.inl (aJ.of W19.hu),_,_,Zj,Zj,jb,λq4 hq4=>?_⟩
  have el:(((z.bs.map V.ref).length:Nat):Int)+1=((U.length+1:Nat):Int):=by
   rw[AE,dm];omega
  refine⟨_,_,Me (AC (aA.refl _) hq4 _ _ hq19),Me (n:=((U.length+1:Nat):Int)) (by rw[AB];show some (HO.tup [_,_,V.int ((((z.bs.map V.ref).length:Nat):Int)+1)])=_;rw[el]),shp3 _ (.inr ⟨_,Zj⟩),shp3 _ (.inr ⟨_,Zj⟩),_,Zj,?_⟩;rw[Si];exact An (fin (WN _ _ _ _ _ _ _ _ _ _ _) (G19.same (AC (aA.refl _) hq4)))
end
end Mk
end
section
namespace Mk
open PySem L2 MK
theorem WO {dt:W3}{tk:Tok}{kV doc pm ae ct:Value}{an:Option W3}{n:Nat} (hd:K.lookup dt=some ⟨.type "tuple", none,.seq #[.str "" tk] n,#[]⟩) :
  Binds K (W.fnOf "__init__" "MarkError.__init__" (defArgs BC) (defBody BC) (defScope BC) (.ref dt) kV doc pm an ae ct) ["self", "words"] []:=by
 intro s us hK hl
 have d9:us.length=2:=by
  rw[Zs]at hl;exact hl
 match us,d9 with
 | [u1,u2],_ =>
  have ho:=hK _ _ hd;intro M A E Q hq;unfold bindArgs;simp only[W.fnOf]
  repeat (first |with_reducible refine wpAny_seqItems ho rfl ?_ | (with_reducible refine Zw (wpAny_seqItems ho rfl ?_)) |wp_step)
  exact Eq.mp (congrArg (λz=>Q z s) qd) hq
theorem UN {kV doc pm ae ct:Value}{an:Option W3} :
  Jv K (W.fnOf "__init__" "Kind.__init__" (defArgs BV) (defBody BV) (defScope BV) .none kV doc pm an ae ct) ["self", "rows", "rest"] ["rest"] gU3 gV3:=by
 refine⟨λs us ws _ hl=>?_,λ{vs us zs ws} r rz=>?_⟩
 ·unfold gU3 at hl ⊢;split at hl
  ·exact .of_eq qd
  ·cases hl
 ·cases r with
  |nil=>exact .nil
  |cons r1 rr =>
   cases rr with
   |nil=>exact .nil
   |cons r2 rr =>
    cases rr with
    |cons _ _=>exact .nil
    |nil =>
     cases rz with
     |nil=>exact .nil
     |cons z1 zz =>
      cases zz with
      |nil=>exact .cons r1 (.cons r2 (.cons z1 .nil))
      |cons _ _=>exact .nil
end Mk
end
section
namespace Mk
open PySem L2 MK PySem.W
noncomputable abbrev fO (x q:Str) (s:Stmt):=fnOf x q (defArgs s) (defBody s) (defScope s)
theorem Ec {K:Frag}{C:W3}{T:String} (h:isClsIn K C=true) (h2:typeIn K (.ref C)=some (.type "type")) (e:subIn K (.type T) (.ref C)=some false):kitOne K (.type T) (.ref C)=some false:=by
 unfold kitOne;rw[Zp (by simp)];unfold kitCls;show(if _ then _ else _)=_;rw[Zo (by unfold isClsIn at h;rw[h,h2];simp)];exact e
theorem Ou {K:Frag}{C M:W3}{f:Str} (h:(clsIn K C).map (λcd=>(cd.mro,cd.hasDict))=some (E4 C M,true)) (n:findIn K (.ref C) f=some none) (s:findIn K (.ref C) "__setattr__" = some (some (.builtin "object.__setattr__"))):LX K C M f:=by
 obtain⟨cd,e,z⟩:=Z6.mp h;exact⟨⟨cd,e,congrArg Prod.fst z,congrArg Prod.snd z⟩,n,s⟩
noncomputable def Mi (K:Frag) (c P:W3):Bool:=match K.lookup c with
 |some ⟨.type "code", _,.fields vs,_⟩=>(match (vs[11]?:Option Value),vs.getD 18 Value.none,vs.getD 7 Value.none,vs.getD 9 Value.none,vs.getD 10 Value.none with
  |some (.ref p),.str _ _,.int _ _,.bool _,.int _ _=>p==P && !(c==P)
  |_,_,_,_,_=>false)
 |_=>false
theorem codeHd_of {K:Frag}{h:Heap}{c P:W3} (X:K.In h) (q:Mi K c P=true):CodeHd h c P:=by
 unfold Mi at q;split at q
 ·rename_i d vs sl ho;split at q
  ·rename_i p f tf fl tg b tx tt ji h18 h7 h9 gE;rw[Bool.and_eq_true,beq_iff_eq]at q;obtain⟨rfl,hn⟩:=q;refine⟨_,vs,f,tf,fl,tg,b,tx,tt,X _ _ ho,Zj,Zj,ji,?_,h18,h7,h9,gE,λz=>by simp[z]at hn⟩;rw[Array.getD_eq_getD_getElem?,ji];rfl
  ·cases q
 ·cases q
section
variable {P:Program}{w:World}{K:Frag}{mg:SV}{base:Heap}{x q:Str}{st:Stmt}{k:Nat}{ps:Ww}{sp:Sp}{f C:W3}{fd:FuncData}{p1 p2 p3 p4 p5:Str}
theorem fnT (F:aZ K x x st f fd) (ok:aD P w K mg base aP k f fd ps sp) (m:mg x=some (.ref f)) (b:Binds K fd ps []):Fn P w K mg base x k ps sp:=⟨⟨f,fd,ok,m,F.kp,b⟩⟩
theorem mtT (a:findIn K (.ref C) x=some (some (.ref f))) (i:isFn K (.ref f)=true) (F:aZ K x q st f fd) (ok:aD P w K mg base aP k f fd ps sp) (b:Binds K fd ps []):Mt P w K mg base C x k ps sp:=⟨⟨f,fd,ok,⟨a,i,F.kp⟩,b⟩⟩
noncomputable abbrev fB (x q:Str) (st:Stmt) (kV doc pm:Value) (an:Option W3) (ae ct:Value) (us:Wx):Sem (List (Str×Value)):=bindArgs (fO x q st .none kV doc pm an ae ct) ⟨us,[]⟩
theorem eM (F:aZ K x q st f fd) (h:∀a b c d e g u1,fB x q st a b c d e g [u1]=pure [(p1,u1)]):Binds K fd [p1] []:=F.binds λ_ _ _ _ _ _ us hl=>match us,hl with | [_],_=>h ..
theorem fc (F:aZ K x q st f fd) (h:∀a b c d e g u1 u2,fB x q st a b c d e g [u1,u2]=pure [(p1,u1),(p2,u2)]):Binds K fd [p1,p2] []:=F.binds λ_ _ _ _ _ _ us hl=>match us,hl with | [_,_],_=>h ..
theorem bi3 (F:aZ K x q st f fd) (h:∀a b c d e g u1 u2 u3,fB x q st a b c d e g [u1,u2,u3]=pure [(p1,u1),(p2,u2),(p3,u3)]):Binds K fd [p1,p2,p3] []:=F.binds λ_ _ _ _ _ _ us hl=>match us,hl with | [_,_,_],_=>h ..
end
def DG (K:Frag) (x:Str) (st:Stmt):Prop:=∃f fd,nsIn K mainGlobals x=some (some (.ref f))/\aZ K x x st f fd
def DM (K:Frag) (C:W3) (x q:Str) (st:Stmt):Prop:=∃f fd,findIn K (.ref C) x=some (some (.ref f))/\isFn K (.ref f)=true/\(∃o,K.lookup f=some o/\o.cls=.type "function")/\aZ K x q st f fd
structure CF (K:Frag) (C:W3):Prop where
 pg:plainGet K C Str.empty=true
 hd:hasDictIn K C=true
 po:plainOver K C=true
 sa:findIn K (.ref C) "__setattr__" = some (some (.builtin "object.__setattr__"))
 mz:makesIn K C=true
 kc:keepIn K (.ref C)=true
 qa:findIn K (.ref C) "__class__" = some (some (.builtin "object.__class__"))
 qm:mroIn K C (.type "object")=some true
 ql:isClsIn K C=true
 qy:typeIn K (.ref C)=some (.type "type")
 qs:subIn K (.type "list") (.ref C)=some false
 qi:subIn K (.type "int") (.ref C)=some false
 qt:subIn K (.type "tuple") (.ref C)=some false
 ne:findIn K (.ref C) "__ne__" = some (some (.builtin "object.__ne__"))
structure XF (K:Frag) (ec:Nat->W3) (C:W3) (j:Nat):Prop where
 cx:L2.A1 K C=true
 ga:findIn K (.ref C) "__getattribute__" = some (some (.builtin "BaseException.__getattribute__"))
 gr:findIn K (.ref C) "__getattr__" = some none
 gb:mroIn K C (.type "BaseException")=some true
 kc:(clsIn K C).isSome=true
 ka:findIn K (.ref C) "__class__" = some (some (.builtin "object.__class__"))
 km:mroIn K C (.type "object")=some true
 kt:((List.range 11).all λi=>i==j ||decide (kitOne K (.ref C) (.ref (ec i))=some false))=true
 tv:kitOne K (.ref C) (.type "ValueError")=some true
 ke:keepIn K (.ref C)=true
theorem XF.at {K:Frag}{ec:Nat->W3}{C:W3}{j:Nat} (F:XF K ec C j) (hj:j<11) (e:C=ec j) (qn:specialIn K (.builtin "object.__class__") "__get__" = some (some (.builtin "getset_descriptor.__get__"))) (qt:takesIn K (.builtin "object.__class__")=some true):Oi K ec C j:=by
 refine⟨hj,⟨⟨F.ga,F.gr,F.gb⟩,F.kc,F.ka,qn,qt,F.km⟩,λi hi=>?_,F.tv⟩;have h:=List.all_eq_true.mp F.kt i (mem_range.mpr hi);rw[Bool.or_eq_true]at h;rcases h with z |z
 ·rw[eq_of_beq z,e,ZM rfl];exact EZ K _
 ·by_cases q:i=j
  ·rw[q,e,ZM rfl];exact EZ K _
  ·rw[ZP q];exact ZW z
structure XL (K:Frag) (ec:Nat->W3) (cM C:W3) (j:Nat) (fld:Str):Prop where
 F:XF K ec C j
 n:((List.range j).all λi=>!(EN K C).contains (.ref (ec i)))=true
 m:(EN K C).contains (.ref (ec j))=true
 gh:hasDictIn K C=true
 gn:findIn K (.ref C) fld=some none
 gs:findIn K (.ref C) "__setattr__" = some (some (.builtin "object.__setattr__"))
 s:(clsIn K C).map (λcd=>(cd.mro,cd.hasDict))=some (E4 C cM,true)
theorem XL.fl {K:Frag}{ec:Nat->W3}{cM C:W3}{j:Nat} (F:XL K ec cM C j (JA j)) (hj:j<4) (e:C=ec j) (qn:specialIn K (.builtin "object.__class__") "__get__" = some (some (.builtin "getset_descriptor.__get__"))) (qt:takesIn K (.builtin "object.__class__")=some true):MP K ec C j:=by
 refine⟨F.F.at qe e qn qt,F.F.cx,hj,λi hi=>?_,F.m,⟨⟨F.F.ga,F.F.gr,F.F.gb⟩,F.gh,F.gn⟩⟩;have:=List.all_eq_true.mp F.n i (mem_range.mpr hi);rw[Bool.not_eq_true']at this;exact this
theorem all_mk {l:OpenLaw}{w:World}{K:Frag}{h:Heap}{mg:SV}{fz C VC aR kd dt cM c P0 e0 e1 e2 e3 e4 e5 e6 e7 e8 e9 iG fin fei fla:W3} (X:K.In h) (G:h.Ns mainGlobals mg) (hfa:mg "law" = some (.ref fz))
  {ocla kVla dcla pmla ctla ocin dcin pmin cdin ctin kVei dcei pmei cdei ctei ocK:Value}{odla anla odin anin odei anei odR odK:Option W3}{slla slin slei slK slR:Array (Option Value)}{tG tM tL tLi tB t1 t2 t3 t4 tE:Tok}{nRR epK nE:Nat}{esK:Array DictEntry}
  (aC:nsIn K mainGlobals "Kind" = some (some (.ref C)))
  (aVC:nsIn K mainGlobals "Value" = some (some (.ref VC)))
  (aM:nsIn K mainGlobals "MarkError" = some (some (.ref cM)))
  (aX0:nsIn K mainGlobals "BadRows" = some (some (.ref e0)))
  (aX1:nsIn K mainGlobals "BadRest" = some (some (.ref e1)))
  (aX2:nsIn K mainGlobals "BadText" = some (some (.ref e2)))
  (aX3:nsIn K mainGlobals "Unled" = some (some (.ref e3)))
  (aX4:nsIn K mainGlobals "BadRule" = some (some (.ref e4)))
  (aX5:nsIn K mainGlobals "BadName" = some (some (.ref e5)))
  (aX6:nsIn K mainGlobals "BadNumber" = some (some (.ref e6)))
  (aX7:nsIn K mainGlobals "Unlike" = some (some (.ref e7)))
  (aX8:nsIn K mainGlobals "BadPairs" = some (some (.ref e8)))
  (aX9:nsIn K mainGlobals "Never" = some (some (.ref e9)))
  (aX10:nsIn K mainGlobals "Nothing" = some (some (.ref iG)))
  (z_VE:nsIn K mainGlobals "ValueError" = some none)
  (hwh:DG K "is_whole" Fq)
  (hnm:DG K "is_name" HG)
  (huo:DG K "union_of" IK)
  (hnx:DG K "next_mark" Gb)
  (hoo:DG K "is_one_of" Fs)
  (hno:DG K "is_names_of" Dp)
  (hth:DG K "thing_number" Ce)
  (hro:DG K "row_number" Dq)
  (hnb:DG K "numbered" DV)
  (hfi:DG K "first_names" EQ)
  (him:DG K "is_mark" KM)
  (hmR:DM K C "rows" "Kind.rows" Gc)
  (hmK:DM K C "known" "Kind.known" FD)
  (hmT:DM K C "rest" "Kind.rest" Ge)
  (hmM:DM K C "marks" "Kind.marks" FC)
  (hmE:DM K C "__eq__" "Kind.__eq__" KN)
  (hlc:DG K "_law_cell" IL)
  (hld:DG K "_law_drawn" Gg)
  (hlr:DG K "_law_roll" IM)
  (hls:DG K "_law_rounds" FI)
  (hll:DG K "_law_lines" CH)
  (hxn:DG K "is_number" Gf)
  (hxr:DG K "rest_of" KP)
  (hxi:DM K VC "__init__" "Value.__init__" FE)
  (hxN:DM K VC "number" "Value.number" Dr)
  (hxK:DM K VC "kind" "Value.kind" FF)
  (hmN:DM K C "number" "Kind.number" ER)
  (hmU:DM K C "names" "Kind.names" FB)
  (hmb:DG K "mark_bits" Ga)
  (hxM:DM K VC "marks" "Value.marks" ES)
  (hxR:DM K VC "rest" "Value.rest" FH)
  (hlb:DG K "_law_bits_of" Dt)
  (hlu:DG K "_law_rule_of" FJ)
  (hlt:DG K "_law_table_of" EU)
  (hlx:DG K "_law_text_of" FK)
  (htx:DG K "text_of" KQ)
  (hbk:DG K "broken" KR)
  (hte:DG K "telling_numbers" CW)
  (hgq:DG K "gone_on" Ft)
  (htb:DG K "text_by" Fu)
  (hfr:DG K "first_retold" Ds)
  (hmd:DG K "made" OW)
  (hri:DM K e1 "__init__" "BadRest.__init__" Do)
  (hwi:DM K e0 "__init__" "BadRows.__init__" Dm)
  (hlw:DG K "_law_word" ET)
  (hlo:DG K "_law_told" At)
  (ain:findIn K (.ref C) "__init__" = some (some (.ref fin)))
  (iin:isFn K (.ref fin)=true)
  (lin:K.lookup fin=some ⟨ocin,odin,.func (fO "__init__" "Kind.__init__" BV .none (.ref kd) dcin pmin anin cdin ctin),slin⟩)
  (cin:codeIn K cdin "Kind.__init__" = true)
  (kin:keepIn K (.ref fin)=true)
  (ala:nsIn K mainGlobals "law" = some (some (.ref fla)))
  (lla:K.lookup fla=some ⟨ocla,odla,.func (fO "law" "law" ED .none kVla dcla pmla anla (.ref c) ctla),slla⟩)
  (cla:codeIn K (.ref c) "law" = true)
  (kla:keepIn K (.ref fla)=true)
  (aei:findIn K (.ref cM) "__init__" = some (some (.ref fei)))
  (iei:isFn K (.ref fei)=true)
  (lei:K.lookup fei=some ⟨(.type "function"),odei,.func (fO "__init__" "MarkError.__init__" BC (.ref dt) kVei dcei pmei anei cdei ctei),slei⟩)
  (cei:codeIn K cdei "MarkError.__init__" = true)
  (kei:keepIn K (.ref fei)=true)
  (kdl:K.lookup kd=some ⟨ocK,odK,.dict esK epK,slK⟩)
  (kde:(esK.all λe=>match e.key with | .str _ _=>true |_=>false)=true)
  (kdr:nsIn K kd "rest" = some (some (.str "bar" tB)))
  (dtl:K.lookup dt=some ⟨.type "tuple", none,.seq #[.str "" tE] nE,#[]⟩)
  (vG:nsIn K mainGlobals "GREATEST" = some (some (.int 1048575 tG)))
  (vM:nsIn K mainGlobals "MOST_ROWS" = some (some (.int 10 tM)))
  (vL:nsIn K mainGlobals "LONGEST_NAME" = some (some (.int 6 tL)))
  (vLi:nsIn K mainGlobals "LIMIT" = some (some (.int 1099511627776 tLi)))
  (vR:nsIn K mainGlobals "RULES" = some (some (.ref aR)))
  (qn:specialIn K (.builtin "object.__class__") "__get__" = some (some (.builtin "getset_descriptor.__get__")))
  (qt:takesIn K (.builtin "object.__class__")=some true)
  (fC:CF K C)
  (fVC:CF K VC)
  (nC_numbers:findIn K (.ref C) "numbers" = some none)
  (nC_firsts:findIn K (.ref C) "firsts" = some none)
  (nC_rule:findIn K (.ref C) "rule" = some none)
  (nVC_own_kind:findIn K (.ref VC) "own_kind" = some none)
  (nVC_bits:findIn K (.ref VC) "bits" = some none)
  (xm:L2.A1 K cM=true)
  (xc0:L2.A1 K e0=true)
  (xc1:L2.A1 K e1=true)
  (xc2:L2.A1 K e2=true)
  (xc3:L2.A1 K e3=true)
  (y0:XL K (λi=>([e0,e1,e2,e3,e4,e5,e6,e7,e8,e9,iG]:List W3).getD i 0) cM e0 0 "at")
  (y1:XL K (λi=>([e0,e1,e2,e3,e4,e5,e6,e7,e8,e9,iG]:List W3).getD i 0) cM e1 1 "bits")
  (xmg:specialIn K (.ref cM) "__getattribute__" = some (some (.builtin "type.__getattribute__")))
  (xmr:readsIn K cM (.type "type")=true)
  (xmf:findCls K (.ref cM) (.type "type") "__init__" = some (.val (.ref fei)))
  (rL:K.lookup aR=some ⟨.type "tuple", odR,.seq #[.str "bar" t1,.str "drop" t2,.str "keep" t3,.str "leave" t4] nRR,slR⟩)
  (z_len:nsIn K mainGlobals "len" = some none)
  (z_isinstance:nsIn K mainGlobals "isinstance" = some none)
  (z_max:nsIn K mainGlobals "max" = some none)
  (z_min:nsIn K mainGlobals "min" = some none)
  (z_range:nsIn K mainGlobals "range" = some none)
  (z_list:nsIn K mainGlobals "list" = some none)
  (z_tuple:nsIn K mainGlobals "tuple" = some none)
  (z_sorted:nsIn K mainGlobals "sorted" = some none)
  (z_sum:nsIn K mainGlobals "sum" = some none)
  (z_all:nsIn K mainGlobals "all" = some none)
  (z_enumerate:nsIn K mainGlobals "enumerate" = some none)
  (z_int:nsIn K mainGlobals "int" = some none)
  (z_bool:nsIn K mainGlobals "bool" = some none)
  (z_str:nsIn K mainGlobals "str" = some none)
  (z_dict:nsIn K mainGlobals "dict" = some none)
  (z_set:nsIn K mainGlobals "set" = some none)
  : ∃fd:FuncData,(∀(s:W4) (v:Value),BindsTo s fd ⟨[v],[]⟩ [("_law_script", v)])/\∀base:Heap,K.In base->base.Ns mainGlobals mg->CodeHd base c P0->base.BuiltinsAt mg P0->aD l.prog w K mg base aP 11 fz fd ["_law_script"] (Os K P0):=by
 have MG:∀ {x:Str}{v:Value},nsIn K mainGlobals x=some (some v)->mg x=some v:=λh=>mg_of X G h;have MN:∀ {x:Str},nsIn K mainGlobals x=some none->mg x=none:=λh=>mg_none_of X G h;have T:EE K C:=⟨⟨fC.pg,fC.hd,fC.po,fC.sa⟩,nC_numbers,nC_firsts,nC_rule⟩;have VT:Kc K VC:=⟨⟨fVC.pg,fVC.hd,fVC.po,fVC.sa⟩,nVC_own_kind,nVC_bits⟩;have KI:KIsi K C:=⟨⟨fC.pg,fC.hd,fC.po,fC.sa⟩,fC.qa,qn,qt,fC.qm,Ec fC.ql fC.qy fC.qs⟩;have VI:KIsi K VC:=⟨⟨fVC.pg,fVC.hd,fVC.po,fVC.sa⟩,fVC.qa,qn,qt,fVC.qm,Ec fVC.ql fVC.qy fVC.qs⟩;have mCg:=MG aC;have mVg:=MG aVC;have hLi:=MG vLi;have vI:=Ec fVC.ql fVC.qy fVC.qi;have vT:=Ec fVC.ql fVC.qy fVC.qt;have qeC:=fC.ne;have qm:=fC.qm;have B:Bl mg:=⟨MN z_len,MN z_isinstance,MN z_max,MN z_min,MN z_range,MN z_list,MN z_tuple,MN z_sorted,MN z_sum,MN z_all,MN z_enumerate,MN z_int,MN z_bool,MN z_str⟩;have rT:∀H:Hp,bA K H aR (aU.map V.str):=λH=>.inr ⟨_,_,_,rL,rfl,rfl,sl4,.cons ⟨_,rfl⟩ (.cons ⟨_,rfl⟩ (.cons ⟨_,rfl⟩ (.cons ⟨_,rfl⟩ .nil)))⟩
 have kdo:nsOkIn K kd=true:=by
  unfold nsOkIn;rw[kdl];exact kde
 have hG:=MG vG;have hM:=MG vM;have hL:=MG vL;have hR:=MG vR;have M:QF mg (λi=>([e0,e1,e2,e3,e4,e5,e6,e7,e8,e9,iG]:List W3).getD i 0):=⟨MG aX0,MG aX1,MG aX2,MG aX3,MG aX4,MG aX5,MG aX6,MG aX7,MG aX8,MG aX9,MG aX10,MN z_VE⟩;have EX:SE K mg (λi=>([e0,e1,e2,e3,e4,e5,e6,e7,e8,e9,iG]:List W3).getD i 0) cM:=⟨MG aM,xm,xc0,xc1,xc2,xc3⟩;have EFA:=XL.fl (j:=0) y0 qc rfl qn qt;have EFR:=XL.fl (j:=1) y1 qc rfl qn qt;have Fin:=fun_mk (st:=BV) lin cin kin;have e:=hfa.symm.trans (MG ala);cases e;have Fla:FunC K "law" "law" ED fz (fO "law" "law" ED .none kVla dcla pmla anla (.ref c) ctla) c:=⟨⟨_,_,_,_,_,_,_,_,rfl,lla,cla⟩⟩;have Fei:FunD K "__init__" "MarkError.__init__" BC fei _:=⟨⟨_,_,_,_,_,_,_,_,_,_,rfl,lei,cei⟩⟩;obtain⟨fwh,dwh,awh,Fwh⟩:=hwh;have bwh:=eM (p1 := "thing") Fwh λ_ _ _ _ _ _ _=>rfl;obtain⟨fnm,dnm,anm,Fnm⟩:=hnm;have bnm:=eM (p1 := "thing") Fnm λ_ _ _ _ _ _ _=>rfl;obtain⟨fuo,duo,auo,Fuo⟩:=huo;have buo:=eM (p1 := "numbers") Fuo λ_ _ _ _ _ _ _=>rfl;obtain⟨fnx,dnx,anx,Fnx⟩:=hnx;have bnx:=eM (p1 := "numbers") Fnx λ_ _ _ _ _ _ _=>rfl;obtain⟨foo,doo,aoo,Foo⟩:=hoo;have boo:=fc (p1 := "thing") (p2 := "names") Foo λ_ _ _ _ _ _ _ _=>rfl;obtain⟨fno,dno,ano,Fno⟩:=hno;have bno:=fc (p1 := "parts") (p2 := "ahead") Fno λ_ _ _ _ _ _ _ _=>rfl;obtain⟨fth,dth,ath,Fth⟩:=hth;have bth:=fc (p1 := "thing") (p2 := "ahead") Fth λ_ _ _ _ _ _ _ _=>rfl;obtain⟨fro,dro,aro,Fro⟩:=hro;have bro:=fc (p1 := "row") (p2 := "ahead") Fro λ_ _ _ _ _ _ _ _=>rfl;obtain⟨fnb,dnb,anb,Fnb⟩:=hnb;have bnb:=eM (p1 := "rows") Fnb λ_ _ _ _ _ _ _=>rfl;obtain⟨ffi,dfi,afi,Ffi⟩:=hfi;have bfi:=eM (p1 := "numbers") Ffi λ_ _ _ _ _ _ _=>rfl;obtain⟨fim,dim,aim,Fim⟩:=him;have bim:=eM (p1 := "number") Fim λ_ _ _ _ _ _ _=>rfl;obtain⟨fmR,dmR,amR,imR,omR,FmR⟩:=hmR;have bmR:=eM (p1 := "self") FmR λ_ _ _ _ _ _ _=>rfl;obtain⟨fmK,dmK,amK,imK,omK,FmK⟩:=hmK;have bmK:=eM (p1 := "self") FmK λ_ _ _ _ _ _ _=>rfl;obtain⟨fmT,dmT,amT,imT,omT,FmT⟩:=hmT;have bmT:=eM (p1 := "self") FmT λ_ _ _ _ _ _ _=>rfl;obtain⟨fmM,dmM,amM,imM,omM,FmM⟩:=hmM;have bmM:=eM (p1 := "self") FmM λ_ _ _ _ _ _ _=>rfl;obtain⟨fmE,dmE,amE,imE,omE,FmE⟩:=hmE;have bmE:=fc (p1 := "self") (p2 := "other") FmE λ_ _ _ _ _ _ _ _=>rfl;obtain⟨flc,dlc,alc,Flc⟩:=hlc;have blc:=fc (p1 := "_law_script") (p2 := "_law_k") Flc λ_ _ _ _ _ _ _ _=>rfl;obtain⟨fld,dld,ald,Fld⟩:=hld;have bld:=fc (p1 := "_law_cell_here") (p2 := "_law_k") Fld λ_ _ _ _ _ _ _ _=>rfl;obtain⟨flr,dlr,alr,Flr⟩:=hlr;have blr:=fc (p1 := "_law_dice") (p2 := "_law_many") Flr λ_ _ _ _ _ _ _ _=>rfl;obtain⟨fls,dls,als,Fls⟩:=hls;have bls:=fc (p1 := "_law_script") (p2 := "_law_most") Fls λ_ _ _ _ _ _ _ _=>rfl;obtain⟨fll,dll,all,Fll⟩:=hll;have bll:=fc (p1 := "_law_dice") (p2 := "_law_most") Fll λ_ _ _ _ _ _ _ _=>rfl;obtain⟨fxn,dxn,axn,Fxn⟩:=hxn;have bxn:=eM (p1 := "thing") Fxn λ_ _ _ _ _ _ _=>rfl;obtain⟨fxr,dxr,axr,Fxr⟩:=hxr;have bxr:=fc (p1 := "kind") (p2 := "number") Fxr λ_ _ _ _ _ _ _ _=>rfl;obtain⟨fxi,dxi,axi,ixi,oxi,Fxi⟩:=hxi;have bxi:=bi3 (p1 := "self") (p2 := "kind") (p3 := "number") Fxi λ_ _ _ _ _ _ _ _ _=>rfl;obtain⟨fxN,dxN,axN,iy,oxN,FxN⟩:=hxN;have bxN:=eM (p1 := "self") FxN λ_ _ _ _ _ _ _=>rfl;obtain⟨fxK,dxK,axK,ixK,oxK,FxK⟩:=hxK;have bxK:=eM (p1 := "self") FxK λ_ _ _ _ _ _ _=>rfl;obtain⟨fmN,dmN,amN,imN,omN,FmN⟩:=hmN;have bmN:=fc (p1 := "self") (p2 := "name") FmN λ_ _ _ _ _ _ _ _=>rfl;obtain⟨fmU,dmU,amU,imU,omU,FmU⟩:=hmU;have bmU:=eM (p1 := "self") FmU λ_ _ _ _ _ _ _=>rfl;obtain⟨fmb,dmb,amb,Fmb⟩:=hmb;have bmb:=eM (p1 := "kind") Fmb λ_ _ _ _ _ _ _=>rfl;obtain⟨fxM,dxM,axM,ixM,oxM,FxM⟩:=hxM;have bxM:=eM (p1 := "self") FxM λ_ _ _ _ _ _ _=>rfl;obtain⟨fxR,dxR,axR,ixR,oxR,FxR⟩:=hxR;have bxR:=eM (p1 := "self") FxR λ_ _ _ _ _ _ _=>rfl;obtain⟨flb,dlb,alb,Flb⟩:=hlb;have blb:=eM (p1 := "_law_number") Flb λ_ _ _ _ _ _ _=>rfl;obtain⟨flu,dlu,alu,Flu⟩:=hlu;have blu:=eM (p1 := "_law_dice") Flu λ_ _ _ _ _ _ _=>rfl;obtain⟨iW,dlt,alt,Flt⟩:=hlt;have blt:=eM (p1 := "_law_due") Flt λ_ _ _ _ _ _ _=>rfl;obtain⟨flx,dlx,alx,Flx⟩:=hlx;have blx:=fc (p1 := "_law_table") (p2 := "_law_number") Flx λ_ _ _ _ _ _ _ _=>rfl;obtain⟨ftx,dtx,atx,Ftx⟩:=htx;have btx:=eM (p1 := "value") Ftx λ_ _ _ _ _ _ _=>rfl;obtain⟨fbk,dbk,abk,Fbk⟩:=hbk;have bbk:=fc (p1 := "kind") (p2 := "other") Fbk λ_ _ _ _ _ _ _ _=>rfl;obtain⟨fte,dte,ate,Fte⟩:=hte;have bte:=fc (p1 := "kind") (p2 := "other") Fte λ_ _ _ _ _ _ _ _=>rfl;obtain⟨fgq,dgq,agq,Fgq⟩:=hgq;have bgq:=fc (p1 := "kind") (p2 := "rows") Fgq λ_ _ _ _ _ _ _ _=>rfl;obtain⟨ftb,dtb,atb,Ftb⟩:=htb;have btb:=fc (p1 := "kind") (p2 := "number") Ftb λ_ _ _ _ _ _ _ _=>rfl;obtain⟨ffr,dfr,afr,Ffr⟩:=hfr;have bfr:=fc (p1 := "kind") (p2 := "other") Ffr λ_ _ _ _ _ _ _ _=>rfl;obtain⟨fmd,dmd,amd,Fmd⟩:=hmd;have bmd:=fc (p1 := "kind") (p2 := "number") Fmd λ_ _ _ _ _ _ _ _=>rfl;obtain⟨fri,dri,ari,iri,ori,Fri⟩:=hri;have bri:=fc (p1 := "self") (p2 := "bits") Fri λ_ _ _ _ _ _ _ _=>rfl;obtain⟨fwi,dwi,awi,iwi,owi,Fwi⟩:=hwi;have bwi:=fc (p1 := "self") (p2 := "at") Fwi λ_ _ _ _ _ _ _ _=>rfl;obtain⟨flw,dlw,alw,Flw⟩:=hlw;have blw:=eM (p1 := "_law_e") Flw λ_ _ _ _ _ _ _=>rfl;obtain⟨flo,dlo,alo,Flo⟩:=hlo;have blo:=eM (p1 := "_law_deed") Flo λ_ _ _ _ _ _ _=>rfl;refine⟨fO "law" "law" ED .none kVla dcla pmla anla (.ref c) ctla,λs v=>.of_eq Zj,λbase _ _ hC hBu=>?_⟩;have FT:=@fnT l.prog w K mg base;have MT:=@mtT l.prog w K mg base;have Gwh:=FT (sp:=spIsWhole) Fwh (Nh Fwh B) (MG awh) bwh;have Gnm:=FT (sp:=spIsName) Fnm (Jd Fnm B hL) (MG anm) bnm;have Guo:=FT (sp:=(spUnionOf K)) Fuo (Nb Fuo) (MG auo) buo;have Gnx:=FT (sp:=(spNextMark K)) Fnx (Lp Fnx B) (MG anx) bnx;have Goo:=FT (sp:=(CI K)) Foo (IR Foo B) (MG aoo) boo;have Gno:=FT (sp:=spIsNamesOf) Fno (KS Fno B Goo) (MG ano) bno;have Gth:=FT (sp:=spThing) Fth (Lq Fth B Gnx Gno Guo Gwh) (MG ath) bth;have Gro:=FT (sp:=spRow) Fro (Rp Fro B hG Gnm Gth) (MG aro) bro;have Gnb:=FT (sp:=spNumbered) Fnb (Ls Fnb B hM Gro) (MG anb) bnb;have Gfi:=FT (sp:=spFirsts) Ffi (P2 Ffi) (MG afi) bfi;have Gim:=FT (sp:=spIsMark) Fim (Pu Fim) (MG aim) bim;have GmR:=MT (sp:=(spRows C)) amR imR FmR (To FmR B T) bmR;have GmK:=MT (sp:=(spKnown C)) amK imK FmK (Rs FmK B T Guo) bmK;have GmT:=MT (sp:=(spRest C)) amT imT FmT (Tw FmT T) bmT;have GmM:=MT (sp:=(spMarks C)) amM imM FmM (Rt FmM B T Gim) bmM;have GmE:=MT (sp:=(spEqK C)) amE imE FmE (VB FmE B T KI mCg GmR) bmE;have Glc:=FT (sp:=(spCell K)) Flc (Tr Flc B) (MG alc) blc;have Gld:=FT (sp:=spDrawn) Fld (Rv Fld) (MG ald) bld;have Glr:=FT (sp:=spRoll) Flr (Ts Flr Gld) (MG alr) blr;have Gls:=FT (sp:=(spRounds K)) Fls (P4 Fls B Glc) (MG als) bls;have Gll:=FT (sp:=spLines) Fll (Rz Fll B Glr) (MG all) bll;have Gxn:=FT (sp:=spIsNumber) Fxn (ML Fxn hLi Gwh) (MG axn) bxn;have Gxr:=FT (sp:=(spRestOf C)) Fxr (QC Fxr T GmK) (MG axr) bxr;have Gxi:=MT (sp:=(spVInit C VC)) axi ixi Fxi (MM Fxi T VT Gxn Gxr GmT) bxi;have GxN:=MT (sp:=(spVNumber VC)) axN iy FxN (Nm FxN VT) bxN;have GxK:=MT (sp:=(spVKind VC)) axK ixK FxK (SB FxK VT) bxK;have GmN:=MT (sp:=(spNumber C)) amN imN FmN (P9 FmN T Goo) bmN;have GmU:=MT (sp:=(spNames C)) amU imU FmU (R5 FmU B T) bmU;have Gmb:=FT (sp:=(spMarkBits C)) Fmb (MS Fmb T GmM Guo) (MG amb) bmb;have GxM:=MT (sp:=(spVMarks C VC)) axM ixM FxM (QI FxM T VT GmM) bxM;have GxR:=MT (sp:=(spVRest C VC)) axR ixR FxR (SM FxR VT Gmb) bxR;have Glb:=FT (sp:=spBitsOf) Flb (P5 Flb B) (MG alb) blb;have Glu:=FT (sp:=spRuleOf) Flu (P3 Flu Glr) (MG alu) blu;have Glt:=FT (sp:=spTable) Flt (R8 Flt B Glb) (MG alt) blt;have Glx:=FT (sp:=spLTx) Flx (VR Flx B) (MG alx) blx;have Gtx:=FT (sp:=(spTxt C VC)) Ftx (VM Ftx B T VT GxK GxN GmU GmN GxM GxR) (MG atx) btx;have Gbk:=FT (sp:=(spBrk C)) Fbk (VU Fbk (MN z_dict) T GmR) (MG abk) bbk;have Gte:=FT (sp:=(Sd C)) Fte (Va Fte B (MN z_set) T GmK GmR) (MG ate) bte;have GW:FnS l.prog w K mg base "_law_word" 1 ["_law_e"] (Dz K (λi=>([e0,e1,e2,e3,e4,e5,e6,e7,e8,e9,iG]:List W3).getD i 0)):=⟨⟨_,_,Tz Flw B M,MG alw,Flw.kp,blw⟩⟩;have ME:VJ l.prog w K mg base cM:=⟨MG aM,xmg,xmr,⟨_,_,xmf,Nn Fei (MN z_VE),kei,WO dtl⟩⟩;have VO:SD l.prog w K mg base C VC:=⟨VT,mVg,⟨_,_,⟨fVC.mz,axi,ixi,fVC.kc⟩,MM Fxi T VT Gxn Gxr GmT,bxi⟩⟩;have RO:SI l.prog w K mg base cM e1:=⟨MG aX1,⟨_,_,⟨xc1,ari,iri,ori,y1.F.ke⟩,MR Fri ME,bri⟩,Ou y1.s y1.gn y1.gs⟩;have RX:Ke l.prog w K mg base cM e0:=⟨MG aX0,⟨_,_,⟨xc0,awi,iwi,owi,y0.F.ke⟩,MU Fwi ME,bwi⟩,Ou y0.s y0.gn y0.gs⟩;have Hnm:=FT (sp:=λvs H Q E=>spIsName vs H Q E\/spNameN K vs H Q E) Fnm ((Jd Fnm B hL).or (SN Fnm B hL)) (MG anm) bnm;have Hoo:=FT (sp:=λvs H Q E=>CI K vs H Q E\/spOneOfN K vs H Q E) Foo ((IR Foo B).or (QJ Foo B)) (MG aoo) boo;have Hwh:=FT (sp:=IY K) Fwh (QK Fwh B) (MG awh) bwh;have Hno:=FT (sp:=spIsNamesV K) Fno (MV Fno B Hoo) (MG ano) bno;have Hth:=FT (sp:=λvs H Q E=>spThing vs H Q E\/spThingB K vs H Q E) Fth ((Lq Fth B Gnx Gno Guo Gwh).or (QM Fth B Gnx Hno Guo Hwh)) (MG ath) bth;have Hro:=FT (sp:=λvs H Q E=>spRow vs H Q E\/spRowB K vs H Q E) Fro ((Rp Fro B hG Gnm Gth).or (T8 Fro B hG Hnm Hth)) (MG aro) bro;have Hnb:FnR l.prog w K mg base "numbered" 5 ["rows"] (spNumberedB K e0):=⟨⟨_,_,Kh Fnb B hM RX Hro,MG anb,Fnb.kp,bnb⟩⟩;have KO:Nx l.prog w K mg base C e0:=⟨T,mCg,KI,⟨_,_,⟨fC.mz,ain,iin,fC.kc⟩,Tm Fin B T hR rT Gnb Gfi Goo,SO Fin Hnb,_,UN⟩⟩;have Gmd:FnR l.prog w K mg base "made" 6 ["kind", "number"] (spMade C VC e1):=⟨⟨_,_,T6 Fmd hLi T VO RO Gwh Gxr GmT,MG amd,Fmd.kp,bmd⟩⟩;have Gtb:=FT (sp:=Sc C) Ftb (VY Ftb B VT VI mVg vI (MG aX1) xc1 y1.m Gmd Gtx) (MG atb) btb;have Gfr:=FT (sp:=Ve C) Ffr (WL Ffr VO Gte Gtb Gtx) (MG afr) bfr;have Ggo:FnR l.prog w K mg base "gone_on" 8 ["kind", "rows"] (spGon K C e0):=⟨⟨_,_,VW Fgq B KO RX GmR GmT,MG agq,Fgq.kp,bgq⟩⟩;have GbE:=FT (sp:=Kn) Flb (Sb Flb B) (MG alb) blb;exact Vm Fla Flo (MG alo) blo hC hBu B KO qeC qm (Ec fC.ql fC.qy fC.qt) M EX GW EFA Gls Gll Glu Glt Glr GbE Glx GmR GmT GmE Gbk Gfr Ggo
theorem walk {l:OpenLaw}{q:Program}{loose:Ww}{XP:(Str->Option Value)->Heap->Prop}{YP:World->Heap->Prop}{d:DefRec}{K:Params->Frag}{c P0:W3} (hn:l.most=some 63) (hdf:d.params.defaults=[])
  (hY:∀(w:World) (h:Heap),YP w h->(K w.params).In h/\h.get? P0=some (tabObj #[])/\(K w.params).lookup P0=none/\CodeHd h c P0)
  (F:∀(w:World) (mg:SV) (fa:W3) (h:Heap),(K w.params).In h->h.Ns mainGlobals mg->mg d.name=some (.ref fa) ->
   ∃fd:FuncData,(∀(s:W4) (u:Value),BindsTo s fd ⟨[u],[]⟩ [("_law_script", u)])/\∀base:Heap,(K w.params).In base->base.Ns mainGlobals mg->CodeHd base c P0->base.BuiltinsAt mg P0->aD l.prog w (K w.params) mg base aP 11 fa fd ["_law_script"] (Os (K w.params) P0)) :
  WalkO q loose XP YP l.row.toRowW d [] (λf vs=>PySem.call f vs) :=
 L2.RS (n:=63) (k:=11) (x := "_law_script") (CX:=λ_=>aP) (sp:=λw=>Os (K w.params) P0) hn qc hdf ⟨rfl,qc,qc⟩ hY F
  (λ_ _ a ns hl _ hP hS=>⟨a,ns,rfl,hS,hl,⟨#[],hP,trivial,λ_ _=>.inl rfl⟩,λ_=>rfl⟩) λ_ _ _ _ _ z=>z
end Mk
end
section
namespace Hd
open PySem PySem.W PySem.Calls PyProof.Rows
def runT (tb:String->Option Builtin) (p:Program) (w:World) (n₀:Nat) (ann:Option Value):Nat->SharedT->Thread->Option SharedT
 |0,_,_=>none
 |n + 1,s,t=>match through t with
  |true=>some s
  |false=>match stepOk n₀ ann t with
   |false=>none
   |true=>match stepT (denote tb) p w s t with
    |some (s',t')=>runT tb p w n₀ ann n s' t'
    |none=>none
theorem runT_of {tb:String->Option Builtin}{p:Program}{w:World}{n₀:Nat}{ann:Option Value}:∀ {n:Nat}{s s':SharedT}{t:Thread},runT tb p w n₀ ann n s t=some s'->topRun tb p w n₀ ann n s.abs t=some s'.abs
 |0,_,_,_,h=>by cases h
 |n + 1,s,s',t,h=>by
  unfold runT at h
  unfold topRun
  cases ht:through t with
  |true=>rw[ht]at h;cases h;rfl
  |false=>
   rw[ht]at h
   cases hk:stepOk n₀ ann t with
   |false=>rw[hk]at h;cases h
   |true=>
    rw[hk]at h
    cases hs:stepT (denote tb) p w s t with
    |none=>rw[hs]at h;cases h
    |some r=>obtain⟨s₂,t₂⟩:=r;rw[hs]at h;rw[stepT_spec hs];exact runT_of h
def looksAt (p q:Program) (loose:List Str) (Xt:Shared->Bool) (as:List Addr) (h₀:Heap) (s:Shared):=
 (staticsOk (importedModules p.main.body) h₀ s.heap&&namesBound p s.heap&&gensDone s&&laidKept h₀ s.heap,openSeen q loose (importedModules p.main.body) Xt true s,as.map s.heap.get?)
theorem left_of {p q:Program}{loose:List Str}{Xt:Shared->Bool}{as:List Addr}{K:Params->Frag}{N M m₀:Nat}{ann:Option Value}{T0:Params->BT}{life:Life}
  (open_:∀w:World,(fencedOpening treeTable p w N).map (fun s=>(s.heap,s.gens,s.drawn,s.toks))=some (boot_heap w.params,#[],boot_drawn,boot_toks))
  (tree:∀P:Params,absHeap (T0 P) m₀ life=boot_heap P)
  (size:∀w:World,((boot_heap w.params).isNs mainGlobals,(boot_heap w.params).objs.size,(boot_heap w.params).nsMap mainGlobals "__annotations__")=(true,m₀,ann))
  (le:Nat.ble M N=true)
  (run:∀(w:World) (os:OsState),(runT treeTable p w m₀ ann M ⟨T0 w.params,m₀,life,#[],boot_drawn,boot_toks,os⟩ (topStub p)).map (fun s=>looksAt p q loose Xt as (boot_heap w.params) s.abs)=some (true,openGood q loose,(K w.params).map fun x=>some x.2)) :
  LeftO p q loose Xt (fun s=>as.map s.heap.get?) (fun w=>(K w.params).map fun x=>some x.2) N:=fun w=>by
 obtain⟨⟨h,gs,d,k,os⟩,e,e'⟩:=Option.map_eq_some_iff.mp (open_ w)
 obtain⟨rfl,rfl,rfl,rfl⟩:h=boot_heap w.params /\ gs=#[] /\ d=boot_drawn /\ k=boot_toks:=by simpa using e'
 obtain⟨z1,z2,z3⟩:_ /\ _ /\ _:=by simpa only[Prod.mk.injEq]using size w
 obtain⟨sT,r1,r2⟩:=Option.map_eq_some_iff.mp (run w os)
 have r3:=runT_of r1
 have r4:topRun treeTable p w m₀ ann M ⟨boot_heap w.params,#[],boot_drawn,boot_toks,os⟩ (topStub p)=some sT.abs:=by
  rw[←tree w.params]
  exact r3
 have r:=topRun_mono (N - M) _ _ _ _ r4
 rw[show M + (N - M)=N by have:=Nat.le_of_ble_eq_true le;omega]at r
 unfold looksAt at r2
 obtain⟨l1,l2,l3⟩:_ /\ _ /\ _:=by simpa only[Prod.mk.injEq]using r2
 have t:topFrom treeTable p w N ⟨boot_heap w.params,#[],boot_drawn,boot_toks,os⟩=some sT.abs:=by
  unfold topFrom
  dsimp only
  rw[z1,z2,z3,r]
  show(match staticsOk (importedModules p.main.body) (boot_heap w.params) sT.abs.heap&&namesBound p sT.abs.heap&&gensDone sT.abs&&laidKept (boot_heap w.params) sT.abs.heap with |true=>_ |false=>_)=_
  rw[l1]
 unfold openEnds
 rw[e]
 show(topFrom treeTable p w N _).map _=_
 rw[t]
 exact congrArg some (Prod.ext l2 l3)
end Hd
end
noncomputable section
open PySem PySem.W PySem.Calls PyProof.Rows
abbrev Mk.fS (x q:Str) (s:Stmt) (dV kV doc pm:Value) (an:Option Addr) (cd ct:Value):FuncData:=fnOf x q (L2.defArgs s) (L2.defBody s) (L2.defScope s) dV kV doc pm an cd ct
abbrev Wv (x:Str) (a:Nat) (q:Str) (b c:Nat) (d e f g h:Int) (i j l m n:Nat) (o p:Int) (r:Nat):Obj:=⟨.type "code", none,.fields #[.str x a,.str q b,.str "/claim/cut.py" c,.int d 0,.int e 0,.int f 0,.int g 0,.int h 0,.ref i,.bool true,.int 181 0,.ref j,.none,.ref l,.ref m,.ref n,.int o 0,.int p 0,.str "/claim/cut.py" r],#[]⟩
abbrev Wz (P:PySem.Params) (x:Str) (t:Nat) (v:Value):DictEntry:=⟨PyData.keyHash P x,.str x t,v⟩
abbrev Mk.fN (x q:Str) (s:Stmt) (m:Str) (t c:Nat):Obj:=⟨.type "function", none,.func (Mk.fS x q s .none .none .none (.str m t) none (.ref c) .none),#[]⟩
abbrev Mk.eC (x:Str) (a b c d e f:Nat):Obj:=⟨.type "type", none,.cls ⟨x,[.ref a],[.ref b,.ref a,.type "ValueError", .type "Exception", .type "BaseException", .type "object"],c,x,true,[],[],false,none,false⟩,#[some (.ref d),none,some (.str x e),some (.str x f),some (.builtin "ValueError.__new__"),some (.bool true)]⟩
noncomputable def Mk.Kg (P:PySem.Params):PySem.W.Frag:=
 (nat_lit 2,⟨.none,none,(.dict #[] 0),#[]⟩)::(nat_lit 3,⟨.type "dict",none,(.dict #[Wz P "__name__" 165 (.str "law_markworks_k55_whole_kinds_gone_on" 799),Wz P "__doc__" 166 .none,Wz P "__package__" 167 .none,Wz P "__loader__" 168 (.builtin "__main__.__loader__#opaque"),Wz P "__spec__" 169 .none,Wz P "__annotations__" 170 (.ref 6),Wz P "__builtins__" 171 (.ref 4),Wz P "__file__" 173 (.str "/claim/cut.py" 172),Wz P "__cached__" 174 .none,Wz P "MarkError" 215 (.ref 32),Wz P "BadRows" 240 (.ref 52),Wz P "BadRule" 256 (.ref 64),Wz P "BadName" 272 (.ref 76),Wz P "BadNumber" 288 (.ref 88),Wz P "BadRest" 313 (.ref 107),Wz P "Unlike" 329 (.ref 119),Wz P "BadText" 354 (.ref 138),Wz P "BadPairs" 370 (.ref 150),Wz P "Never" 386 (.ref 162),Wz P "Unled" 411 (.ref 181),Wz P "Nothing" 427 (.ref 193),Wz P "GREATEST" 435 (.int 1048575 434),Wz P "MOST_ROWS" 437 (.int 10 436),Wz P "LONGEST_NAME" 439 (.int 6 438),Wz P "RULES" 444 (.ref 196),Wz P "is_whole" 451 (.ref 203),Wz P "is_name" 457 (.ref 208),Wz P "is_mark" 464 (.ref 215),Wz P "union_of" 473 (.ref 222),Wz P "is_one_of" 481 (.ref 229),Wz P "mark_bits" 487 (.ref 234),Wz P "next_mark" 494 (.ref 241),Wz P "is_names_of" 500 (.ref 246),Wz P "thing_number" 506 (.ref 251),Wz P "row_number" 517 (.ref 258),Wz P "numbered" 528 (.ref 265),Wz P "first_names" 538 (.ref 272),Wz P "Kind" 636 (.ref 349),Wz P "LIMIT" 642 (.int 1099511627776 641),Wz P "is_number" 649 (.ref 360),Wz P "rest_of" 657 (.ref 367),Wz P "Value" 731 (.ref 424),Wz P "made" 741 (.ref 435),Wz P "text_of" 753 (.ref 442),Wz P "broken" 766 (.ref 449),Wz P "gone_on" 774 (.ref 456),Wz P "text_by" 783 (.ref 463),Wz P "telling_numbers" 789 (.ref 468),Wz P "first_retold" 798 (.ref 475),Wz P "_law_cell" 808 (.ref 482),Wz P "_law_drawn" 817 (.ref 489),Wz P "_law_roll" 826 (.ref 496),Wz P "_law_rounds" 832 (.ref 501),Wz P "_law_word" 838 (.ref 506),Wz P "_law_told" 846 (.ref 513),Wz P "_law_bits_of" 852 (.ref 518),Wz P "_law_rule_of" 859 (.ref 525),Wz P "_law_lines" 865 (.ref 530),Wz P "_law_table_of" 871 (.ref 535),Wz P "_law_text_of" 877 (.ref 540),Wz P "law" 883 (.ref 545)] 61),#[]⟩)::(nat_lit 22,⟨.type "tuple",none,(.seq #[(.str "" 201)] 0),#[]⟩)::(nat_lit 28,Wv "__init__" 202 "MarkError.__init__" 203 204 4 2 0 0 3 23 24 25 26 27 207 4 208)::(nat_lit 29,⟨.type "function",none,(.func (Mk.fS "__init__" "MarkError.__init__" (L2.inClass (Mk.top 1) 0) (.ref 22) .none .none (.str "markworks.errors" 187) none (.ref 28) .none)),#[]⟩)::(nat_lit 31,⟨.type "dict",none,(.dict #[Wz P "__module__" 196 (.str "markworks.errors" 187),Wz P "__firstlineno__" 200 (.int 2 199),Wz P "__init__" 209 (.ref 29),Wz P "__static_attributes__" 210 (.ref 30),Wz P "__weakref__" 212 (.ref 33),Wz P "__doc__" 213 .none] 3),#[]⟩)::(nat_lit 32,⟨.type "type",none,(.cls ⟨"MarkError", [(.type "ValueError")],[(.ref 32),(.type "ValueError"),(.type "Exception"),(.type "BaseException"),(.type "object")],31, "MarkError", true,[],[(.ref 52),(.ref 64),(.ref 76),(.ref 88),(.ref 107),(.ref 119),(.ref 138),(.ref 150),(.ref 162),(.ref 181),(.ref 193)],false,none,false⟩),#[(some (.ref 15)),none,(some (.str "MarkError" 189)),(some (.str "MarkError" 197)),(some (.builtin "ValueError.__new__")),(some (.bool true))]⟩)::(nat_lit 48,Wv "__init__" 228 "BadRows.__init__" 229 230 8 2 0 0 3 43 44 45 46 47 233 8 234)::(nat_lit 49,Mk.fN "__init__" "BadRows.__init__" (L2.inClass (Mk.top 2) 0) "markworks.errors" 187 48)::(nat_lit 51,⟨.type "dict",none,(.dict #[Wz P "__module__" 223 (.str "markworks.errors" 187),Wz P "__firstlineno__" 227 (.int 6 226),Wz P "__init__" 235 (.ref 49),Wz P "__static_attributes__" 237 (.ref 50),Wz P "__doc__" 238 .none] 2),#[]⟩)::(nat_lit 52,Mk.eC "BadRows" 32 52 51 36 216 224)::(nat_lit 64,Mk.eC "BadRule" 32 64 63 55 241 249)::(nat_lit 76,Mk.eC "BadName" 32 76 75 67 257 265)::(nat_lit 88,Mk.eC "BadNumber" 32 88 87 79 273 281)::(nat_lit 103,Wv "__init__" 301 "BadRest.__init__" 302 303 19 2 0 0 3 98 99 100 101 102 306 19 307)::(nat_lit 104,Mk.fN "__init__" "BadRest.__init__" (L2.inClass (Mk.top 6) 0) "markworks.errors" 187 103)::(nat_lit 106,⟨.type "dict",none,(.dict #[Wz P "__module__" 296 (.str "markworks.errors" 187),Wz P "__firstlineno__" 300 (.int 17 299),Wz P "__init__" 308 (.ref 104),Wz P "__static_attributes__" 310 (.ref 105),Wz P "__doc__" 311 .none] 2),#[]⟩)::(nat_lit 107,Mk.eC "BadRest" 32 107 106 91 289 297)::(nat_lit 119,Mk.eC "Unlike" 32 119 118 110 314 322)::(nat_lit 138,Mk.eC "BadText" 32 138 137 122 330 338)::(nat_lit 150,Mk.eC "BadPairs" 32 150 149 141 355 363)::(nat_lit 162,Mk.eC "Never" 32 162 161 153 371 379)::(nat_lit 181,Mk.eC "Unled" 32 181 180 165 387 395)::(nat_lit 193,Mk.eC "Nothing" 32 193 192 184 412 420)::(nat_lit 196,⟨.type "tuple",none,(.seq #[(.str "bar" 440),(.str "drop" 441),(.str "keep" 442),(.str "leave" 443)] 0),#[]⟩)::(nat_lit 202,Wv "is_whole" 445 "is_whole" 446 447 45 1 0 0 3 197 198 199 200 201 449 45 450)::(nat_lit 203,Mk.fN "is_whole" "is_whole" (Mk.top 18) "markworks.kinds" 428 202)::(nat_lit 207,⟨.type "code",none,(.fields #[(.str "is_name" 452),(.str "is_name" 453),(.str "/claim/cut.py" 454),(.int 47 0),(.int 1 0),(.int 0 0),(.int 0 0),(.int 3 0),(.ref 204),(.bool true),(.int 181 0),(.ref 205),.none,.none,.none,(.ref 206),(.int 455 0),(.int 47 0),(.str "/claim/cut.py" 456)]),#[]⟩)::(nat_lit 208,Mk.fN "is_name" "is_name" (Mk.top 19) "markworks.kinds" 428 207)::(nat_lit 214,Wv "is_mark" 458 "is_mark" 459 460 51 1 0 0 3 209 210 211 212 213 462 51 463)::(nat_lit 215,Mk.fN "is_mark" "is_mark" (Mk.top 20) "markworks.kinds" 428 214)::(nat_lit 221,Wv "union_of" 465 "union_of" 466 467 53 1 0 0 3 216 217 218 219 220 471 53 472)::(nat_lit 222,Mk.fN "union_of" "union_of" (Mk.top 21) "markworks.kinds" 428 221)::(nat_lit 228,Wv "is_one_of" 474 "is_one_of" 475 476 58 2 0 0 3 223 224 225 226 227 479 58 480)::(nat_lit 229,Mk.fN "is_one_of" "is_one_of" (Mk.top 22) "markworks.kinds" 428 228)::(nat_lit 233,⟨.type "code",none,(.fields #[(.str "mark_bits" 482),(.str "mark_bits" 483),(.str "/claim/cut.py" 484),(.int 60 0),(.int 1 0),(.int 0 0),(.int 0 0),(.int 3 0),(.ref 230),(.bool true),(.int 181 0),(.ref 231),.none,.none,.none,(.ref 232),(.int 485 0),(.int 60 0),(.str "/claim/cut.py" 486)]),#[]⟩)::(nat_lit 234,Mk.fN "mark_bits" "mark_bits" (Mk.top 23) "markworks.kinds" 428 233)::(nat_lit 240,Wv "next_mark" 488 "next_mark" 489 490 62 1 0 0 3 235 236 237 238 239 492 62 493)::(nat_lit 241,Mk.fN "next_mark" "next_mark" (Mk.top 24) "markworks.kinds" 428 240)::(nat_lit 245,⟨.type "code",none,(.fields #[(.str "is_names_of" 495),(.str "is_names_of" 496),(.str "/claim/cut.py" 497),(.int 64 0),(.int 2 0),(.int 0 0),(.int 0 0),(.int 3 0),(.ref 242),(.bool true),(.int 181 0),(.ref 243),.none,.none,.none,(.ref 244),(.int 498 0),(.int 64 0),(.str "/claim/cut.py" 499)]),#[]⟩)::(nat_lit 246,Mk.fN "is_names_of" "is_names_of" (Mk.top 25) "markworks.kinds" 428 245)::(nat_lit 250,⟨.type "code",none,(.fields #[(.str "thing_number" 501),(.str "thing_number" 502),(.str "/claim/cut.py" 503),(.int 66 0),(.int 2 0),(.int 0 0),(.int 0 0),(.int 3 0),(.ref 247),(.bool true),(.int 181 0),(.ref 248),.none,.none,.none,(.ref 249),(.int 504 0),(.int 66 0),(.str "/claim/cut.py" 505)]),#[]⟩)::(nat_lit 251,Mk.fN "thing_number" "thing_number" (Mk.top 26) "markworks.kinds" 428 250)::(nat_lit 257,Wv "row_number" 507 "row_number" 508 509 74 2 0 0 3 252 253 254 255 256 515 74 516)::(nat_lit 258,Mk.fN "row_number" "row_number" (Mk.top 27) "markworks.kinds" 428 257)::(nat_lit 264,Wv "numbered" 518 "numbered" 519 520 84 1 0 0 3 259 260 261 262 263 526 84 527)::(nat_lit 265,Mk.fN "numbered" "numbered" (Mk.top 28) "markworks.kinds" 428 264)::(nat_lit 271,Wv "first_names" 529 "first_names" 530 531 94 1 0 0 3 266 267 268 269 270 536 94 537)::(nat_lit 272,Mk.fN "first_names" "first_names" (Mk.top 29) "markworks.kinds" 428 271)::(nat_lit 280,⟨.type "dict",none,(.dict #[Wz P "rest" 552 (.str "bar" 551)] 1),#[]⟩)::(nat_lit 286,Wv "__init__" 553 "Kind.__init__" 554 555 101 2 0 1 3 281 282 283 284 285 559 101 560)::(nat_lit 287,⟨.type "function",none,(.func (Mk.fS "__init__" "Kind.__init__" (L2.inClass (Mk.top 30) 0) .none (.ref 280) .none (.str "markworks.kinds" 428) none (.ref 286) .none)),#[]⟩)::(nat_lit 293,Wv "rows" 562 "Kind.rows" 563 564 108 1 0 0 3 288 289 290 291 292 566 108 567)::(nat_lit 294,Mk.fN "rows" "Kind.rows" (L2.inClass (Mk.top 30) 1) "markworks.kinds" 428 293)::(nat_lit 300,Wv "number" 569 "Kind.number" 570 571 111 2 0 0 3 295 296 297 298 299 574 111 575)::(nat_lit 301,Mk.fN "number" "Kind.number" (L2.inClass (Mk.top 30) 2) "markworks.kinds" 428 300)::(nat_lit 307,Wv "names" 577 "Kind.names" 578 579 116 1 0 0 3 302 303 304 305 306 581 116 582)::(nat_lit 308,Mk.fN "names" "Kind.names" (L2.inClass (Mk.top 30) 3) "markworks.kinds" 428 307)::(nat_lit 317,⟨.type "code",none,(.fields #[(.str "marks" 590),(.str "Kind.marks" 591),(.str "/claim/cut.py" 592),(.int 123 0),(.int 1 0),(.int 0 0),(.int 0 0),(.int 3 0),(.ref 314),(.bool true),(.int 181 0),(.ref 315),.none,.none,.none,(.ref 316),(.int 593 0),(.int 123 0),(.str "/claim/cut.py" 594)]),#[]⟩)::(nat_lit 318,Mk.fN "marks" "Kind.marks" (L2.inClass (Mk.top 30) 5) "markworks.kinds" 428 317)::(nat_lit 324,Wv "known" 596 "Kind.known" 597 598 126 1 0 0 3 319 320 321 322 323 600 126 601)::(nat_lit 325,Mk.fN "known" "Kind.known" (L2.inClass (Mk.top 30) 6) "markworks.kinds" 428 324)::(nat_lit 331,Wv "rest" 603 "Kind.rest" 604 605 129 1 0 0 3 326 327 328 329 330 607 129 608)::(nat_lit 332,Mk.fN "rest" "Kind.rest" (L2.inClass (Mk.top 30) 7) "markworks.kinds" 428 331)::(nat_lit 338,Wv "__eq__" 610 "Kind.__eq__" 611 612 132 2 0 0 3 333 334 335 336 337 615 132 616)::(nat_lit 339,Mk.fN "__eq__" "Kind.__eq__" (L2.inClass (Mk.top 30) 8) "markworks.kinds" 428 338)::(nat_lit 348,⟨.type "dict",none,(.dict #[Wz P "__module__" 546 (.str "markworks.kinds" 428),Wz P "__firstlineno__" 550 (.int 99 549),Wz P "__init__" 561 (.ref 287),Wz P "rows" 568 (.ref 294),Wz P "number" 576 (.ref 301),Wz P "names" 583 (.ref 308),Wz P "aliases" 589 (.ref 313),Wz P "marks" 595 (.ref 318),Wz P "known" 602 (.ref 325),Wz P "rest" 609 (.ref 332),Wz P "__eq__" 617 (.ref 339),Wz P "__len__" 624 (.ref 346),Wz P "__static_attributes__" 628 (.ref 347),Wz P "__dict__" 630 (.ref 350),Wz P "__weakref__" 632 (.ref 351),Wz P "__doc__" 633 .none,Wz P "__hash__" 634 .none] 5),#[]⟩)::(nat_lit 349,⟨.type "type",none,(.cls ⟨"Kind", [(.type "object")],[(.ref 349),(.type "object")],348, "Kind", true,[],[],false,none,false⟩),#[none,none,(some (.str "Kind" 539)),(some (.str "Kind" 547)),(some (.builtin "object.__new__")),(some (.bool true))]⟩)::(nat_lit 359,Wv "is_number" 643 "is_number" 644 645 139 1 0 0 3 354 355 356 357 358 647 139 648)::(nat_lit 360,Mk.fN "is_number" "is_number" (Mk.top 33) "markworks.values" 637 359)::(nat_lit 366,Wv "rest_of" 650 "rest_of" 651 652 141 2 0 0 3 361 362 363 364 365 655 141 656)::(nat_lit 367,Mk.fN "rest_of" "rest_of" (Mk.top 34) "markworks.values" 637 366)::(nat_lit 380,Wv "__init__" 670 "Value.__init__" 671 672 145 3 0 0 3 375 376 377 378 379 676 145 677)::(nat_lit 381,Mk.fN "__init__" "Value.__init__" (L2.inClass (Mk.top 35) 0) "markworks.values" 637 380)::(nat_lit 387,Wv "number" 679 "Value.number" 680 681 153 1 0 0 3 382 383 384 385 386 683 153 684)::(nat_lit 388,Mk.fN "number" "Value.number" (L2.inClass (Mk.top 35) 1) "markworks.values" 637 387)::(nat_lit 394,Wv "kind" 686 "Value.kind" 687 688 156 1 0 0 3 389 390 391 392 393 690 156 691)::(nat_lit 395,Mk.fN "kind" "Value.kind" (L2.inClass (Mk.top 35) 2) "markworks.values" 637 394)::(nat_lit 399,⟨.type "code",none,(.fields #[(.str "marks" 693),(.str "Value.marks" 694),(.str "/claim/cut.py" 695),(.int 159 0),(.int 1 0),(.int 0 0),(.int 0 0),(.int 3 0),(.ref 396),(.bool true),(.int 181 0),(.ref 397),.none,.none,.none,(.ref 398),(.int 696 0),(.int 159 0),(.str "/claim/cut.py" 697)]),#[]⟩)::(nat_lit 400,Mk.fN "marks" "Value.marks" (L2.inClass (Mk.top 35) 3) "markworks.values" 637 399)::(nat_lit 406,Wv "rest" 699 "Value.rest" 700 701 162 1 0 0 3 401 402 403 404 405 703 162 704)::(nat_lit 407,Mk.fN "rest" "Value.rest" (L2.inClass (Mk.top 35) 4) "markworks.values" 637 406)::(nat_lit 423,⟨.type "dict",none,(.dict #[Wz P "__module__" 665 (.str "markworks.values" 637),Wz P "__firstlineno__" 669 (.int 143 668),Wz P "__init__" 678 (.ref 381),Wz P "number" 685 (.ref 388),Wz P "kind" 692 (.ref 395),Wz P "marks" 698 (.ref 400),Wz P "rest" 705 (.ref 407),Wz P "__eq__" 713 (.ref 414),Wz P "__len__" 720 (.ref 421),Wz P "__static_attributes__" 723 (.ref 422),Wz P "__dict__" 725 (.ref 425),Wz P "__weakref__" 727 (.ref 426),Wz P "__doc__" 728 .none,Wz P "__hash__" 729 .none] 5),#[]⟩)::(nat_lit 424,⟨.type "type",none,(.cls ⟨"Value", [(.type "object")],[(.ref 424),(.type "object")],423, "Value", true,[],[],false,none,false⟩),#[none,none,(some (.str "Value" 658)),(some (.str "Value" 666)),(some (.builtin "object.__new__")),(some (.bool true))]⟩)::(nat_lit 434,Wv "made" 732 "made" 733 734 170 2 0 0 3 429 430 431 432 433 739 170 740)::(nat_lit 435,Mk.fN "made" "made" (Mk.top 36) "markworks.values" 637 434)::(nat_lit 441,Wv "text_of" 744 "text_of" 745 746 183 1 0 0 3 436 437 438 439 440 751 183 752)::(nat_lit 442,Mk.fN "text_of" "text_of" (Mk.top 38) "markworks.texts" 742 441)::(nat_lit 448,Wv "broken" 756 "broken" 757 758 193 2 0 0 3 443 444 445 446 447 764 193 765)::(nat_lit 449,Mk.fN "broken" "broken" (Mk.top 40) "markworks.seals" 754 448)::(nat_lit 455,Wv "gone_on" 767 "gone_on" 768 769 199 2 0 0 3 450 451 452 453 454 772 199 773)::(nat_lit 456,Mk.fN "gone_on" "gone_on" (Mk.top 41) "markworks.seals" 754 455)::(nat_lit 462,Wv "text_by" 775 "text_by" 776 777 203 2 0 0 3 457 458 459 460 461 781 203 782)::(nat_lit 463,Mk.fN "text_by" "text_by" (Mk.top 42) "markworks.seals" 754 462)::(nat_lit 467,⟨.type "code",none,(.fields #[(.str "telling_numbers" 784),(.str "telling_numbers" 785),(.str "/claim/cut.py" 786),(.int 209 0),(.int 2 0),(.int 0 0),(.int 0 0),(.int 3 0),(.ref 464),(.bool true),(.int 181 0),(.ref 465),.none,.none,.none,(.ref 466),(.int 787 0),(.int 209 0),(.str "/claim/cut.py" 788)]),#[]⟩)::(nat_lit 468,Mk.fN "telling_numbers" "telling_numbers" (Mk.top 43) "markworks.seals" 754 467)::(nat_lit 474,Wv "first_retold" 790 "first_retold" 791 792 214 2 0 0 3 469 470 471 472 473 796 214 797)::(nat_lit 475,Mk.fN "first_retold" "first_retold" (Mk.top 44) "markworks.seals" 754 474)::(nat_lit 481,Wv "_law_cell" 801 "_law_cell" 802 803 220 2 0 0 3 476 477 478 479 480 806 220 807)::(nat_lit 482,Mk.fN "_law_cell" "_law_cell" (Mk.top 46) "law_markworks_k55_whole_kinds_gone_on" 799 481)::(nat_lit 488,Wv "_law_drawn" 809 "_law_drawn" 810 811 224 2 0 0 3 483 484 485 486 487 815 224 816)::(nat_lit 489,Mk.fN "_law_drawn" "_law_drawn" (Mk.top 47) "law_markworks_k55_whole_kinds_gone_on" 799 488)::(nat_lit 495,Wv "_law_roll" 818 "_law_roll" 819 820 229 2 0 0 3 490 491 492 493 494 824 229 825)::(nat_lit 496,Mk.fN "_law_roll" "_law_roll" (Mk.top 48) "law_markworks_k55_whole_kinds_gone_on" 799 495)::(nat_lit 500,⟨.type "code",none,(.fields #[(.str "_law_rounds" 827),(.str "_law_rounds" 828),(.str "/claim/cut.py" 829),(.int 236 0),(.int 2 0),(.int 0 0),(.int 0 0),(.int 3 0),(.ref 497),(.bool true),(.int 181 0),(.ref 498),.none,.none,.none,(.ref 499),(.int 830 0),(.int 236 0),(.str "/claim/cut.py" 831)]),#[]⟩)::(nat_lit 501,Mk.fN "_law_rounds" "_law_rounds" (Mk.top 49) "law_markworks_k55_whole_kinds_gone_on" 799 500)::(nat_lit 505,⟨.type "code",none,(.fields #[(.str "_law_word" 833),(.str "_law_word" 834),(.str "/claim/cut.py" 835),(.int 238 0),(.int 1 0),(.int 0 0),(.int 0 0),(.int 3 0),(.ref 502),(.bool true),(.int 181 0),(.ref 503),.none,.none,.none,(.ref 504),(.int 836 0),(.int 238 0),(.str "/claim/cut.py" 837)]),#[]⟩)::(nat_lit 506,Mk.fN "_law_word" "_law_word" (Mk.top 50) "law_markworks_k55_whole_kinds_gone_on" 799 505)::(nat_lit 512,Wv "_law_told" 839 "_law_told" 840 841 248 1 0 0 3 507 508 509 510 511 844 248 845)::(nat_lit 513,Mk.fN "_law_told" "_law_told" (Mk.top 51) "law_markworks_k55_whole_kinds_gone_on" 799 512)::(nat_lit 517,⟨.type "code",none,(.fields #[(.str "_law_bits_of" 847),(.str "_law_bits_of" 848),(.str "/claim/cut.py" 849),(.int 261 0),(.int 1 0),(.int 0 0),(.int 0 0),(.int 3 0),(.ref 514),(.bool true),(.int 181 0),(.ref 515),.none,.none,.none,(.ref 516),(.int 850 0),(.int 261 0),(.str "/claim/cut.py" 851)]),#[]⟩)::(nat_lit 518,Mk.fN "_law_bits_of" "_law_bits_of" (Mk.top 52) "law_markworks_k55_whole_kinds_gone_on" 799 517)::(nat_lit 524,Wv "_law_rule_of" 853 "_law_rule_of" 854 855 263 1 0 0 3 519 520 521 522 523 857 263 858)::(nat_lit 525,Mk.fN "_law_rule_of" "_law_rule_of" (Mk.top 53) "law_markworks_k55_whole_kinds_gone_on" 799 524)::(nat_lit 529,⟨.type "code",none,(.fields #[(.str "_law_lines" 860),(.str "_law_lines" 861),(.str "/claim/cut.py" 862),(.int 265 0),(.int 2 0),(.int 0 0),(.int 0 0),(.int 3 0),(.ref 526),(.bool true),(.int 181 0),(.ref 527),.none,.none,.none,(.ref 528),(.int 863 0),(.int 265 0),(.str "/claim/cut.py" 864)]),#[]⟩)::(nat_lit 530,Mk.fN "_law_lines" "_law_lines" (Mk.top 54) "law_markworks_k55_whole_kinds_gone_on" 799 529)::(nat_lit 534,⟨.type "code",none,(.fields #[(.str "_law_table_of" 866),(.str "_law_table_of" 867),(.str "/claim/cut.py" 868),(.int 284 0),(.int 1 0),(.int 0 0),(.int 0 0),(.int 3 0),(.ref 531),(.bool true),(.int 181 0),(.ref 532),.none,.none,.none,(.ref 533),(.int 869 0),(.int 284 0),(.str "/claim/cut.py" 870)]),#[]⟩)::(nat_lit 535,Mk.fN "_law_table_of" "_law_table_of" (Mk.top 55) "law_markworks_k55_whole_kinds_gone_on" 799 534)::(nat_lit 539,⟨.type "code",none,(.fields #[(.str "_law_text_of" 872),(.str "_law_text_of" 873),(.str "/claim/cut.py" 874),(.int 292 0),(.int 2 0),(.int 0 0),(.int 0 0),(.int 3 0),(.ref 536),(.bool true),(.int 181 0),(.ref 537),.none,.none,.none,(.ref 538),(.int 875 0),(.int 292 0),(.str "/claim/cut.py" 876)]),#[]⟩)::(nat_lit 540,Mk.fN "_law_text_of" "_law_text_of" (Mk.top 56) "law_markworks_k55_whole_kinds_gone_on" 799 539)::(nat_lit 544,⟨.type "code",none,(.fields #[(.str "law" 878),(.str "law" 879),(.str "/claim/cut.py" 880),(.int 299 0),(.int 1 0),(.int 0 0),(.int 0 0),(.int 3 0),(.ref 541),(.bool true),(.int 181 0),(.ref 542),.none,.none,.none,(.ref 543),(.int 881 0),(.int 299 0),(.str "/claim/cut.py" 882)]),#[]⟩)::(nat_lit 545,Mk.fN "law" "law" (Mk.top 57) "law_markworks_k55_whole_kinds_gone_on" 799 544)::
 []
noncomputable def Mk.Kf (P:PySem.Params):PySem.W.Frag:=(nat_lit 542,⟨.none,none,(.fields #[]),#[]⟩):: Mk.Kg P
noncomputable def Mk.Kas:List Nat:=542:: 2:: 3:: 22:: 28:: 29:: 31:: 32:: 48:: 49:: 51:: 52:: 64:: 76:: 88:: 103:: 104:: 106:: 107:: 119:: 138:: 150:: 162:: 181:: 193:: 196:: 202:: 203:: 207:: 208:: 214:: 215:: 221:: 222:: 228:: 229:: 233:: 234:: 240:: 241:: 245:: 246:: 250:: 251:: 257:: 258:: 264:: 265:: 271:: 272:: 280:: 286:: 287:: 293:: 294:: 300:: 301:: 307:: 308:: 317:: 318:: 324:: 325:: 331:: 332:: 338:: 339:: 348:: 349:: 359:: 360:: 366:: 367:: 380:: 381:: 387:: 388:: 394:: 395:: 399:: 400:: 406:: 407:: 423:: 424:: 434:: 435:: 441:: 442:: 448:: 449:: 455:: 456:: 462:: 463:: 467:: 468:: 474:: 475:: 481:: 482:: 488:: 489:: 495:: 496:: 500:: 501:: 505:: 506:: 512:: 513:: 517:: 518:: 524:: 525:: 529:: 530:: 534:: 535:: 539:: 540:: 544:: 545:: []
noncomputable def Mk.loose:List PySem.Str:=Str.ofString "MarkError" :: Str.ofString "BadRows" :: Str.ofString "BadRule" :: Str.ofString "BadName" :: Str.ofString "BadNumber" :: Str.ofString "BadRest" :: Str.ofString "Unlike" :: Str.ofString "BadText" :: Str.ofString "BadPairs" :: Str.ofString "Never" :: Str.ofString "Unled" :: Str.ofString "Nothing" :: Str.ofString "GREATEST" :: Str.ofString "MOST_ROWS" :: Str.ofString "LONGEST_NAME" :: Str.ofString "RULES" :: Str.ofString "is_whole" :: Str.ofString "is_name" :: Str.ofString "is_mark" :: Str.ofString "union_of" :: Str.ofString "is_one_of" :: Str.ofString "mark_bits" :: Str.ofString "next_mark" :: Str.ofString "is_names_of" :: Str.ofString "thing_number" :: Str.ofString "row_number" :: Str.ofString "numbered" :: Str.ofString "first_names" :: Str.ofString "Kind" :: Str.ofString "LIMIT" :: Str.ofString "is_number" :: Str.ofString "rest_of" :: Str.ofString "Value" :: Str.ofString "made" :: Str.ofString "text_of" :: Str.ofString "broken" :: Str.ofString "gone_on" :: Str.ofString "text_by" :: Str.ofString "telling_numbers" :: Str.ofString "first_retold" :: Str.ofString "_law_cell" :: Str.ofString "_law_drawn" :: Str.ofString "_law_roll" :: Str.ofString "_law_rounds" :: Str.ofString "_law_word" :: Str.ofString "_law_told" :: Str.ofString "_law_bits_of" :: Str.ofString "_law_rule_of" :: Str.ofString "_law_lines" :: Str.ofString "_law_table_of" :: Str.ofString "_law_text_of" :: []
def Mk.T0 (P:Params):BT:=.node (boot_o_0 P)
 (.node (boot_o_1 P) (.node (boot_o_3 P) (.node (boot_o_7 P) .nil .nil) .nil) (.node (boot_o_5 P) (.node (boot_o_9 P) .nil .nil) .nil))
 (.node (boot_o_2 P) (.node (boot_o_4 P) (.node (boot_o_8 P) .nil .nil) .nil) (.node (boot_o_6 P) (.node (boot_o_10 P) .nil .nil) .nil))
theorem Mk.tree (P:Params):absHeap (Mk.T0 P) (nat_lit 11) {}=boot_heap P:=by kernel_rfl
theorem Mk.size (w:World):((boot_heap w.params).isNs mainGlobals,(boot_heap w.params).objs.size,(boot_heap w.params).nsMap mainGlobals "__annotations__")=(true,(nat_lit 11),some (.ref (nat_lit 6))):=by kernel_rfl
theorem Mk.opens (w:World):(fencedOpening treeTable PySem.Challenge.pw_markworks_k55_whole_kinds_gone_on w (nat_lit 9516)).map (fun s=>(s.heap,s.gens,s.drawn,s.toks))=some (boot_heap w.params,#[],boot_drawn,boot_toks):=boot_open qd qc (fun s=>qd) w
theorem Mk.twin:Function.const _ true (@Hd.runT,@Hd.looksAt,PySem.Challenge.pw_markworks_k55_whole_kinds_gone_on,Mk.Kf,Mk.loose)=true:=by k_qdec
abbrev Mk.qv:Program:=view PySem.Challenge.pw_markworks_k55_whole_kinds_gone_on [nat_lit 57]
abbrev Mk.Xt (s:Shared):Bool:=xlAt Mk.qv [] s&&recOk [] s
theorem Mk.run_q (w:World) (os:OsState):(Option.map (fun s=>Fast.tw8257016192812374322 Fast.tw13075275428744190964 (view Fast.tw13075275428744190964 [nat_lit 57]) Fast.tw2924075613660010442 (fun s=>xlAt (view Fast.tw13075275428744190964 [nat_lit 57]) [] s&&recOk [] s) Mk.Kas (boot_heap w.params) s.abs)
   (Fast.tw16599536794577742827 Fast.tw14364793385576792824 Fast.tw13075275428744190964 w (nat_lit 11) (some (Value.ref (nat_lit 6))) (nat_lit 4710) ⟨Mk.T0 w.params,nat_lit 11,{},#[],boot_drawn,boot_toks,os⟩ (topStub Fast.tw13075275428744190964))) =
  some (true,openGood (view Fast.tw13075275428744190964 [nat_lit 57]) Fast.tw2924075613660010442,(Fast.tw12104304683883722232 w.params).map fun x=>some x.2):=by kernel_rfl
theorem Mk.left:LeftO PySem.Challenge.pw_markworks_k55_whole_kinds_gone_on Mk.qv Mk.loose Mk.Xt (fun s=>Mk.Kas.map s.heap.get?) (fun w=>(Mk.Kf w.params).map fun x=>some x.2) (nat_lit 9516):=by
 refine Hd.left_of (M:=nat_lit 4710) (T0:=Mk.T0) Mk.opens Mk.tree Mk.size qc fun w os=>?_
 have h:=Mk.run_q w os
 rw[←Fast.te8257016192812374322,←Fast.te13075275428744190964,←Fast.te2924075613660010442,←Fast.te16599536794577742827,←Fast.te14364793385576792824,←Fast.te12104304683883722232]at h
 exact h
theorem Mk.kg_in {P:Params}{h:Heap} (X:(Mk.Kf P).In h):(Mk.Kg P).In h /\ h.get? 542=some (tabObj #[]):=by
 have e:(Mk.Kg P).lookup 542=none:=by kernel_rfl
 refine⟨fun b o z=>X b o ?_,X _ _ (by unfold Mk.Kf;rw[List.lookup_cons];rfl)⟩
 unfold Mk.Kf
 rw[List.lookup_cons]
 have nb:(b== 542)=false:=by
  cases q:(b== 542)with
  |false=>rfl
  |true=>rw[beq_iff_eq.mp q,e]at z;cases z
 rw[nb]
 exact z
def Mk.dL:DefRec:=⟨"law", L2.defArgs (Mk.top (nat_lit 57)),L2.defBody (Mk.top (nat_lit 57)),L2.defScope (Mk.top (nat_lit 57)),match Mk.top (nat_lit 57)with | .FunctionDef _ _ _ _ _ _ _ _ _ p=>p |_=>⟨0,0,0,0⟩⟩
end
open PySem PySem.W PyProof.Rows
set_option maxRecDepth 100000 in
set_option maxHeartbeats 0 in
theorem PySem.Challenge.cw_markworks_k55_whole_kinds_gone_on_holds : PySem.Challenge.rw_markworks_k55_whole_kinds_gone_on.Holds := by
 w_on;o_law
 refine PySem.W.holds_open (r:=PySem.Challenge.rw_markworks_k55_whole_kinds_gone_on.row) (q:=Mk.qv) (loose:=Mk.loose) (Xt:=Mk.Xt) (XP:=XL Mk.qv []) (YP:=InK Mk.Kf) (d:=Mk.dL) (kwd:=[]) Mk.left
  (fun w s e=>InK.of (fun P=>qd) w s e) InK.keeps (fun s e=>xl_of s (Bool.and_eq_true_iff.mp e).1) XL.keeps qd qd qd (fun s e=>recFacts_of (Bool.and_eq_true_iff.mp e).2) (by rfl) (by assumption) qb ⟨rfl,rfl,rfl,rfl,rfl,qb⟩ ?hw ?hc
 case hw=>w_witness2
 have aux:Function.const _ True (PySem.Challenge.rw_markworks_k55_whole_kinds_gone_on,Mk.Kg):=by k_fill;trivial
 refine Mk.walk (l:=PySem.Challenge.rw_markworks_k55_whole_kinds_gone_on) (c:=544) (P0:=542) (K:=Mk.Kg) rfl rfl (fun w h Y=>⟨(Mk.kg_in Y).1,(Mk.kg_in Y).2,qd,Mk.codeHd_of (Mk.kg_in Y).1 qd⟩) ?F
 case F=>
  intro w mg fa h KX G hmg
  refine' Mk.all_mk KX G hmg ?aC ?aVC ?aM ?aX0 ?aX1 ?aX2 ?aX3 ?aX4 ?aX5 ?aX6 ?aX7 ?aX8 ?aX9 ?aX10 ?z_VE ?hwh ?hnm ?huo ?hnx ?hoo ?hno ?hth ?hro ?hnb ?hfi ?him ?hmR ?hmK ?hmT ?hmM ?hmE ?hlc ?hld ?hlr ?hls ?hll ?hxn ?hxr ?hxi ?hxN ?hxK ?hmN ?hmU ?hmb ?hxM ?hxR ?hlb ?hlu ?hlt ?hlx ?htx ?hbk ?hte ?hgq ?htb ?hfr ?hmd ?hri ?hwi ?hlw ?hlo ?ain ?iin ?lin ?cin ?kin ?ala ?lla ?cla ?kla ?aei ?iei ?lei ?cei ?kei ?kdl ?kde ?kdr ?dtl ?vG ?vM ?vL ?vLi ?vR ?qn ?qt ?fC ?fVC ?nC_numbers ?nC_firsts ?nC_rule ?nVC_own_kind ?nVC_bits ?xm ?xc0 ?xc1 ?xc2 ?xc3 ?y0 ?y1 ?xmg ?xmr ?xmf ?rL ?z_len ?z_isinstance ?z_max ?z_min ?z_range ?z_list ?z_tuple ?z_sorted ?z_sum ?z_all ?z_enumerate ?z_int ?z_bool ?z_str ?z_dict ?z_set
  case aC|aVC|aM|aX0|aX1|aX2|aX3|aX4|aX5|aX6|aX7|aX8|aX9|aX10|z_VE=>k_is
  case hwh|hnm|huo|hnx|hoo|hno|hth|hro|hnb|hfi|him|hlc|hld|hlr|hls|hll|hxn|hxr|hmb|hlb|hlu|hlt|hlx|htx|hbk|hte|hgq|htb|hfr|hmd|hlw|hlo=>
   refine' ⟨_,_,?a,L2.fun_mk ?b ?c ?d⟩
   case a |b |c |d=>k_is
  case hmR|hmK|hmT|hmM|hmE|hxi|hxN|hxK|hmN|hmU|hxM|hxR|hri|hwi=>
   refine' ⟨_,_,?a,?i,⟨_,?o,?q⟩,L2.fun_mk ?b ?c ?d⟩
   case a |i |b=>k_is
   case o |q=>first |rfl |k_is
   case c |d=>k_is
  case ain|iin|lin|cin|kin|ala|lla|cla|kla|aei|iei|lei|cei|kei|kdl=>k_is
  case kde=>simp
  case kdr|dtl|vG|vM|vL|vLi|vR|qn|qt=>k_is
  case fC|fVC=>
   refine' ⟨?_,?_,?_,?_,?_,?_,?_,?_,?_,?_,?_,?_,?_,?_⟩<;>k_is
  case nC_numbers|nC_firsts|nC_rule|nVC_own_kind|nVC_bits=>k_is
  case xm|xc0|xc1|xc2|xc3=>kernel_rfl
  case y0|y1=>
   exact⟨⟨qd,qd,qd,qd,qd,qd,qd,qd,qd,qd⟩,qd,qd,qd,qd,qd,qd⟩
  case xmg|xmr|xmf=>kernel_rfl
  case rL|z_len|z_isinstance|z_max|z_min|z_range|z_list|z_tuple|z_sorted|z_sum|z_all|z_enumerate|z_int|z_bool|z_str|z_dict|z_set=>k_is
