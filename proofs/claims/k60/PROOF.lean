import PyProof.Rows.All
import Wide.All
import OpenK.AllK
import Wide.FinOn
import PyProof.EqAt
import PyProof.EqKinds
import PyProof.TupleCall
import Lean
import PyProof.Rows.BitMore
import PyProof.ExcBaseAll.ValueError
import PyProof.ExcArgsOwn
import KE.KLam
import PyProof.InstStoreFacts
import PyProof.FString
import PyProof.FString2
import PyProof.Rows.FStr
import PyProof.FitsInt
import PyProof.ZipIter
import PyProof.Rows.ZipGen
import PyProof.AttrMissHeap
import KE.KDictOf
import PyProof.DictCompW
import PyProof.DictWalks
import PyProof.AutoSeq1
import PyProof.Rows.SeqMore
import PySem.Challenge.RW_markworks_k60_whole_packs
set_option Elab.async false
set_option linter.all false
set_option maxRecDepth 100000
set_option maxHeartbeats 4000000
theorem AI {α:Type u} {β:Type v} {as:List α} (f:α->β):(as.map f).length=as.length:=List.length_map f
abbrev Aa:=List (PySem.Str × Nat)
abbrev Ab:=PySem.Value->PySem.Shared->Prop
abbrev LO:=List (PySem.Addr × PySem.Obj)
abbrev SV:=PySem.Str->Option PySem.Value
open PySem in
abbrev FG:=W.Frag
open List (all_map any_cons any_eq_true any_map append_nil contains_cons filterMap_cons filter_cons find?_cons foldl_append foldl_cons forIn_cons getD_eq_getElem?_getD getElem?_append_left getElem?_append_right getElem?_map getElem?_of_mem getElem?_zip_eq_some length_append length_cons length_filter_le length_nil length_set length_singleton length_take length_zip lookup_cons map_append map_cons map_map map_nil mem_append mem_append_left mem_append_right mem_cons mem_cons_of_mem mem_cons_self mem_filter mem_map mem_of_getElem? mem_range mem_singleton nodup_cons nodup_nil not_mem_nil of_mem_zip size_toArray sum_append sum_cons take_add_one take_append_drop take_length take_of_length_le take_zero)
open PySem.Heap (get?_push_of_some get?_push_size get?_update_other get?_update_self lt_size size_push)
section
namespace L2
open PySem
theorem sl1:1 <= sizeLine:=by decide
theorem sl2:2 <= sizeLine:=by decide
theorem sl3:3 <= sizeLine:=by decide
theorem sl4:4 <= sizeLine:=by decide
theorem sl6:6 <= sizeLine:=by decide
theorem sl7:7 <= sizeLine:=by decide
theorem sl9:9 <= sizeLine:=by decide
end L2
end
section
namespace L2
open PySem PySem.Spec PyProof.Rows
abbrev Key:=Sum Int Str
noncomputable def Fq:Key->Value->Bool
 | .inl k,v=>Value.isInt k v
 | .inr x,v=>Value.isStrOf x v
noncomputable def To (w:World):Key->Int
 | .inl k=>hashInt k
 | .inr x=>hashStr w x
theorem Ax:∀ {k:Key} {v:Value},Fq k v=true->(∃ i t,k=Sum.inl i/\v=Value.int i t)\/(∃ x t,k=Sum.inr x/\v=Value.str x t)
 | .inl i,v,h=>by
  obtain ⟨t,e⟩:=Value.isInt_shape (k:=i) (v:=v) h;exact .inl ⟨i,t,rfl,e⟩
 | .inr x,v,h=>by
  obtain ⟨t,e⟩:=Value.isStrOf_shape (x:=x) (v:=v) h;exact .inr ⟨x,t,rfl,e⟩
theorem MU (i:Int) (t:Tok):Fq (.inl i) (.int i t)=true:=by simp [Fq,Value.isInt]
theorem MW (x:Str) (t:Tok):Fq (.inr x) (.str x t)=true:=by simp [Fq,Value.isStrOf]
theorem Re (a b:Int):decide ((Sum.inl a:Key)=Sum.inl b)=(a == b):=by
 by_cases e:a=b
 ·subst e; simp
 ·have h:¬ (Sum.inl a:Key)=Sum.inl b:=fun q=>e (Sum.inl.inj q);rw [decide_eq_false h];exact (beq_eq_false_iff_ne.mpr e).symm
theorem Rf (a b:Str):decide ((Sum.inr a:Key)=Sum.inr b)=decide (a=b):=by
 by_cases e:a=b
 ·subst e; simp
 ·have h:¬ (Sum.inr a:Key)=Sum.inr b:=fun q=>e (Sum.inr.inj q);rw [decide_eq_false h,decide_eq_false e]
theorem Rg (a:Int) (b:Str):decide ((Sum.inl a:Key)=Sum.inr b)=false:=decide_eq_false (fun q=>nomatch q)
theorem Rh (a:Str) (b:Int):decide ((Sum.inr a:Key)=Sum.inl b)=false:=decide_eq_false (fun q=>nomatch q)
noncomputable def Al (prog:Program) (w:World):PySem.KeyKind prog w Key where
 is:=Fq
 hash:=To w
 inj:=fun v a b ha hb=>by
  rcases Ax ha with ⟨i,t,rfl,rfl⟩ | ⟨x,t,rfl,rfl⟩
  ·rcases Ax hb with ⟨j,u,rfl,e⟩ | ⟨y,u,rfl,e⟩
   ·injection e with e1 _; rw [e1]
   ·exact nomatch e
  ·rcases Ax hb with ⟨j,u,rfl,e⟩ | ⟨y,u,rfl,e⟩
   ·exact nomatch e
   ·injection e with e1 _; rw [e1]
 byValue:=fun k v h=>by
  rcases Ax h with ⟨i,t,rfl,rfl⟩ | ⟨x,t,rfl,rfl⟩ <;> rfl
 pyHash:=fun hv h=>by
  rcases Ax hv with ⟨i,t,rfl,rfl⟩ | ⟨x,t,rfl,rfl⟩
  ·exact wpAny_pyHash_int h
  ·exact wpAny_pyHash_str h
 eqBool:=fun hu hv h=>by
  rcases Ax hu with ⟨i,t,rfl,rfl⟩ | ⟨x,t,rfl,rfl⟩
  ·rcases Ax hv with ⟨j,u,rfl,rfl⟩ | ⟨y,u,rfl,rfl⟩
   ·rw [Re] at h; exact wpAny_eqBool_int h
   ·rw [Rg] at h; exact SeqAt.EqAt.int_str i t y u _ _ _ _ h
  ·rcases Ax hv with ⟨j,u,rfl,rfl⟩ | ⟨y,u,rfl,rfl⟩
   ·rw [Rh] at h; exact SeqAt.EqAt.str_int x t j u _ _ _ _ h
   ·rw [Rf] at h; exact wpAny_eqBool_str h
 «strs»:=fun k x t v h=>by
  rcases Ax h with ⟨i,u,rfl,e⟩ | ⟨y,u,rfl,e⟩
  ·exact nomatch e
  ·injection e with e1 _
   subst e1;cases v <;> rfl
theorem JL (prog:Program) (w:World) (i:Int) (t:Tok):(Al prog w).is (.inl i) (.int i t)=true:=MU i t
theorem JM (prog:Program) (w:World) (x:Str) (t:Tok):(Al prog w).is (.inr x) (.str x t)=true:=MW x t
end L2
namespace L2
open PySem PySem.Spec PyProof.Rows
inductive V where
 | non | bl (b:Bool) | int (i:Int) | str (x:Str) | byt (b:Array UInt8) | flt (b:UInt64) | ref (a:Addr) | ty (n:String)
 deriving DecidableEq
def RelV:V->Value->Prop
 | .non,u=>u=Value.none
 | .bl b,u=>u=Value.bool b
 | .int i,u=>∃ t,u=Value.int i t
 | .str x,u=>∃ t,u=Value.str x t
 | .byt b,u=>∃ t,u=Value.bytes b t
 | .flt b,u=>∃ t,u=Value.float b t
 | .ref a,u=>u=Value.ref a
 | .ty n,u=>u=Value.type n
abbrev Vals:List V->List Value->Prop:=Paired RelV
theorem Vals.length {xs:List V} {us:List Value} (r:Vals xs us):xs.length=us.length:=Paired.length r
theorem Vals.get:∀ {xs:List V} {us:List Value} {i:Nat} {x:V},Vals xs us->xs[i]?=some x->∃ u,us[i]?=some u/\RelV x u
 | _,_,_,_,.nil,e=>by simp at e
 | _,_,0,_,.cons r _,e=>by simp at e; subst e; exact ⟨_,rfl,r⟩
 | _,_,i + 1,x,.cons _ t,e=>by
  obtain ⟨u,h1,h2⟩:=Vals.get (i:=i) (x:=x) t (by simpa using e);exact ⟨u,by simpa using h1,h2⟩
theorem Vals.set {x:V} {u:Value} (r:RelV x u):∀ {xs:List V} {us:List Value} (i:Nat),Vals xs us->Vals (xs.set i x) (us.set i u)
 | _,_,_,.nil=>.nil
 | _,_,0,.cons _ t=>.cons r t
 | _,_,i + 1,.cons q t=>.cons q (Vals.set r i t)
theorem Vals.append:∀ {xs ys:List V} {us ws:List Value},Vals xs us->Vals ys ws->Vals (xs++ys) (us++ws)
 | _,_,_,_,.nil,s=>s
 | _,_,_,_,.cons r t,s=>.cons r (Vals.append t s)
theorem Vals.take:∀ {xs:List V} {us:List Value} (n:Nat),Vals xs us->Vals (xs.take n) (us.take n)
 | _,_,0,_=>.nil
 | _,_,_ + 1,.nil=>.nil
 | _,_,n + 1,.cons r t=>.cons r (Vals.take n t)
theorem Vals.drop:∀ {xs:List V} {us:List Value} (n:Nat),Vals xs us->Vals (xs.drop n) (us.drop n)
 | _,_,0,r=>r
 | _,_,_ + 1,.nil=>.nil
 | _,_,n + 1,.cons _ t=>Vals.drop n t
def RelO:Option V->Option Value->Prop
 | some v,some u=>RelV v u
 | none,none=>True
 | _,_=>False
def KV {κ:Type}:List (κ × V)->List (κ × Value)->Prop:=Paired fun (p:κ × V) (q:κ × Value)=>p.1=q.1/\RelV p.2 q.2
noncomputable def kV:Key->V
 | .inl i=>.int i
 | .inr x=>.str x
abbrev LK:=List (Key × V)
inductive HO where
 | lst (xs:List V)
 | tup (xs:List V)
 | dK (kvs:LK) | dT (kvs:List (List Key × V))
 | set (S:Int->Bool) (n:Nat)
 | ins (C dx:Addr) (fs:List (Str × V))
 | own (x:Addr)
 | xd (fs:List (Str × V))
 | met (f x:Addr)
 | rng (lo hi:Int)
 | frz (o:Obj) (u:HO)
 | tbl (ps:Array Value)
 | ext (φ:Heap->Prop)
abbrev Hp:=Addr->Option HO
noncomputable def upd (H:Hp) (a:Addr) (o:HO):Hp:=fun b=>if b=a then some o else H b
theorem AB {H:Hp} {a:Addr} {o:HO}:upd H a o a=some o:=by unfold upd; rw [if_pos rfl]
theorem AH {H:Hp} {a b:Addr} {o:HO} (h:b ≠ a):upd H a o b=H b:=by unfold upd; rw [if_neg h]
theorem Pt {H:Hp} {a:Addr} {o u:HO}:upd (upd H a o) a u=upd H a u:=by
 funext b; unfold upd; split <;> rfl
theorem Sq {H:Hp} {a b:Addr} {o u:HO} (h:H a=some o) (h':H b=some u) (d:o ≠ u):a ≠ b:=by
 intro e; subst e; rw [h] at h'; exact d (Option.some.inj h')
theorem AJ {H:Hp} {a b:Addr} {o:HO} (h:H a=some o) (h':H b=none):a ≠ b:=by
 intro e; subst e; rw [h] at h'; cases h'
section
variable (P:Program) (w:World)
def ObjOk (H:Hp) (h:Heap) (a:Addr):HO->Prop
 | .lst xs=>xs.length <= sizeLine/\∃ (its:List Value) (n:Nat),Vals xs its/\h.get? a=some { cls:=.type "list", data:=.seq its.toArray n }
 | .tup xs=>xs.length <= sizeLine/\∃ its:List Value,Vals xs its/\IsTup h a its.toArray
 | .dK kvs=>kvs.length <= sizeLine/\(a == sysModules)=false/\∃ vs,KV kvs vs/\h.DictOf (Al P w) a vs
 | .dT kvs=>kvs.length <= sizeLine/\(a == sysModules)=false/\∃ xs:List (List Key × Addr × Value),
   Paired (fun (p:List Key × V) (q:List Key × Addr × Value)=>p.1=q.1/\H q.2.1=some (.tup (p.1.map kV))/\RelV p.2 q.2.2) kvs xs /\
   ∃ o es ep,h.get? a=some o/\o.ExactDict/\o.data=.dict es ep/\es.toList=xs.map (entryOfKey (tupleKind (Al P w)))/\(xs.map (·.1)).Nodup
 | .set S n=>h.SetOf (intKind P w) a S n
 | .ins C dx fs=>H dx=some (.own a)/\fs.length <= 1000/\dx ≠ a/\h.get? a=some (W.instObj C dx) /\
   ∃ mA,h.Ns1 dx mA/\(∀ f,RelO (fs.lookup f) (mA f))/\PySem.Within mA (fs.map (·.1))
 | .own _=>∃ o,h.get? a=some o
 | .xd fs=>∃ mA,h.Ns1 a mA/\∀ f,RelO (fs.lookup f) (mA f)
 | .rng lo hi=>∃ t u v,h.get? a=some { cls:=.type "range", data:=.fields #[.int lo t,.int hi u,.int 1 v] }
 | .frz o u=>h.get? a=some o/\ObjOk H h a u
 | .tbl ps=>h.get? a=some { cls:=.none,data:=.fields ps }
 | .met f x=>h.get? a=some (W.methodObj (.ref f) (.ref x))
 | .ext φ=>φ h/\(∃ o,h.get? a=some o)/\∀ h1 h2:Heap,φ h1->(∀ o,h1.get? a=some o->h2.get? a=some o)->φ h2
def HOk (H:Hp) (h:Heap):Prop:=∀ a o,H a=some o->ObjOk P w H h a o
end
section
variable {P:Program} {w:World} {H H':Hp} {h h':Heap} {a:Addr} {o:HO}
theorem ObjOk.lt (x:ObjOk P w H h a o):a < h.objs.size:=by
 cases o with
 | lst xs=>obtain ⟨_,_,_,_,e⟩:=x; exact lt_size e
 | tup xs=>obtain ⟨_,_,_,p⟩:=x; exact p.lt
 | dK kvs=>obtain ⟨_,_,_,_,o,_,_,e,_⟩:=x; exact lt_size e
 | dT kvs=>obtain ⟨_,_,_,_,o,_,_,e,_⟩:=x; exact lt_size e
 | set S n=>obtain ⟨o,_,_,_,e,_⟩:=x; exact lt_size e
 | ins C dx fs=>obtain ⟨_,_,_,e,_⟩:=x; exact lt_size e
 | own y=>obtain ⟨_,e⟩:=x; exact lt_size e
 | xd fs=>obtain ⟨_,⟨_,_,_,e,_⟩,_⟩:=x; exact lt_size e
 | rng lo hi=>obtain ⟨_,_,_,e⟩:=x; exact lt_size e
 | frz ob u=>obtain ⟨e,_⟩:=x; exact lt_size e
 | tbl ps=>exact lt_size (show h.get? a=some _ from x)
 | met f y=>exact lt_size (show h.get? a=some _ from x)
 | ext φ=>obtain ⟨_,⟨_,e⟩,_⟩:=x; exact lt_size e
theorem Paired.mapP {α β:Type} {F G:α->β->Prop}:∀ {l₁:List α} {l₂:List β},Paired F l₁ l₂->(∀ a b,F a b->G a b)->Paired G l₁ l₂
 | _,_,.nil,_=>.nil
 | _,_,.cons r t,f=>.cons (f _ _ r) (Paired.mapP t f)
theorem Paired.imp' {α β:Type} {F G:α->β->Prop} (f:∀ a b,F a b->G a b) {l₁:List α} {l₂:List β} (r:Paired F l₁ l₂):Paired G l₁ l₂:=Paired.mapP r f
theorem ObjOk.stay (x:ObjOk P w H h a o) (k:∀ b u,(b=a\/H b=some (.own a))->h.get? b=some u->h'.get? b=some u)
  (ho:∀ b,H b=some (.own a)->H' b=some (.own a)) (ht:∀ b xs,H b=some (.tup xs)->H' b=some (.tup xs)):ObjOk P w H' h' a o:=by
 induction o with
 | lst xs=>obtain ⟨z,its,n,r,e⟩:=x; exact ⟨z,its,n,r,k _ _ (.inl rfl) e⟩
 | tup xs=>obtain ⟨z,its,r,ob,e,c⟩:=x; exact ⟨z,its,r,ob,k _ _ (.inl rfl) e,c⟩
 | dK kvs=>obtain ⟨z,y,vs,r,ob,es,ep,e,c⟩:=x; exact ⟨z,y,vs,r,ob,es,ep,k _ _ (.inl rfl) e,c⟩
 | dT kvs =>
  obtain ⟨z,y,xs,r,ob,es,ep,e,c⟩:=x;exact ⟨z,y,xs,Paired.mapP r fun p q z=>⟨z.1,ht _ _ z.2.1,z.2.2⟩,ob,es,ep,k _ _ (.inl rfl) e,c⟩
 | set S n=>obtain ⟨ob,es,ep,t,e,c⟩:=x; exact ⟨ob,es,ep,t,k _ _ (.inl rfl) e,c⟩
 | ins C dx fs =>
  obtain ⟨d,z,ne,e,mA,⟨od,es,ep,e2,c⟩,r⟩:=x;exact ⟨ho _ d,z,ne,k _ _ (.inl rfl) e,mA,⟨od,es,ep,k _ _ (.inr d) e2,c⟩,r⟩
 | own y=>obtain ⟨ob,e⟩:=x; exact ⟨ob,k _ _ (.inl rfl) e⟩
 | xd fs=>obtain ⟨mA,⟨od,es,ep,e,c⟩,r⟩:=x; exact ⟨mA,⟨od,es,ep,k _ _ (.inl rfl) e,c⟩,r⟩
 | rng lo hi=>obtain ⟨t,u,v,e⟩:=x; exact ⟨t,u,v,k _ _ (.inl rfl) e⟩
 | frz ob u ih=>obtain ⟨e,q⟩:=x; exact ⟨k _ _ (.inl rfl) e,ih q⟩
 | tbl ps =>
  have e:h.get? a=some { cls:=.none,data:=.fields ps }:=x;show h'.get? a=some { cls:=.none,data:=.fields ps };exact k a _ (.inl rfl) e
 | met f y =>
  have e:h.get? a=some (W.methodObj (.ref f) (.ref y)):=x;show h'.get? a=some (W.methodObj (.ref f) (.ref y));exact k a _ (.inl rfl) e
 | ext φ=>obtain ⟨p,⟨o,e⟩,st⟩:=x; exact ⟨st _ _ p fun o q=>k _ _ (.inl rfl) q,⟨o,k _ _ (.inl rfl) e⟩,st⟩
theorem HOk.lt (x:HOk P w H h) (e:H a=some o):a < h.objs.size:=(x a o e).lt
theorem HOk.fresh (x:HOk P w H h) (e:h.objs.size <= a):H a=none:=by
 cases q:H a with
 | none=>rfl
 | some u=>exact absurd (Nat.lt_of_lt_of_le (x.lt q) e) (Nat.lt_irrefl _)
theorem HOk.kept (x:HOk P w H h) (k:∀ b u,h.get? b=some u->h'.get? b=some u):HOk P w H h':=fun a o e =>
 (x a o e).stay (fun b u _ q=>k b u q) (fun _ q=>q) fun _ _ q=>q
theorem HOk.laid (x:HOk P w H h) (k:∀ b u,h.get? b=some u->h'.get? b=some u) (hp:h.objs.size <= a) (new:ObjOk P w (upd H a o) h' a o):HOk P w (upd H a o) h':=fun b u e=>by
 have hn:=x.fresh hp;by_cases hb:b=a
 ·subst hb; rw [AB] at e; cases e; exact new
 ·rw [AH hb] at e;exact (x b u e).stay (fun c v _ q=>k c v q) (fun c q=>by rw [AH (AJ q hn)]; exact q) fun c xs q=>by rw [AH (AJ q hn)]; exact q
end
def Rd (H:Hp) (a:Addr) (u:HO):Prop:=H a=some u\/∃ o,H a=some (.frz o u)
theorem Rd.ok {P:Program} {w:World} {H:Hp} {h:Heap} {a:Addr} {u:HO} (r:Rd H a u) (x:HOk P w H h):ObjOk P w H h a u:=by
 rcases r with r | ⟨o,r⟩
 ·exact x a u r
 ·obtain ⟨_,q⟩:=x a _ r;exact q
def Mut:Option HO->Prop
 | some (.lst _)=>True
 | some (.dK _)=>True
 | some (.dT _)=>True
 | some (.set _ _)=>True
 | some (.ins _ _ _)=>True
 | some (.ext _)=>True
 | _=>False
section
variable {P:Program} {w:World} {H:Hp} {h h':Heap} {x e:Addr} {o':HO}
theorem HOk.write (ok:HOk P w H h) (mu:Mut (H x)) (he:e=x\/H e=some (.own x)) (k:∀ b u,b ≠ e->h.get? b=some u->h'.get? b=some u) (heo:∃ u,h'.get? e=some u)
  (new:ObjOk P w (upd H x o') h' x o'):HOk P w (upd H x o') h':=fun b u q=>by
 have nown:∀ c y,H c=some (.own y)->c ≠ x:=fun c y r z=>by subst z; rw [r] at mu; exact mu
 have ntup:∀ c xs,H c=some (.tup xs)->c ≠ x:=fun c xs r z=>by subst z; rw [r] at mu; exact mu
 by_cases hb:b=x
 ·subst hb; rw [AB] at q; cases q; exact new
 ·rw [AH hb] at q;by_cases hbe:b=e
  ·have q':H b=some (.own x):=by
    rcases he with z | z
    ·exact absurd (hbe.trans z) hb
    ·rw [hbe]; exact z
   rw [q] at q'; cases q';obtain ⟨v,hv⟩:=heo;exact ⟨v,by rw [hbe]; exact hv⟩
  ·refine (ok b u q).stay (fun c v hc r=>k c v ?_ r) (fun c r=>by rw [AH (nown c b r)]; exact r) fun c xs r=>by rw [AH (ntup c xs r)]; exact r
   rcases hc with rfl | hc
   ·exact hbe
   ·rintro rfl;rcases he with z | z
    ·exact nown c b hc z
    ·rw [hc] at z; cases z; exact hb rfl
end
structure Un (fs ex:List Addr) (H H':Hp) (h h':Heap):Prop where
 keep:∀ b o,h.get? b=some o->H b=none->b ∉ fs->b ∉ ex->h'.get? b=some o
 slot:∀ b o,h.get? b=some o->H b=none->b ∈ fs->b ∉ ex->∃ sl,h'.get? b=some { o with slots:=sl }
 free:∀ b o,h.get? b=some o->H b=none->b ∉ ex->H' b=none
 there:∀ b o,h.get? b=some o->b ∉ ex->∃ o',h'.get? b=some o'
 tups:∀ b xs,H b=some (.tup xs)->H' b=some (.tup xs)
 frzs:∀ b o u,H b=some (.frz o u)->H' b=some (.frz o u)
 tbls:∀ b ps,H b=some (.tbl ps)->∃ more,H' b=some (.tbl (ps++more))
section
variable {fs fs' ex ex':List Addr} {H H1 H2:Hp} {h h1 h2 h':Heap} {a x e:Addr} {o:HO}
theorem Un.any (u:Un fs ex H H1 h h1) {b:Addr} {ob:Obj} (q:h.get? b=some ob) (n:H b=none) (hx:b ∉ ex):∃ sl,h1.get? b=some { ob with slots:=sl }:=by
 by_cases hb:b ∈ fs
 ·exact u.slot b ob q n hb hx
 ·exact ⟨ob.slots,u.keep b ob q n hb hx⟩
theorem Un.kept (k:∀ b u,h.get? b=some u->h'.get? b=some u):Un fs ex H H h h' :=
 ⟨fun b ob q _ _ _=>k b ob q,fun b ob q _ _ _=>⟨ob.slots,k b ob q⟩,fun _ _ _ n _=>n,fun b ob q _=>⟨ob,k b ob q⟩,fun _ _ q=>q,fun _ _ _ q=>q,fun _ ps q=>⟨#[],by rw [q]; simp⟩⟩
theorem Un.refl:Un fs ex H H h h:=Un.kept fun _ _ q=>q
theorem Un.laid (k:∀ b u,h.get? b=some u->h'.get? b=some u) (hp:h.objs.size <= a) (hn:H a=none):Un fs ex H (upd H a o) h h' where
 keep:=fun b u q _ _ _=>k b u q
 slot:=fun b u q _ _ _=>⟨u.slots,k b u q⟩
 free:=fun b u q n _=>by rw [AH (Nat.ne_of_lt (Nat.lt_of_lt_of_le (lt_size q) hp))]; exact n
 there:=fun b u q _=>⟨u,k b u q⟩
 tups:=fun b xs q=>by rw [AH (AJ q hn)]; exact q
 frzs:=fun b u xs q=>by rw [AH (AJ q hn)]; exact q
 tbls:=fun b ps q=>⟨#[],by rw [AH (AJ q hn),q]; simp⟩
theorem Un.write (mu:Mut (H x)) (he:e=x\/H e=some (.own x)) (k:∀ b u,b ≠ e->h.get? b=some u->h'.get? b=some u) (heo:∃ u,h'.get? e=some u):Un fs ex H (upd H x o) h h':=by
 have hx:∀ b,H b=none->b ≠ x:=fun b n z=>by subst z; rw [n] at mu; exact mu
 have hb:∀ b,H b=none->b ≠ e:=fun b n z=>by
  subst z;rcases he with r | r
  ·exact hx b n r
  ·rw [n] at r; cases r
 have hm:∀ b u,H b=some u->¬ Mut (some u)->b ≠ x:=fun b u q nm z=>by subst z; rw [q] at mu; exact nm mu
 refine ⟨fun b u q n _ _=>k b u (hb b n) q,fun b u q n _ _=>⟨u.slots,k b u (hb b n) q⟩,fun b u q n _=>by rw [AH (hx b n)]; exact n,fun b u q _=>?_,
  fun b xs q=>by rw [AH (hm b _ q fun z=>z)]; exact q,fun b u xs q=>by rw [AH (hm b _ q fun z=>z)]; exact q,fun b ps q=>⟨#[],by rw [AH (hm b _ q fun z=>z),q]; simp⟩⟩
 by_cases hbe:b=e
 ·subst hbe; exact heo
 ·exact ⟨u,k b u hbe q⟩
end
noncomputable def trk (h:Heap) (H:Hp):List Addr:=(List.range h.objs.size).filter fun a=>(H a).isSome
noncomputable def Fs (h:Heap) (H:Hp):Heap:=W.hideAll h (trk h H)
theorem MY (h:Heap) (H:Hp):(Fs h H).objs.size=h.objs.size:=W.hideAll_size _ _
theorem No {h:Heap} {H:Hp} {b:Addr} {o:Obj} (e:h.get? b=some o) (n:H b=none):(Fs h H).get? b=some o :=
 W.hideAll_get _ e fun hm=>by
  have q:(H b).isSome=true:=(mem_filter.mp hm).2;rw [n] at q; simp at q
theorem Pu {h:Heap} {H:Hp} {b:Addr} {o:Obj} (e:(Fs h H).get? b=some o):h.get? b=some o/\H b=none:=by
 have e':h.get? b=some o:=W.of_hideAll (trk h H) e;refine ⟨e',?_⟩;cases q:H b with
 | none=>rfl
 | some x =>
  have hm:b ∈ trk h H:=mem_filter.mpr ⟨mem_range.mpr (lt_size e'),by simp [q]⟩;have z:(Fs h H).get? b=none:=W.hideAll_none (trk h H) hm;rw [z] at e; cases e
end L2
namespace L2
open PySem PySem.Spec PyProof.Rows
structure Mod (K:FG) (mg:SV) (base:Heap):Prop where
 kin:K.In base
 glob:base.Ns mainGlobals mg
 blt:∃ mb,base.Ns builtinsNs mb/\∀ x:Str,x ≠ "__name__" -> mb x=bootBuiltins x
 nolimit:base.NoLimit
structure Cx where
 prog:Program
 w:World
 K:FG
 mg:Str->Option Value
 base:Heap
 A:Around
 N:List Str
 s₀:Shared
 H₀:Hp
 env:Env
 outer:List Env
 stack:List Env
 ex:List Addr
 fn:Str->Bool
 calm:Bool
 pn:LO
 xe:Value->Shared->Prop
noncomputable def frs (l:List Env):List Addr:=l.filterMap (·.frame)
noncomputable abbrev Cx.fs (X:Cx):List Addr:=frs X.outer
def Vis (sc:Scope) (x:Str):Prop:=sc.names.lookup x=some .local\/sc.names.lookup x=some .cell\/sc.names.lookup x=some .free
def Loc (sc:Scope) (x:Str):Prop:=sc.names.lookup x=some .local\/sc.names.lookup x=some .cell
def Tp (env:Env) (h:Heap) (m:SV) (x:Str) (u:Value):Prop :=
 (env.kindOf x=some .local/\m x=some u)\/((env.kindOf x=some .cell\/env.kindOf x=some .free)/\∃ c,env.cells.lookup x=some c/\h.IsCell c (some u))
structure Cx.Ok (X:Cx):Prop where
 mod:Mod X.K X.mg X.base
 kind:X.env.scope.kind=.function
 glob:X.env.globals=mainGlobals
 blt:X.env.builtins=builtinsNs
 above:X.s₀.heap.objs.size <= X.env.locals
 inj:∀ x y c,X.env.cells.lookup x=some c->X.env.cells.lookup y=some c->x=y
 has:∀ x,(X.env.kindOf x=some .cell\/X.env.kindOf x=some .free)->∃ c,X.env.cells.lookup x=some c
 cab:∀ x c,X.fn x=true->X.env.cells.lookup x=some c->X.s₀.heap.objs.size <= c
 hd:X.calm=true->X.A.handled=none
 frames:X.A.frames=some X.stack
 stk:X.stack=X.outer\/(X.stack=X.env :: X.outer/\X.env.frame=some X.env.locals)
 exf:∀ b ∈ X.ex,b ≠ X.env.locals/\∀ x c,X.env.cells.lookup x=some c->c ≠ b
 bs:∀ b o,X.base.get? b=some o->X.s₀.heap.get? b=some o/\X.H₀ b=none
 bsz:X.base.objs.size <= X.s₀.heap.objs.size
 noex:∀ b o,X.base.get? b=some o->b ∉ X.ex
 exfs:∀ b ∈ X.ex,b ∉ X.fs
 funs:X.s₀.heap.FunFrames X.base X.outer
 frf:∀ b ∈ X.fs,X.H₀ b=none
structure Inv (X:Cx) (aa:LO) (σ:List (Option V)) (H:Hp) (s:Shared):Prop where
 ok:X.Ok
 os:s.os=X.s₀.os
 bare:AllBare s.gens
 base:Un X.fs X.ex X.H₀ H X.s₀.heap s.heap
 loc:∃ m,s.heap.Ns X.env.locals m/\∀ (i:Nat) (x:Str) (v:V),X.N[i]?=some x->σ[i]?=some (some v)->Vis X.env.scope x->∃ u,RelV v u/\Tp X.env s.heap m x u
 cell:∀ x c,X.env.cells.lookup x=some c->∃ v,s.heap.IsCell c v
 free:H X.env.locals=none
 freeC:∀ x c,X.env.cells.lookup x=some c->H c=none
 pin:∀ p ∈ X.pn++aa,s.heap.get? p.1=some p.2/\H p.1=none/\p.1 ≠ X.env.locals/\p.1 ∉ X.fs/\∀ v,p.2.data ≠ .cell v
 hok:HOk X.prog X.w H s.heap
 len:σ.length=X.N.length
section
variable {X:Cx} {aa:LO} {σ:List (Option V)} {H H':Hp} {s:Shared} {h':Heap}
theorem Cx.Ok.nofr (ok:X.Ok) {b:Addr} {o:Obj} (e:X.base.get? b=some o):b ∉ X.fs:=fun hb=>by
 have:=(ok.funs.mem hb).1;rw [e] at this; cases this
theorem Inv.bs (I:Inv X aa σ H s):∀ b o,X.base.get? b=some o->s.heap.get? b=some o/\H b=none:=fun b o e =>
 ⟨I.base.keep b o (I.ok.bs b o e).1 (I.ok.bs b o e).2 (I.ok.nofr e) (I.ok.noex b o e),I.base.free b o (I.ok.bs b o e).1 (I.ok.bs b o e).2 (I.ok.noex b o e)⟩
theorem Inv.bk (I:Inv X aa σ H s):∀ b o,X.base.get? b=some o->s.heap.get? b=some o:=fun b o e=>(I.bs b o e).1
theorem Inv.mod (I:Inv X aa σ H s):Mod X.K X.mg X.base:=I.ok.mod
theorem Inv.kIn (I:Inv X aa σ H s):X.K.In s.heap:=I.ok.mod.kin.keeps I.bk
theorem Inv.fr (I:Inv X aa σ H s):∃ m,Fr X.base X.env.locals s.heap m :=
 let ⟨m,hn,_⟩:=I.loc
 ⟨m,hn,I.bk,Nat.le_trans I.ok.bsz I.ok.above⟩
theorem Inv.lt (I:Inv X aa σ H s):X.env.locals < s.heap.objs.size:=let ⟨_,hn,_⟩:=I.loc; hn.lt
theorem Inv.sz (I:Inv X aa σ H s):X.s₀.heap.objs.size <= s.heap.objs.size:=Nat.le_trans I.ok.above (Nat.le_of_lt I.lt)
theorem Inv.nofs (I:Inv X aa σ H s) {a:Addr} (h:s.heap.objs.size <= a):a ∉ X.fs:=fun hb=>by
 obtain ⟨_,o,ho,_⟩:=I.ok.funs.mem hb;exact absurd (Nat.lt_of_lt_of_le (lt_size ho) (Nat.le_trans I.sz h)) (Nat.lt_irrefl _)
theorem Inv.cne (I:Inv X aa σ H s):∀ x c,X.env.cells.lookup x=some c->c ≠ X.env.locals:=fun x c e z=>by
 obtain ⟨v,o,ho,hd⟩:=I.cell x c e;obtain ⟨m,⟨o',es,ep,ho',hd',_⟩,_⟩:=I.loc;rw [z,ho'] at ho; cases ho; rw [hd'] at hd; cases hd
theorem Inv.funs (I:Inv X aa σ H s):s.heap.FunFrames X.base X.outer:=by
 have all:∀ (l:List Env),(∀ b ∈ frs l,b ∈ X.fs)->X.s₀.heap.FunFrames X.base l->s.heap.FunFrames X.base l:=by
  intro l;induction l with
  | nil=>intro _ _; trivial
  | cons env r ih =>
   intro hs hl;obtain ⟨hk,⟨L,o,hf,hn,ho,hd⟩,hr⟩:=hl;have hL:L ∈ X.fs:=hs L (by unfold frs; rw [filterMap_cons,hf]; exact mem_cons_self);obtain ⟨sl,e⟩:=I.base.slot L o ho (I.ok.frf L hL) hL fun z=>I.ok.exfs L z hL;exact ⟨hk,⟨L,_,hf,hn,e,hd⟩,ih (fun b hb=>hs b (by unfold frs; rw [filterMap_cons,hf]; exact mem_cons_of_mem _ hb)) hr⟩
 exact all X.outer (fun _ hb=>hb) I.ok.funs
theorem Inv.stack (I:Inv X aa σ H s):s.heap.FunFrames X.base X.stack:=by
 rcases I.ok.stk with e | ⟨e,hf⟩
 ·rw [e]; exact I.funs
 ·rw [e];obtain ⟨m,hn,_⟩:=I.loc;refine .cons (by rw [I.ok.kind]; decide) hf hn ?_ I.funs;exact Heap.get?_none_of_le (Nat.le_trans I.ok.bsz I.ok.above)
theorem Inv.stkSub (I:Inv X aa σ H s):∀ b ∈ frs X.stack,b ∈ X.env.locals :: X.fs:=fun b hb=>by
 rcases I.ok.stk with e | ⟨e,hf⟩
 ·rw [e] at hb; exact mem_cons_of_mem _ hb
 ·rw [e] at hb;unfold frs at hb;rw [filterMap_cons,hf] at hb;exact hb
theorem Inv.stkFree (I:Inv X aa σ H s):∀ b ∈ frs X.stack,H b=none:=fun b hb=>by
 rcases mem_cons.mp (I.stkSub b hb) with e | hb
 ·rw [e]; exact I.free
 ·obtain ⟨_,o,ho,_⟩:=I.ok.funs.mem hb;exact I.base.free b o ho (I.ok.frf b hb) fun z=>I.ok.exfs b z hb
theorem Inv.step {g':Array GenState} {t':Nat} {d':Drawn} {ch:List Addr} (I:Inv X aa σ H s)
  (hch:∀ b ∈ ch,(b ∈ X.ex\/X.s₀.heap.objs.size <= b)/\b ≠ X.env.locals/\(∀ x c,X.env.cells.lookup x=some c->c ≠ b)/\∀ p ∈ X.pn++aa,p.1 ≠ b)
  (keep:∀ b o,b ≠ X.env.locals->b ∉ X.fs->b ∉ ch->s.heap.get? b=some o->H b=none->h'.get? b=some o)
  (slot:∀ b o,b ≠ X.env.locals->b ∈ X.fs->b ∉ ch->s.heap.get? b=some o->H b=none->∃ sl,h'.get? b=some { o with slots:=sl }) (free:∀ b o,b ∉ ch->s.heap.get? b=some o->H b=none->H' b=none)
  (there:∀ b o,b ∉ ch->s.heap.get? b=some o->∃ o',h'.get? b=some o')
  (tups:∀ b xs,H b=some (.tup xs)->H' b=some (.tup xs)) (frzs:∀ b o u,H b=some (.frz o u)->H' b=some (.frz o u)) (tbls:∀ b ps,H b=some (.tbl ps)->∃ more,H' b=some (.tbl (ps++more)))
  (ns:∀ m,s.heap.Ns X.env.locals m->h'.Ns X.env.locals m) (hok:HOk X.prog X.w H' h') (hg:AllBare g') :
  Inv X aa σ H' { s with heap:=h',gens:=g',drawn:=d',toks:=t' }:=by
 have neL:∀ b o,X.s₀.heap.get? b=some o->b ≠ X.env.locals:=fun b o e=>Nat.ne_of_lt (Nat.lt_of_lt_of_le (lt_size e) I.ok.above)
 have neC:∀ b o,X.s₀.heap.get? b=some o->b ∉ X.ex->b ∉ ch:=fun b o e hx hb=>by
  rcases (hch b hb).1 with z | z
  ·exact hx z
  ·exact absurd (Nat.lt_of_lt_of_le (lt_size e) z) (Nat.lt_irrefl _)
 have cellK:∀ x c,X.env.cells.lookup x=some c->∀ v,s.heap.IsCell c v->h'.IsCell c v:=fun x c e v ⟨o,ho,hd⟩=>by
  have nch:c ∉ ch:=fun z=>(hch c z).2.2.1 x c e rfl;by_cases hc:c ∈ X.fs
  ·obtain ⟨sl,q⟩:=slot c o (I.cne x c e) hc nch ho (I.freeC x c e);exact ⟨_,q,hd⟩
  ·exact ⟨o,keep c o (I.cne x c e) hc nch ho (I.freeC x c e),hd⟩
 refine ⟨I.ok,I.os,hg,⟨fun b o e n hb hx=>?_,fun b o e n hb hx=>?_,fun b o e n hx=>?_,fun b o e hx=>?_,fun b xs e=>tups b xs (I.base.tups b xs e),fun b o xs e=>frzs b o xs (I.base.frzs b o xs e),fun b ps e=>?_⟩,?_,fun x c e=>?_,?_,fun x c e=>?_,fun p hp=>?_,hok,I.len⟩
 ·exact keep b o (neL b o e) hb (neC b o e hx) (I.base.keep b o e n hb hx) (I.base.free b o e n hx)
 ·obtain ⟨sl,e1⟩:=I.base.slot b o e n hb hx;obtain ⟨sl',e2⟩:=slot b _ (neL b o e) hb (neC b o e hx) e1 (I.base.free b o e n hx);exact ⟨sl',e2⟩
 ·obtain ⟨o',e1⟩:=I.base.there b o e hx;exact free b o' (neC b o e hx) e1 (I.base.free b o e n hx)
 ·obtain ⟨o',e1⟩:=I.base.there b o e hx;exact there b o' (neC b o e hx) e1
 ·obtain ⟨m1,e1⟩:=I.base.tbls b ps e;obtain ⟨m2,e2⟩:=tbls b _ e1;exact ⟨m1++m2,by rw [e2,Array.append_assoc]⟩
 ·obtain ⟨m,hn,hl⟩:=I.loc;refine ⟨m,ns m hn,fun i x v e1 e2 e3=>?_⟩;obtain ⟨u,r,l⟩:=hl i x v e1 e2 e3;refine ⟨u,r,?_⟩;rcases l with l | ⟨k,c,e,z⟩
  ·exact .inl l
  ·exact .inr ⟨k,c,e,cellK x c e _ z⟩
 ·obtain ⟨v,z⟩:=I.cell x c e;exact ⟨v,cellK x c e v z⟩
 ·obtain ⟨m,⟨o,_,_,ho,_⟩,_⟩:=I.loc;exact free _ o (fun z=>(hch _ z).2.1 rfl) ho I.free
 ·obtain ⟨v,o,ho,hd⟩:=I.cell x c e;exact free c o (fun z=>(hch c z).2.2.1 x c e rfl) ho (I.freeC x c e)
 ·obtain ⟨e,n,ne,nf,d⟩:=I.pin p hp;have nch:p.1 ∉ ch:=fun z=>(hch p.1 z).2.2.2 p hp rfl;exact ⟨keep p.1 p.2 ne nf nch e n,free p.1 p.2 nch e n,ne,nf,d⟩
theorem Inv.un {t':Nat} (I:Inv X aa σ H s) (u:Un X.fs [] H H' s.heap h') (hok:HOk X.prog X.w H' h'):Inv X aa σ H' { s with heap:=h',toks:=t' }:=by
 obtain ⟨m,⟨o,es,ep,ho,r⟩,_⟩:=id I.loc;obtain ⟨sl,hL⟩:=u.any ho I.free (by simp)
 exact I.step (g':=s.gens) (d':=s.drawn) (ch:=[]) (fun _ z=>nomatch z) (fun b o _ hb _ e n=>u.keep b o e n hb (by simp)) (fun b o _ hb _ e n=>u.slot b o e n hb (by simp)) (fun b o _ e n=>u.free b o e n (by simp)) (fun b o _ e=>u.there b o e (by simp)) u.tups u.frzs u.tbls (fun m' hm=>by
  obtain ⟨o',es',ep',ho',r'⟩:=hm;rw [ho] at ho'; cases ho'
  exact ⟨_,es',ep',hL,r'⟩) hok I.bare
theorem Inv.call {g':Array GenState} {t':Nat} {d':Drawn} {ch:List Addr} (I:Inv X aa σ H s) (u:Un (frs X.stack) ch H H' s.heap h') (hok:HOk X.prog X.w H' h') (hg:AllBare g')
  (hch:∀ b ∈ ch,(b ∈ X.ex\/X.s₀.heap.objs.size <= b)/\b ≠ X.env.locals/\(∀ x c,X.env.cells.lookup x=some c->c ≠ b)/\∀ p ∈ X.pn++aa,p.1 ≠ b) :
  Inv X aa σ H' { s with heap:=h',gens:=g',drawn:=d',toks:=t' }:=by
 obtain ⟨m,⟨o,es,ep,ho,r⟩,_⟩:=id I.loc;obtain ⟨sl,hL⟩:=u.any ho I.free fun z=>(hch _ z).2.1 rfl
 exact I.step (ch:=ch) hch (fun b o hL hb hc e n=>u.keep b o e n (fun z=>(mem_cons.mp (I.stkSub b z)).elim hL hb) hc) (fun b o _ _ hc e n=>u.any e n hc) (fun b o hc e n=>u.free b o e n hc) (fun b o hc e=>u.there b o e hc) u.tups u.frzs u.tbls (fun m' hm=>by
  obtain ⟨o',es',ep',ho',r'⟩:=hm;rw [ho] at ho'; cases ho'
  exact ⟨_,es',ep',hL,r'⟩) hok hg
theorem Inv.turned {t':Nat} {it:Addr} (I:Inv X aa σ H s) (k:∀ b o,b ≠ it->s.heap.get? b=some o->h'.get? b=some o) (hn:H it=none) (hL:it ≠ X.env.locals)
  (h1:it ∈ X.ex\/X.s₀.heap.objs.size <= it) (h2:∀ x c,X.env.cells.lookup x=some c->c ≠ it) (h3:∀ p ∈ X.pn++aa,p.1 ≠ it):Inv X aa σ H { s with heap:=h',toks:=t' }:=by
 have nit:∀ b u,H b=some u->b ≠ it:=fun b u e z=>by rw [z,hn] at e; cases e
 refine I.step (g':=s.gens) (d':=s.drawn) (ch:=[it]) (fun b hb=>?_) (fun b o _ _ hc e _=>k b o (fun z=>hc (by simp [z])) e) (fun b o _ _ hc e _=>⟨o.slots,k b o (fun z=>hc (by simp [z])) e⟩) (fun _ _ _ _ n=>n)
  (fun b o hc e=>⟨o,k b o (fun z=>hc (by simp [z])) e⟩) (fun _ _ e=>e) (fun _ _ _ e=>e) (fun b ps e=>⟨#[],by rw [e]; simp⟩) (fun m hm=>?_) (fun b u e=>?_) I.bare
 ·have e:b=it:=by simpa using hb
  subst e;exact ⟨h1,hL,h2,h3⟩
 ·obtain ⟨o,es,ep,ho,r⟩:=hm;exact ⟨o,es,ep,k _ o (Ne.symm hL) ho,r⟩
 ·refine (I.hok b u e).stay (fun c v hc q=>k c v ?_ q) (fun _ q=>q) fun _ _ q=>q;rcases hc with z | z
  ·rw [z]; exact nit b u e
  ·exact nit c _ z
theorem Inv.tok (I:Inv X aa σ H s) (t:Nat):Inv X aa σ H { s with toks:=t }:=I.un (h':=s.heap) (t':=t) Un.refl I.hok
theorem Inv.kept {t':Nat} (I:Inv X aa σ H s) (k:∀ b u,s.heap.get? b=some u->h'.get? b=some u):Inv X aa σ H { s with heap:=h',toks:=t' }:=I.un (Un.kept k) (I.hok.kept k)
theorem Inv.laid {a:Addr} {o:HO} {t':Nat} (I:Inv X aa σ H s) (k:∀ b u,s.heap.get? b=some u->h'.get? b=some u) (hp:s.heap.objs.size <= a) (new:ObjOk X.prog X.w (upd H a o) h' a o) :
  Inv X aa σ (upd H a o) { s with heap:=h',toks:=t' }:=I.un (Un.laid k hp (I.hok.fresh hp)) (I.hok.laid k hp new)
theorem Inv.write {x e:Addr} {o:HO} {t':Nat} (I:Inv X aa σ H s) (mu:Mut (H x)) (he:e=x\/H e=some (.own x)) (k:∀ b u,b ≠ e->s.heap.get? b=some u->h'.get? b=some u) (heo:∃ u,h'.get? e=some u)
  (new:ObjOk X.prog X.w (upd H x o) h' x o):Inv X aa σ (upd H x o) { s with heap:=h',toks:=t' }:=I.un (Un.write mu he k heo) (I.hok.write mu he k heo new)
theorem Inv.weak {σ':List (Option V)} (I:Inv X aa σ H s) (hl:σ'.length=σ.length) (w:∀ (i:Nat) v,σ'[i]?=some (some v)->σ[i]?=some (some v)):Inv X aa σ' H s :=
 ⟨I.ok,I.os,I.bare,I.base,let ⟨m,hn,hl'⟩:=I.loc; ⟨m,hn,fun i x v e1 e2 e3=>hl' i x v e1 (w i v e2) e3⟩,I.cell,I.free,I.freeC,I.pin,I.hok,hl.trans I.len⟩
theorem Inv.pins_of {pins':LO} (I:Inv X aa σ H s) (h:∀ p ∈ pins',s.heap.get? p.1=some p.2/\H p.1=none/\p.1 ≠ X.env.locals/\p.1 ∉ X.fs/\∀ v,p.2.data ≠ .cell v):Inv X pins' σ H s :=
 ⟨I.ok,I.os,I.bare,I.base,I.loc,I.cell,I.free,I.freeC,fun p hp=>(mem_append.mp hp).elim (fun z=>I.pin p (mem_append_left _ z)) (h p),I.hok,I.len⟩
theorem JN {N:List Str} (hN:N.Nodup) {i j:Nat} {x:Str} (a:N[i]?=some x) (b:N[j]?=some x):i=j:=by
 obtain ⟨h1,e1⟩:=List.getElem?_eq_some_iff.mp a;obtain ⟨h2,e2⟩:=List.getElem?_eq_some_iff.mp b;exact (List.getElem_inj hN).mp (e1.trans e2.symm)
theorem HU {M:Model} {A:Around} {E:Ab} {i:Nat} {x:Str} {v:V} {u:Value} {Q:Unit->Shared->Prop} (I:Inv X aa σ H s) (hN:X.N.Nodup) (hi:X.N[i]?=some x) (hx:Loc X.env.scope x) (r:RelV v u)
  (h:∀ s',Inv X aa (σ.set i (some v)) H s'->(∃ a,Heap.SameBut a s.heap s'.heap/\(a=X.env.locals\/X.env.cells.lookup x=some a))->Q () s') (hf:X.fn x=true\/X.env.scope.names.lookup x=some .local:=by first | exact .inl rfl | exact .inr rfl | assumption):wpAny M A (storeName X.env x u) Q E s:=by
 obtain ⟨m,hn,hl⟩:=id I.loc;have bg:(X.env.scope.kind == .class || (X.env.scope.kind == .module && X.env.locals != X.env.globals))=false:=by rw [I.ok.kind]; rfl
 have hiσ:i < σ.length:=by rw [I.len]; exact (List.getElem?_eq_some_iff.mp hi).1
 have cne:=I.cne
 have tracked:∀ {a:Addr} {h':Heap},(∃ o,s.heap.get? a=some o/\H a=none)->Heap.SameBut a s.heap h'->HOk X.prog X.w H h':=fun {a h'} ha hs b ob e=>by
  obtain ⟨_,_,bx⟩:=ha;refine (I.hok b ob e).stay (fun c w' hc q=>(hs.2 c ?_).trans q) (fun _ q=>q) fun _ _ q=>q;rintro rfl;rcases hc with rfl | hc
  ·rw [bx] at e; cases e
  ·rw [bx] at hc; cases hc
 rcases hx with hk | hk
 ·refine wpAny_storeName_local hk hn (fun h' hn' hs=>?_) bg;obtain ⟨oL,_,_,hoL,_⟩:=id hn;refine h _ ⟨I.ok,I.os,I.bare,⟨fun b o e n hb hx=>?_,fun b o e n hb hx=>?_,I.base.free,fun b o e hx=>?_,I.base.tups,I.base.frzs,I.base.tbls⟩,⟨_,hn',fun j y v' e1 e2 e3=>?_⟩,fun y c e=>?_,I.free,I.freeC,fun p hp=>?_,tracked ⟨oL,hoL,I.free⟩ hs,by simpa using I.len⟩ ⟨_,hs,.inl rfl⟩
  ·exact (hs.2 b (Nat.ne_of_lt (Nat.lt_of_lt_of_le (lt_size e) I.ok.above))).trans (I.base.keep b o e n hb hx)
  ·obtain ⟨sl,e1⟩:=I.base.slot b o e n hb hx;exact ⟨sl,(hs.2 b (Nat.ne_of_lt (Nat.lt_of_lt_of_le (lt_size e) I.ok.above))).trans e1⟩
  ·obtain ⟨o',e1⟩:=I.base.there b o e hx;exact ⟨o',(hs.2 b (Nat.ne_of_lt (Nat.lt_of_lt_of_le (lt_size e) I.ok.above))).trans e1⟩
  ·by_cases hj:j=i
   ·subst hj;rw [hi] at e1; cases e1;rw [List.getElem?_set_self hiσ] at e2;cases e2;exact ⟨u,r,.inl ⟨hk,by simp⟩⟩
   ·rw [List.getElem?_set_ne (Ne.symm hj)] at e2;obtain ⟨u',r',q⟩:=hl j y v' e1 e2 e3;refine ⟨u',r',?_⟩;rcases q with ⟨k,e⟩ | ⟨k,c,e,z⟩
    ·refine .inl ⟨k,?_⟩;have:y ≠ x:=fun e=>hj (JN hN e1 (e ▸ hi));simp [this,e]
    ·exact .inr ⟨k,c,e,z.sameBut hs (cne y c e)⟩
  ·obtain ⟨w',z⟩:=I.cell y c e;exact ⟨w',z.sameBut hs (cne y c e)⟩
  ·obtain ⟨e,n,ne,nf,d⟩:=I.pin p hp;exact ⟨(hs.2 p.1 ne).trans e,n,ne,nf,d⟩
 ·have hfn:X.fn x=true:=by
   rcases hf with z | z
   ·exact z
   ·rw [z] at hk; cases hk
  obtain ⟨c,hc⟩:=I.ok.has x (.inl hk);obtain ⟨w',z⟩:=I.cell x c hc;refine wpAny_storeName_cell I.ok.kind hk hc z (fun h' hc' hs=>?_);obtain ⟨oc,hoc,hocd⟩:=id z;refine h { s with heap:=h' } ⟨I.ok,I.os,I.bare,⟨fun b o e n hb hx=>?_,fun b o e n hb hx=>?_,I.base.free,fun b o e hx=>?_,I.base.tups,I.base.frzs,I.base.tbls⟩,⟨m,hn.sameBut hs (Ne.symm (cne x c hc)),fun j y v' e1 e2 e3=>?_⟩,fun y c' e=>?_,I.free,I.freeC,fun p hp=>?_,tracked ⟨oc,hoc,I.freeC x c hc⟩ hs,by simpa using I.len⟩ ⟨c,hs,.inr hc⟩
  ·exact (hs.2 b (Nat.ne_of_lt (Nat.lt_of_lt_of_le (lt_size e) (I.ok.cab x c hfn hc)))).trans (I.base.keep b o e n hb hx)
  ·obtain ⟨sl,e1⟩:=I.base.slot b o e n hb hx;exact ⟨sl,(hs.2 b (Nat.ne_of_lt (Nat.lt_of_lt_of_le (lt_size e) (I.ok.cab x c hfn hc)))).trans e1⟩
  ·obtain ⟨o',e1⟩:=I.base.there b o e hx;exact ⟨o',(hs.2 b (Nat.ne_of_lt (Nat.lt_of_lt_of_le (lt_size e) (I.ok.cab x c hfn hc)))).trans e1⟩
  ·by_cases hj:j=i
   ·subst hj;rw [hi] at e1; cases e1;rw [List.getElem?_set_self hiσ] at e2;cases e2;exact ⟨u,r,.inr ⟨.inl hk,c,hc,hc'⟩⟩
   ·rw [List.getElem?_set_ne (Ne.symm hj)] at e2;obtain ⟨u',r',q⟩:=hl j y v' e1 e2 e3;refine ⟨u',r',?_⟩;rcases q with q | ⟨k,c',e,z'⟩
    ·exact .inl q
    ·refine .inr ⟨k,c',e,z'.sameBut hs ?_⟩;rintro rfl;exact hj (JN hN e1 (I.ok.inj _ _ _ e hc ▸ hi))
  ·by_cases hcc:c'=c
   ·subst hcc; exact ⟨_,hc'⟩
   ·obtain ⟨w2,z2⟩:=I.cell y c' e;exact ⟨w2,z2.sameBut hs hcc⟩
  ·obtain ⟨e,n,ne,nf,d⟩:=I.pin p hp;refine ⟨(hs.2 p.1 ?_).trans e,n,ne,nf,d⟩;intro q;rw [q,hoc] at e;have q':oc=p.2:=Option.some.inj e;exact d w' (by rw [← q']; exact hocd)
theorem CW {M:Model} {A:Around} {E:Ab} {i:Nat} {x:Str} {v:V} {u:Value} {Q:Unit->Shared->Prop} (I:Inv X aa σ H s) (hN:X.N.Nodup) (hi:X.N[i]?=some x) (hx:Loc X.env.scope x) (r:RelV v u)
  (h:∀ s',Inv X aa (σ.set i (some v)) H s'->Q () s') (hf:X.fn x=true\/X.env.scope.names.lookup x=some .local:=by first | exact .inl rfl | exact .inr rfl | assumption):wpAny M A (storeName X.env x u) Q E s :=
 HU I hN hi hx r (fun s' I' _=>h s' I') hf
theorem Inv.call' {s':Shared} {ch:List Addr} (I:Inv X aa σ H s) (ho:s'.os=s.os) (u:Un (frs X.stack) ch H H' s.heap s'.heap) (hok:HOk X.prog X.w H' s'.heap) (hg:AllBare s'.gens)
  (hch:∀ b ∈ ch,(b ∈ X.ex\/X.s₀.heap.objs.size <= b)/\b ≠ X.env.locals/\(∀ x c,X.env.cells.lookup x=some c->c ≠ b)/\∀ p ∈ X.pn++aa,p.1 ≠ b):Inv X aa σ H' s':=by
 obtain ⟨h',g',d',t',o'⟩:=s';have e:o'=s.os:=ho;subst e;exact I.call (g':=g') (t':=t') (d':=d') u hok hg hch
end
abbrev XK:=Value->Option Addr->Hp->Prop
abbrev St:=List (Option V)
abbrev VK:=V->Hp->Prop
abbrev TE:=St->Hp->VK->Prop
abbrev TT:=St->Hp->(Bool->Hp->Prop)->Prop
abbrev TA:=St->Hp->(List V->Hp->Prop)->Prop
structure C4 where
 nx:St->Hp->Prop
 rt:VK
 bk:St->Hp->Prop:=fun _ _=>False
 ct:St->Hp->Prop:=fun _ _=>False
abbrev TS:=C4->St->Hp->Prop
def EP (X:Cx) (aa:LO) (σ:St) (Q:VK) (u:Value) (s':Shared):Prop:=∃ v H',Inv X aa σ H' s'/\RelV v u/\Q v H'
def TP (X:Cx) (aa:LO) (σ:St) (Q:Bool->Hp->Prop) (b:Bool) (s':Shared):Prop:=∃ H',Inv X aa σ H' s'/\Q b H'
def AP (X:Cx) (aa:LO) (σ:St) (Q:List V->Hp->Prop) (us:List Value) (s':Shared):Prop:=∃ vs H',Inv X aa σ H' s'/\Vals vs us/\Q vs H'
def SP (X:Cx) (aa:LO) (D:C4) (f:Flow) (s':Shared):Prop :=
 match f with
 | .next=>∃ σ' H',Inv X aa σ' H' s'/\D.nx σ' H'
 | .brk=>∃ σ' H',Inv X aa σ' H' s'/\D.bk σ' H'
 | .cont=>∃ σ' H',Inv X aa σ' H' s'/\D.ct σ' H'
 | .ret u=>∃ v σ' H',Inv X aa σ' H' s'/\RelV v u/\D.rt v H'
def PE (X:Cx) (e:Expr) (t:TE):Prop :=
 ∀ (aa:LO) (s:Shared) (σ:St) (H:Hp) (Q:VK),Inv X aa σ H s->t σ H Q->wpAny (model X.prog X.w) X.A (eval e X.env) (EP X aa σ Q) X.xe s
def PT (X:Cx) (e:Expr) (t:TT):Prop :=
 ∀ (aa:LO) (s:Shared) (σ:St) (H:Hp) (Q:Bool->Hp->Prop),Inv X aa σ H s->t σ H Q->wpAny (model X.prog X.w) X.A (isTrue e X.env (eval e X.env)) (TP X aa σ Q) X.xe s
def PW (X:Cx) (e:Expr) (t:TT):Prop :=
 ∀ (whole:Sem Value) (aa:LO) (s:Shared) (σ:St) (H:Hp) (Q:Bool->Hp->Prop),Inv X aa σ H s->t σ H Q->wpAny (model X.prog X.w) X.A (isTrue e X.env whole) (TP X aa σ Q) X.xe s
theorem PW.pt {X:Cx} {e:Expr} {t:TT} (h:PW X e t):PT X e t:=h _
def PA (X:Cx) (es:List Expr) (t:TA):Prop :=
 ∀ (pos:Pos) (aa:LO) (s:Shared) (σ:St) (H:Hp) (Q:List V->Hp->Prop),Inv X aa σ H s->t σ H Q->wpAny (model X.prog X.w) X.A (spliced (backTo pos (starEach es X.env))) (AP X aa σ Q) X.xe s
def PS (X:Cx) (st:Stmt) (t:TS):Prop :=
 ∀ (aa:LO) (s:Shared) (σ:St) (H:Hp) (D:C4),Inv X aa σ H s->t D σ H->wpAny (model X.prog X.w) X.A (exec st X.env) (SP X aa D) X.xe s
def PSs (X:Cx) (st:List Stmt) (t:TS):Prop :=
 ∀ (aa:LO) (s:Shared) (σ:St) (H:Hp) (D:C4),Inv X aa σ H s->t D σ H->wpAny (model X.prog X.w) X.A (execs st X.env) (SP X aa D) X.xe s
theorem thn {α:Type} {t:Sem α} {Q Q':α->Shared->Prop} {M:Model} {A:Around} {E:Ab} {s:Shared} (h:wpAny M A t Q E s) (hQ:∀ a s,Q a s->Q' a s):wpAny M A t Q' E s:=wpAny_mono h hQ fun _ _ x=>x
end L2
variable {X:L2.Cx} {H:L2.Hp} {H':L2.Hp} {s:PySem.Shared} {pos:PySem.Pos} {σ:L2.St} {P:PySem.Program} {w:PySem.World} {A:PySem.Around} {aa:LO} {x:PySem.Str} {a:PySem.Addr} {K:FG} {C:PySem.Addr} {E:Ab} {h:PySem.Heap} {us:List PySem.Value} {f:PySem.Addr} {u:PySem.Value} {xs:List L2.V} {e:PySem.Expr} {te:L2.TE} {base:PySem.Heap} {N:List PySem.Str} {mg:SV}
namespace L2
open PySem PySem.Spec PyProof.Rows
section
def Ft (i:Nat):TE:=fun σ H Q=>∃ v,σ[i]?=some (some v)/\Q v H
def tC (v:V):TE:=fun _ H Q=>Q v H
theorem Np {i:Nat} (hN:X.N[i]?=some x) (hv:Vis X.env.scope x) (hd:(x == ("__debug__" : Str))=false:=by decide) (hcd:(x == ("__classdict__" : Str))=false:=by decide):PE X (.Name x pos) (Ft i):=by
 intro aa s σ H Q I h;obtain ⟨v,e,h⟩:=h;obtain ⟨m,hn,hl⟩:=I.loc;obtain ⟨u,r,l⟩:=hl i x v hN e hv;have fin:EP X aa σ Q u s:=⟨v,H,I,r,h⟩;rcases l with ⟨hk,hm⟩ | ⟨hk,c,hc,bf⟩
 ·exact wpAny_Name (wpAny_loadName_local I.ok.kind hk hn hm fin) hd
 ·rcases hk with hk | hk
  ·exact wpAny_Name (wpAny_loadName_cell I.ok.kind hk hc bf fin) hd
  ·exact wpAny_Name (wpAny_loadName_free I.ok.kind hk hc bf fin hcd) hd
theorem AG {i j pos}:PE X (.Constant (.int i) j pos) (tC (.int i)):=fun _ _ _ H _ I h=>wpAny_Constant_int ⟨.int i,H,I.tok _,⟨_,rfl⟩,h⟩
theorem Nq {b j pos}:PE X (.Constant (.bool b) j pos) (tC (.bl b)):=fun _ _ _ H _ I h=>Constant_bool ⟨.bl b,H,I,rfl,h⟩
theorem Ri {j pos}:PE X (.Constant .none j pos) (tC .non):=fun _ _ _ H _ I h=>Constant_none ⟨.non,H,I,rfl,h⟩
theorem Af {x j pos}:PE X (.Constant (.str x) j pos) (tC (.str x)):=fun _ _ _ H _ I h=>Calls.Constant_str ⟨.str x,H,I.tok _,⟨_,rfl⟩,h⟩
def Gl (X:Cx) (x:Str):Prop:=X.env.kindOf x=some .globalImplicit
theorem Bn {Q:Ab} (I:Inv X aa σ H s) (hg:Gl X x) (hm:X.mg x=some u) (h:Q u s)
  (hd:(x == ("__debug__" : Str))=false:=by decide):wpAny (model X.prog X.w) X.A (eval (.Name x pos) X.env) Q E s :=
 Calls.Name_function_global I.ok.kind hg (Calls.loadGlobal_global (by rw [I.ok.glob]; exact I.mod.glob.keeps I.bk) hm h) hd
theorem Ch {Q:Ab} (I:Inv X aa σ H s) (hg:Gl X x) (hm:X.mg x=none) (hv:bootBuiltins x=some u) (h:Q u s)
  (hn:x ≠ "__name__" := by decide) (hd:(x == ("__debug__" : Str))=false:=by decide):wpAny (model X.prog X.w) X.A (eval (.Name x pos) X.env) Q E s:=by
 obtain ⟨mb,h1,h2⟩:=I.mod.blt;exact Calls.Name_function_global I.ok.kind hg (Calls.loadGlobal_builtin (by rw [I.ok.glob]; exact I.mod.glob.keeps I.bk) hm (by rw [I.ok.blt]; exact h1.keeps I.bk) ((h2 x hn).trans hv) h) hd
theorem BI {v:V} (hg:Gl X x) (hm:X.mg x=some u) (r:RelV v u) (hd:(x == ("__debug__" : Str))=false:=by decide):PE X (.Name x pos) (tC v) :=
 fun _ _ _ H _ I h=>Bn I hg hm ⟨v,H,I,r,h⟩ hd
theorem LL {v:V} (hg:Gl X x) (hm:X.mg x=none) (hv:bootBuiltins x=some u) (r:RelV v u) (hn:x ≠ "__name__" := by decide) (hd:(x == ("__debug__" : Str))=false:=by decide):PE X (.Name x pos) (tC v) :=
 fun _ _ _ H _ I h=>Ch I hg hm hv ⟨v,H,I,r,h⟩ hn hd
variable {a b:Expr} {ta tb:TE}
def PC (X:Cx) (op:CmpOp) (a b:Expr) (t:TE):Prop :=
 ∀ (aa:LO) (s:Shared) (σ:St) (H:Hp) (Q:VK),Inv X aa σ H s->t σ H Q ->
  wpAny (model X.prog X.w) X.A (eval a X.env) (fun v s₁=>wpAny (model X.prog X.w) X.A (eval b X.env) (fun u s₂=>wpAny (model X.prog X.w) X.A (compareOp op v u) (EP X aa σ Q) X.xe s₂) X.xe s₁) X.xe s
theorem JO (b:Expr) {op:CmpOp} (h:op ≠ .In) (h2:op ≠ .NotIn):behindInMarks op b=false:=by
 have e1:(op == CmpOp.In)=false:=by cases op <;> first | rfl | exact absurd rfl h
 have e2:(op == CmpOp.NotIn)=false:=by cases op <;> first | rfl | exact absurd rfl h2
 cases b <;> simp [behindInMarks,e1,e2]
def Tq (ta:TE):TE:=fun σ H Q=>ta σ H fun x H1=>Q (.bl (decide (x=.non))) H1
theorem RelV.none_iff {x:V} {v:Value} (r:RelV x v):(v == Value.none)=decide (x=.non):=by
 cases x with
 | non=>cases r; rfl
 | bl _=>cases r; rfl
 | int _=>obtain ⟨t,rfl⟩:=r; rfl
 | str _=>obtain ⟨t,rfl⟩:=r; rfl
 | byt _=>obtain ⟨t,rfl⟩:=r; rfl
 | flt _=>obtain ⟨t,rfl⟩:=r; rfl
 | ref _=>cases r; rfl
 | ty _=>cases r; rfl
theorem KM {j pos'} (ha:PE X a ta):PC X .Is a (.Constant .none j pos') (Tq ta):=by
 intro aa s σ H Q I h;refine thn (ha aa s σ H _ I h) fun v s1 ⟨x,H1,I1,r1,q1⟩=>?_;exact Constant_none (is_none_gen ⟨.bl _,H1,I1,by rw [r1.none_iff]; rfl,q1⟩)
def tB (t:TE):TT:=fun σ H Q=>t σ H fun x H1=>∃ c,x=.bl c/\Q c H1
theorem Rj {op:CmpOp} {t:TE} (h:PC X op a b t) (h1:behindInMarks op b=false:=by first | exact JO _ (by decide) (by decide) | rfl):PE X (.Compare a [op] [b] pos) t:=fun aa s σ H Q I hw=>wpAny_Compare1 (h aa s σ H Q I hw) h1
theorem Fu {op:CmpOp} {t:TE} (h:PC X op a b t) (h1:behindInMarks op b=false:=by first | exact JO _ (by decide) (by decide) | rfl):PT X (.Compare a [op] [b] pos) (tB t):=by
 intro aa s σ H Q I hw;refine wpAny_isTrue_Compare1 (thn (h aa s σ H _ I hw) fun v s1 h1=>thn h1 fun u s2 h2=>thn h2 fun c s3 ⟨x,H1,I1,r1,q1⟩=>?_) h1;obtain ⟨d,rfl,q⟩:=q1;cases r1;exact wpAny_truthy_bool ⟨H1,I1,q⟩
theorem A9 {t:TE} (h:PE X e t) (he:∀ whole,isTrue e X.env whole=(do let v ← whole; standAt e.pos; holding [v] (truthy v)):=by intro _; rfl):PT X e (tB t):=by
 intro aa s σ H Q I hw;refine isTrue_plain (thn (h aa s σ H _ I hw) fun v s1 ⟨x,H1,I1,r1,q1⟩=>?_) (he _);obtain ⟨d,rfl,q⟩:=q1;cases r1;exact wpAny_truthy_bool ⟨H1,I1,q⟩
variable {tA tB':TT} {rest:List Expr}
def Sr (t u:TT):TT:=fun σ H Q=>t σ H fun c H1=>if c=true then u σ H1 Q else Q false H1
def tOr (t u:TT):TT:=fun σ H Q=>t σ H fun c H1=>if c=true then Q true H1 else u σ H1 Q
def Tr (t:TT):TT:=fun σ H Q=>t σ H fun c H1=>Q (!c) H1
theorem CA (ha:PT X a tA):PW X (.BoolOp .And [a] pos) tA:=by
 intro wh aa s σ H Q I h;refine isTrue_and (thn (ha aa s σ H Q I h) fun c s1 e=>?_);cases c with
 | true=>exact isTrue_and_nil e
 | false=>exact e
theorem Bs (ha:PT X a tA):PW X (.BoolOp .Or [a] pos) tA:=by
 intro wh aa s σ H Q I h;refine isTrue_or (thn (ha aa s σ H Q I h) fun c s1 e=>?_);cases c with
 | false=>exact isTrue_or_nil e
 | true=>exact e
theorem C6 (ha:PT X a tA) (hb:PW X (.BoolOp .And (b :: rest) pos) tB'):PW X (.BoolOp .And (a :: b :: rest) pos) (Sr tA tB'):=by
 intro wh aa s σ H Q I h;refine isTrue_and (thn (ha aa s σ H _ I h) fun c s1 ⟨H1,I1,q1⟩=>?_);cases c with
 | true=>exact hb wh aa s1 σ H1 Q I1 q1
 | false=>exact ⟨H1,I1,q1⟩
theorem CY (ha:PT X a tA) (hb:PW X (.BoolOp .Or (b :: rest) pos) tB'):PW X (.BoolOp .Or (a :: b :: rest) pos) (tOr tA tB'):=by
 intro wh aa s σ H Q I h;refine isTrue_or (thn (ha aa s σ H _ I h) fun c s1 ⟨H1,I1,q1⟩=>?_);cases c with
 | true=>exact ⟨H1,I1,q1⟩
 | false=>exact hb wh aa s1 σ H1 Q I1 q1
theorem A3 (ha:PT X a tA):PT X (.UnaryOp .Not a pos) (Tr tA):=by
 intro aa s σ H Q I h;exact isTrue_not (ha aa s σ H (fun c H1=>Q (!c) H1) I h)
def Ss (ta tb:TE):TE:=fun σ H Q=>ta σ H fun x H1=>∃ c,x=.bl c/\if c=true then tb σ H1 Q else Q (.bl false) H1
def Su (ta:TE):TE:=fun σ H Q=>ta σ H fun x H1=>∃ c,x=.bl c/\Q (.bl (!c)) H1
theorem B6 {op} {t:TE} (h:PE X a t):PE X (.BoolOp op [a] pos) t:=fun aa s σ H Q I hw=>BoolOp_one (h aa s σ H Q I hw)
theorem Bg (ha:PE X a ta) (hb:PE X (.BoolOp .And (b :: rest) pos) tb):PE X (.BoolOp .And (a :: b :: rest) pos) (Ss ta tb):=by
 intro aa s σ H Q I h;refine BoolOp_and (thn (ha aa s σ H _ I h) fun v s1 ⟨x,H1,I1,r1,q1⟩=>?_);obtain ⟨c,rfl,q1⟩:=q1;cases r1;refine wpAny_truthy_bool ?_;cases c with
 | true=>exact hb aa s1 σ H1 Q I1 q1
 | false=>exact ⟨.bl false,H1,I1,rfl,q1⟩
theorem Nr (ha:PE X a ta):PE X (.UnaryOp .Not a pos) (Su ta):=by
 intro aa s σ H Q I h;refine UnaryOp_ (thn (ha aa s σ H _ I h) fun v s1 ⟨x,H1,I1,r1,q1⟩=>?_);obtain ⟨c,rfl,q1⟩:=q1;cases r1;exact not_of (wpAny_truthy_bool ⟨.bl (!c),H1,I1,rfl,q1⟩)
def tIf (t:TT) (ta tb:TE):TE:=fun σ H Q=>t σ H fun c H1=>if c=true then ta σ H1 Q else tb σ H1 Q
theorem C7 {c:Expr} (hc:PT X c tA) (ha:PE X a ta) (hb:PE X b tb):PE X (.IfExp c a b pos) (tIf tA ta tb):=by
 intro aa s σ H Q I h;refine wpAny_IfExp (thn (hc aa s σ H _ I h) fun d s1 ⟨H1,I1,q1⟩=>?_);cases d with
 | true=>exact ha aa s1 σ H1 Q I1 q1
 | false=>exact hb aa s1 σ H1 Q I1 q1
end
end L2
namespace L2
open PySem PySem.Spec PyProof.Rows
def SqL (K:FG) (H:Hp) (a:Addr) (xs:List V):Prop :=
 Rd H a (.lst xs) \/
  ∃ (o:Obj) (its:Array Value) (n:Nat),K.lookup a=some o/\o.cls=.type "list" /\ o.dict=none/\o.data=.seq its n/\its.size <= sizeLine/\Vals xs its.toList
def SqT (K:FG) (H:Hp) (a:Addr) (xs:List V):Prop :=
 Rd H a (.tup xs) \/
  ∃ (o:Obj) (its:Array Value) (n:Nat),K.lookup a=some o/\o.cls=.type "tuple" /\ o.data=.seq its n/\its.size <= sizeLine/\Vals xs its.toList
noncomputable def Ts:Value->Option V
 | .none=>some .non
 | .bool b=>some (.bl b)
 | .int i _=>some (.int i)
 | .str x _=>some (.str x)
 | .bytes b _=>some (.byt b)
 | .float b _=>some (.flt b)
 | .ref a=>some (.ref a)
 | .type n=>some (.ty n)
 | _=>none
theorem RelV.abs {x:V} (r:RelV x u):Ts u=some x:=by
 cases x with
 | non=>cases r; rfl
 | bl _=>cases r; rfl
 | int _=>obtain ⟨t,rfl⟩:=r; rfl
 | str _=>obtain ⟨t,rfl⟩:=r; rfl
 | byt _=>obtain ⟨t,rfl⟩:=r; rfl
 | flt _=>obtain ⟨t,rfl⟩:=r; rfl
 | ref _=>cases r; rfl
 | ty _=>cases r; rfl
theorem RelV.inj {x y:V} {u:Value} (r:RelV x u) (q:RelV y u):x=y:=Option.some.inj (r.abs.symm.trans q.abs)
theorem Vals.inj:∀ {xs ys:List V} {us:List Value},Vals xs us->Vals ys us->xs=ys
 | _,_,_,.nil,.nil=>rfl
 | _,_,_,.cons r t,.cons r' t'=>by rw [r.inj r',Vals.inj t t']
section
variable {ys:List V}
theorem SqL.of (h:H a=some (.lst xs)):SqL K H a xs:=.inl (.inl h)
theorem SqT.of (h:H a=some (.tup xs)):SqT K H a xs:=.inl (.inl h)
theorem Inv.list (I:Inv X aa σ H s) (h:SqL X.K H a xs):∃ its:List Value,Vals xs its/\PlainL s.heap a its.toArray/\xs.length <= sizeLine:=by
 rcases h with h | ⟨o,its,n,hk,hc,hd,hs,hz,r⟩
 ·obtain ⟨z,its,n,r,e⟩:=h.ok I.hok;exact ⟨its,r,⟨_,n,e,rfl,rfl,rfl⟩,z⟩
 ·refine ⟨its.toList,r,⟨o,n,I.kIn a o hk,hc,hd,by simpa using hs⟩,?_⟩;have e:=r.length;simp only [Array.length_toList] at e;omega
theorem Inv.tuple (I:Inv X aa σ H s) (h:SqT X.K H a xs):∃ its:List Value,Vals xs its/\IsTup s.heap a its.toArray/\xs.length <= sizeLine:=by
 rcases h with h | ⟨o,its,n,hk,hc,hs,hz,r⟩
 ·obtain ⟨z,its,r,p⟩:=h.ok I.hok;exact ⟨its,r,p,z⟩
 ·refine ⟨its.toList,r,⟨o,I.kIn a o hk,hc,n,by simpa using hs⟩,?_⟩;have e:=r.length;simp only [Array.length_toList] at e;omega
theorem Inv.list_inj (I:Inv X aa σ H s) (h:SqL X.K H a xs) (h':SqL X.K H a ys):xs=ys:=by
 obtain ⟨its,r,⟨o,n,e,_,_,d⟩,_⟩:=I.list h;obtain ⟨its',r',⟨o',n',e',_,_,d'⟩,_⟩:=I.list h';rw [e] at e'; cases e';rw [d] at d';injection d' with d1 _
 have:its=its':=by simpa using congrArg Array.toList d1
 subst this;exact r.inj r'
theorem Inv.tuple_inj (I:Inv X aa σ H s) (h:SqT X.K H a xs) (h':SqT X.K H a ys):xs=ys:=by
 obtain ⟨its,r,⟨o,e,_,n,d⟩,_⟩:=I.tuple h;obtain ⟨its',r',⟨o',e',_,n',d'⟩,_⟩:=I.tuple h';rw [e] at e'; cases e';rw [d] at d';injection d' with d1 _
 have:its=its':=by simpa using congrArg Array.toList d1
 subst this;exact r.inj r'
end
noncomputable abbrev Cx.wish (X:Cx) (E:Ab):Cx:={ X with xe:=E }
noncomputable abbrev Cx.nox (X:Cx):Cx:=X.wish fun _ _=>False
theorem Cx.Ok.wish {X:Cx} (ok:X.Ok) (E:Ab):(X.wish E).Ok :=
 ⟨ok.mod,ok.kind,ok.glob,ok.blt,ok.above,ok.inj,ok.has,ok.cab,ok.hd,ok.frames,ok.stk,ok.exf,ok.bs,ok.bsz,ok.noex,ok.exfs,ok.funs,ok.frf⟩
theorem Cx.Ok.unwish (ok:(X.wish E).Ok):X.Ok :=
 ⟨ok.mod,ok.kind,ok.glob,ok.blt,ok.above,ok.inj,ok.has,ok.cab,ok.hd,ok.frames,ok.stk,ok.exf,ok.bs,ok.bsz,ok.noex,ok.exfs,ok.funs,ok.frf⟩
section
theorem Inv.wish (I:Inv X aa σ H s) (E:Ab):Inv (X.wish E) aa σ H s:=⟨I.ok.wish E,I.os,I.bare,I.base,I.loc,I.cell,I.free,I.freeC,I.pin,I.hok,I.len⟩
theorem Inv.unwish (I:Inv (X.wish E) aa σ H s):Inv X aa σ H s:=⟨I.ok.unwish,I.os,I.bare,I.base,I.loc,I.cell,I.free,I.freeC,I.pin,I.hok,I.len⟩
theorem SP.unwish {D:C4} {f:Flow} {s':Shared} (h:SP (X.wish E) aa D f s'):SP X aa D f s':=by
 cases f with
 | next=>obtain ⟨σ',H',I,q⟩:=h; exact ⟨σ',H',I.unwish,q⟩
 | brk=>obtain ⟨σ',H',I,q⟩:=h; exact ⟨σ',H',I.unwish,q⟩
 | cont=>obtain ⟨σ',H',I,q⟩:=h; exact ⟨σ',H',I.unwish,q⟩
 | ret u=>obtain ⟨v,σ',H',I,r,q⟩:=h; exact ⟨v,σ',H',I.unwish,r,q⟩
theorem PSs.nox {st:List Stmt} {t:TS} (h:PSs X.nox st t):PSs X st t:=fun aa s σ H D I hw =>
 wpAny_mono (h aa s σ H D (I.wish _) hw) (fun _ _ q=>q.unwish) fun _ _ z=>False.elim z
end
section
variable {st:Stmt} {rest:List Stmt} {t u:TS}
def Sv:TS:=fun D σ H=>D.nx σ H
def Tt (t u:TS):TS:=fun D σ H=>t { D with nx:=u D } σ H
theorem AY:PSs X [] Sv:=fun _ _ σ H _ I h=>wpAny_execs_nil ⟨σ,H,I,h⟩
theorem AE (h1:PS X st t) (h2:PSs X rest u):PSs X (st :: rest) (Tt t u):=by
 intro aa s σ H D I h;refine wpAny_execs_cons (thn (h1 aa s σ H { D with nx:=u D } I h) fun f s1 q=>?_);cases f with
 | next =>
  obtain ⟨σ',H',I',q⟩:=q;exact h2 aa s1 σ' H' D I' q
 | ret v=>exact q
 | brk=>exact q
 | cont=>exact q
theorem AF (h1:PS X st t):PSs X [st] t:=by
 intro aa s σ H D I h;refine wpAny_execs_cons (thn (h1 aa s σ H D I h) fun f s1 q=>?_);cases f with
 | next=>exact wpAny_execs_nil q
 | ret v=>exact q
 | brk=>exact q
 | cont=>exact q
theorem Inv.quiet (I:Inv X aa σ H s):interactive X.env=false:=by simp [interactive,I.ok.kind]
def Sw (te:TE):TS:=fun D σ H=>te σ H fun _ H1=>D.nx σ H1
theorem Bx (he:PE X e te) (hs:swapsWith e none pos.line X.env=pure false:=by rfl):PS X (.Expr e pos) (Sw te):=by
 intro aa s σ H D I h;exact wpAny_Expr_any (thn (he aa s σ H _ I h) fun v s1 ⟨x,H1,I1,r1,q1⟩=>⟨σ,H1,I1,q1⟩) I.quiet hs
def Nt (te:TE):TS:=fun D σ H=>te σ H D.rt
theorem AR (he:PE X e te):PS X (.Return (some e) pos) (Nt te):=by
 intro aa s σ H D I h;exact wpAny_Return_some (thn (he aa s σ H _ I h) fun v s1 ⟨x,H1,I1,r1,q1⟩=>⟨x,σ,H1,I1,r1,q1⟩)
def Tu (c:TT) (t u:TS):TS:=fun D σ H=>c σ H fun b H1=>if b=true then t D σ H1 else u D σ H1
theorem Av {c:Expr} {a b:List Stmt} {tc:TT} (hc:PT X c tc) (ha:PSs X a t) (hb:PSs X b u):PS X (.If c a b pos) (Tu tc t u):=by
 intro aa s σ H D I h;refine wpAny_If (thn (hc aa s σ H _ I h) fun d s1 ⟨H1,I1,q1⟩=>?_);cases d with
 | true=>exact ha aa s1 σ H1 D I1 q1
 | false=>exact hb aa s1 σ H1 D I1 q1
def Rk:TS:=fun _ _ _=>False
theorem Am:PS X st Rk:=fun _ _ _ _ _ _ h=>h.elim
end
abbrev TG:=V->St->Hp->(St->Hp->Prop)->Prop
abbrev TGs:=List V->St->Hp->(St->Hp->Prop)->Prop
def PG (X:Cx) (target:Expr) (t:TG):Prop :=
 ∀ (aa:LO) (s:Shared) (σ:St) (H:Hp) (v:V) (u:Value) (Q:St->Hp->Prop),Inv X aa σ H s->RelV v u->t v σ H Q ->
  wpAny (model X.prog X.w) X.A (assign target X.env u) (fun _ s'=>∃ σ' H',Inv X aa σ' H' s'/\Q σ' H') X.xe s
def PGs (X:Cx) (ts:List Expr) (t:TGs):Prop :=
 ∀ (aa:LO) (s:Shared) (σ:St) (H:Hp) (vs:List V) (us:List Value) (Q:St->Hp->Prop),Inv X aa σ H s->Vals vs us->t vs σ H Q ->
  wpAny (model X.prog X.w) X.A (assignInOrder ((assignEach ts X.env).map (·.2)) us) (fun _ s'=>∃ σ' H',Inv X aa σ' H' s'/\Q σ' H') X.xe s
abbrev Rm:=V->V->V->Hp->(Hp->Prop)->Prop
def Sx (X:Cx) (t:Rm):Prop :=
 ∀ (aa:LO) (s:Shared) (σ:St) (H:Hp) (o i v:V) (ov iv u:Value) (Q:Hp->Prop),Inv X aa σ H s->RelV o ov->RelV i iv->RelV v u->t o i v H Q ->
  wpAny (model X.prog X.w) X.A (setItem ov iv u) (fun _ s'=>∃ H',Inv X aa σ H' s'/\Q H') X.xe s
abbrev TIp:=V->V->Hp->VK->Prop
def PIp (X:Cx) (op:Operator) (t:TIp):Prop :=
 ∀ (aa:LO) (s:Shared) (σ:St) (H:Hp) (x y:V) (v u:Value) (Q:VK),Inv X aa σ H s->RelV x v->RelV y u->t x y H Q ->
  wpAny (model X.prog X.w) X.A (inplaceOp op v u) (EP X aa σ Q) X.xe s
section
def Bv (i:Nat):TG:=fun v σ H Q=>Q (σ.set i (some v)) H
theorem AN {i:Nat} (hN:X.N.Nodup) (hi:X.N[i]?=some x) (hx:Loc X.env.scope x) (hf:X.fn x=true\/X.env.scope.names.lookup x=some .local:=by first | exact .inl rfl | exact .inr rfl | assumption):PG X (.Name x pos) (Bv i):=by
 intro aa s σ H v u Q I r h;exact wpAny_assign_Name (CW I hN hi hx r (fun s' I'=>⟨_,H,I',h⟩) hf)
def Nu:TGs:=fun vs σ H Q=>vs=[]/\Q σ H
def Dm (t:TG) (u:TGs):TGs:=fun vs σ H Q=>∃ v r,vs=v :: r/\t v σ H fun σ' H'=>u r σ' H' Q
theorem Aw:PGs X [] Nu:=by
 intro aa s σ H vs us Q I r h;obtain ⟨e,h⟩:=h;subst e;cases r;exact assignInOrder_nil ⟨σ,H,I,h⟩
theorem AM {es:List Expr} {t:TG} {u:TGs} (h1:PG X e t) (h2:PGs X es u)
  (hs:(assignEach (e :: es) X.env).map (·.2)=assign e X.env :: (assignEach es X.env).map (·.2):=by rfl):PGs X (e :: es) (Dm t u):=by
 intro aa s σ H vs us Q I r h;obtain ⟨v,vr,e1,h⟩:=h;subst e1;cases r with
 | cons r rr =>
  rw [hs];refine assignInOrder_cons (thn (h1 aa s σ H _ _ _ I r h) fun _ s1 ⟨σ1,H1,I1,q1⟩=>?_);exact h2 aa s1 σ1 H1 _ _ Q I1 rr q1
def Nv (K:FG) (n:Nat) (t:TGs):TG:=fun v σ H Q=>∃ a xs,v=.ref a/\SqT K H a xs/\xs.length=n/\t xs σ H Q
theorem BA {es:List Expr} {k:Nat} {t:TGs} {n:Nat} (hc:X.calm=true) (h:PGs X es t)
  (hn:(assignEach es X.env).length=n:=by rfl) (hst:(assignEach es X.env).findIdx? (·.1)=none:=by rfl):PG X (.Tuple es k pos) (Nv X.K n t):=by
 intro aa s σ H v u Q I r hw;obtain ⟨a,xs,e1,hq,hl,hw⟩:=hw;subst e1;cases r;obtain ⟨its,rv,ht,hz⟩:=I.tuple hq;refine assign_Tuple_tuple (I.ok.hd hc) ht (by simp [hn,← hl,rv.length]) hst fun h' hx=>?_;have I1:Inv X aa σ H { s with heap:=h' }:=I.kept (t':=s.toks) fun b o e=>hx b o (Nat.ne_of_lt (lt_size e)) e;exact h aa _ σ H xs _ Q I1 (by simpa using rv) hw
def Tv (to ti:TE) (t:Rm):TG:=fun v σ H Q=>to σ H fun o H1=>ti σ H1 fun i H2=>t o i v H2 fun H3=>Q σ H3
theorem Fv {o i:Expr} {to ti:TE} {t:Rm} (ho:PE X o to) (hi:PE X i ti) (hs:Sx X t)
  (ha:∀ v,assign (.Subscript o i pos) X.env v=(do
   let ov ← holding [v] (eval o X.env)
   let iv ← holding [v,ov] (eval i X.env)
   standAt pos
   holding [v,ov,iv] (setItem ov iv v)
   release [v,ov,iv] []):=by intro _; rfl):PG X (.Subscript o i pos) (Tv to ti t):=by
 intro aa s σ H v u Q I r h;rw [ha];refine wpAny_bind (wpAny_holding (thn (ho aa s σ H _ I h) fun ov s1 ⟨x,H1,I1,r1,q1⟩=>?_));refine wpAny_bind (wpAny_holding (thn (hi aa s1 σ H1 _ I1 q1) fun iv s2 ⟨y,H2,I2,r2,q2⟩=>?_));refine wpAny_bind (wpAny_standAt (wpAny_bind (wpAny_holding (thn (hs aa s2 σ H2 x y v ov iv u _ I2 r1 r2 r q2) fun _ s3 ⟨H3,I3,q3⟩=>?_))));exact wpAny_release ⟨σ,H3,I3,q3⟩
def Sy (te:TE) (g:TG):TS:=fun D σ H=>te σ H fun x H1=>g x σ H1 D.nx
theorem Bb {tg:Expr} {g:TG} (he:PE X e te) (hg:PG X tg g) (hs:swapsWithSole [tg] e pos.line X.env=pure false:=by rfl) (hw:swappedStores [tg] e X.env=pure none:=by rfl)
  (h1:(assignEach [tg] X.env).map (·.2)=[assign tg X.env]:=by rfl):PS X (.Assign [tg] e pos) (Sy te g):=by
 intro aa s σ H D I h;refine wpAny_Assign_stores (thn (he aa s σ H _ I h) fun v s1 ⟨x,H1,I1,r1,q1⟩=>?_) hs hw;rw [h1];exact thn (hg aa s1 σ H1 x v _ I1 r1 q1) fun _ s2 q=>q
theorem Ag {i:Nat} {pos':Pos} (hN:X.N.Nodup) (hi:X.N[i]?=some x) (hx:Loc X.env.scope x) (he:PE X e te) (hs:swapsWith e (some (.Name x pos')) pos.line X.env=pure false:=by rfl) (hf:X.fn x=true\/X.env.scope.names.lookup x=some .local:=by first | exact .inl rfl | exact .inr rfl | assumption) :
  PS X (.Assign [.Name x pos'] e pos) (Sy te (Bv i)):=by
 intro aa s σ H D I h;refine wpAny_Assign_Name (thn (he aa s σ H _ I h) fun v s1 ⟨y,H1,I1,r1,q1⟩=>?_) hs;exact CW I1 hN hi hx r1 (fun s2 I2=>⟨_,H1,I2,q1⟩) hf
def Tw (i j:Nat) (ta:TA):TS:=fun D σ H=>ta σ H fun vs H1=>∃ v w,vs=[v,w]/\D.nx ((σ.set i (some v)).set j (some w)) H1
theorem IM {i j:Nat} {y:Str} {a b:Expr} {ta:TA} {px py pt:Pos} {kt k2 pt2} (hc:X.calm=true) (hN:X.N.Nodup) (hi:X.N[i]?=some x) (hj:X.N[j]?=some y) (hij:i ≠ j)
  (hx:X.env.scope.names.lookup x=some .local) (hy:X.env.scope.names.lookup y=some .local) (ha:PA X [a,b] ta)
  (hw:swappedStores [.Tuple [.Name x px,.Name y py] kt pt] (.Tuple [a,b] k2 pt2) X.env=pure (some [x,y]))
  (hs:swapsWithSole [.Tuple [.Name x px,.Name y py] kt pt] (.Tuple [a,b] k2 pt2) pos.line X.env=pure false:=by rfl) :
  PS X (.Assign [.Tuple [.Name x px,.Name y py] kt pt] (.Tuple [a,b] k2 pt2) pos) (Tw i j ta):=by
 intro aa s σ H D I h;rw [exec_Assign_arm];refine wpAny_bind (wpAny_standAt ?_);rw [hs];refine wpAny_bind (wpAny_pure ?_);rw [if_neg (by decide)];refine wpAny_bind (Tuple_ (thn (ha _ aa s σ H _ I h) fun us s1 ⟨vs,H1,I1,r1,q1⟩=>?_));obtain ⟨v,w,e1,q1⟩:=q1;subst e1
 obtain ⟨u1,u2,rfl,rv,rw'⟩:∃ u1 u2,us=[u1,u2]/\RelV v u1/\RelV w u2:=by
  cases r1 with
  | cons p q =>
   cases q with
   | cons p' q' =>
    cases q';exact ⟨_,_,rfl,p,p'⟩
 refine wpAny_newObj_type ?_ sl2;have I2:Inv X aa σ H1 { s1 with heap:=s1.heap.push { cls:=.type "tuple", data:=.seq [u1,u2].toArray } }:=I1.kept (t':=s1.toks) fun b o e=>get?_push_of_some _ e;rw [hw];refine wpAny_bind (wpAny_pure ?_);show wpAny (model X.prog X.w) X.A (do rule "assign.swapped-stores"; let items ← unpackItems (.ref s1.heap.objs.size) 2 none; assignInOrder [fun v=>bindName X.env y v,fun v=>bindName X.env x v] items.reverse; pure Flow.next) _ _ _;refine wpAny_bind (wpAny_rule (wpAny_bind (unpackItems_tuple (items:=#[u1,u2]) (I.ok.hd hc) (IsTup.new s1.heap _) fun h' hx'=>?_)));have I3:=I2.kept (h':=h') (t':=s1.toks) fun b o e=>hx' b o (Nat.ne_of_lt (lt_size e)) e;show wpAny _ _ (assignInOrder [fun v=>bindName X.env y v,fun v=>bindName X.env x v] [u2,u1] >>= fun _=>pure Flow.next) _ _ _;refine wpAny_bind (assignInOrder_cons (wpAny_bindName (CW I3 hN hj (.inl hy) rw' (fun s2 I4=>?_) (.inr hy))));refine assignInOrder_cons (wpAny_bindName (CW I4 hN hi (.inl hx) rv (fun s3 I5=>assignInOrder_nil (wpAny_pure ?_)) (.inr hx)));rw [List.set_comm _ _ (Ne.symm hij)] at I5;exact ⟨_,H1,I5,q1⟩
def Tx (i:Nat) (te:TE) (ti:TIp):TS:=fun D σ H=>∃ x,σ[i]?=some (some x)/\te σ H fun y H1=>ti x y H1 fun z H2=>D.nx (σ.set i (some z)) H2
theorem IN {i:Nat} {op:Operator} {ti:TIp} {pos':Pos} (hN:X.N.Nodup) (hi:X.N[i]?=some x) (hx:Loc X.env.scope x) (he:PE X e te) (ho:PIp X op ti) (hf:X.fn x=true\/X.env.scope.names.lookup x=some .local:=by first | exact .inl rfl | exact .inr rfl | assumption) :
  PS X (.AugAssign (.Name x pos') op e pos) (Tx i te ti):=by
 intro aa s σ H D I h;obtain ⟨v,e1,h⟩:=h;obtain ⟨m,hn,hl⟩:=I.loc;have vis:Vis X.env.scope x:=by rcases hx with k | k; exact .inl k; exact .inr (.inl k)
 obtain ⟨u,r,l⟩:=hl i x v hi e1 vis;refine wpAny_AugAssign_Name ?_
 have go:wpAny (model X.prog X.w) X.A (eval e X.env) (fun w s₂=>wpAny (model X.prog X.w) X.A (inplaceOp op u w) (fun r s₃=>wpAny (model X.prog X.w) X.A (storeName X.env x r) (fun _=>SP X aa D .next) X.xe s₃) X.xe s₂) X.xe s:=by
  refine thn (he aa s σ H _ I h) fun w s1 ⟨y,H1,I1,r1,q1⟩=>?_;refine thn (ho aa s1 σ H1 v y u w _ I1 r r1 q1) fun z s2 ⟨zv,H2,I2,r2,q2⟩=>?_;exact CW I2 hN hi hx r2 (fun s3 I3=>⟨_,H2,I3,q2⟩) hf
 rcases l with ⟨hk,hm⟩ | ⟨hk,c,hc,bf⟩
 ·exact wpAny_loadName_local I.ok.kind hk hn hm go
 ·rcases hk with hk | hk
  ·exact wpAny_loadName_cell I.ok.kind hk hc bf go
  ·rcases hx with k | k
   ·have:X.env.scope.names.lookup x=some .free:=hk;rw [k] at this; cases this
   ·have:X.env.scope.names.lookup x=some .free:=hk;rw [k] at this; cases this
end
section
def Nw (c:TT) (tb:TS):TS:=fun D σ H=>∃ W:Nat->St->Hp->Prop,(∃ m,W m σ H)/\∀ m σ H,W m σ H ->
 c σ H fun b H1=>if b=true then ∃ N:St->Hp->Prop,(∀ σ' H',N σ' H'->∃ m',m' < m/\W m' σ' H')/\tb { D with nx:=N,ct:=N,bk:=D.nx } σ H1 else D.nx σ H1
theorem Nx {c:Expr} {body:List Stmt} {tc:TT} {tb:TS} (hp:PassesOwn (model X.prog X.w) X.A X.env X.xe) (hc:PT X c tc) (hb:PSs X body tb):PS X (.While c body [] pos) (Nw tc tb):=by
 intro aa s σ H D I h;obtain ⟨W,⟨m0,w0⟩,turn⟩:=h;refine wpAny_While (codeAny_whileLoop (fun n s'=>∃ σ' H',Inv X aa σ' H' s'/\W n σ' H') ?_ m0 ⟨σ,H,I,w0⟩);rintro n s1 ⟨σ1,H1,I1,w1⟩;refine wpAny_passesOwn hp (thn (hc aa s1 σ1 H1 _ I1 (turn n σ1 H1 w1)) fun b s2 ⟨H2,I2,q2⟩=>?_);cases b with
 | true =>
  obtain ⟨N,hN,q2⟩:=q2;rw [if_pos rfl];refine wpAny_passesOwn hp (thn (hb aa s2 σ1 H2 _ I2 q2) fun f s3 q3=>?_);cases f with
  | next =>
   obtain ⟨σ3,H3,I3,n3⟩:=q3;obtain ⟨m',hm,w3⟩:=hN σ3 H3 n3;exact ⟨m',hm,σ3,H3,I3,w3⟩
  | cont =>
   obtain ⟨σ3,H3,I3,n3⟩:=q3;obtain ⟨m',hm,w3⟩:=hN σ3 H3 n3;exact ⟨m',hm,σ3,H3,I3,w3⟩
  | brk=>exact q3
  | ret v=>exact q3
 | false =>
  rw [if_neg Bool.false_ne_true];exact wpAny_execs_nil ⟨σ1,H2,I2,q2⟩
end
structure It where
 go:Nat->Hp->Prop
 yld:Nat->Hp->V->Hp->Prop
 stop:Nat->Hp->Prop
def EN (X:Cx) (aa:LO) (H:Hp) (b:Addr):Prop :=
 H b=none/\b ≠ X.env.locals/\b ∉ X.fs/\(b ∈ X.ex\/X.s₀.heap.objs.size <= b)/\(∀ x c,X.env.cells.lookup x=some c->c ≠ b)/\∀ p ∈ X.pn++aa,p.1 ≠ b
theorem Inv.fpOk {b:Addr} (I:Inv X aa σ H s) (hb:s.heap.objs.size <= b) (hn:H' b=none):EN X aa H' b:=by
 refine ⟨hn,Nat.ne_of_gt (Nat.lt_of_lt_of_le I.lt hb),I.nofs hb,.inr (Nat.le_trans I.sz hb),fun x c e z=>?_,fun p hp z=>?_⟩
 ·obtain ⟨v,q⟩:=I.cell x c e;exact absurd (Nat.lt_of_lt_of_le q.lt (by rw [z]; exact hb)) (Nat.lt_irrefl _)
 ·exact absurd (Nat.lt_of_lt_of_le (lt_size (I.pin p hp).1) (by rw [z]; exact hb)) (Nat.lt_irrefl _)
structure IP (P:Program) (w:World) (K:FG) (tg:Expr) (J:It) (fp:List Addr) (it:Addr) (tn:Nat->Heap->Prop):Prop where
 mem:it ∈ fp
 obj:∀ i h,tn i h->∀ b ∈ fp,∃ o,h.get? b=some o/\∀ v,o.data ≠ .cell v
 keep:∀ i h h',tn i h->(∀ b ∈ fp,∀ o,h.get? b=some o->h'.get? b=some o)->tn i h'
 item:∀ (X:Cx),X.prog=P->X.w=w->X.K=K->X.calm=true->∀ (i:Nat) (aa:LO) (s:Shared) (σ:St) (H:Hp) (E:Ab),Inv X aa σ H s->(∀ b ∈ fp,EN X aa H b)->tn i s.heap->J.go i H ->
  wpAny (model P w) X.A (pyNext (.ref it)) (fun r s1=>∃ u,r=some u /\
   wpAny (model P w) X.A (letOwnedTupleGo tg (.ref it) u) (fun _ s2=>∃ x H',Inv X aa σ H' s2/\RelV x u/\J.yld i H x H'/\tn (i + 1) s2.heap/\∀ b ∈ fp,H' b=none) E s1) E s
 done:∀ (X:Cx),X.prog=P->X.w=w->X.K=K->X.calm=true->∀ (i:Nat) (aa:LO) (s:Shared) (σ:St) (H:Hp) (E:Ab),Inv X aa σ H s->(∀ b ∈ fp,EN X aa H b)->tn i s.heap->J.stop i H ->
  wpAny (model P w) X.A (pyNext (.ref it)) (fun r s1=>r=none/\Inv X aa σ H s1) E s
 self:∀ (A:Around) (i:Nat) (s:Shared) (Q:Ab) (E:Ab),tn i s.heap->Q (.ref it) s->wpAny (model P w) A (pyIter (.ref it)) Q E s
abbrev TI:=St->Hp->(It->Hp->Prop)->Prop
def PIE (X:Cx) (aa:LO) (σ:St) (tg:Expr) (R:It->Hp->Prop) (itv:Value) (s2:Shared):Prop :=
 ∃ (it:Addr) (fp:List Addr) (tn:Nat->Heap->Prop) (J:It) (H':Hp),itv=.ref it/\Inv X aa σ H' s2/\IP X.prog X.w X.K tg J fp it tn/\tn 0 s2.heap/\(∀ b ∈ fp,EN X aa H' b)/\R J H'
def PI (X:Cx) (tg iter:Expr) (wi:TI):Prop :=
 ∀ (aa:LO) (s:Shared) (σ:St) (H:Hp) (R:It->Hp->Prop),Inv X aa σ H s->wi σ H R ->
  wpAny (model X.prog X.w) X.A (eval iter X.env) (fun v s1=>wpAny (model X.prog X.w) X.A (pyIter v) (PIE X aa σ tg R) X.xe s1) X.xe s
theorem LM {M:Model} {tg:Expr} {it:Addr} {o:Obj} {n:String} {vs:Array Value} {Q:Unit->Shared->Prop} (ho:s.heap.get? it=some o) (hc:o.cls=.type n) (hd:o.data=.fields vs)
    (hn:["enumerate", "zip", "dict_itemiterator", "dict_reverseitemiterator", "odict_iterator", "itertools.zip_longest", "itertools.pairwise"].contains n=false) (hQ:Q () s):wpAny M A (letOwnedTupleGo tg (.ref it) u) Q E s:=by
  unfold letOwnedTupleGo
  cases tg <;> first
    | exact wpAny_pure hQ
    | (cases u <;> first
        | exact wpAny_pure hQ
        | (refine wpAny_bind (wpAny_load ho ?_)
           rw [hc,hd];show wpAny M A (if (["enumerate", "zip", "dict_itemiterator", "dict_reverseitemiterator", "odict_iterator", "itertools.zip_longest", "itertools.pairwise"].contains n && vs[0]? == some (rawInt _))=true then _ else _) Q E s;rw [if_neg (by intro h; rw [hn,Bool.false_and] at h; cases h)]
           exact wpAny_pure hQ))
noncomputable def Itl (K:FG) (a:Addr):It :=
 ⟨fun i H=>∃ xs x,SqL K H a xs/\xs[i]?=some x,fun i H x H'=>H'=H/\∀ xs,SqL K H a xs->xs[i]?=some x,fun i H=>∃ xs,SqL K H a xs/\xs.length <= i⟩
noncomputable def Itt (K:FG) (a:Addr):It :=
 ⟨fun i H=>∃ xs x,SqT K H a xs/\xs[i]?=some x,fun i H x H'=>H'=H/\∀ xs,SqT K H a xs->xs[i]?=some x,fun i H=>∃ xs,SqT K H a xs/\xs.length <= i⟩
noncomputable def Itr (lo:Int) (n:Nat):It:=⟨fun i _=>i < n,fun i H x H'=>H'=H/\x=.int (lo + i),fun i _=>n <= i⟩
theorem HV {tg:Expr} (a it:Addr):IP P w K tg (Itl K a) [it] it (fun i h=>h.IsListIter it a i) where
 mem:=by simp
 obj:=fun i h st b hb=>by
  have e:b=it:=by simpa using hb
  subst e;obtain ⟨o,e,c,d⟩:=st;exact ⟨o,e,fun v z=>by rw [d] at z; cases z⟩
 keep:=fun i h h' st k=>st.at fun o e=>k it (by simp) o e
 item:=by
  intro X hP hw hK hc i aa s σ H E I hf st hg;subst hP hw hK;obtain ⟨xs,x,hq,hx⟩:=hg;obtain ⟨its,rv,p,hz⟩:=I.list hq;obtain ⟨u,hu,ru⟩:=rv.get hx;obtain ⟨f0,f1,f2,f3,f4,f5⟩:=hf it (by simp);refine wpAny_pyNext_list_item st p.isList (x:=u) (by simpa using hu) fun h' st' sb=>?_;have I1:Inv X aa σ H { s with heap:=h' }:=I.turned (t':=s.toks) (fun b o hb e=>(sb.2 b hb).trans e) f0 f1 f3 f4 f5;obtain ⟨o,e,c,d⟩:=id st';exact ⟨u,rfl,LM (s:={ s with heap:=h' }) e c d (by decide) ⟨x,H,I1,ru,⟨rfl,fun ys hy=>by rw [I.list_inj hy hq]; exact hx⟩,st',fun b hb=>(hf b hb).1⟩⟩
 done:=by
  intro X hP hw hK hc i aa s σ H E I hf st hg;subst hP hw hK;obtain ⟨xs,hq,hx⟩:=hg;obtain ⟨its,rv,p,hz⟩:=I.list hq;obtain ⟨f0,f1,f2,f3,f4,f5⟩:=hf it (by simp);have hl:=rv.length;exact wpAny_pyNext_list_end (I.ok.hd hc) st p.isList (by simp; omega) fun h' eb=>⟨rfl,I.turned (t':=s.toks) (fun b o hb e=>eb b o hb e) f0 f1 f3 f4 f5⟩
 self:=fun _ _ _ _ _ st h=>wpAny_pyIter_listiter st h
theorem KN {tg:Expr} (a it:Addr):IP P w K tg (Itt K a) [it] it (fun i h=>h.IsTupleIter it a i) where
 mem:=by simp
 obj:=fun i h st b hb=>by
  have e:b=it:=by simpa using hb
  subst e;obtain ⟨o,e,c,d⟩:=st;exact ⟨o,e,fun v z=>by rw [d] at z; cases z⟩
 keep:=fun i h h' st k=>st.at fun o e=>k it (by simp) o e
 item:=by
  intro X hP hw hK hc i aa s σ H E I hf st hg;subst hP hw hK;obtain ⟨xs,x,hq,hx⟩:=hg;obtain ⟨its,rv,p,hz⟩:=I.tuple hq;obtain ⟨u,hu,ru⟩:=rv.get hx;obtain ⟨f0,f1,f2,f3,f4,f5⟩:=hf it (by simp);refine wpAny_pyNext_tuple_item st (show s.heap.IsTuple a its.toArray from p) (x:=u) (by simpa using hu) fun h' st' sb=>?_;have I1:Inv X aa σ H { s with heap:=h' }:=I.turned (t':=s.toks) (fun b o hb e=>(sb.2 b hb).trans e) f0 f1 f3 f4 f5;obtain ⟨o,e,c,d⟩:=id st';exact ⟨u,rfl,LM (s:={ s with heap:=h' }) e c d (by decide) ⟨x,H,I1,ru,⟨rfl,fun ys hy=>by rw [I.tuple_inj hy hq]; exact hx⟩,st',fun b hb=>(hf b hb).1⟩⟩
 done:=by
  intro X hP hw hK hc i aa s σ H E I hf st hg;subst hP hw hK;obtain ⟨xs,hq,hx⟩:=hg;obtain ⟨its,rv,p,hz⟩:=I.tuple hq;obtain ⟨f0,f1,f2,f3,f4,f5⟩:=hf it (by simp);have hl:=rv.length;exact wpAny_pyNext_tuple_end (I.ok.hd hc) st (show s.heap.IsTuple a its.toArray from p) (by simp; omega) fun h' eb=>⟨rfl,I.turned (t':=s.toks) (fun b o hb e=>eb b o hb e) f0 f1 f3 f4 f5⟩
 self:=fun _ _ _ _ _ st h=>wpAny_pyIter_tupleiter st h
theorem KP {tg:Expr} (it:Addr) (lo:Int) (n:Nat):IP P w K tg (Itr lo n) [it] it (fun i h=>IsRangeIter h it (lo + (i:Nat) * 1) ((n:Int) - (i:Nat)) 1) where
 mem:=by simp
 obj:=fun i h st b hb=>by
  have e:b=it:=by simpa using hb
  subst e
  exact ⟨_,st,fun v z=>by
   have z':Data.fields _=Data.cell v:=z
   cases z'⟩
 keep:=fun i h h' st k=>k it (by simp) _ st
 item:=by
  intro X hP hw hK hc i aa s σ H E I hf st hg;subst hP hw hK;obtain ⟨f0,f1,f2,f3,f4,f5⟩:=hf it (by simp);have W:=Walks.range (prog:=X.prog) (w:=X.w) (I.ok.hd hc) it lo 1 n;refine W.item i s _ _ hg st fun v h' tk hv st' kk=>?_;obtain ⟨t,rfl⟩:=hv;have I1:Inv X aa σ H { s with heap:=h',toks:=tk }:=I.turned (fun b o hb e=>kk b o (by simpa using hb) e) f0 f1 f3 f4 f5;refine ⟨_,rfl,LM (s:={ s with heap:=h',toks:=tk }) (n := "range_iterator") st' rfl rfl (by decide) ⟨.int (lo + i),H,I1,⟨t,?_⟩,⟨rfl,rfl⟩,st',fun b hb=>(hf b hb).1⟩⟩;rw [Int.mul_one]
 done:=by
  intro X hP hw hK hc i aa s σ H E I hf st hg;subst hP hw hK;obtain ⟨f0,f1,f2,f3,f4,f5⟩:=hf it (by simp);exact wpAny_pyNext_range_end (I.ok.hd hc) st (by have:n <= i:=hg; omega) fun h' eb=>⟨rfl,I.turned (t':=s.toks) (fun b o hb e=>eb b o hb e) f0 f1 f3 f4 f5⟩
 self:=fun _ _ _ _ _ st h=>wpAny_pyIter_rangeiter st h
end L2
namespace L2
open PySem PySem.Spec PyProof.Rows
section
variable {tg:Expr}
def RN (K:FG) (tl:TE):TI:=fun σ H R=>tl σ H fun x H1=>∃ a,x=.ref a/\(∃ xs,SqL K H1 a xs)/\R (Itl K a) H1
def Ty (K:FG) (tl:TE):TI:=fun σ H R=>tl σ H fun x H1=>∃ a,x=.ref a/\(∃ xs,SqT K H1 a xs)/\R (Itt K a) H1
theorem BJ {l:Expr} {tl:TE} (hl:PE X l tl):PI X tg l (RN X.K tl):=by
 intro aa s σ H R I h;refine thn (hl aa s σ H _ I h) fun v s1 ⟨x,H1,I1,r1,q1⟩=>?_;obtain ⟨a,e,⟨xs,hq⟩,q⟩:=q1;subst e;cases r1;obtain ⟨its,rv,p,hz⟩:=I1.list hq;refine wpAny_pyIter_list p.isList ?_;refine ⟨s1.heap.objs.size,[s1.heap.objs.size],_,_,H1,rfl,I1.kept (t':=s1.toks) fun b o e=>get?_push_of_some _ e,HV a _,⟨_,get?_push_size _ rfl,rfl,rfl⟩,fun b hb=>?_,q⟩;have e:b=s1.heap.objs.size:=by simpa using hb
 subst e;exact I1.fpOk (Nat.le_refl _) (I1.hok.fresh (Nat.le_refl _))
theorem Ny {l:Expr} {tl:TE} (hl:PE X l tl):PI X tg l (Ty X.K tl):=by
 intro aa s σ H R I h;refine thn (hl aa s σ H _ I h) fun v s1 ⟨x,H1,I1,r1,q1⟩=>?_;obtain ⟨a,e,⟨xs,hq⟩,q⟩:=q1;subst e;cases r1;obtain ⟨its,rv,p,hz⟩:=I1.tuple hq;refine wpAny_pyIter_tuple (show s1.heap.IsTuple a its.toArray from p) ?_;refine ⟨s1.heap.objs.size,[s1.heap.objs.size],_,_,H1,rfl,I1.kept (t':=s1.toks) fun b o e=>get?_push_of_some _ e,KN a _,⟨_,get?_push_size _ rfl,rfl,rfl⟩,fun b hb=>?_,q⟩;have e:b=s1.heap.objs.size:=by simpa using hb
 subst e;exact I1.fpOk (Nat.le_refl _) (I1.hok.fresh (Nat.le_refl _))
theorem Nz {R:It->Hp->Prop} {lo hi:Int} {t u v:Tok} {tk:Nat} (I:Inv X aa σ H s) (h1:-(2 ^ 62) <= lo) (h2:lo < 2 ^ 62) (h3:-(2 ^ 62) <= hi) (h4:hi < 2 ^ 62)
  (q:R (Itr lo (hi - lo).toNat) H):wpAny (model X.prog X.w) X.A (pyIter (.ref s.heap.objs.size)) (PIE X aa σ tg R) E { s with heap:=s.heap.push { cls:=.type "range", data:=.fields #[.int lo t,.int hi u,.int 1 v] },toks:=tk }:=by
 refine wpAny_pyIter_range (IsRange.new ..) (small_one h1 h2 h3 h4) ?_;have I1:Inv X aa σ H { s with heap:=s.heap.push { cls:=.type "range", data:=.fields #[.int lo t,.int hi u,.int 1 v] },toks:=tk }:=I.kept fun b o e=>get?_push_of_some _ e
 refine ⟨(s.heap.push { cls:=.type "range", data:=.fields #[.int lo t,.int hi u,.int 1 v] }).objs.size,[(s.heap.push { cls:=.type "range", data:=.fields #[.int lo t,.int hi u,.int 1 v] }).objs.size],_,_,H,rfl,
  I1.kept (t':=tk) fun b o e=>get?_push_of_some _ e,KP _ lo (hi - lo).toNat,?_,fun b hb=>?_,q⟩
 ·have e1:lo + ((0:Nat):Int) * 1=lo:=by simp
  have e2:(((hi - lo).toNat:Nat):Int) - ((0:Nat):Int)=Builtin.Range.rangeSize lo hi 1:=by rw [rangeSize_one]; split <;> omega
  show IsRangeIter _ _ (lo + ((0:Nat):Int) * 1) ((((hi - lo).toNat:Nat):Int) - ((0:Nat):Int)) 1;rw [e1,e2];exact get?_push_size _ rfl
 ·have e:b=(s.heap.push { cls:=.type "range", data:=.fields #[.int lo t,.int hi u,.int 1 v] }).objs.size:=by simpa using hb
  subst e;exact I1.fpOk (Nat.le_refl _) (I1.hok.fresh (Nat.le_refl _))
def Sz (ta:TA):TI:=fun σ H R=>ta σ H fun vs H1=>∃ j:Int,vs=[.int j]/\-(2 ^ 62) <= j/\j < 2 ^ 62/\R (Itr 0 j.toNat) H1
theorem B0 {a:Expr} {ta:TA} {p:Pos} (hg:Gl X "range") (hm:X.mg "range" = none) (ha:PA X [a] ta) (hs:starEach [a] X.env=[(false,eval a X.env)]:=by rfl):PI X tg (.Call (.Name "range" p) [a] [] pos) (Sz ta):=by
 intro aa s σ H R I h;refine Call_ (Ch I hg hm boot_range (PyProof.Rows.callWith_type1 (thn (ha pos aa s σ H _ I h) fun us s1 ⟨vs,H1,I1,r1,q1⟩=>?_) hs rfl));obtain ⟨j,e,q1,q2,q⟩:=q1;subst e;cases r1 with
 | cons r rr =>
  cases rr;obtain ⟨t,rfl⟩:=r;exact call_range_1 (Nz I1 (by omega) (by omega) q1 q2 (by simpa using q))
def Tz (wi:TI) (g:TG) (tb:TS):TS:=fun D σ H=>wi σ H fun J H1=>∃ W:Nat->Nat->St->Hp->Prop,(∃ m,W 0 m σ H1)/\∀ i m σ H,W i m σ H ->
 (J.stop i H/\D.nx σ H)\/(J.go i H/\∃ N:St->Hp->Prop,(∀ σ' H',N σ' H'->∃ m',m' < m/\W (i + 1) m' σ' H')/\∀ x H',J.yld i H x H'->g x σ H' fun σ2 H2=>tb { D with nx:=N,ct:=N,bk:=D.nx } σ2 H2)
noncomputable def Ds (fp:List Addr) (h:Heap):LO:=fp.filterMap fun b=>(h.get? b).map fun o=>(b,o)
theorem Ci {fp:List Addr} {b:Addr} {o:Obj} (hb:b ∈ fp) (e:h.get? b=some o):(b,o) ∈ Ds fp h:=List.mem_filterMap.mpr ⟨b,hb,by rw [e]; rfl⟩
theorem HW {fp:List Addr} {p:Addr × Obj} (hp:p ∈ Ds fp h):p.1 ∈ fp/\h.get? p.1=some p.2:=by
 obtain ⟨b,hb,e⟩:=List.mem_filterMap.mp hp;cases q:h.get? b with
 | none=>rw [q] at e; cases e
 | some o =>
  rw [q] at e;have e':(b,o)=p:=Option.some.inj e;subst e';exact ⟨hb,q⟩
theorem Inv.pinned {fp:List Addr} (I:Inv X aa σ H s) (hf:∀ b ∈ fp,EN X aa H b) (ho:∀ b ∈ fp,∃ o,s.heap.get? b=some o/\∀ v,o.data ≠ .cell v):Inv X (aa++Ds fp s.heap) σ H s :=
 I.pins_of fun p hp=>(mem_append.mp hp).elim (fun z=>I.pin p (mem_append_right _ z)) fun z=>by
  obtain ⟨hb,e⟩:=HW z;obtain ⟨f0,f1,f2,_⟩:=hf p.1 hb;obtain ⟨o,e',d⟩:=ho p.1 hb;rw [e] at e'; cases e';exact ⟨e,f0,f1,f2,d⟩
theorem Inv.unpinned {pl:LO} (I:Inv X (aa++pl) σ H s):Inv X aa σ H s:=I.pins_of fun p hp=>I.pin p (mem_append_right _ (mem_append_left _ hp))
theorem Bh {iter:Expr} {body:List Stmt} {wi:TI} {g:TG} {tb:TS} (hp:PassesOwn (model X.prog X.w) X.A X.env X.xe) (hc:X.calm=true) (hi:PI X tg iter wi) (hg:PG X tg g) (hb:PSs X body tb)
  (hs:∀ x,foldedSetIterable iter X.env x=pure x:=by intro _; rfl):PS X (.For tg iter body [] pos) (Tz wi g tb):=by
 intro aa s σ H D I h;refine wpAny_For (thn (hi aa s σ H _ I h) fun v s1 h1=>thn h1 fun itv s2 h2=>?_) hs;obtain ⟨it,fp,tn,J,H2,e,I2,T,st2,f2,W,⟨m0,w0⟩,turn⟩:=h2;subst e;have stat:∀ {H':Hp},(∀ b ∈ fp,H' b=none)->∀ b ∈ fp,EN X aa H' b:=fun hn b hb=>⟨hn b hb,(f2 b hb).2⟩;refine codeAny_forLoop_any (fun n s'=>∃ i σ' H',Inv X aa σ' H' s'/\tn i s'.heap/\(∀ b ∈ fp,H' b=none)/\W i n σ' H') ?_ m0 ⟨0,σ,H2,I2,st2,fun b hb=>(f2 b hb).1,w0⟩;rintro n s3 ⟨i,σ3,H3,I3,st3,fr3,w3⟩;rcases turn i n σ3 H3 w3 with ⟨stop,qn⟩ | ⟨go,N,hN,step⟩
 ·refine wpAny_passesOwn hp (thn (T.done X rfl rfl rfl hc i aa s3 σ3 H3 X.xe I3 (stat fr3) st3 stop) fun r s4 ⟨hr,I4⟩=>?_);subst hr;exact wpAny_execs_nil ⟨σ3,H3,I4,qn⟩
 ·refine wpAny_passesOwn hp (thn (T.item X rfl rfl rfl hc i aa s3 σ3 H3 X.xe I3 (stat fr3) st3 go) fun r s4 ⟨u,hr,h4⟩=>?_);subst hr;refine wpAny_passesOwn hp (thn h4 fun _ s5 ⟨x,H5,I5,r5,y5,st5,fr5⟩=>?_);have I5':=I5.pinned (stat fr5) (T.obj _ _ st5);refine wpAny_passesOwn hp (thn (hg _ s5 σ3 H5 x u _ I5' r5 (step x H5 y5)) fun _ s6 ⟨σ6,H6,I6,q6⟩=>?_);refine wpAny_passesOwn hp (thn (hb _ s6 σ6 H6 _ I6 q6) fun f s7 q7=>?_)
  have again:∀ {σ7:St} {H7:Hp},Inv X (aa++Ds fp s5.heap) σ7 H7 s7->N σ7 H7->∃ m,m < n/\∃ i σ' H',Inv X aa σ' H' s7/\tn i s7.heap/\(∀ b ∈ fp,H' b=none)/\W i m σ' H':=fun {σ7 H7} I7 n7=>by
   obtain ⟨m',hm,w7⟩:=hN σ7 H7 n7;refine ⟨m',hm,i + 1,σ7,H7,I7.unpinned,T.keep _ _ _ st5 fun b hb o e=>(I7.pin (b,o) (mem_append_right _ (mem_append_right _ (Ci hb e)))).1,fun b hb=>?_,w7⟩;obtain ⟨o,e,d⟩:=T.obj _ _ st5 b hb;exact (I7.pin (b,o) (mem_append_right _ (mem_append_right _ (Ci hb e)))).2.1
  cases f with
  | next=>obtain ⟨σ7,H7,I7,n7⟩:=q7; exact again I7 n7
  | cont=>obtain ⟨σ7,H7,I7,n7⟩:=q7; exact again I7 n7
  | brk=>obtain ⟨σ7,H7,I7,q7⟩:=q7; exact ⟨σ7,H7,I7.unpinned,q7⟩
  | ret v=>obtain ⟨x7,σ7,H7,I7,r7,q7⟩:=q7; exact ⟨x7,σ7,H7,I7.unpinned,r7,q7⟩
end
theorem C8 {g:TG} {tb:TS} {D:C4} (Pv:Nat->St->Hp->Prop) (h0:Pv 0 σ H) (hl:∀ i σ H,i <= xs.length->Pv i σ H->SqL K H a xs)
  (hs:∀ i x σ H,xs[i]?=some x->Pv i σ H->g x σ H fun σ2 H2=>tb { D with nx:=Pv (i + 1),ct:=Pv (i + 1),bk:=D.nx } σ2 H2) (hd:∀ σ H,Pv xs.length σ H->D.nx σ H) :
  ∃ W:Nat->Nat->St->Hp->Prop,(∃ m,W 0 m σ H)/\∀ i m σ H,W i m σ H ->
   ((Itl K a).stop i H/\D.nx σ H)\/((Itl K a).go i H/\∃ N:St->Hp->Prop,(∀ σ' H',N σ' H'->∃ m',m' < m/\W (i + 1) m' σ' H')/\∀ x H',(Itl K a).yld i H x H'->g x σ H' fun σ2 H2=>tb { D with nx:=N,ct:=N,bk:=D.nx } σ2 H2):=by
 refine ⟨fun i m σ H=>m=xs.length - i/\i <= xs.length/\Pv i σ H,⟨xs.length,by simp,Nat.zero_le _,h0⟩,?_⟩;rintro i m σ H ⟨rfl,hi,p⟩;have q:=hl i σ H hi p;by_cases hlt:i < xs.length
 ·refine .inr ⟨⟨xs,xs[i],q,by simp [hlt]⟩,Pv (i + 1),fun σ' H' p'=>⟨xs.length - (i + 1),by omega,rfl,hlt,p'⟩,fun x H' y=>?_⟩;obtain ⟨e,y⟩:=y;subst e;exact hs i x σ _ (y xs q) p
 ·have e:i=xs.length:=by omega
  subst e;exact .inl ⟨⟨xs,q,Nat.le_refl _⟩,hd σ H p⟩
theorem HX {lo:Int} {n:Nat} {g:TG} {tb:TS} {D:C4} (Pv:Nat->St->Hp->Prop) (h0:Pv 0 σ H)
  (hs:∀ i σ H,i < n->Pv i σ H->g (.int (lo + i)) σ H fun σ2 H2=>tb { D with nx:=Pv (i + 1),ct:=Pv (i + 1),bk:=D.nx } σ2 H2) (hd:∀ σ H,Pv n σ H->D.nx σ H) :
  ∃ W:Nat->Nat->St->Hp->Prop,(∃ m,W 0 m σ H)/\∀ i m σ H,W i m σ H ->
   ((Itr lo n).stop i H/\D.nx σ H)\/((Itr lo n).go i H/\∃ N:St->Hp->Prop,(∀ σ' H',N σ' H'->∃ m',m' < m/\W (i + 1) m' σ' H')/\∀ x H',(Itr lo n).yld i H x H'->g x σ H' fun σ2 H2=>tb { D with nx:=N,ct:=N,bk:=D.nx } σ2 H2):=by
 refine ⟨fun i m σ H=>m=n - i/\i <= n/\Pv i σ H,⟨n,by simp,Nat.zero_le _,h0⟩,?_⟩;rintro i m σ H ⟨rfl,hi,p⟩;by_cases hlt:i < n
 ·refine .inr ⟨hlt,Pv (i + 1),fun σ' H' p'=>⟨n - (i + 1),by omega,rfl,hlt,p'⟩,fun x H' y=>?_⟩;obtain ⟨e,y⟩:=y;subst e y;exact hs i σ _ hlt p
 ·have e:i=n:=by omega
  subst e;exact .inl ⟨Nat.le_refl _,hd σ H p⟩
theorem N0 {c:TT} {tb:TS} {D:C4} (Pv:St->Hp->Prop) (μ:St->Hp->Nat) (h0:Pv σ H)
  (hs:∀ σ H,Pv σ H->c σ H fun b H1=>if b=true then tb { D with nx:=fun σ' H'=>Pv σ' H'/\μ σ' H' < μ σ H,ct:=fun σ' H'=>Pv σ' H'/\μ σ' H' < μ σ H,bk:=D.nx } σ H1 else D.nx σ H1)
  (mono:∀ σ H Q Q',(∀ b H1,Q b H1->Q' b H1)->c σ H Q->c σ H Q'):Nw c tb D σ H:=by
 refine ⟨fun m σ H=>m=μ σ H/\Pv σ H,⟨_,rfl,h0⟩,?_⟩;rintro m σ H ⟨rfl,p⟩;refine mono σ H _ _ (fun b H1 q=>?_) (hs σ H p);cases b with
 | true=>exact ⟨_,fun σ' H' ⟨p',l⟩=>⟨_,l,rfl,p'⟩,q⟩
 | false=>exact q
end L2
namespace L2
open PySem PySem.Spec PyProof.Rows
abbrev R2:=V->V->Hp->VK->Prop
def OpR (X:Cx) (f:Value->Value->Sem Value) (r:R2):Prop :=
 ∀ (aa:LO) (s:Shared) (σ:St) (H:Hp) (x y:V) (v u:Value) (Q:VK),Inv X aa σ H s->RelV x v->RelV y u->r x y H Q ->
  wpAny (model X.prog X.w) X.A (f v u) (EP X aa σ Q) X.xe s
def UnR (X:Cx) (f:Value->Sem Value) (r:V->Hp->VK->Prop):Prop :=
 ∀ (aa:LO) (s:Shared) (σ:St) (H:Hp) (x:V) (v:Value) (Q:VK),Inv X aa σ H s->RelV x v->r x H Q ->
  wpAny (model X.prog X.w) X.A (f v) (EP X aa σ Q) X.xe s
def BY (X:Cx) (f:Value) (r:List V->Hp->VK->Prop):Prop :=
 ∀ (aa:LO) (s:Shared) (σ:St) (H:Hp) (xs:List V) (us:List Value) (Q:VK),Inv X aa σ H s->Vals xs us->r xs H Q ->
  wpAny (model X.prog X.w) X.A (call f us) (EP X aa σ Q) X.xe s
def tOp (r:R2) (ta tb:TE):TE:=fun σ H Q=>ta σ H fun x H1=>tb σ H1 fun y H2=>r x y H2 Q
def tUn (r:V->Hp->VK->Prop) (ta:TE):TE:=fun σ H Q=>ta σ H fun x H1=>r x H1 Q
def rI (C:Int->Int->Prop) (g:Int->Int->V):R2:=fun x y H Q=>∃ i j,x=.int i/\y=.int j/\C i j/\Q (g i j) H
def rI0 (g:Int->Int->V):R2:=fun x y H Q=>∃ i j,x=.int i/\y=.int j/\Q (g i j) H
def rU (g:Int->V):V->Hp->VK->Prop:=fun x H Q=>∃ i,x=.int i/\Q (g i) H
section
variable {a b c:Expr} {ta tb tc:TE}
theorem Rn (ha:PE X a ta) (hb:PE X b tb) {R:V->V->Hp->Prop} (I:Inv X aa σ H s)
  (h:ta σ H fun x H1=>tb σ H1 fun y H2=>R x y H2) {Q:Ab} {f:Value->Value->Sem Value}
  (hf:∀ v u s2 x y H2,Inv X aa σ H2 s2->RelV x v->RelV y u->R x y H2->wpAny (model X.prog X.w) X.A (f v u) Q X.xe s2) :
  wpAny (model X.prog X.w) X.A (eval a X.env) (fun v s₁=>wpAny (model X.prog X.w) X.A (eval b X.env) (fun u s₂=>wpAny (model X.prog X.w) X.A (f v u) Q X.xe s₂) X.xe s₁) X.xe s:=by
 refine thn (ha aa s σ H _ I h) fun v s1 ⟨x,H1,I1,r1,q1⟩=>?_;refine thn (hb aa s1 σ H1 _ I1 q1) fun u s2 ⟨y,H2,I2,r2,q2⟩=>?_;exact hf v u s2 x y H2 I2 r1 r2 q2
theorem AL {op:Operator} {r:R2} (ho:OpR X (binaryOp op) r) (ha:PE X a ta) (hb:PE X b tb):PE X (.BinOp a op b pos) (tOp r ta tb):=by
 intro aa s σ H Q I h;exact wpAny_BinOp (Rn ha hb I h fun v u s2 x y H2 I2 rx ry q=>ho aa s2 σ H2 x y v u Q I2 rx ry q)
theorem JP {op:UnaryOp} {r:V->Hp->VK->Prop} (ho:UnR X (unaryOp op) r) (ha:PE X a ta):PE X (.UnaryOp op a pos) (tUn r ta):=by
 intro aa s σ H Q I h;exact UnaryOp_ (thn (ha aa s σ H _ I h) fun v s1 ⟨x,H1,I1,r1,q1⟩=>ho aa s1 σ H1 x v Q I1 r1 q1)
theorem opI {f:Value->Value->Sem Value} {C:Int->Int->Prop} {g:Int->Int->Int}
  (rule:∀ (i j:Int) (t u:Tok) (s:Shared) (Q:Ab) (E:Ab),C i j->Q (.int (g i j) s.toks) { s with toks:=s.toks + 1 }->wpAny (model X.prog X.w) X.A (f (.int i t) (.int j u)) Q E s) :
  OpR X f (rI C fun i j=>.int (g i j)):=by
 intro aa s σ H x y v u Q I rx ry h;obtain ⟨i,j,rfl,rfl,hc,q⟩:=h;obtain ⟨t,rfl⟩:=rx;obtain ⟨t',rfl⟩:=ry;exact rule i j t t' s _ _ hc ⟨.int (g i j),H,I.tok _,⟨_,rfl⟩,q⟩
theorem MZ {f:Value->Value->Sem Value} {g:Int->Int->Int}
  (rule:∀ (i j:Int) (t u:Tok) (s:Shared) (Q:Ab) (E:Ab),Q (.int (g i j) s.toks) { s with toks:=s.toks + 1 }->wpAny (model X.prog X.w) X.A (f (.int i t) (.int j u)) Q E s) :
  OpR X f (rI0 fun i j=>.int (g i j)):=by
 intro aa s σ H x y v u Q I rx ry h;obtain ⟨i,j,rfl,rfl,q⟩:=h;obtain ⟨t,rfl⟩:=rx;obtain ⟨t',rfl⟩:=ry;exact rule i j t t' s _ _ ⟨.int (g i j),H,I.tok _,⟨_,rfl⟩,q⟩
theorem Pw {f:Value->Value->Sem Value} {g:Int->Int->Bool}
  (rule:∀ (i j:Int) (t u:Tok) (s:Shared) (Q:Ab) (E:Ab),Q (.bool (g i j)) s->wpAny (model X.prog X.w) X.A (f (.int i t) (.int j u)) Q E s) :
  OpR X f (rI0 fun i j=>.bl (g i j)):=by
 intro aa s σ H x y v u Q I rx ry h;obtain ⟨i,j,rfl,rfl,q⟩:=h;obtain ⟨t,rfl⟩:=rx;obtain ⟨t',rfl⟩:=ry;exact rule i j t t' s _ _ ⟨.bl (g i j),H,I,rfl,q⟩
def T3 (i j:Int):Prop:=0 < j/\j < 1073741824
def Ro (i j:Int):Prop:=0 <= j/\j <= 1000000/\i.natAbs < 2 ^ 64
def CMul (i j:Int):Prop:=(-(2 ^ 64) < i/\i < 2 ^ 64)\/(-(2 ^ 64) < j/\j < 2 ^ 64)
theorem CMul.ok {i j:Int} (h:CMul i j):IntMulOk i j:=by
 rcases h with ⟨h1,h2⟩ | ⟨h1,h2⟩
 ·exact .of_left (intBits_le_64 h1 h2)
 ·exact .of_right (intBits_le_64 h1 h2)
theorem Fw (k:Nat):(0:Int) <= 2 ^ k:=by
 rw [two_pow_cast];exact Int.natCast_nonneg _
theorem Bi:OpR X (binaryOp .Add) (rI0 fun i j=>.int (i + j)):=MZ fun _ _ _ _ _ _ _ q=>add_int q
theorem Cj:OpR X (binaryOp .Sub) (rI0 fun i j=>.int (i - j)):=MZ fun _ _ _ _ _ _ _ q=>sub_int q
theorem Fx:OpR X (binaryOp .Mult) (rI CMul fun i j=>.int (i * j)):=opI fun _ _ _ _ _ _ _ hc q=>mul_int q hc.ok
theorem FZ:OpR X (binaryOp .FloorDiv) (rI T3 fun i j=>.int (i / j)):=opI fun i j _ _ _ _ _ hc q=>by
 have h1:(0:Int) < j:=hc.1;have h2:j < 1073741824:=hc.2;exact floordiv_int (by omega) (by rw [Int.fdiv_eq_ediv_of_nonneg i (by omega)]; exact q) (.inl (PyProof.noPylong_small (by omega)))
theorem Ck:OpR X (binaryOp .Mod) (rI (fun _ j=>0 < j) fun i j=>.int (i % j)):=opI fun i j _ _ _ _ _ hc q=>by
 have h1:(0:Int) < j:=hc;exact mod_int' (by omega) (by rw [Int.fmod_eq_emod_of_nonneg i (by omega)]; exact q)
theorem IQ:OpR X (binaryOp .Pow) (rI Ro fun i j=>.int (i ^ j.toNat)):=opI fun _ _ _ _ _ _ _ hc q=>pow_int_small hc.1 hc.2.1 hc.2.2 q
theorem Bc:OpR X (binaryOp .LShift) (rI Ro fun i j=>.int (i * 2 ^ j.toNat)):=opI fun _ _ _ _ _ _ _ hc q=>lshift_int_small hc.1 hc.2.1 hc.2.2 q
theorem KQ:OpR X (binaryOp .RShift) (rI (fun _ j=>0 <= j) fun i j=>.int (i / 2 ^ j.toNat)):=opI fun i j _ _ _ _ _ hc q =>
 rshift_int hc (by rw [Int.fdiv_eq_ediv_of_nonneg i (Fw _)]; exact q)
theorem B7:OpR X (binaryOp .BitAnd) (rI0 fun i j=>.int (Builtin.bitAnd i j)):=MZ fun _ _ _ _ _ _ _ q=>and_int q
theorem HY:OpR X (binaryOp .BitOr) (rI0 fun i j=>.int (Builtin.bitOr i j)):=MZ fun _ _ _ _ _ _ _ q=>or_int q
theorem Px:OpR X (inplaceOp .Add) (rI0 fun i j=>.int (i + j)):=MZ fun _ _ _ _ _ _ _ q=>iadd_int q
theorem Py:OpR X (inplaceOp .RShift) (rI (fun _ j=>0 <= j) fun i j=>.int (i / 2 ^ j.toNat)):=opI fun i j _ _ _ _ _ hc q =>
 irshift_int hc (by rw [Int.fdiv_eq_ediv_of_nonneg i (Fw _)]; exact q)
theorem N1:OpR X (inplaceOp .BitOr) (rI0 fun i j=>.int (Builtin.bitOr i j)):=MZ fun _ _ _ _ _ _ _ q=>ior_int q
theorem unI {f:Value->Sem Value} {g:Int->Int}
  (rule:∀ (i:Int) (t:Tok) (s:Shared) (Q:Ab) (E:Ab),Q (.int (g i) s.toks) { s with toks:=s.toks + 1 }->wpAny (model X.prog X.w) X.A (f (.int i t)) Q E s) :
  UnR X f (rU fun i=>.int (g i)):=by
 intro aa s σ H x v Q I rx h;obtain ⟨i,rfl,q⟩:=h;obtain ⟨t,rfl⟩:=rx;exact rule i t s _ _ ⟨.int (g i),H,I.tok _,⟨_,rfl⟩,q⟩
theorem N2:UnR X (unaryOp .USub) (rU fun i=>.int (-i)):=unI fun _ _ _ _ _ q=>neg_int q
theorem KR:UnR X (unaryOp .Invert) (rU fun i=>.int (Builtin.bitNot i)):=unI fun _ _ _ _ _ q=>invert_int q
end
noncomputable def S0:V->V->Bool
 | .non,.non=>true | .non,.int _=>true | .int _,.non=>true | .non,.bl _=>true | .bl _,.non=>true | .non,.str _=>true | .str _,.non=>true
 | .int _,.int _=>true | .bl _,.bl _=>true | .str _,.str _=>true | .byt _,.byt _=>true
 | .int _,.str _=>true | .str _,.int _=>true | .bl _,.str _=>true | .str _,.bl _=>true
 | _,_=>false
def rEq:R2:=fun x y H Q=>S0 x y=true/\Q (.bl (decide (x=y))) H
def rNe:R2:=fun x y H Q=>S0 x y=true/\Q (.bl (!decide (x=y))) H
theorem LP {i j:Int}:decide (V.int i=V.int j)=(i == j):=by
 rw [Bool.eq_iff_iff];simp
theorem N3 {i j:Bool}:decide (V.bl i=V.bl j)=(i == j):=by
 rw [Bool.eq_iff_iff];simp
theorem LQ {i j:Str}:decide (V.str i=V.str j)=(i == j):=by
 rw [Bool.eq_iff_iff];simp
theorem LR {i j:Array UInt8}:decide (V.byt i=V.byt j)=(i.toList == j.toList):=by
 rw [Bool.eq_iff_iff];cases i;cases j;simp
section
variable {a b c:Expr} {ta tb tc:TE}
theorem Aq {Q:VK} {k k':Bool} (I:Inv X aa σ H s) (q:Q (.bl k) H) (e:k=k'):EP X aa σ Q (.bool k') s:=by
 subst e;exact ⟨.bl k,H,I,rfl,q⟩
theorem CB:OpR X (compareOp .Eq) rEq:=by
 intro aa s σ H x y v u Q I rx ry h;obtain ⟨hs,q⟩:=h;cases x with
 | non =>
  cases rx;cases y with
  | non=>cases ry; exact PySem.EqNone.eq_none_none (Aq I q (by simp))
  | bl j=>cases ry; exact PySem.EqNone.eq_none_bool (Aq I q (by simp))
  | int j=>obtain ⟨t',rfl⟩:=ry; exact PySem.EqNone.eq_none_int (Aq I q (by simp))
  | str j=>obtain ⟨t',rfl⟩:=ry; exact PySem.EqNone.eq_none_str (Aq I q (by simp))
  | _=>exact absurd (show false=true from hs) Bool.false_ne_true
 | bl i =>
  cases rx;cases y with
  | non=>cases ry; exact PySem.EqNone.eq_bool_none (Aq I q (by simp))
  | bl j=>cases ry; exact eq_bool (Aq I q N3)
  | str j=>obtain ⟨t',rfl⟩:=ry; exact PySem.EqMixed.eq_bool_str (Aq I q (by simp))
  | _=>exact absurd (show false=true from hs) Bool.false_ne_true
 | int i =>
  obtain ⟨t,rfl⟩:=rx;cases y with
  | non=>cases ry; exact PySem.EqNone.eq_int_none (Aq I q (by simp))
  | int j=>obtain ⟨t',rfl⟩:=ry; exact eq_int (Aq I q LP)
  | str j=>obtain ⟨t',rfl⟩:=ry; exact PySem.EqMixed.eq_int_str (Aq I q (by simp))
  | _=>exact absurd (show false=true from hs) Bool.false_ne_true
 | str i =>
  obtain ⟨t,rfl⟩:=rx;cases y with
  | non=>cases ry; exact PySem.EqNone.eq_str_none (Aq I q (by simp))
  | bl j=>cases ry; exact PySem.EqMixed.eq_str_bool (Aq I q (by simp))
  | int j=>obtain ⟨t',rfl⟩:=ry; exact PySem.EqMixed.eq_str_int (Aq I q (by simp))
  | str j=>obtain ⟨t',rfl⟩:=ry; exact eq_str (Aq I q LQ)
  | _=>exact absurd (show false=true from hs) Bool.false_ne_true
 | byt i =>
  obtain ⟨t,rfl⟩:=rx;cases y with
  | byt j=>obtain ⟨t',rfl⟩:=ry; exact W.eq_bytes (Aq I q LR)
  | _=>exact absurd (show false=true from hs) Bool.false_ne_true
 | _=>cases y <;> exact absurd (show false=true from hs) Bool.false_ne_true
theorem EO:OpR X (compareOp .NotEq) rNe:=by
 intro aa s σ H x y v u Q I rx ry h;obtain ⟨hs,q⟩:=h;cases x with
 | non =>
  cases rx;cases y with
  | non=>cases ry; exact PySem.EqNone.ne_none_none (Aq I q (by simp))
  | bl j=>cases ry; exact PySem.EqNone.ne_none_bool (Aq I q (by simp))
  | int j=>obtain ⟨t',rfl⟩:=ry; exact PySem.EqNone.ne_none_int (Aq I q (by simp))
  | str j=>obtain ⟨t',rfl⟩:=ry; exact PySem.EqNone.ne_none_str (Aq I q (by simp))
  | _=>exact absurd (show false=true from hs) Bool.false_ne_true
 | bl i =>
  cases rx;cases y with
  | non=>cases ry; exact PySem.EqNone.ne_bool_none (Aq I q (by simp))
  | bl j=>cases ry; exact ne_bool (Aq I q (congrArg not N3))
  | str j=>obtain ⟨t',rfl⟩:=ry; exact PySem.EqMixed.ne_bool_str (Aq I q (by simp))
  | _=>exact absurd (show false=true from hs) Bool.false_ne_true
 | int i =>
  obtain ⟨t,rfl⟩:=rx;cases y with
  | non=>cases ry; exact PySem.EqNone.ne_int_none (Aq I q (by simp))
  | int j=>obtain ⟨t',rfl⟩:=ry; exact ne_int (Aq I q (congrArg not LP))
  | str j=>obtain ⟨t',rfl⟩:=ry; exact PySem.EqMixed.ne_int_str (Aq I q (by simp))
  | _=>exact absurd (show false=true from hs) Bool.false_ne_true
 | str i =>
  obtain ⟨t,rfl⟩:=rx;cases y with
  | non=>cases ry; exact PySem.EqNone.ne_str_none (Aq I q (by simp))
  | bl j=>cases ry; exact PySem.EqMixed.ne_str_bool (Aq I q (by simp))
  | int j=>obtain ⟨t',rfl⟩:=ry; exact PySem.EqMixed.ne_str_int (Aq I q (by simp))
  | str j=>obtain ⟨t',rfl⟩:=ry; exact ne_str (Aq I q (congrArg not LQ))
  | _=>exact absurd (show false=true from hs) Bool.false_ne_true
 | byt i =>
  obtain ⟨t,rfl⟩:=rx;cases y with
  | byt j=>obtain ⟨t',rfl⟩:=ry; exact W.ne_bytes (Aq I q (congrArg not LR))
  | _=>exact absurd (show false=true from hs) Bool.false_ne_true
 | _=>cases y <;> exact absurd (show false=true from hs) Bool.false_ne_true
theorem HZ:OpR X (compareOp .Lt) (rI0 fun i j=>.bl (decide (i < j))):=Pw fun _ _ _ _ _ _ _ q=>lt_int q
theorem CZ:OpR X (compareOp .LtE) (rI0 fun i j=>.bl (decide (i <= j))):=Pw fun _ _ _ _ _ _ _ q=>le_int q
theorem LU:OpR X (compareOp .Gt) (rI0 fun i j=>.bl (decide (j < i))):=Pw fun _ _ _ _ _ _ _ q=>gt_int q
theorem JQ:OpR X (compareOp .GtE) (rI0 fun i j=>.bl (decide (j <= i))):=Pw fun _ _ _ _ _ _ _ q=>ge_int q
theorem AZ (b:Expr) {op:CmpOp} (h:op ≠ .In:=by decide) (h2:op ≠ .NotIn:=by decide):behindInMarks op b=false:=by
 have e1:(op == CmpOp.In)=false:=by cases op <;> first | rfl | exact absurd rfl h
 have e2:(op == CmpOp.NotIn)=false:=by cases op <;> first | rfl | exact absurd rfl h2
 cases b <;> simp [behindInMarks,e1,e2]
theorem CD {op:CmpOp} {r:R2} (ho:OpR X (compareOp op) r) (ha:PE X a ta) (hb:PE X b tb) (hm:behindInMarks op b=false):PE X (.Compare a [op] [b] pos) (tOp r ta tb):=by
 intro aa s σ H Q I h;exact wpAny_Compare1 (Rn ha hb I h fun v u s2 x y H2 I2 rx ry q=>ho aa s2 σ H2 x y v u Q I2 rx ry q) hm
def RP (t:TE):TT:=fun σ H Q=>t σ H fun x H'=>∃ k,x=.bl k/\Q k H'
theorem AW {op:CmpOp} {r:R2} (ho:OpR X (compareOp op) r) (ha:PE X a ta) (hb:PE X b tb) (hm:behindInMarks op b=false):PT X (.Compare a [op] [b] pos) (RP (tOp r ta tb)):=by
 intro aa s σ H Q I h
 refine wpAny_isTrue_Compare1 (thn (ha aa s σ H _ I h) fun v s1 ⟨x,H1,I1,r1,q1⟩=>thn (hb aa s1 σ H1 _ I1 q1) fun u s2 ⟨y,H2,I2,r2,q2⟩ =>
  thn (ho aa s2 σ H2 x y v u _ I2 r1 r2 q2) fun c s3 ⟨z,H3,I3,r3,k,e,q3⟩=>?_) hm
 subst e;cases r3;exact wpAny_truthy_bool ⟨H3,I3,q3⟩
def N4 (r r':R2) (ta tb tc:TE):TE:=fun σ H Q=>ta σ H fun x H1=>tb σ H1 fun y H2=>r x y H2 fun z H3=>∃ k,z=.bl k /\
 (if k=true then tc σ H3 fun w' H4=>r' y w' H4 Q else Q (.bl false) H3)
theorem Fy {op op':CmpOp} {r r':R2} (ho:OpR X (compareOp op) r) (ho':OpR X (compareOp op') r') (ha:PE X a ta) (hb:PE X b tb) (hc:PE X c tc)
  (hm:lastMarks [op,op'] [b,c]=false:=by with_unfolding_all rfl):PE X (.Compare a [op,op'] [b,c] pos) (N4 r r' ta tb tc):=by
 intro aa s σ H Q I h
 refine Compare_chain (thn (ha aa s σ H _ I h) fun v s1 ⟨x,H1,I1,r1,q1⟩=>chain_link (thn (hb aa s1 σ H1 _ I1 q1) fun u s2 ⟨y,H2,I2,r2,q2⟩ =>
  thn (ho aa s2 σ H2 x y v u _ I2 r1 r2 q2) fun d s3 ⟨z,H3,I3,r3,k,e,q3⟩=>?_)) hm
 subst e;cases r3;refine wpAny_truthy_bool ?_;cases k with
 | false=>exact ite_ff ⟨.bl false,H3,I3,rfl,q3⟩
 | true=>exact ite_tt (chain_last (thn (hc aa s3 σ H3 _ I3 q3) fun w' s4 ⟨z',H4,I4,r4,q4⟩=>ho' aa s4 σ H4 y z' u w' Q I4 r2 r4 q4))
theorem Ca {op op':CmpOp} {r r':R2} (ho:OpR X (compareOp op) r) (ho':OpR X (compareOp op') r') (ha:PE X a ta) (hb:PE X b tb) (hc:PE X c tc)
  (hm:lastMarks [op,op'] [b,c]=false:=by with_unfolding_all rfl):PT X (.Compare a [op,op'] [b,c] pos) (RP (N4 r r' ta tb tc)):=by
 intro aa s σ H Q I h
 refine isTrue_chain (thn (ha aa s σ H _ I h) fun v s1 ⟨x,H1,I1,r1,q1⟩=>test_link (thn (hb aa s1 σ H1 _ I1 q1) fun u s2 ⟨y,H2,I2,r2,q2⟩ =>
  thn (ho aa s2 σ H2 x y v u _ I2 r1 r2 q2) fun d s3 ⟨z,H3,I3,r3,k,e,q3⟩=>?_)) hm
 subst e;cases r3;refine wpAny_truthy_bool ?_;cases k with
 | false =>
  obtain ⟨k',e',q'⟩:=q3;cases e';exact ite_ff ⟨H3,I3,q'⟩
 | true =>
  refine ite_tt (test_last (thn (hc aa s3 σ H3 _ I3 q3) fun w' s4 ⟨z',H4,I4,r4,q4⟩=>thn (ho' aa s4 σ H4 y z' u w' _ I4 r2 r4 q4) fun d' s5 ⟨z2,H5,I5,r5,k2,e2,q5⟩=>?_));subst e2;cases r5;exact wpAny_truthy_bool ⟨H5,I5,q5⟩
theorem Fz:(sizeLine:Nat) < 2 ^ 63:=by rw [sizeLine_eq]; decide
theorem Bw {x:V} (r:Vals [x] us):∃ u,us=[u]/\RelV x u:=by
 cases r with
 | cons r1 r2=>cases r2; exact ⟨_,rfl,r1⟩
theorem F0 {x y:V} (r:Vals [x,y] us):∃ u w',us=[u,w']/\RelV x u/\RelV y w':=by
 cases r with
 | cons r1 r2 =>
  cases r2 with
  | cons r3 r4=>cases r4; exact ⟨_,_,rfl,r1,r3⟩
theorem Hh (hc:X.calm=true):BY X (.builtin "max") (fun xs H Q=>∃ i j,xs=[.int i,.int j]/\Q (.int (if j > i then j else i)) H):=by
 intro aa s σ H xs us Q I r h;obtain ⟨i,j,rfl,q⟩:=h;obtain ⟨u,w',rfl,⟨t,rfl⟩,⟨t',rfl⟩⟩:=F0 r;refine max_two_ints (I.ok.hd hc) fun h' tk k=>⟨_,H,I.kept k,?_,q⟩;by_cases hj:j > i
 ·rw [if_pos hj,if_pos hj]; exact ⟨_,rfl⟩
 ·rw [if_neg hj,if_neg hj]; exact ⟨_,rfl⟩
theorem Ma (hc:X.calm=true):BY X (.builtin "min") (fun xs H Q=>∃ i j,xs=[.int i,.int j]/\Q (.int (if j < i then j else i)) H):=by
 intro aa s σ H xs us Q I r h;obtain ⟨i,j,rfl,q⟩:=h;obtain ⟨u,w',rfl,⟨t,rfl⟩,⟨t',rfl⟩⟩:=F0 r;refine min_two_ints (I.ok.hd hc) fun h' tk k=>⟨_,H,I.kept k,?_,q⟩;by_cases hj:j < i
 ·rw [if_pos hj,if_pos hj]; exact ⟨_,rfl⟩
 ·rw [if_neg hj,if_neg hj]; exact ⟨_,rfl⟩
theorem Mb:BY X (.type "int") (fun xs H Q=>(∃ i,xs=[.int i]/\Q (.int i) H)\/∃ k,xs=[.bl k]/\Q (.int (if k then 1 else 0)) H):=by
 intro aa s σ H xs us Q I r h;rcases h with ⟨i,rfl,q⟩ | ⟨k,rfl,q⟩
 ·obtain ⟨u,rfl,t,rfl⟩:=Bw r;exact call_int_int ⟨.int i,H,I,⟨_,rfl⟩,q⟩
 ·obtain ⟨u,rfl,r1⟩:=Bw r;cases r1;exact call_int_bool ⟨.int (if k then 1 else 0),H,I.tok _,⟨_,rfl⟩,q⟩
end
end L2
namespace L2
open PySem PySem.Spec PyProof.Rows
structure ObjM (h:Heap) (x dx C:Addr) (mA:SV):Prop where
 obj:h.get? x=some (W.instObj C dx)
 ns:h.Ns1 dx mA
 ne:dx ≠ x
theorem Hi {dx:Addr} {mA:SV} (n:h.Ns1 dx mA):∃ od,h.get? dx=some od/\∀ name,W.lookIn name od=some (mA name):=by
 obtain ⟨o,es,ep,ho,hd,hk,_,hm⟩:=n;refine ⟨o,ho,fun name=>?_⟩;have e:=hm name;unfold nsFind findBy at e;rw [← Array.find?_toList] at e;unfold W.lookIn;rw [hd]
 dsimp only
 split
 ·rename_i y q;rw [q] at e;exact congrArg some e
 ·rename_i q;rw [q] at e
  have a:es.toList.any (·.refKey)=false:=by
   rw [List.any_eq_false];intro y hy;obtain ⟨z,t,cq⟩:=hk y (Array.mem_toList_iff.mp hy);simp [DictEntry.refKey,cq]
  have a':¬ es.toList.any (·.refKey)=true:=by rw [a]; exact Bool.false_ne_true
  rw [if_neg a'];exact congrArg some e
theorem ObjM.look {x dx:Addr} {mA:SV} (I:ObjM h x dx C mA):∃ od,W.InstAt h x (W.instObj C dx) C (some od)/\∀ name,W.lookIn name od=some (mA name) :=
 let ⟨od,ho,hl⟩:=Hi I.ns
 ⟨od,⟨I.obj,rfl,rfl,ho⟩,hl⟩
section
variable {prog:Program} {x dx:Addr} {mA:SV} {name:Str} {v:Value}
theorem Pz {expr:Bool} {Q:Ab} (X:K.In s.heap) (I:ObjM s.heap x dx C mA) (hg:W.plainGet K C name=true) (hh:W.hasDictIn K C=true)
  (ha:W.findIn K (.ref C) name=some none) (hv:mA name=some v) (hv':W.handedIn v=true) (h:Q v { s with toks:=s.toks + 1 }) :
  wpAny (model prog w) A (getAttr (.ref x) name expr) Q E s:=by
 obtain ⟨od,J,hl⟩:=I.look;exact W.get_value X J (W.plainGet_of hg).1 (W.findObj_own hh ha rfl (by rw [hl,hv])) hv' h
theorem N5 {pl:Sem Bool} {Q:Value × List Value->Shared->Prop} (X:K.In s.heap) (I:ObjM s.heap x dx C mA) (hg:W.plainGet K C name=true)
  (hf:W.findIn K (.ref C) name=some (some (.ref f))) (ht:W.isFn K (.ref f)=true) (hv:mA name=none) (h:Q (.ref f,[.ref x]) s) :
  wpAny (model prog w) A (getMethod (.ref x) name pl) Q E s:=by
 obtain ⟨od,J,hl⟩:=I.look;exact W.method_fn X J (W.plainGet_of hg).1 (W.plainGet_of hg).2 hf (beq_iff_eq.mp ht) (by show (W.lookIn name od).map (·.isSome)=some false; rw [hl,hv]; rfl) h
theorem P1 {ns:List Str} {Q:Unit->Shared->Prop} (X:K.In s.heap) (I:ObjM s.heap x dx C mA)
  (hs:W.findIn K (.ref C) "__setattr__" = some (some (.builtin "object.__setattr__"))) (hp:W.plainOver K C=true) (ht:W.takerIn K C name=some none) (hh:W.hasDictIn K C=true)
  (hw:PySem.Within mA ns) (hsz:ns.length <= sizeLine)
  (h:∀ h',ObjM h' x dx C (fun y=>if y=name then some v else mA y)->Heap.SameBut dx s.heap h'->Q () { s with heap:=h',toks:=s.toks + 2 }) :
  wpAny (model prog w) A (setAttr (.ref x) name v) Q E s:=by
 obtain ⟨od,J,hl⟩:=I.look;refine W.set_plain X J hs (W.osa_open (s:={ s with toks:=s.toks + 1 }) (r:=none) X J hp ht fun b=>?_);obtain ⟨cd,hc,hd'⟩:=W.any_some hh;have hx:s.heap.get? x=some ⟨.ref C,some dx,.plain,#[]⟩:=I.obj;refine wpAny_bind (wpAny_pure (wpAny_bind (wpAny_bind (wpAny_loadPart hx (wpAny_bind (W.Looks.here (s:={ s with toks:=s.toks + 1 }) (W.looks_clsIn X hc) ?_))))));rw [hd'];refine wpAny_pure (a:=some dx) (wpAny_bind (wpAny_pure (wpAny_bind ?_)));refine wpAny_nsSet1 (s:={ s with toks:=s.toks + 1 }) I.ns fun h' hn2 hs2=>?_;obtain ⟨oD,esD,epD,hoD,hdD,hcD⟩:=hn2.count (PySem.Within.cons name v hw);refine wpAny_bind (wpAny_lookBehind hoD (by rw [hdD]; exact pastItsLine_dict (Nat.le_trans hcD (by rw [length_cons]; omega))) ?_);exact wpAny_pure (h _ ⟨(hs2.2 _ (Ne.symm I.ne)).trans I.obj,hn2,I.ne⟩ hs2)
theorem JR {R:Result->Shared->Prop} {vs:List Value} {kw:List (Str × Value)} (X:K.In s.heap) (hm:W.makesIn K C=true)
  (hi:W.findIn K (.ref C) "__init__" = some (some (.ref f))) (hf:W.typeIn K (.ref f)=some (.type "function"))
  (h:codeAny (model prog w) (A.under (.builtin "type.__call__" ⟨.ref C :: vs,kw⟩)) (.call (.ref f) ⟨.ref (s.heap.objs.size + 1) :: vs,kw⟩) (W.InitBack (s.heap.objs.size + 1) R)
   { s with heap:=(s.heap.push W.emptyDict).push (W.instObj C s.heap.objs.size) }) :
  codeAny (model prog w) A (.call (.ref C) ⟨vs,kw⟩) R s:=by
 obtain ⟨hh,g,d,t,os⟩:=s;exact W.make_core (W.makes_of X hm) (W.looks_findIn X hi) (fun self=>W.bind_fn X self hf) (.inl rfl) h
end
noncomputable def BP (f:Str) (v:V):List (Str × V)->List (Str × V)
  | []=>[(f,v)]
  | (g,x) :: r=>if g=f then (g,v) :: r else (g,x) :: BP f v r
theorem Ac (f g:Str) (v:V):∀ fs:List (Str × V),(BP f v fs).lookup g=if g=f then some v else fs.lookup g
  | []=>by
    show List.lookup g [(f,v)]=_;by_cases h:g=f
    · have hb:(g == f)=true:=beq_iff_eq.mpr h
      simp only [List.lookup,hb,if_pos h]
    · have hb:(g == f)=false:=beq_eq_false_iff_ne.mpr h
      simp only [List.lookup,hb,if_neg h]
  | (k,x) :: r=>by
    have ih:=Ac f g v r;rw [show BP f v ((k,x) :: r)=(if k=f then (k,v) :: r else (k,x) :: BP f v r) from rfl];by_cases hk:k=f
    · rw [if_pos hk]
      by_cases h:g=k
      · have hb:(g == k)=true:=beq_iff_eq.mpr h
        simp only [List.lookup,hb,if_pos (h.trans hk)]
      · have hb:(g == k)=false:=beq_eq_false_iff_ne.mpr h
        simp only [List.lookup,hb,if_neg (fun e:g=f=>h (e.trans hk.symm))]
    · rw [if_neg hk]
      by_cases h:g=k
      · have hb:(g == k)=true:=beq_iff_eq.mpr h
        simp only [List.lookup,hb,if_neg (fun e:g=f=>hk (h.symm.trans e))]
      · have hb:(g == k)=false:=beq_eq_false_iff_ne.mpr h
        simp only [List.lookup,hb];exact ih
theorem Eu (f:Str) (v:V):∀ fs:List (Str × V),f ∈ (BP f v fs).map (·.1)/\∀ g,g ∈ fs.map (·.1)->g ∈ (BP f v fs).map (·.1)
  | []=>⟨by simp [BP],fun g h=>by simp at h⟩
  | (k,x) :: r=>by
    obtain ⟨i1,i2⟩:=Eu f v r;rw [show BP f v ((k,x) :: r)=(if k=f then (k,v) :: r else (k,x) :: BP f v r) from rfl];by_cases hk:k=f
    · rw [if_pos hk]
      subst hk;exact ⟨by simp,fun g h=>by simpa using h⟩
    · rw [if_neg hk]
      refine ⟨?_,fun g h=>?_⟩
      · rw [map_cons]
        exact mem_cons_of_mem _ i1
      · rw [map_cons] at h ⊢
        rcases mem_cons.mp h with e | e
        · exact mem_cons.mpr (.inl e)
        · exact mem_cons_of_mem _ (i2 g e)
theorem CG (f:Str) (v:V):∀ fs:List (Str × V),(BP f v fs).length <= fs.length + 1
  | []=>by simp [BP]
  | (k,x) :: r=>by
    have ih:=CG f v r;rw [show BP f v ((k,x) :: r)=(if k=f then (k,v) :: r else (k,x) :: BP f v r) from rfl];by_cases hk:k=f
    · rw [if_pos hk,length_cons,length_cons]; omega
    · rw [if_neg hk,length_cons,length_cons]; omega
theorem RelO.some_of {v:V} {o:Option Value} (r:RelO (some v) o):∃ u,o=some u/\RelV v u:=by
 cases o with
 | none=>exact (show False from r).elim
 | some u=>exact ⟨u,rfl,r⟩
theorem RelO.none_of {o:Option Value} (r:RelO none o):o=none:=by
 cases o with
 | none=>rfl
 | some u=>exact (show False from r).elim
theorem Hj {v:V} (r:RelV v u):W.handedIn u=true:=by
 cases v with
 | non=>cases (show u=Value.none from r); rfl
 | bl b=>cases (show u=Value.bool b from r); rfl
 | int i=>obtain ⟨t,e⟩:=(show ∃ t,u=Value.int i t from r); cases e; rfl
 | str x=>obtain ⟨t,e⟩:=(show ∃ t,u=Value.str x t from r); cases e; rfl
 | byt b=>obtain ⟨t,e⟩:=(show ∃ t,u=Value.bytes b t from r); cases e; rfl
 | flt b=>obtain ⟨t,e⟩:=(show ∃ t,u=Value.float b t from r); cases e; rfl
 | ref a=>cases (show u=Value.ref a from r); rfl
 | ty n=>cases (show u=Value.type n from r); rfl
section
variable {h':Heap} {dx:Addr} {fs fs':List (Str × V)}
theorem CH (hok:HOk P w H h) (e:H a=some (.ins C dx fs)):∃ mA,ObjM h a dx C mA/\(∀ f,RelO (fs.lookup f) (mA f))/\PySem.Within mA (fs.map (·.1))/\fs.length <= 1000/\H dx=some (.own a):=by
 obtain ⟨d,z,ne,ob,mA,n,r,q⟩:=(show ObjOk P w H h a (.ins C dx fs) from hok a _ e);exact ⟨mA,⟨ob,n,ne⟩,r,q,z,d⟩
end
structure Cls (K:FG) (C:Addr):Prop where
 pg:W.plainGet K C Str.empty=true
 hd:W.hasDictIn K C=true
 po:W.plainOver K C=true
 sa:W.findIn K (.ref C) "__setattr__" = some (some (.builtin "object.__setattr__"))
theorem Cls.get (c:Cls K C) (f:Str):W.plainGet K C f=true:=c.pg
def NoAttr (K:FG) (C:Addr) (f:Str):Prop:=W.findIn K (.ref C) f=some none
theorem NoAttr.taker {f:Str} (n:NoAttr K C f):W.takerIn K C f=some none:=by
 unfold W.takerIn;rw [show W.findIn K (.ref C) f=some none from n];rfl
structure IR (K:FG) (C:Addr) (m:Str) (f:Addr):Prop where
 at_:W.findIn K (.ref C) m=some (some (.ref f))
 fn:W.isFn K (.ref f)=true
 kp:W.keepIn K (.ref f)=true
section
variable {dx:Addr} {fs:List (Str × V)} {f:Str} {v:V}
theorem KS {b:Bool} {Q:Ab} (I:Inv X aa σ H s) (e:H a=some (.ins C dx fs)) (c:Cls X.K C) (n:NoAttr X.K C f) (l:fs.lookup f=some v)
  (h:∀ u s',Inv X aa σ H s'->RelV v u->Q u s'):wpAny (model X.prog X.w) A (getAttr (.ref a) f b) Q E s:=by
 obtain ⟨mA,O,r,_,_,_⟩:=CH I.hok e;obtain ⟨u,hu,ru⟩:=RelO.some_of (v:=v) (o:=mA f) (by rw [← l]; exact r f);exact Pz I.kIn O (c.get f) c.hd n hu (Hj ru) (h u _ (I.tok _) ru)
theorem F1 {m:Str} {g:Addr} {pl:Sem Bool} {Q:Value × List Value->Shared->Prop} (I:Inv X aa σ H s) (e:H a=some (.ins C dx fs)) (c:Cls X.K C) (k:IR X.K C m g) (l:fs.lookup m=none)
  (h:Q (.ref g,[.ref a]) s):wpAny (model X.prog X.w) A (getMethod (.ref a) m pl) Q E s:=by
 obtain ⟨mA,O,r,_,_,_⟩:=CH I.hok e;have hn:mA m=none:=RelO.none_of (by rw [← l]; exact r m);exact N5 I.kIn O (c.get m) k.at_ k.fn hn h
theorem KU {y:V} {Q:Unit->Shared->Prop} (I:Inv X aa σ H s) (e:H a=some (.ins C dx fs)) (c:Cls X.K C) (n:NoAttr X.K C f) (hl:fs.length < 1000) (ry:RelV y u)
  (h:∀ s',Inv X aa σ (upd H a (.ins C dx (BP f y fs))) s'->Q () s'):wpAny (model X.prog X.w) A (setAttr (.ref a) f u) Q E s:=by
 obtain ⟨mA,O,r,wi,_,ho⟩:=CH I.hok e;have hz:(fs.map (·.1)).length <= sizeLine:=by rw [AI,sizeLine_eq]; omega
 refine P1 I.kIn O c.sa c.po n.taker c.hd wi hz fun h' O' sb=>h _ ?_;have hd:∃ o,h'.get? dx=some o:=let ⟨o,_,_,e',_⟩:=O'.ns; ⟨o,e'⟩
 refine I.write (x:=a) (e:=dx) (by rw [e]; exact True.intro) (.inr ho) (fun b q hb z=>(sb.2 b hb).trans z) hd ?_;refine ⟨by rw [AH O.ne]; exact ho,?_,O.ne,O'.obj,_,O'.ns,fun g=>?_,fun g hg=>?_⟩
 ·have:=CG f y fs; omega
 ·show RelO ((BP f y fs).lookup g) (if g=f then some u else mA g);rw [Ac];by_cases q:g=f
  ·rw [if_pos q,if_pos q]; exact ry
  ·rw [if_neg q,if_neg q]; exact r g
 ·by_cases q:g=f
  ·rw [q]; exact (Eu f y fs).1
  ·refine (Eu f y fs).2 g (wi g fun z=>hg ?_);show (if g=f then some u else mA g)=none;rw [if_neg q]; exact z
theorem Inv.made (I:Inv X aa σ H s):Inv X aa σ (upd (upd H s.heap.objs.size (.own (s.heap.objs.size + 1))) (s.heap.objs.size + 1) (.ins C s.heap.objs.size []))
  { s with heap:=(s.heap.push W.emptyDict).push (W.instObj C s.heap.objs.size) }:=by
 have e1:(s.heap.push W.emptyDict).get? s.heap.objs.size=some W.emptyDict:=get?_push_size s.heap rfl
 have e2:((s.heap.push W.emptyDict).push (W.instObj C s.heap.objs.size)).get? (s.heap.objs.size + 1)=some (W.instObj C s.heap.objs.size):=by
  have:=get?_push_size (s.heap.push W.emptyDict) (o:=W.instObj C s.heap.objs.size) rfl
  rwa [size_push] at this
 have e3:(s.heap.push W.emptyDict).Ns s.heap.objs.size (fun _=>none):=⟨W.emptyDict,#[],_,e1,rfl,(fun e he=>absurd he (by simp)),fun _=>rfl⟩;have I1:=I.laid (a:=s.heap.objs.size) (o:=.own (s.heap.objs.size + 1)) (h':=s.heap.push W.emptyDict) (t':=s.toks) (fun b u q=>get?_push_of_some _ q) (Nat.le_refl _) ⟨_,e1⟩;refine I1.laid (a:=s.heap.objs.size + 1) (o:=.ins C s.heap.objs.size []) (t':=s.toks) (fun b u q=>get?_push_of_some _ q) (Nat.le_of_eq (size_push _ _)) ?_;have ne:s.heap.objs.size ≠ s.heap.objs.size + 1:=Nat.ne_of_lt (Nat.lt_succ_self _);refine ⟨by rw [AH ne,AB],Nat.zero_le _,ne,e2,fun _=>none,(Heap.Ns1.of_empty e3).at fun o q=>get?_push_of_some _ q,fun _=>True.intro,fun y hy=>absurd rfl hy⟩
theorem LV {prog:Program} {env:Env} {f:Str} {Q:Ab} (hb:attributeBase e f env (eval e env)=eval e env)
  (h:wpAny (model prog w) A (eval e env) (fun o s₁=>wpAny (model prog w) A (getAttr o f true) Q E s₁) E s):wpAny (model prog w) A (eval (.Attribute e f pos) env) Q E s :=
 Attribute_any_ h (by rw [arm_eval_Attribute,hb])
end
def T4 (K:FG) (ta:TE) (f:Str):TE:=fun σ H Q=>ta σ H fun x H1=>∃ a C dx fs v,x=.ref a/\H1 a=some (.ins C dx fs)/\Cls K C/\NoAttr K C f/\fs.lookup f=some v/\Q v H1
def T5 (K:FG) (ta tv:TE) (f:Str):TS:=fun D σ H=>tv σ H fun y H1=>ta σ H1 fun x H2=>∃ a C dx fs,x=.ref a/\H2 a=some (.ins C dx fs)/\Cls K C/\NoAttr K C f/\fs.length < 1000 /\
 D.nx σ (upd H2 a (.ins C dx (BP f y fs)))
section
variable {o value:Expr} {f:Str} {pos' tpos:Pos} {ta tv:TE}
theorem BG (he:PE X e ta) (hb:attributeBase e f X.env (eval e X.env)=eval e X.env):PE X (.Attribute e f pos) (T4 X.K ta f):=by
 intro aa s σ H Q I h;refine LV hb (thn (he aa s σ H _ I h) fun u s1 ⟨x,H1,I1,rx,a,C,dx,fs,v,ex,ea,c,n,l,q⟩=>?_);subst ex;obtain rfl:u=Value.ref a:=rx;exact KS I1 ea c n l fun u' s2 I2 ru=>⟨v,H1,I2,ru,q⟩
theorem Ev (ha:PE X o ta) (hv:PE X value tv) (hs:swapsWith value (some (.Attribute o f pos')) pos.line X.env=pure false):PS X (.Assign [.Attribute o f pos'] value pos) (T5 X.K ta tv f):=by
 intro aa s σ H D I h;refine plainObj_wpAny_Assign_Attribute (thn (hv aa s σ H _ I h) fun u s1 ⟨y,H1,I1,ry,q⟩=>thn (ha aa s1 σ H1 _ I1 q) fun ov s2 ⟨x,H2,I2,rx,a,C,dx,fs,ex,ea,c,n,l,q2⟩=>?_) hs;subst ex;obtain rfl:ov=Value.ref a:=rx;exact KU I2 ea c n l ry fun s3 I3=>⟨σ,_,I3,q2⟩
end
section
variable {Q:Ab} {c:Value} {b:Bool}
inductive TyOf (K:FG) (H:Hp):V->Value->Prop where
 | non:TyOf K H .non (.type "NoneType")
 | bl (x:Bool):TyOf K H (.bl x) (.type "bool")
 | int (i:Int):TyOf K H (.int i) (.type "int")
 | str (x:Str):TyOf K H (.str x) (.type "str")
 | flt (x:UInt64):TyOf K H (.flt x) (.type "float")
 | lst {a:Addr} {xs:List V} (e:H a=some (.lst xs)):TyOf K H (.ref a) (.type "list")
 | frz {a:Addr} {o:Obj} {xs:List V} (e:H a=some (.frz o (.lst xs))):TyOf K H (.ref a) (.type "list")
 | tup {a:Addr} {xs:List V} (e:H a=some (.tup xs)):TyOf K H (.ref a) (.type "tuple")
 | dK {a:Addr} {kvs:LK} (e:H a=some (.dK kvs)):TyOf K H (.ref a) (.type "dict")
 | dT {a:Addr} {kvs:List (List Key × V)} (e:H a=some (.dT kvs)):TyOf K H (.ref a) (.type "dict")
 | ins {a C dx:Addr} {fs:List (Str × V)} (e:H a=some (.ins C dx fs)) (cl:Cls K C) (ha:W.findIn K (.ref C) "__class__" = some (some (.builtin "object.__class__")))
   (hn:W.specialIn K (.builtin "object.__class__") "__get__" = some (some (.builtin "getset_descriptor.__get__"))) (htk:W.takesIn K (.builtin "object.__class__")=some true)
   (hm:W.mroIn K C (.type "object")=some true):TyOf K H (.ref a) (.ref C)
theorem Hk {x:V} {t:Value} (I:Inv X aa σ H s) (rx:RelV x u) (ty:TyOf X.K H x t) (e:W.kitOne X.K t c=some b) (h:∀ tk,Q (.bool b) { s with toks:=tk }) :
  wpAny (model X.prog X.w) A (call (.builtin "isinstance") [u,c]) Q E s:=by
 cases ty with
 | non=>cases (show u=Value.none from rx); exact W.kia_one W.kitx_none I.kIn True.intro e (fun z=>nomatch z) h
 | bl y=>cases (show u=Value.bool y from rx); exact W.kia_one W.kitx_bool I.kIn True.intro e (fun z=>nomatch z) h
 | int i=>obtain ⟨t,q⟩:=(show ∃ t,u=Value.int i t from rx); cases q; exact W.kia_one W.kitx_int I.kIn True.intro e (fun z=>nomatch z) h
 | str y=>obtain ⟨t,q⟩:=(show ∃ t,u=Value.str y t from rx); cases q; exact W.kia_one W.kitx_str I.kIn True.intro e (fun z=>nomatch z) h
 | flt y=>obtain ⟨t,q⟩:=(show ∃ t,u=Value.float y t from rx); cases q; exact W.kia_one W.kitx_float I.kIn True.intro e (fun z=>nomatch z) h
 | @lst a xs ea =>
  cases (show u=Value.ref a from rx);obtain ⟨_,_,n,_,h1⟩:=(show ObjOk X.prog X.w H s.heap a (.lst xs) from I.hok a _ ea);exact W.kia_one W.kitx_list I.kIn ⟨_,h1,rfl⟩ e (fun z=>nomatch z) h
 | @frz a ob xs ea =>
  cases (show u=Value.ref a from rx);obtain ⟨_,_,_,n,_,h1⟩:=(show ObjOk X.prog X.w H s.heap a (.frz ob (.lst xs)) from I.hok a _ ea);exact W.kia_one W.kitx_list I.kIn ⟨_,h1,rfl⟩ e (fun z=>nomatch z) h
 | @tup a xs ea =>
  cases (show u=Value.ref a from rx);obtain ⟨_,_,_,p⟩:=(show ObjOk X.prog X.w H s.heap a (.tup xs) from I.hok a _ ea);obtain ⟨o,h1,h2,_⟩:=p;exact W.kia_one W.kitx_tuple I.kIn ⟨o,h1,h2⟩ e (fun z=>nomatch z) h
 | @dK a kvs ea =>
  cases (show u=Value.ref a from rx);obtain ⟨_,_,vs,_,p⟩:=(show ObjOk X.prog X.w H s.heap a (.dK kvs) from I.hok a _ ea);obtain ⟨o,es,ep,h1,h2,_⟩:=p;exact W.kia_one W.kitx_dict I.kIn ⟨o,h1,h2.1⟩ e (fun z=>nomatch z) h
 | @dT a kvs ea =>
  cases (show u=Value.ref a from rx);obtain ⟨_,_,xs,_,o,es,ep,h1,h2,_⟩:=(show ObjOk X.prog X.w H s.heap a (.dT kvs) from I.hok a _ ea);exact W.kia_one W.kitx_dict I.kIn ⟨o,h1,h2.1⟩ e (fun z=>nomatch z) h
 | @ins a C dx fs ea cl ha hn htk hm =>
  cases (show u=Value.ref a from rx);obtain ⟨mA,O,_⟩:=CH I.hok ea;obtain ⟨od,J,_⟩:=O.look;exact W.kia_one (W.kitx_own (cl.get _) cl.hd ha hn htk hm) I.kIn J e (fun z=>nomatch z) h
end
end L2
namespace L2
open PySem PySem.Spec PyProof.Rows
structure Room (k:Nat) (A:Around):Prop where
 hd:A.handled=none
 dp:A.depth + 3 * k + 5 < recursionLimit
 un:A.units + 16 * k + 200 < cLine
theorem Room.mono {j k:Nat} (r:Room k A) (h:j <= k):Room j A:=⟨r.hd,by have:=r.dp; omega,by have:=r.un; omega⟩
theorem Room.deeper {k:Nat} {A:Around} (r:Room (k + 1) A) (env:Env):Room k (A.deeper env) :=
 ⟨r.hd,by have:=r.dp; show A.depth + 1 + 3 * k + 5 < _; omega,by have:=r.un; show A.units + 3 + 16 * k + 200 < _; omega⟩
theorem Room.in1 {k:Nat} {A:Around} (r:Room (k + 1) A):Room k A.in1 :=
 ⟨r.hd,by have:=r.dp; show A.depth + 3 * k + 5 < _; omega,by have:=r.un; show A.units + 1 + 16 * k + 200 < _; omega⟩
theorem KW {kw:List (Str × Value)}:(A.under (.builtin "type.__call__" ⟨.ref C :: us,kw⟩)).depth=A.depth + 1:=by
 first | rfl | simp [Around.under,Code.weight,Code.isCreation,Code.isGuard,Code.isCaller,Code.frames,Code.isFrame,guardIds]
theorem KY {kw:List (Str × Value)}:(A.under (.builtin "type.__call__" ⟨.ref C :: us,kw⟩)).units=A.units + 1:=by
 first | rfl | simp [Around.under,Code.cUnits,Code.frames,Code.isFrame]
theorem Room.make {k:Nat} (r:Room (k + 1) A) (C:Addr) (us:List Value) (kw:List (Str × Value)):Room k (A.under (.builtin "type.__call__" ⟨.ref C :: us,kw⟩)) :=
 ⟨r.hd,by have:=r.dp; rw [KW]; omega,by have:=r.un; rw [KY]; omega⟩
theorem Room.depth {k:Nat} {A:Around} (r:Room k A):A.depth < recursionLimit:=by have:=r.dp; omega
theorem Room.units {k:Nat} {A:Around} (r:Room k A):A.units + 64 < cLine:=by have:=r.un; omega
def CN:TA:=fun _ H Q=>Q [] H
def Ar (ta:TE) (tr:TA):TA:=fun σ H Q=>ta σ H fun x H1=>tr σ H1 fun xs H2=>Q (x :: xs) H2
section
variable {es:List Expr} {t:TA}
theorem AC:PA X [] CN:=fun _ _ _ _ H Q I h=>Calls.spliced_nil ⟨[],H,I,.nil,h⟩
theorem AA (ha:PE X e te) (hr:PA X es t) (hs:starEach (e :: es) X.env=(false,eval e X.env) :: starEach es X.env:=by rfl):PA X (e :: es) (Ar te t):=by
 intro pos aa s σ H Q I h;rw [hs];show wpAny _ _ (spliced ((false,eval e X.env) :: backTo pos (starEach es X.env))) _ _ s;refine Calls.spliced_cons (thn (ha aa s σ H _ I h) fun u s1 ⟨x,H1,I1,r1,q1⟩=>?_);exact thn (hr pos aa s1 σ H1 _ I1 q1) fun us s2 ⟨xs,H2,I2,r2,q2⟩=>⟨x :: xs,H2,I2,.cons r1 r2,q2⟩
def Rp (t:TA):TE:=fun σ H Q=>t σ H fun xs H1=>xs.length <= sizeLine/\∀ p,H1 p=none->Q (.ref p) (upd H1 p (.tup xs))
def S8 (t:TA):TE:=fun σ H Q=>t σ H fun xs H1=>xs.length <= sizeLine/\∀ p,H1 p=none->Q (.ref p) (upd H1 p (.lst xs))
theorem BW {x1} (h:PA X es t):PE X (.Tuple es x1 pos) (Rp t):=by
 intro aa s σ H Q I hq;refine wpAny_Tuple_spliced (thn (h pos aa s σ H _ I hq) fun us s1 ⟨xs,H1,I1,r,z,q⟩=>⟨by rw [← r.length]; exact z,?_⟩);have hf:H1 s1.heap.objs.size=none:=I1.hok.fresh (Nat.le_refl _);refine ⟨.ref s1.heap.objs.size,upd H1 s1.heap.objs.size (.tup xs),I1.laid (t':=s1.toks) (fun b u e=>get?_push_of_some _ e) (Nat.le_refl _) ?_,rfl,q _ hf⟩;exact ⟨z,us,r,⟨_,get?_push_size _ rfl,rfl,_,rfl⟩⟩
theorem BB (h:PA X es t):PE X (.List es pos) (S8 t):=by
 intro aa s σ H Q I hq;refine wpAny_List_spliced (thn (h pos aa s σ H _ I hq) fun us s1 ⟨xs,H1,I1,r,z,q⟩=>⟨by rw [← r.length]; exact z,?_⟩);have hf:H1 s1.heap.objs.size=none:=I1.hok.fresh (Nat.le_refl _);refine ⟨.ref s1.heap.objs.size,upd H1 s1.heap.objs.size (.lst xs),I1.laid (t':=s1.toks) (fun b u e=>get?_push_of_some _ e) (Nat.le_refl _) ?_,rfl,q _ hf⟩;exact ⟨z,us,0,r,get?_push_size _ rfl⟩
end
abbrev Sp:=List V->Hp->VK->XK->Prop
abbrev CXT:=List Env->Hp->Shared->XK->Value->Shared->Prop
structure Env0 (P:Program) (w:World) (K:FG) (mg:SV) (base:Heap) (A:Around) (outer:List Env) (s:Shared) (H:Hp):Prop where
 frames:A.frames=some outer
 mod:Mod K mg base
 bs:∀ b o,base.get? b=some o->s.heap.get? b=some o/\H b=none
 bsz:base.objs.size <= s.heap.objs.size
 funs:s.heap.FunFrames base outer
 frf:∀ b ∈ frs outer,H b=none
 hok:HOk P w H s.heap
 bare:AllBare s.gens
def CE (outer:List Env) (P:Program) (w:World) (H:Hp) (s:Shared) (Q:VK) (u:Value) (s':Shared):Prop :=
 ∃ v H',s'.os=s.os/\AllBare s'.gens/\Un (frs outer) [] H H' s.heap s'.heap/\HOk P w H' s'.heap/\RelV v u/\Q v H'
def CR (CX:CXT) (outer:List Env) (P:Program) (w:World) (H:Hp) (s:Shared) (Q:VK) (E:XK) (r:Result) (s':Shared):Prop :=
 match r with
 | .ok (.ret u)=>CE outer P w H s Q u s'
 | .ok _=>False
 | .error e=>CX outer H s E e s'
structure Ae (P:Program) (w:World) (K:FG) (mg:SV) (base:Heap) (CX:CXT) (k:Nat) (f:Addr) (fd:FuncData) (ps:List Str) (sp:Sp):Prop where
 len:∀ vs H Q E,sp vs H Q E->vs.length=ps.length
 run:∀ (A:Around) (outer:List Env) (s:Shared) (H:Hp) (args:Args) (us:List Value) (vs:List V) (Q:VK) (E:XK),Room k A->Env0 P w K mg base A outer s H->BindsTo s fd args (ps.zip us)->Vals vs us->sp vs H Q E ->
  codeAny (model P w) A (.call (.ref f) args) (CR CX outer P w H s Q E) s
theorem Env0.make {outer:List Env} (e:Env0 P w K mg base A outer s H) (C:Addr) (us:List Value) (kw:List (Str × Value)) :
  Env0 P w K mg base (A.under (.builtin "type.__call__" ⟨.ref C :: us,kw⟩)) outer s H:=⟨by first | exact e.frames | (simpa [Around.under,Code.envs,Code.isFrame,pushEnvs] using e.frames),e.mod,e.bs,e.bsz,e.funs,e.frf,e.hok,e.bare⟩
theorem Env0.in1 {P:Program} {w:World} {K:FG} {mg:SV} {base:Heap} {A:Around} {outer:List Env} {s:Shared} {H:Hp} (e:Env0 P w K mg base A outer s H) :
  Env0 P w K mg base A.in1 outer s H:=⟨e.frames,e.mod,e.bs,e.bsz,e.funs,e.frf,e.hok,e.bare⟩
section
variable {s':Shared}
theorem Inv.env0 (I:Inv X aa σ H s):Env0 X.prog X.w X.K X.mg X.base X.A X.stack s H :=
 ⟨I.ok.frames,I.ok.mod,I.bs,Nat.le_trans I.ok.bsz I.sz,I.stack,I.stkFree,I.hok,I.bare⟩
theorem Inv.after {Q:VK} (I:Inv X aa σ H s) (h:CE X.stack X.prog X.w H s Q u s'):EP X aa σ Q u s':=by
 obtain ⟨v,H',os,bare,un,hok,r,q⟩:=h;obtain ⟨hh,g,d,t,os'⟩:=s';obtain rfl:os'=s.os:=os;exact ⟨v,H',I.call (h':=hh) (g':=g) (d':=d) (t':=t) (ch:=[]) un hok bare (fun b z=>absurd z (by simp)),r,q⟩
end
def RQ (sp:Sp) (dvs:List V) (E:XK) (t:TA):TE:=fun σ H Q=>t σ H fun vs H1=>sp (vs++dvs) H1 Q E
def LX (C:Addr) (m:Str) (sp:Sp) (dvs:List V) (E:XK) (ta:TE) (t:TA):TE:=fun σ H Q=>ta σ H fun x H1=>∃ a dx fs,x=.ref a/\H1 a=some (.ins C dx fs)/\fs.lookup m=none /\
 t σ H1 fun vs H2=>sp (x :: (vs++dvs)) H2 Q E
def TB (C:Addr) (sp:Sp) (dvs:List V) (E:XK) (t:TA):TE:=fun σ H Q=>t σ H fun vs H1=>∀ x dx,H1 x=none->H1 dx=none->dx ≠ x ->
 sp (.ref x :: (vs++dvs)) (upd (upd H1 dx (.own x)) x (.ins C dx [])) (fun v H2=>v=.non/\Q (.ref x) H2) E
def Binds (K:FG) (fd:FuncData) (ps:List Str) (ds:List Value):Prop :=
 ∀ (s:Shared) (us:List Value),K.In s.heap->(us++ds).length=ps.length->BindsTo s fd ⟨us,[]⟩ (ps.zip (us++ds))
theorem Binds.all {fd:FuncData} {ps:List Str} (h:∀ us:List Value,us.length=ps.length->bindArgs fd ⟨us,[]⟩=pure (ps.zip us)):Binds K fd ps []:=fun s us _ hl=>by
 rw [append_nil] at hl ⊢;exact .of_eq (h us hl)
def BQ (CX:CXT) (X:Cx) (E:XK):Prop:=∀ (aa:LO) (σ:St) (H:Hp) (s:Shared) (e:Value) (s':Shared),Inv X aa σ H s->CX X.stack H s E e s'->X.xe e s'
section
variable {CX:CXT} {k:Nat} {fd:FuncData} {ps:List Str} {sp:Sp} {dvs:List V} {ds:List Value} {E:XK} {m:Str} {p apos:Pos} {o:Expr} {es:List Expr} {ta:TE} {t:TA}
theorem IS {Q:VK} {vs:List V} (F:Ae X.prog X.w X.K X.mg X.base CX k f fd ps sp) (hr:Room k X.A) (hb:Binds X.K fd ps ds) (hd:Vals dvs ds) (hx:BQ CX X E)
  (I:Inv X aa σ H s) (r:Vals vs us) (h:sp (vs++dvs) H Q E):wpAny (model X.prog X.w) X.A (call (.ref f) us) (EP X aa σ Q) X.xe s:=by
 have r2:Vals (vs++dvs) (us++ds):=r.append hd;have hl:(us++ds).length=ps.length:=by rw [← r2.length]; exact F.len _ _ _ _ h
 refine wpAny_call (codeAny_mono (F.run X.A X.stack s H ⟨us,[]⟩ (us++ds) (vs++dvs) Q E hr I.env0 (hb s us I.kIn hl) r2 h) fun r s' hq=>?_);cases r with
 | error e=>exact hx aa σ H s e s' I hq
 | ok fl =>
  cases fl with
  | ret u=>exact I.after hq
  | next=>exact False.elim hq
  | brk=>exact False.elim hq
  | cont=>exact False.elim hq
theorem AO (F:Ae X.prog X.w X.K X.mg X.base CX k f fd ps sp) (hr:Room k X.A) (hg:Gl X x) (hm:X.mg x=some (.ref f)) (hk:W.keepIn X.K (.ref f)=true) (hb:Binds X.K fd ps ds) (hd:Vals dvs ds) (hx:BQ CX X E)
  (ha:PA X (e :: es) t) (hdb:(x == ("__debug__" : Str))=false:=by decide) (he:starEach (e :: es) X.env=(false,eval e X.env) :: starEach es X.env:=by rfl) (hpl:(backTo pos (starEach es X.env)).any (·.1)=false:=by rfl) :
  PE X (.Call (.Name x p) (e :: es) [] pos) (RQ sp dvs E t):=by
 intro aa s σ H Q I h;refine wpAny_Call_Name_kw (Bn I hg hm ?_ hdb);refine W.callWith_K (h₀:=X.base) I.ok.mod.kin hk (thn (ha pos aa s σ H _ I h) fun us s1 ⟨vs,H1,I1,r,q⟩=>⟨I1.kIn,?_⟩) he hpl;exact IS F hr hb hd hx I1 r q
theorem Db {pl:Sem Bool} (he:PE X o ta) (c:Cls X.K C) (hm:IR X.K C m f) (F:Ae X.prog X.w X.K X.mg X.base CX k f fd ps sp) (hr:Room k X.A) (hb:Binds X.K fd ps ds) (hd:Vals dvs ds) (hx:BQ CX X E) (ha:PA X (e :: es) t)
  (hst:starEach (e :: es) X.env=(false,eval e X.env) :: starEach es X.env:=by rfl) (hpl:(backTo pos (starEach es X.env)).any (·.1)=false:=by rfl)
  (ht:eval (.Call (.Attribute o m apos) (e :: es) [] pos) X.env=(do
   let ov ← eval o X.env
   standAt apos.atName
   let (f,first) ← holding [ov] (getMethod ov m pl)
   callWith pos f first (backTo pos (starEach (e :: es) X.env)) (backToKw pos (keywordEach [] X.env))):=by rfl) :
  PE X (.Call (.Attribute o m apos) (e :: es) [] pos) (LX C m sp dvs E ta t):=by
 intro aa s σ H Q I h;refine W.methodCall_KW (pl:=pl) (thn (he aa s σ H _ I h) fun u s1 ⟨x,H1,I1,rx,a,dx,fs,ex,ea,l,q⟩=>?_) ht;subst ex;obtain rfl:u=Value.ref a:=rx;refine F1 I1 ea c hm l ?_;refine W.callWith_K (first:=[.ref a]) (h₀:=X.base) I.ok.mod.kin hm.kp (thn (ha pos aa s1 σ H1 _ I1 q) fun us s2 ⟨vs,H2,I2,r,q2⟩=>⟨I2.kIn,?_⟩) hst hpl;exact IS (us:=.ref a :: us) (vs:=.ref a :: vs) F hr hb hd hx I2 (.cons rfl r) q2
theorem As {pl:Sem Bool} (he:PE X o ta) (c:Cls X.K C) (hm:IR X.K C m f) (F:Ae X.prog X.w X.K X.mg X.base CX k f fd ps sp) (hr:Room k X.A) (hb:Binds X.K fd ps ds) (hd:Vals dvs ds) (hx:BQ CX X E)
  (ht:eval (.Call (.Attribute o m apos) [] [] pos) X.env=(do
   let ov ← eval o X.env
   standAt apos.atName
   let (f,first) ← holding [ov] (getMethod ov m pl)
   callWith pos f first (backTo pos (starEach [] X.env)) (backToKw pos (keywordEach [] X.env))):=by rfl) :
  PE X (.Call (.Attribute o m apos) [] [] pos) (LX C m sp dvs E ta CN):=by
 intro aa s σ H Q I h;refine W.methodCall_KW (pl:=pl) (thn (he aa s σ H _ I h) fun u s1 ⟨x,H1,I1,rx,a,dx,fs,ex,ea,l,q⟩=>?_) ht;subst ex;obtain rfl:u=Value.ref a:=rx;refine F1 I1 ea c hm l ?_;exact W.callWith_K0 (first:=[.ref a]) I1.kIn hm.kp (IS (us:=[.ref a]) (vs:=[.ref a]) F hr hb hd hx I1 (.cons rfl .nil) q)
structure Mk (K:FG) (C f:Addr):Prop where
 makes:W.makesIn K C=true
 init:W.findIn K (.ref C) "__init__" = some (some (.ref f))
 fn:W.isFn K (.ref f)=true
 kp:W.keepIn K (.ref C)=true
theorem N6 {Q:VK} {vs:List V} (M:Mk X.K C f) (F:Ae X.prog X.w X.K X.mg X.base CX k f fd ps sp) (hr:Room (k + 1) X.A) (hb:Binds X.K fd ps ds) (hd:Vals dvs ds)
  (hx:BQ CX X E) (I:Inv X aa σ H s) (r:Vals vs us)
  (h:∀ x dx,H x=none->H dx=none->dx ≠ x->sp (.ref x :: (vs++dvs)) (upd (upd H dx (.own x)) x (.ins C dx [])) (fun v H2=>v=.non/\Q (.ref x) H2) E) :
  wpAny (model X.prog X.w) X.A (call (.ref C) us) (EP X aa σ Q) X.xe s:=by
 have hq:=h (s.heap.objs.size + 1) s.heap.objs.size (I.hok.fresh (Nat.le_succ _)) (I.hok.fresh (Nat.le_refl _)) (Nat.ne_of_lt (Nat.lt_succ_self _));have I2:=Inv.made (C:=C) I;have r2:Vals (V.ref (s.heap.objs.size + 1) :: (vs++dvs)) (Value.ref (s.heap.objs.size + 1) :: (us++ds)):=.cons rfl (r.append hd)
 have hl:(Value.ref (s.heap.objs.size + 1) :: us++ds).length=ps.length:=by
  have e:=r2.length;rw [F.len _ _ _ _ hq] at e;exact e.symm
 refine wpAny_call (JR (f:=f) I.kIn M.makes M.init (beq_iff_eq.mp M.fn) (codeAny_mono (F.run _ X.stack _ _ ⟨Value.ref (s.heap.objs.size + 1) :: us,[]⟩ (Value.ref (s.heap.objs.size + 1) :: (us++ds)) _ _ E (hr.make C us [])
  (I2.env0.make C us []) (hb _ (Value.ref (s.heap.objs.size + 1) :: us) I2.kIn hl) r2 hq) fun r s' hq'=>?_))
 cases r with
 | error e=>exact hx aa σ _ _ e s' I2 hq'
 | ok fl =>
  cases fl with
  | ret u =>
   obtain ⟨v,H',I3,rv,ev,q3⟩:=I2.after hq';subst ev;exact ⟨rv,⟨V.ref (s.heap.objs.size + 1),H',I3,rfl,q3⟩⟩
  | next=>exact False.elim hq'
  | brk=>exact False.elim hq'
  | cont=>exact False.elim hq'
theorem Fa (M:Mk X.K C f) (F:Ae X.prog X.w X.K X.mg X.base CX k f fd ps sp) (hr:Room (k + 1) X.A) (hg:Gl X x) (hm:X.mg x=some (.ref C)) (hb:Binds X.K fd ps ds) (hd:Vals dvs ds) (hx:BQ CX X E)
  (ha:PA X (e :: es) t) (hdb:(x == ("__debug__" : Str))=false:=by decide) (he:starEach (e :: es) X.env=(false,eval e X.env) :: starEach es X.env:=by rfl) (hpl:(backTo pos (starEach es X.env)).any (·.1)=false:=by rfl) :
  PE X (.Call (.Name x p) (e :: es) [] pos) (TB C sp dvs E t):=by
 intro aa s σ H Q I h;refine wpAny_Call_Name_kw (Bn I hg hm ?_ hdb);refine W.callWith_K (h₀:=X.base) I.ok.mod.kin M.kp (thn (ha pos aa s σ H _ I h) fun us s1 ⟨vs,H1,I1,r,q⟩=>⟨I1.kIn,?_⟩) he hpl;exact N6 M F hr hb hd hx I1 r q
end
def PK (X:Cx) (kws:List Keyword) (t:TA):Prop :=
 ∀ (pos:Pos) (aa:LO) (s:Shared) (σ:St) (H:Hp) (Q:List V->Hp->Prop),Inv X aa σ H s->t σ H Q->wpAny (model X.prog X.w) X.A (evalAll ((backToKw pos (keywordEach kws X.env)).map (·.2))) (AP X aa σ Q) X.xe s
section
variable {CX:CXT} {k:Nat} {fd:FuncData} {ps ks:List Str} {sp:Sp} {E:XK} {m:Str} {p apos kpos:Pos} {o:Expr} {es:List Expr} {kws:List Keyword} {ta:TE} {t tk:TA} {nm:Option Str}
theorem N7:PK X [] CN:=fun _ _ _ _ H Q I h=>wpAny_evalAll_nil ⟨[],H,I,.nil,h⟩
theorem LY (ha:PE X e te) (hr:PK X kws t):PK X (⟨nm,e,kpos⟩ :: kws) (Ar te t):=by
 intro pos aa s σ H Q I h;show wpAny _ _ (evalAll ((do let v ← eval e X.env; standAt pos; pure v) :: (backToKw pos (keywordEach kws X.env)).map (·.2))) _ _ s;refine wpAny_evalAll_cons (wpAny_bind (thn (ha aa s σ H _ I h) fun u s1 ⟨x,H1,I1,r1,q1⟩=>wpAny_bind (wpAny_standAt (wpAny_pure ?_))));exact thn (hr pos aa s1 σ H1 _ I1 q1) fun us s2 ⟨xs,H2,I2,r2,q2⟩=>⟨x :: xs,H2,I2,.cons r1 r2,q2⟩
structure KZ (K:FG) (fd:FuncData) (ps ks:List Str) (g:List Value->List Value->List Value) (gV:List V->List V->List V):Prop where
 to:∀ (s:Shared) (us ws:List Value),K.In s.heap->(g us ws).length=ps.length->BindsTo s fd ⟨us,ks.zip ws⟩ (ps.zip (g us ws))
 rel:∀ {vs:List V} {us:List Value} {zs:List V} {ws:List Value},Vals vs us->Vals zs ws->Vals (gV vs zs) (g us ws)
variable {g:List Value->List Value->List Value} {gV:List V->List V->List V}
end
structure AK (N P:List Str) (sc:Scope):Prop where
 kind:sc.kind=.function
 co:sc.isCoroutine=false
 gen:sc.isGenerator=false
 nd:N.Nodup
 pre:N.take P.length=P
 par:∀ x ∈ P,sc.names.lookup x=some .local\/sc.names.lookup x=some .cell
 nofree:∀ y ∈ sc.names,y.2 ≠ .free
theorem fsc {N P:List Str} {sc:Scope} (a:sc.kind=.function:=by exact rfl) (b:sc.isCoroutine=false:=by exact rfl) (c:sc.isGenerator=false:=by exact rfl) (d:N.Nodup:=by decide +kernel) (e:N.take P.length=P:=by exact rfl) (f:∀ x ∈ P,sc.names.lookup x=some .local\/sc.names.lookup x=some .cell:=by decide +kernel) (g:∀ y ∈ sc.names,y.2 ≠ .free:=by decide +kernel):AK N P sc:=⟨a,b,c,d,e,f,g⟩
theorem Hl {kindOf:Str->Option NameKind} {x:Str}:∀ {binds:List (Str × Value)} {m:SV},(∀ v,(x,v) ∉ binds)->bindL kindOf binds m x=m x
  | [],_,_=>rfl
  | (n,v) :: r,m,h=>by
    unfold bindL;rw [Hl fun w hw=>h w (mem_cons_of_mem _ hw)];split
    · have:x ≠ n:=by rintro rfl; exact h v mem_cons_self
      simp [this]
    · rfl
theorem Hm {kindOf:Str->Option NameKind} {x:Str}:∀ {binds:List (Str × Value)} {m:SV},(∀ v,(x,v) ∉ binds)->bindC kindOf binds m x=m x
  | [],_,_=>rfl
  | (n,v) :: r,m,h=>by
    unfold bindC;rw [Hm fun w hw=>h w (mem_cons_of_mem _ hw)];split
    · rfl
    · have:x ≠ n:=by rintro rfl; exact h v mem_cons_self
      simp [this]
theorem Hn {kindOf:Str->Option NameKind} {x:Str} {v:Value}:∀ {P:List Str} {vs:List Value} {i:Nat} {m:SV},P.Nodup->P[i]?=some x->vs[i]?=some v->kindOf x=some .local ->
  bindL kindOf (P.zip vs) m x=some v
 | [],_,_,_,_,h,_,_=>by simp at h
 | _ :: _,[],_,_,_,_,h,_=>by simp at h
 | p :: P,w :: vs,0,m,nd,h1,h2,hk=>by
  simp at h1 h2; subst h1; subst h2;show bindL kindOf ((p,w) :: P.zip vs) m p=_;unfold bindL;rw [Hl fun v hv=>(nodup_cons.mp nd).1 (of_mem_zip hv).1,if_pos hk];simp
 | p :: P,w :: vs,i + 1,m,nd,h1,h2,hk=>by
  show bindL kindOf ((p,w) :: P.zip vs) m x=_;unfold bindL;exact Hn (i:=i) (nodup_cons.mp nd).2 (by simpa using h1) (by simpa using h2) hk
theorem Ho {kindOf:Str->Option NameKind} {x:Str} {v:Value}:∀ {P:List Str} {vs:List Value} {i:Nat} {m:SV},P.Nodup->P[i]?=some x->vs[i]?=some v->kindOf x ≠ some .local ->
  bindC kindOf (P.zip vs) m x=some v
 | [],_,_,_,_,h,_,_=>by simp at h
 | _ :: _,[],_,_,_,_,h,_=>by simp at h
 | p :: P,w :: vs,0,m,nd,h1,h2,hk=>by
  simp at h1 h2; subst h1; subst h2;show bindC kindOf ((p,w) :: P.zip vs) m p=_;unfold bindC;rw [Hm fun v hv=>(nodup_cons.mp nd).1 (of_mem_zip hv).1,if_neg hk];simp
 | p :: P,w :: vs,i + 1,m,nd,h1,h2,hk=>by
  show bindC kindOf ((p,w) :: P.zip vs) m x=_;unfold bindC;exact Ho (i:=i) (nodup_cons.mp nd).2 (by simpa using h1) (by simpa using h2) hk
noncomputable def BZ (N:List Str) (vs:List V):St:=vs.map some++List.replicate (N.length - vs.length) none
noncomputable def BH (CX:CXT) (P:Program) (w:World) (K:FG) (mg:SV) (base:Heap) (N:List Str) (qual:Str) (scope:Scope) (f:Addr) (cd:Value) (A:Around) (outer:List Env) (s:Shared) (H:Hp) (E:XK):Cx where
 prog:=P
 w:=w
 K:=K
 mg:=mg
 base:=base
 A:=A.deeper (envOfC qual scope s.heap.objs.size f cd)
 N:=N
 s₀:=s
 H₀:=H
 env:=envOfC qual scope s.heap.objs.size f cd
 outer:=outer
 stack:=envOfC qual scope s.heap.objs.size f cd :: outer
 ex:=[]
 calm:=true
 fn:=fun _=>true
 pn:=[]
 xe:=fun e s'=>wpAny (model P w) (A.deeper (envOfC qual scope s.heap.objs.size f cd)) (leaving (envOfC qual scope s.heap.objs.size f cd) e) (fun _ s''=>CX outer H s E e s'') (fun e' s''=>CX outer H s E e' s'') s'
theorem JS {sc:Scope} {n:Nat} (h:sc.names.lookup x=some .cell):∃ c,(cellsFrom n sc.names []).lookup x=some c:=by
 have q:=W.cellsFrom_some sc.names n [] (.inl h);exact Option.isSome_iff_exists.mp q
theorem Ew {CX:CXT} {ps:List Str} {qual:Str} {scope:Scope} {cd:Value} {outer:List Env} {s1:Shared} {E:XK} {vs:List V}
  (S:AK N ps scope) (hd:A.handled=none) (e0:Env0 P w K mg base A outer s H) (hl:vs.length=ps.length) (r:Vals vs us)
  (x:InCallC s s.heap.objs.size (bindL (envOfC qual scope s.heap.objs.size f cd).kindOf (ps.zip us) fun _=>none) (cellsFrom (s.heap.objs.size + 1) scope.names []) (bindC (envOfC qual scope s.heap.objs.size f cd).kindOf (ps.zip us) fun _=>none) s1) :
  Inv (BH CX P w K mg base N qual scope f cd A outer s H E) [] (BZ N vs) H s1:=by
 have hpl:ps.length <= N.length:=by have:=congrArg List.length S.pre; rw [length_take] at this; omega
 obtain ⟨h1,tk,rfl,hk⟩:=x.done;have noA:∀ b:Addr,b ∉ (BH CX P w K mg base N qual scope f cd A outer s H E).ex:=fun b z=>absurd (show b ∈ ([]:List Addr) from z) (by simp)
 refine ⟨⟨e0.mod,S.kind,rfl,rfl,Nat.le_refl _,fun y z c h1 h2=>?_,fun y hy=>?_,fun y c _ h=>?_,fun _=>hd,Around.frames_deeper e0.frames,.inr ⟨rfl,rfl⟩,fun b z=>absurd z (noA b),e0.bs,e0.bsz,fun b _ _=>noA b,fun b z=>absurd z (noA b),e0.funs,e0.frf⟩,
  rfl,e0.bare,Un.kept hk,⟨_,x.toInCall.ns,fun i y v h1 h2 h3=>?_⟩,fun y c h=>⟨_,x.cell y c h⟩,e0.hok.fresh (Nat.le_refl _),fun y c h=>?_,fun p hp=>absurd (show p ∈ ([]:LO) from hp) (by simp),e0.hok.kept hk,?_⟩
 ·exact name_of_addr x.apart (PySem.mem_of_lookup h1) (PySem.mem_of_lookup h2)
 ·have hy:scope.names.lookup y=some .cell\/scope.names.lookup y=some .free:=hy;rcases hy with hy | hy
  ·exact JS hy
  ·exact absurd rfl (S.nofree _ (PySem.mem_of_lookup hy))
 ·exact Nat.le_of_lt (x.above y c (PySem.mem_of_lookup h))
 ·have hi:i < vs.length:=by
   unfold BZ at h2;by_cases hi:i < vs.length
   ·exact hi
   ·rw [getElem?_append_right (by simpa using hi)] at h2;rw [List.getElem?_replicate] at h2;split at h2 <;> cases h2
  have ha:vs[i]?=some v:=by
   unfold BZ at h2;rw [getElem?_append_left (by simpa using hi),getElem?_map] at h2;cases e:vs[i]? with
   | none=>rw [e] at h2; cases h2
   | some a=>rw [e] at h2; cases h2; rfl
  obtain ⟨u,hu,rv⟩:=r.get ha
  have hp:ps[i]?=some y:=by
   rw [← S.pre,List.getElem?_take_of_lt (by omega)]; exact h1
  have ndP:ps.Nodup:=by rw [← S.pre]; exact S.nd.sublist (List.take_sublist _ _)
  refine ⟨u,rv,?_⟩;rcases S.par y (mem_of_getElem? hp) with k | k
  ·exact .inl ⟨k,Hn ndP hp hu k⟩
  ·obtain ⟨c,e⟩:=JS (n:=s.heap.objs.size + 1) k;refine .inr ⟨.inl k,c,e,?_⟩;have q:=x.cell y c e;rw [Ho ndP hp hu (by show scope.names.lookup y ≠ _; rw [k]; decide)] at q;exact q
 ·exact e0.hok.fresh (Nat.le_of_lt (x.above y c (PySem.mem_of_lookup h)))
 ·unfold BZ;show _=N.length;rw [length_append,AI,List.length_replicate];omega
theorem LZ {CX:CXT} {k:Nat} {name qual:Str} {params:Arguments} {body:List Stmt} {scope:Scope} {dV kV doc pm ad ct oc:Value} {an od:Option Addr}
  {osl:Array (Option Value)} {N ps:List Str} {sp:Sp} (lk:K.lookup f=some ⟨oc,od,.func (W.fnOf name qual params body scope dV kV doc pm an ad ct),osl⟩) (hcd:W.codeIn K ad qual=true) (S:AK N ps scope)
  (len:∀ vs H Q E,sp vs H Q E->vs.length=ps.length)
  (be:∀ (A:Around) (outer:List Env) (s:Shared) (H:Hp) (vs:List V) (Q:VK) (E:XK),Room k (A.deeper (envOfC qual scope s.heap.objs.size f ad))->sp vs H Q E ->
   ∃ t,PSs (BH CX P w K mg base N qual scope f ad A outer s H E) body t/\t { nx:=fun _ H'=>Q .non H',rt:=Q } (BZ N vs) H) :
  Ae P w K mg base CX (k + 1) f (W.fnOf name qual params body scope dV kV doc pm an ad ct) ps sp:=by
 refine ⟨len,fun A outer s H args us vs Q E hr e0 hb r hsp=>?_⟩;have hl:=len _ _ _ _ hsp;have KX:K.In s.heap:=e0.mod.kin.keeps fun b o e=>(e0.bs b o e).1;have lim:s.heap.NoLimit:=e0.mod.nolimit.keeps fun b o e=>(e0.bs b o e).1
 have hkind:∀ y ∈ ps.zip us,scope.names.lookup y.1=some .local\/(scope.names.lookup y.1=some .cell/\((cellsFrom (s.heap.objs.size + 1) scope.names []).lookup y.1).isSome=true):=fun ⟨n,v⟩ hy=>by
  rcases S.par n (of_mem_zip hy).1 with q | q
  ·exact .inl q
  ·exact .inr ⟨q,W.cellsFrom_some _ _ _ (.inl q)⟩
 refine codeAny_call_function hr.depth (KX _ _ lk) rfl S.co S.gen rfl (W.codeRec_of KX hcd) (hb _ _ _ _ ?_);refine wpAny_newFunctionEnv_cells S.kind hkind fun env he s1 x=>?_;subst he;refine ⟨lim.keeps x.toInCall.keep,codeAny_func ?_⟩;obtain ⟨t,ht,hq⟩:=be A outer s H vs Q E (hr.deeper _) hsp;have I:Inv (BH CX P w K mg base N qual scope f ad A outer s H E) [] (BZ N vs) H s1:=Ew S hr.hd e0 hl r x;refine wpAny_mono (ht [] s1 (BZ N vs) H _ I hq) (fun fl s' hs=>?_) fun e s' hs=>hs
 have fin:∀ {σ':St} {H':Hp} {v:V} {u:Value},Inv (BH CX P w K mg base N qual scope f ad A outer s H E) [] σ' H' s'->RelV v u->Q v H'->CE outer P w H s Q u s' :=
  fun {σ' H' v u} J rv q=>⟨v,H',J.os,J.bare,J.base,J.hok,rv,q⟩
 cases fl with
 | ret u =>
  obtain ⟨v,σ',H',J,rv,q⟩:=hs;exact fin J rv q
 | next =>
  obtain ⟨σ',H',J,q⟩:=hs;exact fin (v:=V.non) (u:=Value.none) J rfl q
 | brk =>
  obtain ⟨_,_,_,q⟩:=hs;exact False.elim q
 | cont =>
  obtain ⟨_,_,_,q⟩:=hs;exact False.elim q
end L2
namespace L2
open PySem PySem.Spec PyProof.Rows
section
variable {p:Pos} {es:List Expr} {t:TA} {id T:String} {r:List V->Hp->VK->Prop}
def tCB (r:List V->Hp->VK->Prop) (t:TA):TE:=fun σ H Q=>t σ H fun vs H1=>r vs H1 Q
theorem AV (hc:BY X (.builtin id) r) (hg:Gl X x) (hm:X.mg x=none) (hv:bootBuiltins x=some (.builtin id)) (ha:PA X (e :: es) t) (hn:x ≠ "__name__" := by decide) (hdb:(x == ("__debug__" : Str))=false:=by decide)
  (he:starEach (e :: es) X.env=(false,eval e X.env) :: starEach es X.env:=by rfl) (hpl:(backTo pos (starEach es X.env)).any (·.1)=false:=by rfl):PE X (.Call (.Name x p) (e :: es) [] pos) (tCB r t):=by
 intro aa s σ H Q I h;refine wpAny_Call_Name_kw (Ch I hg hm hv ?_ hn hdb);exact PyProof.Rows.callWith_builtin1 (thn (ha pos aa s σ H _ I h) fun us s1 ⟨vs,H1,I1,r1,q1⟩=>hc aa s1 σ H1 vs us Q I1 r1 q1) he hpl
theorem B1 (hc:BY X (.type T) r) (hg:Gl X x) (hm:X.mg x=none) (hv:bootBuiltins x=some (.type T)) (ha:PA X (e :: es) t) (hn:x ≠ "__name__" := by decide) (hdb:(x == ("__debug__" : Str))=false:=by decide)
  (he:starEach (e :: es) X.env=(false,eval e X.env) :: starEach es X.env:=by rfl) (hpl:(backTo pos (starEach es X.env)).any (·.1)=false:=by rfl):PE X (.Call (.Name x p) (e :: es) [] pos) (tCB r t):=by
 intro aa s σ H Q I h;refine wpAny_Call_Name_kw (Ch I hg hm hv ?_ hn hdb);exact PyProof.Rows.callWith_type1 (thn (ha pos aa s σ H _ I h) fun us s1 ⟨vs,H1,I1,r1,q1⟩=>hc aa s1 σ H1 vs us Q I1 r1 q1) he hpl
end
end L2
namespace HT
open PySem PyProof.Rows
section
variable {prog:Program}
theorem cat_tup {t b:Addr} {vs ws:List Value} {Q:Ab} (ht:IsTup s.heap t vs.toArray) (hb:IsTup s.heap b ws.toArray) (hv:vs ≠ [])
  (h1:ws=[]->Q (.ref t) s) (h2:ws ≠ []->Q (.ref s.heap.objs.size) { s with heap:=s.heap.push { cls:=.type "tuple", data:=.seq (vs++ws).toArray } })
  (hsz:vs.length + ws.length <= sizeLine):wpAny (model prog w) A (binaryOp .Add (.ref t) (.ref b)) Q E s:=by
 obtain ⟨⟨cls,dd,data,sl⟩,ho,hc,n,hd⟩:=id ht;obtain ⟨⟨cls2,dd2,data2,sl2⟩,ho2,hc2,n2,hd2⟩:=id hb;simp only at hc hd hc2 hd2;subst hc hd hc2 hd2;have e:vs.toArray++ws.toArray=(vs++ws).toArray:=by simp
 by_cases hw:ws=[]
 ·exact concat_meets ⟨_,ho,rfl⟩ ⟨_,ho2,rfl⟩ noFill_tuple_add seq_tuple_add PySem.F.slot_tuple_add PySem.F.entry_tuple_add (PySem.F.args_tuple_add_2 _ _)
   (tuple_addW1 t b vs.toArray ws.toArray n n2 dd dd2 sl sl2 (by simpa using hv) (by simp [hw])) ⟨ho,ho2,h1 hw⟩
 ·refine concat_meets ⟨_,ho,rfl⟩ ⟨_,ho2,rfl⟩ noFill_tuple_add seq_tuple_add PySem.F.slot_tuple_add PySem.F.entry_tuple_add (PySem.F.args_tuple_add_2 _ _)
   (tuple_addW2 t b vs.toArray ws.toArray n n2 dd dd2 sl sl2 (by simpa using hv) (by simpa using hw) (by rw [size_toArray,size_toArray]; exact hsz)) ⟨ho,ho2,?_⟩
  rw [e];exact h2 hw
noncomputable def sIx (n d:Nat):Option Int->Nat
 | none=>d
 | some v=>if v < 0 then (v + (n:Int)).toNat else min v.toNat n
end
end HT
namespace L2
open PySem PySem.Spec PyProof.Rows
abbrev TO:=St->Hp->(Option Int->Hp->Prop)->Prop
def PO (X:Cx) (e:Option Expr) (t:TO):Prop :=
 ∀ (aa:LO) (s:Shared) (σ:St) (H:Hp) (Q:Option Int->Hp->Prop),Inv X aa σ H s->t σ H Q ->
  wpAny (model X.prog X.w) X.A (evalPart e X.env) (fun u s'=>∃ o H',Inv X aa σ H' s'/\IsPart u o/\Q o H') X.xe s
def P2:TO:=fun _ H Q=>Q none H
def TC (t:TE):TO:=fun σ H Q=>t σ H fun x H1=>∃ i,x=.int i/\Q (some i) H1
theorem Cl {ns:List Int}:∀ {us:List Value},Vals (ns.map V.int) us->IntsAre us ns:=by
 induction ns with
 | nil=>intro us r; rw [map_nil] at r; cases r; exact .nil
 | cons n ns ih =>
  intro us r;rw [map_cons] at r;cases r with
  | cons r1 r2 =>
   obtain ⟨t,e⟩:=r1;subst e;exact .cons n t (ih r2)
section
variable {lo hi:Option Expr} {tl th:TO} {p2:Pos}
theorem P3:PO X none P2:=by
 intro aa s σ H Q I h;rw [evalPart_none];exact wpAny_pure ⟨none,H,I,.none,h⟩
theorem P4 (h:PE X e te):PO X (some e) (TC te):=by
 intro aa s σ H Q I hw;rw [evalPart_some];refine thn (h aa s σ H _ I hw) fun u s1 ⟨x,H1,I1,r1,q1⟩=>?_;obtain ⟨i,rfl,q⟩:=q1;obtain ⟨t,rfl⟩:=r1;exact ⟨some i,H1,I1,.int i t,q⟩
def SlR (X:Cx) (r:V->Option Int->Option Int->Hp->VK->Prop):Prop :=
 ∀ (aa:LO) (s:Shared) (σ:St) (H:Hp) (x:V) (v vl vu:Value) (lo hi:Option Int) (sl:Addr) (Q:VK),Inv X aa σ H s->RelV x v->s.heap.IsSliceOf sl vl vu .none->IsPart vl lo->IsPart vu hi->r x lo hi H Q ->
  ∃ T id,typeLookup (.type T) "__getitem__" = pure (some (.builtin id))/\s.TypeIs v T/\wpAny (model X.prog X.w) X.A (getItem v (.ref sl)) (EP X aa σ Q) X.xe s
def tSl (r:V->Option Int->Option Int->Hp->VK->Prop) (te:TE) (tl th:TO):TE:=fun σ H Q=>te σ H fun x H1=>tl σ H1 fun l H2=>th σ H2 fun u H3=>r x l u H3 Q
theorem N8 {r:V->Option Int->Option Int->Hp->VK->Prop} (hr:SlR X r) (he:PE X e te) (hl:PO X lo tl) (hu:PO X hi th):PE X (.Subscript e (.Slice lo hi none p2) pos) (tSl r te tl th):=by
 intro aa s σ H Q I h;refine Subscript_ (thn (he aa s σ H _ I h) fun v s1 ⟨x,H1,I1,r1,q1⟩=>?_);refine wpAny_Slice (thn (hl aa s1 σ H1 _ I1 q1) fun vl s2 ⟨l,H2,I2,pl,q2⟩=>thn (hu aa s2 σ H2 _ I2 q2) fun vu s3 ⟨u,H3,I3,pu,q3⟩=>?_);rw [evalPart_none];refine wpAny_pure ?_;have I4:Inv X aa σ H3 { s3 with heap:=s3.heap.push { cls:=.type "slice", data:=.fields #[vl,vu,.none] } }:=I3.kept (t':=s3.toks) fun b ob q=>get?_push_of_some _ q;obtain ⟨T,id,hT,ht,hg⟩:=hr aa { s3 with heap:=s3.heap.push { cls:=.type "slice", data:=.fields #[vl,vu,.none] } } σ H3 x v vl vu l u s3.heap.objs.size Q I4 r1 (Heap.IsSliceOf.new ..) pl pu q3;show wpAny (model X.prog X.w) X.A (subscriptTail e (.Slice lo hi none p2) v (.ref s3.heap.objs.size)) (EP X aa σ Q) X.xe { s3 with heap:=s3.heap.push { cls:=.type "slice", data:=.fields #[vl,vu,.none] } };exact tail_any (ops:=[.ref s3.heap.objs.size,v]) ht hT hg (by with_unfolding_all rfl)
noncomputable def Mc (xs:List V) (lo hi:Option Int):List V:=(xs.drop (HT.sIx xs.length 0 lo)).take (HT.sIx xs.length xs.length hi - HT.sIx xs.length 0 lo)
theorem JT (xs:List V) (lo hi:Option Int):(Mc xs lo hi).length <= xs.length:=by
 unfold Mc;rw [length_take,List.length_drop];omega
def La (K:FG):R2:=fun x y H Q=>∃ a b xs ys,x=.ref a/\y=.ref b/\SqT K H a xs/\SqT K H b ys/\xs ≠ []/\xs.length + ys.length <= sizeLine /\
 (ys=[]->Q (.ref a) H)/\(ys ≠ []->∀ p,H p=none->Q (.ref p) (upd H p (.tup (xs++ys))))
theorem Vals.nil_iff (r:Vals xs us):us=[] ↔ xs=[]:=by
 cases r with
 | nil=>simp
 | cons _ _=>simp
theorem P5:OpR X (binaryOp .Add) (La X.K):=by
 intro aa s σ H x y v u Q I rx ry h;obtain ⟨a,b,xs,ys,rfl,rfl,ha,hb,hx,hz,q1,q2⟩:=h;cases rx;cases ry;obtain ⟨its,r1,p1,_⟩:=I.tuple ha;obtain ⟨its2,r2,p2,_⟩:=I.tuple hb;refine HT.cat_tup p1 p2 (fun z=>hx (r1.nil_iff.mp z)) (fun z=>⟨.ref a,H,I,rfl,q1 (r2.nil_iff.mp z)⟩) (fun z=>?_) (by rw [← r1.length,← r2.length]; exact hz);refine ⟨.ref s.heap.objs.size,_,I.laid (t':=s.toks) (o:=.tup (xs++ys)) (fun b ob q=>get?_push_of_some _ q) (Nat.le_refl _) ?_,rfl,q2 (fun w=>z (r2.nil_iff.mpr w)) _ (I.hok.fresh (Nat.le_refl _))⟩;exact ⟨by rw [length_append]; exact hz,_,r1.append r2,IsTup.new _ _⟩
end
end L2
namespace L2
open PySem PySem.Spec PyProof.Rows
noncomputable def ixN (n:Nat) (i:Int):Option Nat:=if 0 <= i then (if i < n then some i.toNat else none) else if -(n:Int) <= i then some (i + n).toNat else none
noncomputable def atI {α:Type} (xs:List α) (i:Int):Option α:=(ixN xs.length i).bind fun j=>xs[j]?
theorem Lb {n:Nat} {i:Int} {j:Nat} (h:ixN n i=some j):seqIndex? i n=some j/\j < n/\-(n:Int) <= i/\i < n:=by
 unfold ixN at h;by_cases h0:0 <= i
 ·rw [if_pos h0] at h;by_cases h1:i < n
  ·rw [if_pos h1] at h;have e:i.toNat=j:=Option.some.inj h;exact ⟨by rw [seqIndex_of h0 h1,e],by omega,by omega,h1⟩
  ·rw [if_neg h1] at h; cases h
 ·rw [if_neg h0] at h;by_cases h1:-(n:Int) <= i
  ·rw [if_pos h1] at h;have e:(i + n).toNat=j:=Option.some.inj h;exact ⟨by rw [seqIndex_neg (by omega) h1,e],by omega,h1,by omega⟩
  ·rw [if_neg h1] at h; cases h
theorem Lc {α:Type} {xs:List α} {i:Int} {v:α} (h:atI xs i=some v):∃ j,seqIndex? i xs.length=some j/\xs[j]?=some v/\j < xs.length/\-(xs.length:Int) <= i/\i < xs.length:=by
 unfold atI at h;cases e:ixN xs.length i with
 | none=>rw [e] at h; cases h
 | some j =>
  rw [e] at h;obtain ⟨h1,h2,h3,h4⟩:=Lb e;exact ⟨j,h1,h,h2,h3,h4⟩
theorem A1 {α:Type} {xs:List α} {j:Nat} {v:α} (h:xs[j]?=some v):atI xs (j:Int)=some v:=by
 have hj:j < xs.length:=(List.getElem?_eq_some_iff.mp h).1
 have e:ixN xs.length (j:Int)=some j:=by
  unfold ixN;rw [if_pos (by omega),if_pos (by omega)]; simp
 unfold atI; rw [e]; exact h
def P6 (b:Expr):Prop:=∀ o i,subscripted b false o i=operate [o,i] (getItem o i)
def IxR (X:Cx) (r:R2):Prop :=
 ∀ (value slice:Expr) (aa:LO) (s:Shared) (σ:St) (H:Hp) (x y:V) (v u:Value) (Q:VK),Inv X aa σ H s->RelV x v->RelV y u->r x y H Q ->
  subscripted slice false v u=operate [v,u] (getItem v u)->wpAny (model X.prog X.w) X.A (subscriptTail value slice v u) (EP X aa σ Q) X.xe s
def MtR (X:Cx) (id:String) (r:V->List V->Hp->VK->Prop):Prop :=
 ∀ (aa:LO) (s:Shared) (σ:St) (H:Hp) (x:V) (xs:List V) (v:Value) (us:List Value) (Q:VK),Inv X aa σ H s->RelV x v->Vals xs us->r x xs H Q ->
  wpAny (model X.prog X.w) X.A (call (.builtin id) (v :: us)) (EP X aa σ Q) X.xe s
section
variable {a b:Expr} {ta tb:TE}
theorem BD {r:R2} (hr:IxR X r) (ha:PE X a ta) (hb:PE X b tb) (hs:P6 b):PE X (.Subscript a b pos) (tOp r ta tb):=by
 intro aa s σ H Q I h;exact Subscript_ (Rn ha hb I h fun v u s2 x y H2 I2 rx ry q=>hr a b aa s2 σ H2 x y v u Q I2 rx ry q (hs _ _))
def TD (K:FG):R2:=fun x y H Q=>∃ p xs i v,x=.ref p/\y=.int i/\SqL K H p xs/\atI xs i=some v/\Q v H
def TF (K:FG):R2:=fun x y H Q=>∃ p xs i v,x=.ref p/\y=.int i/\SqT K H p xs/\atI xs i=some v/\Q v H
theorem P7:IxR X (TD X.K):=by
 intro value slice aa s σ H x y v u Q I rx ry h hs;obtain ⟨p,xs,i,z,rfl,rfl,hq,he,q⟩:=h;cases rx;obtain ⟨t,rfl⟩:=ry;obtain ⟨its,r,pl,hz⟩:=I.list hq;obtain ⟨j,h1,h2,h3,h4,h5⟩:=Lc he;obtain ⟨w,ew,rw'⟩:=r.get h2;have hl:=r.length;have hn:=Fz;have fin:EP X aa σ Q w s:=⟨z,H,I,rw',q⟩;by_cases h0:0 <= i
 ·have hj:i.toNat=j:=by
   rw [seqIndex_of h0 h5] at h1;exact Option.some.inj h1
  exact item_listR pl.isList h0 (by omega) (by rw [hj]; simpa using ew) fin hs
 ·have hj:(i + (its.toArray.size:Int)).toNat=j:=by
   rw [seqIndex_neg (by omega) h4] at h1;rw [size_toArray,← hl];exact Option.some.inj h1
  exact subscriptTail_builtinR (x:=w) pl.isList.typeIs slot_list_getitem.lookup
   (wpAny_getItem_list_neg (Q:=fun r s'=>r=w/\EP X aa σ Q r s') pl.isList (by omega) (by rw [size_toArray] <;> omega) (by omega) (by rw [hj]; simpa using ew) ⟨rfl,fin⟩) hs
theorem Rq:IxR X (TF X.K):=by
 intro value slice aa s σ H x y v u Q I rx ry h hs;obtain ⟨p,xs,i,z,rfl,rfl,hq,he,q⟩:=h;cases rx;obtain ⟨t,rfl⟩:=ry;obtain ⟨its,r,pl,hz⟩:=I.tuple hq;obtain ⟨j,h1,h2,h3,h4,h5⟩:=Lc he;obtain ⟨w,ew,rw'⟩:=r.get h2;have hl:=r.length;have hn:=Fz;have fin:EP X aa σ Q w s:=⟨z,H,I,rw',q⟩
 exact subscriptTail_builtinR (x:=w) pl.typeIs slot_tuple_getitem.lookup
  (getItem_tuple (j:=j) (Q:=fun r s'=>r=w/\EP X aa σ Q r s') pl (by omega) (by omega) (by rw [size_toArray,← hl]; exact h1) (by simpa using ew) ⟨rfl,fin⟩) hs
theorem Ka (its:List Value) (n j:Nat) (u:Value):Obj.mapSeq (·.setIfInBounds j u) { cls:=.type "list", data:=.seq its.toArray n }={ cls:=.type "list", data:=.seq (its.set j u).toArray n }:=by
 simp [Obj.mapSeq]
theorem Inv.lst {aa:LO} {σ:St} {H:Hp} {s:Shared} {p:Addr} {xs:List V} (I:Inv X aa σ H s) (h:H p=some (.lst xs)) :
  ∃ (its:List Value) (n:Nat),Vals xs its/\s.heap.get? p=some { cls:=.type "list", data:=.seq its.toArray n }/\xs.length <= sizeLine:=by
 obtain ⟨z,its,n,r,e⟩:=I.hok p _ h;exact ⟨its,n,r,e,z⟩
theorem Inv.lstUpd {p:Addr} {ys:List V} {its its':List Value} {n n':Nat} {f:Obj->Obj} (I:Inv X aa σ H s) (h:H p=some (.lst xs))
  (ho:s.heap.get? p=some { cls:=.type "list", data:=.seq its.toArray n }) (hf:f { cls:=.type "list", data:=.seq its.toArray n }={ cls:=.type "list", data:=.seq its'.toArray n' }) (r:Vals ys its') (hz:ys.length <= sizeLine) (t:Nat) :
  Inv X aa σ (upd H p (.lst ys)) { s with heap:=s.heap.update p f,toks:=t }:=by
 have e:(s.heap.update p f).get? p=some { cls:=.type "list", data:=.seq its'.toArray n' }:=by
  rw [get?_update_self f ho (by rw [hf] <;> rfl),hf]
 refine I.write (x:=p) (e:=p) (by rw [h]; trivial) (.inl rfl) (fun b u hb q=>(get?_update_other _ _ (Ne.symm hb)).trans q) ⟨_,e⟩ ?_;exact ⟨hz,its',n',r,e⟩
def TH:V->V->V->Hp->(Hp->Prop)->Prop:=fun o i v H Q=>∃ p xs k j,o=.ref p/\i=.int k/\H p=some (.lst xs)/\ixN xs.length k=some j/\Q (upd H p (.lst (xs.set j v)))
theorem C9:Sx X TH:=by
 intro aa s σ H o i v ov iv u Q I ro ri rv h;obtain ⟨p,xs,k,j,rfl,rfl,hp,hj,q⟩:=h;cases ro;obtain ⟨t,rfl⟩:=ri;obtain ⟨its,n,r,ho,hz⟩:=I.lst hp;obtain ⟨h1,h2,h3,h4⟩:=Lb hj;have hl:=r.length;have hn:=Fz
 have I':Inv X aa σ (upd H p (.lst (xs.set j v))) { s with heap:=s.heap.update p (Obj.mapSeq (·.setIfInBounds j u)) } :=
  I.lstUpd hp ho (Ka its n j u) (r.set rv j) (by rw [length_set]; exact hz) s.toks
 by_cases h0:0 <= k
 ·have hk:k.toNat=j:=by
   rw [seqIndex_of h0 h4] at h1;exact Option.some.inj h1
  exact W.ki_setAt ho h0 (by omega) (by rw [size_toArray,← hl]; exact h4) (by rw [hk]; exact ⟨_,I',q⟩)
 ·have hk:(k + (its.toArray.size:Int)).toNat=j:=by
   rw [seqIndex_neg (by omega) h3] at h1;rw [size_toArray,← hl];exact Option.some.inj h1
  exact W.ki_setBack ho (by omega) (by rw [size_toArray,← hl]; exact h3) (by omega) (by rw [hk]; exact ⟨_,I',q⟩)
theorem IT (lo hi:Option Int) (n:Nat):(sliceBounds lo hi none n).1=((HT.sIx n 0 lo:Nat):Int)/\(sliceBounds lo hi none n).2.1=((HT.sIx n n hi:Nat):Int)/\(sliceBounds lo hi none n).2.2=1:=by
 refine ⟨?_,?_,rfl⟩
 ·cases lo with
  | none=>simp [sliceBounds,HT.sIx]
  | some i =>
   simp only [sliceBounds,HT.sIx,Option.getD_none,show (1:Int) > 0 by decide,if_true];by_cases h:i < 0
   ·simp only [h,if_true] <;> omega
   ·simp only [h,if_false] <;> omega
 ·cases hi with
  | none=>simp [sliceBounds,HT.sIx]
  | some i =>
   simp only [sliceBounds,HT.sIx,Option.getD_none,show (1:Int) > 0 by decide,if_true];by_cases h:i < 0
   ·simp only [h,if_true] <;> omega
   ·simp only [h,if_false] <;> omega
theorem HH (its:List Value) (lo hi:Option Int):slicePick its.toArray lo hi none=((its.drop (HT.sIx its.length 0 lo)).take (HT.sIx its.length its.length hi - HT.sIx its.length 0 lo)).toArray:=by
 obtain ⟨h1,h2,h3⟩:=IT lo hi its.toArray.size;unfold slicePick;rw [h1,h2,h3];simp only [sliceRange_one,pick_run,size_toArray] <;> rfl
def T6 (K:FG):V->Option Int->Option Int->Hp->VK->Prop:=fun x lo hi H Q=>∃ a xs,x=.ref a/\SqL K H a xs/\∀ p,H p=none->Q (.ref p) (upd H p (.lst (Mc xs lo hi)))
theorem P8:SlR X (T6 X.K):=by
 intro aa s σ H x v vl vu lo hi sl Q I rx hs pl pu h;obtain ⟨a,xs,rfl,hx,q⟩:=h;cases rx;obtain ⟨its,r,ht,hz⟩:=I.list hx;have az:=r.length;refine ⟨"list", _,slot_list_getitem.lookup,ht.isList.typeIs,?_⟩;refine wpAny_getItem_list_slice ht.isList hs pl pu .none (by simp) ?_ (by rw [size_toArray] <;> omega);rw [HH,← az];refine ⟨.ref s.heap.objs.size,_,I.laid (t':=s.toks) (o:=.lst (Mc xs lo hi)) (fun b ob q=>get?_push_of_some _ q) (Nat.le_refl _) ?_,rfl,q _ (I.hok.fresh (Nat.le_refl _))⟩;exact ⟨Nat.le_trans (JT xs lo hi) hz,_,0,(r.drop (HT.sIx xs.length 0 lo)).take (HT.sIx xs.length xs.length hi - HT.sIx xs.length 0 lo),get?_push_size _ rfl⟩
noncomputable def EQ:V->Bool
 | .non=>true
 | .bl _=>true
 | .int _=>true
 | .str _=>true
 | _=>false
noncomputable def eqV:V->V->Bool
 | .non,.non=>true
 | .bl a,.bl b=>a == b
 | .bl a,.int b=>(if a then 1 else 0) == b
 | .int a,.bl b=>a == (if b then 1 else 0)
 | .int a,.int b=>a == b
 | .str a,.str b=>a == b
 | _,_=>false
theorem Rr {y x:V} {v:Value} (ry:RelV y u) (rx:RelV x v) (fy:EQ y=true) (fx:EQ x=true):SeqAt.EqAt A s u v (eqV y x):=by
 cases y with
 | non =>
  cases ry;cases x with
  | non=>cases rx; exact SeqAt.EqAt.same _
  | bl b=>cases rx; exact SeqAt.EqAt.none_bool b
  | int b=>obtain ⟨t,rfl⟩:=rx; exact SeqAt.EqAt.none_int b t
  | str b=>obtain ⟨t,rfl⟩:=rx; exact SeqAt.EqAt.none_str b t
  | _=>exact absurd (show false=true from fx) Bool.false_ne_true
 | bl a =>
  cases ry;cases x with
  | non=>cases rx; exact SeqAt.EqAt.bool_none a
  | bl b=>cases rx; exact SeqAt.EqAt.bool_bool a b
  | int b=>obtain ⟨t,rfl⟩:=rx; exact SeqAt.EqAt.bool_int a b t
  | str b=>obtain ⟨t,rfl⟩:=rx; exact SeqAt.EqAt.bool_str a b t
  | _=>exact absurd (show false=true from fx) Bool.false_ne_true
 | int a =>
  obtain ⟨t',rfl⟩:=ry;cases x with
  | non=>cases rx; exact SeqAt.EqAt.int_none a t'
  | bl b=>cases rx; exact SeqAt.EqAt.int_bool a t' b
  | int b=>obtain ⟨t,rfl⟩:=rx; exact SeqAt.EqAt.int_int a t' b t
  | str b=>obtain ⟨t,rfl⟩:=rx; exact SeqAt.EqAt.int_str a t' b t
  | _=>exact absurd (show false=true from fx) Bool.false_ne_true
 | str a =>
  obtain ⟨t',rfl⟩:=ry;cases x with
  | non=>cases rx; exact SeqAt.EqAt.str_none a t'
  | bl b=>cases rx; exact SeqAt.EqAt.str_bool a t' b
  | int b=>obtain ⟨t,rfl⟩:=rx; exact SeqAt.EqAt.str_int a t' b t
  | str b=>obtain ⟨t,rfl⟩:=rx; exact SeqAt.EqAt.str_str a t' b t
  | _=>exact absurd (show false=true from fx) Bool.false_ne_true
 | _=>exact absurd (show false=true from fy) Bool.false_ne_true
noncomputable def eqU (x:V) (u:Value):Bool:=match u with
 | .none=>eqV .non x
 | .bool b=>eqV (.bl b) x
 | .int i _=>eqV (.int i) x
 | .str z _=>eqV (.str z) x
 | _=>false
theorem N9 {x y:V} (r:RelV y u) (f:EQ y=true):eqU x u=eqV y x:=by
 cases y with
 | non=>cases r; rfl
 | bl b=>cases r; rfl
 | int i=>obtain ⟨t,rfl⟩:=r; rfl
 | str z=>obtain ⟨t,rfl⟩:=r; rfl
 | _=>exact absurd (show false=true from f) Bool.false_ne_true
theorem IU {x:V}:∀ {xs:List V} {us:List Value},Vals xs us->xs.all EQ=true->us.any (eqU x)=xs.any fun y=>eqV y x
 | _,_,.nil,_=>rfl
 | y :: xs,u :: us,.cons r t,f=>by
  rw [List.all_cons,Bool.and_eq_true] at f;rw [any_cons,any_cons,N9 r f.1,IU t f.2]
theorem F2 {A:Around} {s:Shared} {x:V} {v:Value} (rx:RelV x v) (fx:EQ x=true):∀ {xs:List V} {us:List Value},Vals xs us->xs.all EQ=true->∀ u ∈ us,SeqAt.EqAt A s u v (eqU x u)
 | _,_,.nil,_=>fun u hu=>by cases hu
 | y :: xs,u :: us,.cons r t,f=>fun u' hu=>by
  rw [List.all_cons,Bool.and_eq_true] at f;rcases mem_cons.mp hu with rfl | hu
  ·rw [N9 r f.1]; exact Rr r rx f.1 fx
  ·exact F2 rx fx t f.2 u' hu
noncomputable def inV (x:V) (xs:List V):Bool:=xs.any fun y=>eqV y x
def rIn (K:FG) (neg:Bool):R2:=fun x y H Q=>∃ p xs,y=.ref p/\(SqL K H p xs\/SqT K H p xs)/\EQ x=true/\xs.all EQ=true/\Q (.bl (if neg then !inV x xs else inV x xs)) H
theorem Ex:OpR X (compareOp .In) (rIn X.K false):=by
 intro aa s σ H x y v u Q I rx ry h;obtain ⟨p,xs,rfl,hq,fx,fs,q⟩:=h;cases ry;rcases hq with hq | hq
 ·obtain ⟨its,r,pl,hz⟩:=I.list hq;refine SeqAt.in_listAt (eqU x) pl.isList (fun w hw=>F2 rx fx r fs w (by simpa using hw)) ⟨.bl _,H,I,rfl,?_⟩;rw [show its.toArray.any (eqU x)=its.any (eqU x) by simp,IU r fs];exact q
 ·obtain ⟨its,r,pl,hz⟩:=I.tuple hq;refine SeqAt.in_tupleAt (eqU x) pl (fun w hw=>F2 rx fx r fs w (by simpa using hw)) ⟨.bl _,H,I,rfl,?_⟩;rw [show its.toArray.any (eqU x)=its.any (eqU x) by simp,IU r fs];exact q
theorem ER:BY X (.builtin "len") (fun xs H Q=>∃ p ys,xs=[.ref p]/\(SqL X.K H p ys\/SqT X.K H p ys)/\Q (.int ys.length) H):=by
 intro aa s σ H xs us Q I r h;obtain ⟨p,ys,rfl,hq,q⟩:=h;obtain ⟨u,rfl,rx⟩:=Bw r;cases rx;have hn:=Fz;rcases hq with hq | hq
 ·obtain ⟨its,r',pl,hz⟩:=I.list hq;have az:=r'.length;exact Calls.call_len_list pl.isList (by simp only [size_toArray] <;> omega) ⟨.int ys.length,H,I.tok _,⟨s.toks + 1,by rw [size_toArray,az]⟩,q⟩
 ·obtain ⟨its,r',pl,hz⟩:=I.tuple hq;have az:=r'.length;exact len_tuple pl (by simp only [size_toArray] <;> omega) ⟨.int ys.length,H,I.tok _,⟨s.toks + 1,by rw [size_toArray,az]⟩,q⟩
theorem IV:BY X (.builtin "len") (fun xs H Q=>∃ z,xs=[.str z]/\z.length <= sizeLine/\Q (.int z.length) H):=by
 intro aa s σ H xs us Q I r h;obtain ⟨z,rfl,hz,q⟩:=h;obtain ⟨u,rfl,t,rfl⟩:=Bw r;have hn:=Fz;exact len_str (by omega) ⟨.int z.length,H,I.tok _,⟨_,rfl⟩,q⟩
theorem IW:BY X (.type "list") (fun xs H Q=>∃ p ys,xs=[.ref p]/\(SqL X.K H p ys\/SqT X.K H p ys)/\∀ l,H l=none->Q (.ref l) (upd H l (.lst ys))):=by
 intro aa s σ H xs us Q I r h;obtain ⟨p,ys,rfl,hq,q⟩:=h;obtain ⟨u,rfl,rx⟩:=Bw r;cases rx
 have fin:∀ (its:List Value),Vals ys its->ys.length <= sizeLine->∀ (h':Heap) (c':Nat),(∀ b o',s.heap.get? b=some o'->h'.get? b=some o') ->
   h'.get? s.heap.objs.size=some { cls:=.type "list", dict:=none,data:=.seq its.toArray c',slots:=#[] }->EP X aa σ Q (.ref s.heap.objs.size) { s with heap:=h' }:=fun its r' hz h' c' kp e =>
  ⟨.ref s.heap.objs.size,_,I.laid (t':=s.toks) kp (Nat.le_refl _) (show ObjOk X.prog X.w _ h' _ (.lst ys) from ⟨hz,its,c',r',e⟩),rfl,q _ (I.hok.fresh (Nat.le_refl _))⟩
 rcases hq with hq | hq
 ·obtain ⟨its,r',pl,hz⟩:=I.list hq;have az:=r'.length;obtain ⟨o,ho,hc,n,hd⟩:=pl.isList;exact call_list_seq p (.inl rfl) ho hc hd (fun h' c' kp e=>fin its r' hz h' c' kp e) (by simp only [size_toArray] <;> omega)
 ·obtain ⟨its,r',pl,hz⟩:=I.tuple hq;have az:=r'.length;obtain ⟨o,ho,hc,n,hd⟩:=pl;exact call_list_seq p (.inr rfl) ho hc hd (fun h' c' kp e=>fin its r' hz h' c' kp e) (by simp only [size_toArray] <;> omega)
theorem HI:BY X (.type "tuple") (fun xs H Q=>∃ p ys,xs=[.ref p]/\((SqL X.K H p ys/\∀ l,H l=none->Q (.ref l) (upd H l (.tup ys)))\/(SqT X.K H p ys/\Q (.ref p) H))):=by
 intro aa s σ H xs us Q I r h;obtain ⟨p,ys,rfl,h⟩:=h;obtain ⟨u,rfl,rx⟩:=Bw r;cases rx;rcases h with ⟨hq,q⟩ | ⟨hq,q⟩
 ·obtain ⟨its,r',pl,hz⟩:=I.list hq;have az:=r'.length;refine call_tuple_list pl.isList (fun h' kp=>?_) (by simp only [size_toArray] <;> omega);have I1:Inv X aa σ H { s with heap:=h' }:=I.kept (t':=s.toks) kp
  have I2:Inv X aa σ (upd H h'.objs.size (.tup ys)) { s with heap:=h'.push { cls:=.type "tuple", data:=.seq its.toArray } } :=
   I1.laid (t':=s.toks) (fun b o e=>get?_push_of_some _ e) (Nat.le_refl _) (show ObjOk X.prog X.w _ _ _ (.tup ys) from ⟨hz,its,r',IsTup.new _ _⟩)
  exact ⟨.ref h'.objs.size,_,I2,rfl,q _ (I1.hok.fresh (Nat.le_refl _))⟩
 ·obtain ⟨its,r',pl,hz⟩:=I.tuple hq;exact call_tuple_same pl ⟨.ref p,H,I,rfl,q⟩
def tyV (K:FG) (T:String) (x:V) (H:Hp):Prop:=match x with
 | .str _=>T = "str"
 | .int _=>T = "int"
 | .ref p=>(T = "list" /\ ∃ xs,SqL K H p xs)\/(T = "tuple" /\ ∃ o,K.lookup p=some o/\o.cls=.type "tuple" /\ o.dict=none) \/
   (T = "dict" /\ ((∃ kvs,H p=some (.dK kvs))\/∃ kvs,H p=some (.dT kvs)))\/(T = "set" /\ ∃ S n,H p=some (.set S n))
 | _=>False
theorem OA {T:String} {x:V} {v:Value} (I:Inv X aa σ H s) (r:RelV x v) (ty:tyV X.K T x H) :
  s.TypeIs v T/\∀ a,v=.ref a->∃ ob,s.heap.get? a=some ob/\ob.dict=none:=by
 cases x with
 | str z =>
  obtain ⟨t,rfl⟩:=r;cases (show T = "str" from ty);exact ⟨typeIs_str s z t,fun _ e=>nomatch e⟩
 | int i =>
  obtain ⟨t,rfl⟩:=r;cases (show T = "int" from ty);exact ⟨typeIs_int s i t,fun _ e=>nomatch e⟩
 | ref p =>
  cases r;rcases ty with ⟨rfl,xs,hq⟩ | ⟨rfl,o,hk,hc,hd⟩ | ⟨rfl,hk⟩ | ⟨rfl,S,n,hk⟩
  ·obtain ⟨its,_,pl,_⟩:=I.list hq;refine ⟨pl.isList.typeIs,fun a e=>?_⟩;cases e;obtain ⟨o,n,e,c,hd,_⟩:=pl;exact ⟨o,e,hd⟩
  ·refine ⟨⟨o,I.kIn p o hk,hc⟩,fun a e=>?_⟩;cases e;exact ⟨o,I.kIn _ o hk,hd⟩
  ·have z:∃ o,s.heap.get? p=some o/\o.ExactDict:=by
    rcases hk with ⟨kvs,hk⟩ | ⟨kvs,hk⟩
    ·obtain ⟨_,_,_,_,o,_,_,e,ex,_⟩:=I.hok p _ hk;exact ⟨o,e,ex⟩
    ·obtain ⟨_,_,_,_,o,_,_,e,ex,_⟩:=I.hok p _ hk;exact ⟨o,e,ex⟩
   obtain ⟨o,e,ex⟩:=z;refine ⟨⟨o,e,ex.1⟩,fun a e2=>?_⟩;cases e2;exact ⟨o,e,ex.2.1⟩
  ·obtain ⟨o,_,_,_,e,ex,_⟩:=I.hok p _ hk;refine ⟨⟨o,e,ex.1⟩,fun a e2=>?_⟩;cases e2;exact ⟨o,e,ex.2.1⟩
 | _=>exact False.elim ty
def TJ (K:FG) (T:String) (r:V->List V->Hp->VK->Prop) (to:TE):TE:=fun σ H Q=>to σ H fun x H1=>tyV K T x H1/\r x [] H1 Q
def tBM (K:FG) (T:String) (r:V->List V->Hp->VK->Prop) (to:TE) (t:TA):TE:=fun σ H Q=>to σ H fun x H1=>tyV K T x H1/\t σ H1 fun xs H2=>r x xs H2 Q
variable {o:Expr} {es:List Expr} {to:TE} {t:TA} {name:Str} {apos cpos:Pos} {T id:String} {r:V->List V->Hp->VK->Prop}
theorem OB (pa:PlainAttrs T) (slot:Slot T name id) (hty:typeOf (.builtin id)=pure (.type "method_descriptor")) (hm:MtR X id r) (ho:PE X o to)
  (bi:attributeBase o name X.env (eval o X.env)=eval o X.env:=by rfl) (bo:(apos.endLine == cpos.line)=true:=by rfl):PE X (.Call (.Attribute o name apos) [] [] cpos) (TJ X.K T r to):=by
 intro aa s σ H Q I h;refine wpAny_Call_method0_late bi bo (thn (ho aa s σ H _ I h) fun v s1 ⟨x,H1,I1,r1,ty,q1⟩=>?_);obtain ⟨h1,h2⟩:=OA I1 r1 ty;exact ⟨T,id,pa,slot,hty,h1,h2,Calls.callWith_builtin rfl (PySem.evalArgs_none (hm aa s1 σ H1 x [] v [] Q I1 r1 .nil q1))⟩
theorem FN (pa:PlainAttrs T) (slot:Slot T name id) (hty:typeOf (.builtin id)=pure (.type "method_descriptor")) (hm:MtR X id r) (ho:PE X o to) (ha:PA X (e :: es) t)
  (bi:attributeBase o name X.env (eval o X.env)=eval o X.env:=by rfl)
  (hfew:((backTo cpos (starEach (e :: es) X.env)).all (fun x=>!x.1) && (backToKw cpos (keywordEach [] X.env)).all (fun x=>x.1.isSome)
   && decide ((e :: es).length + ([]:List Keyword).length + (if ([]:List Keyword).isEmpty then 0 else 1) < 30))=true:=by rfl)
  (bo:(apos.endLine == cpos.line)=true:=by rfl) (hs:starEach (e :: es) X.env=(false,eval e X.env) :: starEach es X.env:=by rfl) (hplain:(backTo cpos (starEach es X.env)).any (·.1)=false:=by rfl) :
  PE X (.Call (.Attribute o name apos) (e :: es) [] cpos) (tBM X.K T r to t):=by
 intro aa s σ H Q I h;refine wpAny_Call_method_late bi hfew bo rfl (thn (ho aa s σ H _ I h) fun v s1 ⟨x,H1,I1,r1,ty,q1⟩=>?_);obtain ⟨h1,h2⟩:=OA I1 r1 ty;refine ⟨T,id,pa,slot,hty,h1,h2,?_⟩;have hA:=ha cpos aa s1 σ H1 _ I1 q1;rw [hs] at hA ⊢;refine Calls.callWith_builtin (by show (false || (backTo cpos (starEach es X.env)).any (·.1))=false; rw [hplain] <;> rfl) (Calls.evalArgs_plain ?_);exact thn hA fun us s2 ⟨vs,H2,I2,r2,q2⟩=>hm aa s2 σ H2 x vs v us Q I2 r1 r2 q2
end
end L2
namespace L2
open PySem PySem.Spec PyProof.Rows
def MtM (X:Cx) (id:String) (r:V->List V->Hp->VK->Prop):Prop :=
 ∀ (aa:LO) (s:Shared) (σ:St) (H:Hp) (x:V) (xs:List V) (v:Value) (us:List Value) (Q:VK),Inv X aa σ H s->RelV x v->Vals xs us->r x xs H Q ->
  wpAny (model X.prog X.w) X.A (call (.builtin id) (v :: us)) (EP X aa σ Q) X.xe s
theorem Vals.one:∀ {x:V} {us:List Value},Vals [x] us->∃ u,us=[u]/\RelV x u
 | _,_,.cons r .nil=>⟨_,rfl,r⟩
section
variable {l b:Addr} {ys zs:List V}
theorem Inv.lset {its its':List Value} {n:Nat} {f:Array Value->Array Value} {t':Nat} (I:Inv X aa σ H s) (hH:H l=some (.lst xs))
  (e:s.heap.get? l=some { cls:=.type "list", data:=.seq its.toArray n }) (hf:f its.toArray=its'.toArray) (hv:Vals ys its') (hz:ys.length <= sizeLine) :
  Inv X aa σ (upd H l (.lst ys)) { s with heap:=s.heap.update l (Obj.mapSeq f),toks:=t' }:=by
 have q:=PySem.IsL.update e f;rw [hf] at q;refine I.write (x:=l) (e:=l) (by rw [hH]; exact trivial) (.inl rfl) (fun b' u hb hu=>(get?_update_other s.heap (Obj.mapSeq f) (Ne.symm hb)).trans hu) ⟨_,q⟩ ?_;exact ⟨hz,its',_,hv,q⟩
theorem Inv.lnew {its:List Value} {t':Nat} (I:Inv X aa σ H s) (hv:Vals ys its) (hz:ys.length <= sizeLine) :
  Inv X aa σ (upd H s.heap.objs.size (.lst ys)) { s with heap:=s.heap.push { cls:=.type "list", data:=.seq its.toArray },toks:=t' } :=
 I.laid (fun _ _ q=>get?_push_of_some _ q) (Nat.le_refl _) ⟨hz,its,0,hv,get?_push_size _ rfl⟩
theorem Inv.fresh (I:Inv X aa σ H s):H s.heap.objs.size=none:=I.hok.fresh (Nat.le_refl _)
theorem Inv.lstM (I:Inv X aa σ H s) (hH:H l=some (.lst xs)):xs.length <= sizeLine/\∃ (its:List Value) (n:Nat),Vals xs its/\xs.length=its.length/\s.heap.get? l=some { cls:=.type "list", data:=.seq its.toArray n }:=by
 obtain ⟨z,its,n,r,e⟩:=I.hok l _ hH;exact ⟨z,its,n,r,r.length,e⟩
end
section
def P9:V->List V->Hp->VK->Prop:=fun x vs H Q=>∃ l xs y,x=.ref l/\vs=[y]/\H l=some (.lst xs)/\xs.length < sizeLine/\Q .non (upd H l (.lst (xs++[y])))
theorem B2:MtM X "list.append" P9:=by
 intro aa s σ H x vs v us Q I rx rv h;obtain ⟨l,xs,y,rfl,rfl,hH,hz,q⟩:=h;cases rx;obtain ⟨u,rfl,ru⟩:=rv.one;obtain ⟨z,its,n,r,hl,e⟩:=I.lstM hH;refine call_meets F.slot_list_append ⟨_,e,rfl⟩ F.entry_list_append (F.args_list_append_2 _ _) (PySem.list_append l its.toArray n u (by rw [size_toArray]; omega)) ⟨e,?_⟩;refine ⟨.non,_,I.lset (its':=its++[u]) hH e (by simp) (r.append (.cons ru .nil)) ?_,rfl,q⟩;rw [length_append,length_singleton];omega
def T7:R2:=fun x y H Q=>∃ l b xs zs,x=.ref l/\y=.ref b/\H l=some (.lst xs)/\H b=some (.lst zs)/\xs.length + zs.length <= sizeLine/\∀ p,H p=none->Q (.ref p) (upd H p (.lst (xs++zs)))
theorem F3:OpR X (binaryOp .Add) T7:=by
 intro aa s σ H x y v u Q I rx ry h;obtain ⟨l,b,xs,zs,rfl,rfl,hH,hB,hz,q⟩:=h;cases rx;cases ry;obtain ⟨z,its,n,r,hl,e⟩:=I.lstM hH;obtain ⟨z2,its2,n2,r2,hl2,e2⟩:=I.lstM hB;refine PySem.P.add_list e e2 ?_ (by rw [size_toArray,size_toArray]; omega);have ea:its.toArray++its2.toArray=(its++its2).toArray:=by simp
 rw [ea];exact ⟨.ref _,_,I.lnew (t':=s.toks) (r.append r2) (by rw [length_append]; omega),rfl,q _ I.fresh⟩
end
end L2
namespace L2
open PySem PySem.Spec PyProof.Rows
section
variable {κ:Type} [DecidableEq κ]
noncomputable def BS (kvs:List (κ × V)) (k:κ):Option V:=(kvs.find? fun kv=>decide (kv.1=k)).map (·.2)
noncomputable def CO (kvs:List (κ × V)) (k:κ) (v:V):List (κ × V) :=
 if (kvs.any fun kv=>decide (kv.1=k))=true then kvs.map (fun kv=>if kv.1=k then (kv.1,v) else kv) else kvs++[(k,v)]
theorem DA {p:κ × V} {r:List (κ × V)} {k:κ} (e:p.1=k):BS (p :: r) k=some p.2:=by simp [BS,find?_cons,e]
theorem DB {p:κ × V} {r:List (κ × V)} {k:κ} (e:¬ p.1=k):BS (p :: r) k=BS r k:=by simp [BS,find?_cons,e]
theorem F4 (k:κ):∀ kvs:List (κ × V),(kvs.any fun kv=>decide (kv.1=k))=(BS kvs k).isSome
 | []=>rfl
 | p :: r=>by
  rw [any_cons];by_cases e:p.1=k
  ·simp only [DA e,decide_eq_true e,Bool.true_or,Option.isSome_some]
  ·rw [DB e,decide_eq_false e,Bool.false_or]; exact F4 k r
theorem CI (kvs:List (κ × V)) (k:κ) (v:V):(CO kvs k v).length <= kvs.length + 1:=by
 unfold CO;split
 ·rw [AI]; omega
 ·rw [length_append,length_cons,length_nil]; omega
theorem JU {kvs:List (κ × V)} {k:κ} (v:V) (h:BS kvs k=none):CO kvs k v=kvs++[(k,v)]:=by
 unfold CO;rw [F4,h];exact if_neg (by decide)
theorem RelO.isSome_eq {o:Option V} {u:Option Value} (r:RelO o u):o.isSome=u.isSome:=by
 cases o with
 | none=>cases u with
  | none=>rfl
  | some _=>exact (show False from r).elim
 | some _=>cases u with
  | none=>exact (show False from r).elim
  | some _=>rfl
theorem KV.val {kvs:List (κ × V)} {vs:List (κ × Value)} (r:KV kvs vs) (k:κ):RelO (BS kvs k) (valueAt vs k):=by
 unfold KV at r;induction r with
 | nil=>exact True.intro
 | @cons p q ps qs h t ih =>
  obtain ⟨h1,h2⟩:=h;by_cases e:p.1=k
  ·have e':q.1=k:=h1.symm.trans e;have b:valueAt (q :: qs) k=some q.2:=by simp [valueAt,find?_cons,e']
   rw [DA e,b]; exact h2
  ·have e':¬ q.1=k:=fun z=>e (h1.trans z);have b:valueAt (q :: qs) k=valueAt qs k:=by simp [valueAt,find?_cons,e']
   rw [DB e,b]; exact ih
theorem KV.any {kvs:List (κ × V)} {vs:List (κ × Value)} (r:KV kvs vs) (k:κ):(kvs.any fun kv=>decide (kv.1=k))=vs.any fun kv=>decide (kv.1=k):=by
 unfold KV at r;induction r with
 | nil=>rfl
 | cons h t ih=>rw [any_cons,any_cons,ih,h.1]
theorem KV.repl {kvs:List (κ × V)} {vs:List (κ × Value)} (r:KV kvs vs) (k:κ) {y:V} (ry:RelV y u) :
  KV (kvs.map fun kv=>if kv.1=k then (kv.1,y) else kv) (vs.map fun kv=>if kv.1=k then (kv.1,u) else kv):=by
 unfold KV at r ⊢;induction r with
 | nil=>exact .nil
 | @cons p q ps qs h t ih =>
  rw [map_cons,map_cons];refine .cons ?_ ih;obtain ⟨h1,h2⟩:=h;by_cases e:p.1=k
  ·rw [if_pos e,if_pos (h1.symm.trans e)]; exact ⟨h1,ry⟩
  ·rw [if_neg e,if_neg (fun z=>e (h1.trans z))]; exact ⟨h1,h2⟩
theorem KV.put {kvs:List (κ × V)} {vs:List (κ × Value)} (r:KV kvs vs) (k:κ) {y:V} (ry:RelV y u):KV (CO kvs k y) (stored vs k u):=by
 unfold CO stored;rw [r.any k];by_cases e:(vs.any fun kv=>decide (kv.1=k))=true
 ·rw [if_pos e,if_pos e]; exact r.repl k ry
 ·rw [if_neg e,if_neg e]; exact Paired.snoc r ⟨rfl,ry⟩
theorem KV.length {kvs:List (κ × V)} {vs:List (κ × Value)} (r:KV kvs vs):kvs.length=vs.length:=Paired.length r
end
theorem F5 {k:Key} (r:RelV (kV k) u):(Al P w).is k u=true:=by
 cases k with
 | inl i=>obtain ⟨t,e⟩:=(show ∃ t,u=Value.int i t from r); subst e; exact JL P w i t
 | inr x=>obtain ⟨t,e⟩:=(show ∃ t,u=Value.str x t from r); subst e; exact JM P w x t
theorem Hq {P:Program} {w:World}:∀ {ks:List Key} {us:List Value},Vals (ks.map kV) us->ItemsAre (Al P w) ks us
 | [],_,r=>by rw [map_nil] at r; cases r; exact .nil
 | k :: ks,_,r=>by
  rw [map_cons] at r;cases r with
  | cons h t=>exact .cons (F5 h) (Hq t)
abbrev KT (H:Hp):List (List Key × V)->List (List Key × Addr × Value)->Prop:=Paired fun p q=>p.1=q.1/\H q.2.1=some (.tup (p.1.map kV))/\RelV p.2 q.2.2
theorem KT.val {kvs:List (List Key × V)} {xs:List (List Key × Addr × Value)} (r:KT H kvs xs) (k:List Key):RelO (BS kvs k) ((atKey xs k).map (·.2)):=by
 induction r with
 | nil=>exact True.intro
 | @cons p q ps qs h t ih =>
  obtain ⟨h1,_,h2⟩:=h;by_cases e:p.1=k
  ·have e':q.1=k:=h1.symm.trans e;have b:atKey (q :: qs) k=some q.2:=by simp [atKey,find?_cons,e']
   rw [DA e,b]; exact h2
  ·have e':¬ q.1=k:=fun z=>e (h1.trans z);have b:atKey (q :: qs) k=atKey qs k:=by simp [atKey,find?_cons,e']
   rw [DB e,b]; exact ih
theorem KT.repl {kvs:List (List Key × V)} {xs:List (List Key × Addr × Value)} (r:KT H kvs xs) (k:List Key) {y:V} (ry:RelV y u) :
  KT H (kvs.map fun kv=>if kv.1=k then (kv.1,y) else kv) (xs.map (putAt k u)):=by
 induction r with
 | nil=>exact .nil
 | @cons p q ps qs h t ih =>
  rw [map_cons,map_cons];refine .cons ?_ ih;obtain ⟨h1,h2,h3⟩:=h;unfold putAt;by_cases e:p.1=k
  ·rw [if_pos e,if_pos (h1.symm.trans e)]; exact ⟨h1,h2,ry⟩
  ·rw [if_neg e,if_neg (fun z=>e (h1.trans z))]; exact ⟨h1,h2,h3⟩
theorem KT.put {kvs:List (List Key × V)} {xs:List (List Key × Addr × Value)} (r:KT H kvs xs) (k:List Key) {b:Addr} {y:V} (hb:H b=some (.tup (k.map kV))) (ry:RelV y u) :
  KT H (CO kvs k y) (storedH xs k b u):=by
 have e:(kvs.any fun kv=>decide (kv.1=k))=(atKey xs k).isSome:=by
  rw [F4,(r.val k).isSome_eq,Option.isSome_map]
 unfold CO storedH;rw [e];by_cases q:(atKey xs k).isSome=true
 ·rw [if_pos q,if_pos q]; exact r.repl k ry
 ·rw [if_neg q,if_neg q]; exact Paired.snoc r ⟨rfl,hb,ry⟩
theorem KT.keeps {kvs:List (List Key × V)} {xs:List (List Key × Addr × Value)} (r:KT H kvs xs) (ht:∀ b ys,H b=some (.tup ys)->H' b=some (.tup ys)):KT H' kvs xs :=
 Paired.mapP r fun _ _ z=>⟨z.1,ht _ _ z.2.1,z.2.2⟩
section
theorem RS {u:HO} (ok:HOk P w H h) (e:Rd H a u):ObjOk P w H h a u:=e.ok ok
theorem C1 {kvs:LK} (ok:HOk P w H h) (e:Rd H a (.dK kvs)):kvs.length <= sizeLine/\(a == sysModules)=false/\∃ vs,KV kvs vs/\h.DictOf (Al P w) a vs :=
 show ObjOk P w H h a (.dK kvs) from RS ok e
theorem OC {kvs:LK} (ok:HOk P w H h) (e:H a=some (.dK kvs)):kvs.length <= sizeLine/\(a == sysModules)=false/\∃ vs,KV kvs vs/\h.DictOf (Al P w) a vs:=C1 ok (.inl e)
theorem F6 {ks:List Key} (ok:HOk P w H h) (e:H a=some (.tup (ks.map kV))):(tupleKind (Al P w)).is h ks a:=by
 obtain ⟨_,its,r,o,h1,h2,n,h3⟩:=(show ObjOk P w H h a (.tup (ks.map kV)) from ok a _ e);exact ⟨o,its.toArray,n,h1,h2,h3,by simpa using Hq r⟩
theorem Hr {kvs:List (List Key × V)} (ok:HOk P w H h) (e:Rd H a (.dT kvs)):kvs.length <= sizeLine/\(a == sysModules)=false /\
  ∃ xs,KT H kvs xs/\h.DictOfH (tupleKind (Al P w)) a xs:=by
 obtain ⟨z,y,xs,r,o,es,ep,h1,h2,h3,h4,h5⟩:=(show ObjOk P w H h a (.dT kvs) from RS ok e);refine ⟨z,y,xs,r,o,es,ep,h1,h2,h3,h4,fun x hx=>?_,h5⟩
 have all:∀ {l:List (List Key × V)} {m:List (List Key × Addr × Value)},KT H l m->∀ x ∈ m,(tupleKind (Al P w)).is h x.1 x.2.1:=by
  intro l m q;induction q with
  | nil=>intro x hx; exact nomatch hx
  | @cons p q ps qs hq t ih =>
   intro x hx;rcases mem_cons.mp hx with e | hx
   ·subst e;exact F6 ok (by rw [← hq.1]; exact hq.2.1)
   ·exact ih x hx
 exact all r x hx
theorem TK {kvs:List (List Key × V)} (ok:HOk P w H h) (e:H a=some (.dT kvs)):kvs.length <= sizeLine/\(a == sysModules)=false /\
  ∃ xs,KT H kvs xs/\h.DictOfH (tupleKind (Al P w)) a xs:=Hr ok (.inl e)
end
def Kb (H:Hp) (a:Addr) (y:V) (r:Option V):Prop :=
 (∃ kvs k,Rd H a (.dK kvs)/\y=kV k/\r=BS kvs k)\/∃ kvs k b,Rd H a (.dT kvs)/\y=.ref b/\H b=some (.tup (k.map kV))/\r=BS kvs k
def DPut (H:Hp) (a:Addr) (y v:V) (H':Hp):Prop :=
 (∃ kvs k,H a=some (.dK kvs)/\y=kV k/\kvs.length < sizeLine/\H'=upd H a (.dK (CO kvs k v))) \/
 ∃ kvs k b,H a=some (.dT kvs)/\y=.ref b/\H b=some (.tup (k.map kV))/\kvs.length < sizeLine/\H'=upd H a (.dT (CO kvs k v))
theorem DPut.k {H:Hp} {a:Addr} {kvs:LK} {k:Key} {v:V} (e:H a=some (.dK kvs)) (hl:kvs.length < sizeLine):DPut H a (kV k) v (upd H a (.dK (CO kvs k v))):=.inl ⟨kvs,k,e,rfl,hl,rfl⟩
section
variable {y v:V} {r:Value} {o:Option V}
theorem Inv.big (I:Inv X aa σ H s):sysModules < s.heap.objs.size:=by
 have h:mainGlobals < s.heap.objs.size:=(I.mod.glob.keeps I.bk).lt;exact Nat.lt_trans (by decide) h
theorem Md {Q:Ab} (hu:A.units + 1 < cLine) (I:Inv X aa σ H s) (g:Kb H a y (some v)) (ry:RelV y u) (h:∀ w' s',Inv X aa σ H s'->RelV v w'->Q w' s') :
  wpAny (model X.prog X.w) A (getItem (.ref a) u) Q E s:=by
 rcases g with ⟨kvs,k,e,ey,l⟩ | ⟨kvs,k,b,e,ey,eb,l⟩
 ·subst ey;obtain ⟨z,hd,vs,rel,dd⟩:=C1 I.hok e;obtain ⟨w',hw,rw'⟩:=RelO.some_of (v:=v) (o:=valueAt vs k) (by rw [l]; exact rel.val k);exact wpAny_getItem_of (F5 ry) dd.mapOf hw (h w' _ (I.tok _) rw')
 ·subst ey;cases (show u=Value.ref b from ry);obtain ⟨z,hd,xs,rel,dd⟩:=Hr I.hok e;obtain ⟨w',hw,rw'⟩:=RelO.some_of (v:=v) (o:=(atKey xs k).map (·.2)) (by rw [l]; exact rel.val k);obtain ⟨p,hp,ak⟩:=Option.map_eq_some_iff.mp hw;refine wpAny_getItem_heap (tupleKind_room_in1 hu) (F6 I.hok eb) dd hp ?_;rw [ak];exact h w' _ (I.tok _) rw'
theorem T8 {Q:Ab} (hu:A.units + 1 < cLine) (I:Inv X aa σ H s) (g:Kb H a y o) (ry:RelV y u) (h:∀ s',Inv X aa σ H s'->Q (.bool o.isSome) s') :
  wpAny (model X.prog X.w) A (compareOp .In u (.ref a)) Q E s:=by
 rcases g with ⟨kvs,k,e,ey,l⟩ | ⟨kvs,k,b,e,ey,eb,l⟩
 ·subst ey;obtain ⟨z,hd,vs,rel,dd⟩:=C1 I.hok e;refine wpAny_in_of (F5 ry) hd dd.mapOf ?_;rw [← (rel.val k).isSome_eq,← l];exact h _ (I.tok _)
 ·subst ey;cases (show u=Value.ref b from ry);obtain ⟨z,hd,xs,rel,dd⟩:=Hr I.hok e;refine wpAny_in_heap (tupleKind_room_in1 hu) (F6 I.hok eb) hd dd ?_;have q:=(rel.val k).isSome_eq;rw [Option.isSome_map] at q;rw [← q,← l];exact h _ (I.tok _)
theorem QA {Q:Ab} (hu:A.units + 1 < cLine) (I:Inv X aa σ H s) (g:Kb H a y o) (ry:RelV y u) (h:∀ s',Inv X aa σ H s'->Q (.bool (!o.isSome)) s') :
  wpAny (model X.prog X.w) A (compareOp .NotIn u (.ref a)) Q E s:=by
 rcases g with ⟨kvs,k,e,ey,l⟩ | ⟨kvs,k,b,e,ey,eb,l⟩
 ·subst ey;obtain ⟨z,hd,vs,rel,dd⟩:=C1 I.hok e;refine wpAny_notIn_of (F5 ry) hd dd.mapOf ?_;rw [← (rel.val k).isSome_eq,← l];exact h _ (I.tok _)
 ·subst ey;cases (show u=Value.ref b from ry);obtain ⟨z,hd,xs,rel,dd⟩:=Hr I.hok e;refine wpAny_notIn_heap (tupleKind_room_in1 hu) (F6 I.hok eb) hd dd ?_;have q:=(rel.val k).isSome_eq;rw [Option.isSome_map] at q;rw [← q,← l];exact h _ (I.tok _)
theorem Fb {h':Heap} {t':Nat} {ob:HO} (I:Inv X aa σ H s) (mu:Mut (H a)) (hs:Heap.SameBut a s.heap h') (he:∃ q,h'.get? a=some q) (new:ObjOk X.prog X.w (upd H a ob) h' a ob) :
  Inv X aa σ (upd H a ob) { s with heap:=h',toks:=t' } :=
 I.write (x:=a) (e:=a) mu (.inl rfl) (fun b q hb z=>(hs.2 b hb).trans z) he new
theorem Kc {h':Heap} {kvs:LK} {vs:List (Key × Value)} (z:kvs.length <= sizeLine) (hd:(a == sysModules)=false) (rel:KV kvs vs) (dd:h'.DictOf (Al P w) a vs) :
  ObjOk P w H' h' a (.dK kvs):=⟨z,hd,vs,rel,dd⟩
theorem Me {Q:Unit->Shared->Prop} (hu:A.units + 1 < cLine) (I:Inv X aa σ H s) (g:DPut H a y v H') (ry:RelV y u) (rv:RelV v r) (h:∀ s',Inv X aa σ H' s'->Q () s') :
  wpAny (model X.prog X.w) A (setItem (.ref a) u r) Q E s:=by
 rcases g with ⟨kvs,k,e,ey,l,eH⟩ | ⟨kvs,k,b,e,ey,eb,l,eH⟩
 ·subst ey eH;obtain ⟨z,hd,vs,rel,dd⟩:=OC I.hok e;have hz:vs.length <= sizeLine:=by rw [← rel.length]; exact z
  have hl:(CO kvs k v).length <= sizeLine:=by have:=CI kvs k v; omega
  refine wpAny_setItem_pairs (hsz:=hz) (F5 ry) dd fun h' dd' hs=>h _ ?_;have he:∃ q,h'.get? a=some q:=let ⟨q,_,_,hq,_⟩:=dd'; ⟨q,hq⟩
  exact Fb I (by rw [e]; exact True.intro) hs he (Kc hl hd (rel.put k rv) dd')
 ·subst ey eH;cases (show u=Value.ref b from ry);obtain ⟨z,hd,xs,rel,dd⟩:=TK I.hok e;have hz:xs.length <= sizeLine:=by rw [← Paired.length rel]; exact z
  have hl:(CO kvs k v).length <= sizeLine:=by have:=CI kvs k v; omega
  refine wpAny_setItem_heap (hsz:=hz) (tupleKind_room_in1 hu) (F6 I.hok eb) dd fun h' dd' hs=>h _ ?_;obtain ⟨q,es,ep,hq,h2,h3,h4,_,h5⟩:=dd';refine Fb I (by rw [e]; exact True.intro) hs ⟨q,hq⟩ ⟨hl,hd,_,(rel.put k eb rv).keeps fun c ys ec=>?_,q,es,ep,hq,h2,h3,h4,h5⟩;rw [AH (Sq ec e (fun z=>nomatch z))];exact ec
end
def TL (i:Expr):Prop:=∀ ov iv,subscripted i false ov iv=operate [ov,iv] (getItem ov iv)
theorem QB {prog:Program} {env:Env} {value slice:Expr} {T id:String} {Q:Ab}
  (hl:typeLookup (.type T) "__getitem__" = pure (some (.builtin id))) (hs:TL slice)
  (h:wpAny (model prog w) A (eval value env) (fun o s₁=>wpAny (model prog w) A (eval slice env) (fun i s₂=>s₂.TypeIs o T/\wpAny (model prog w) A (getItem o i) Q E s₂) E s₁) E s) :
  wpAny (model prog w) A (eval (.Subscript value slice pos) env) Q E s:=by
 refine Subscript_ (wpAny_mono h (fun o s₁ h₁=>wpAny_mono h₁ (fun i s₂ h₂=>?_) fun _ _ x=>x) fun _ _ x=>x);obtain ⟨hT,h₂⟩:=h₂;unfold subscriptTail;refine wpAny_bind ?_;rw [getitemInPython_of_ne hT.not_modules];refine wpAny_bind (wpAny_specialOf hT hl ?_)
 have fin:wpAny (model prog w) A (subscripted slice false o i) (fun r s₃=>wpAny (model prog w) A (letTemporaryGo value o r >>= fun _=>pure r) Q E s₃) E s₂:=by
  rw [hs o i];exact wpAny_operating (wpAny_mono h₂ (fun r s₃ h₃=>wpAny_bind (wpAny_letTemporaryGo (wpAny_pure h₃))) fun _ _ x=>x)
 first
  | exact wpAny_pure (wpAny_bind fin)
  | exact wpAny_bind (wpAny_pure (wpAny_bind fin))
  | exact wpAny_bind fin
theorem JV {y:V} {o:Option V} (I:Inv X aa σ H s) (g:Kb H a y o):s.TypeIs (.ref a) "dict" := by
 rcases g with ⟨kvs,k,e,_,_⟩ | ⟨kvs,k,b,e,_,_,_⟩
 ·obtain ⟨_,_,vs,_,dd⟩:=C1 I.hok e;exact dd.typeIs
 ·obtain ⟨_,_,xs,_,dd⟩:=Hr I.hok e;exact dd.typeIs
def TM (td ty:TE):TE:=fun σ H Q=>td σ H fun x H1=>ty σ H1 fun y H2=>∃ a v,x=.ref a/\Kb H2 a y (some v)/\Q v H2
def T9 (ty td:TE):TE:=fun σ H Q=>ty σ H fun y H1=>td σ H1 fun x H2=>∃ a o,x=.ref a/\Kb H2 a y o/\Q (.bl o.isSome) H2
def QC (ty td:TE):TE:=fun σ H Q=>ty σ H fun y H1=>td σ H1 fun x H2=>∃ a o,x=.ref a/\Kb H2 a y o/\Q (.bl (!o.isSome)) H2
def TN (td ty tv:TE):TS:=fun D σ H=>tv σ H fun v H1=>td σ H1 fun x H2=>ty σ H2 fun y H3=>∃ a H4,x=.ref a/\DPut H3 a y v H4/\D.nx σ H4
section
variable {o i value:Expr} {pos' tpos:Pos} {td ty tv:TE}
theorem CJ (hu:X.A.units + 1 < cLine) (ho:PE X o td) (hi:PE X i ty) (hs:TL i):PE X (.Subscript o i pos) (TM td ty):=by
 intro aa s σ H Q I h;refine QB PySem.F.slot_dict_getitem.lookup hs (thn (ho aa s σ H _ I h) fun u s1 ⟨x,H1,I1,rx,q1⟩=>thn (hi aa s1 σ H1 _ I1 q1) fun iv s2 ⟨y,H2,I2,ry,a,v,ex,g,q2⟩=>?_);subst ex;obtain rfl:u=Value.ref a:=rx;exact ⟨JV I2 g,Md hu I2 g ry fun w' s3 I3 rw'=>⟨v,H2,I3,rw',q2⟩⟩
theorem OD (hu:X.A.units + 1 < cLine) (hi:PE X i ty) (ho:PE X o td):PC X .In i o (T9 ty td):=by
 intro aa s σ H Q I h;refine thn (hi aa s σ H _ I h) fun iv s1 ⟨y,H1,I1,ry,q1⟩=>thn (ho aa s1 σ H1 _ I1 q1) fun u s2 ⟨x,H2,I2,rx,a,ov,ex,g,q2⟩=>?_;subst ex;obtain rfl:u=Value.ref a:=rx;exact T8 hu I2 g ry fun s3 I3=>⟨.bl ov.isSome,H2,I3,rfl,q2⟩
theorem Mf (hu:X.A.units + 1 < cLine) (hi:PE X i ty) (ho:PE X o td):PC X .NotIn i o (QC ty td):=by
 intro aa s σ H Q I h;refine thn (hi aa s σ H _ I h) fun iv s1 ⟨y,H1,I1,ry,q1⟩=>thn (ho aa s1 σ H1 _ I1 q1) fun u s2 ⟨x,H2,I2,rx,a,ov,ex,g,q2⟩=>?_;subst ex;obtain rfl:u=Value.ref a:=rx;exact QA hu I2 g ry fun s3 I3=>⟨.bl (!ov.isSome),H2,I3,rfl,q2⟩
theorem Ld (hu:X.A.units + 1 < cLine) (ho:PE X o td) (hi:PE X i ty) (hv:PE X value tv) (hs:swapsWith value (some (.Subscript o i pos')) pos.line X.env=pure false) :
  PS X (.Assign [.Subscript o i pos'] value pos) (TN td ty tv):=by
 intro aa s σ H D I h;refine wpAny_Assign_Subscript (thn (hv aa s σ H _ I h) fun r s1 ⟨v,H1,I1,rv,q1⟩=>thn (ho aa s1 σ H1 _ I1 q1) fun u s2 ⟨x,H2,I2,rx,q2⟩=>thn (hi aa s2 σ H2 _ I2 q2) fun iv s3 ⟨y,H3,I3,ry,a,H4,ex,g,q3⟩=>?_) hs;subst ex;obtain rfl:u=Value.ref a:=rx;exact Me hu I3 g ry rv fun s4 I4=>⟨σ,H4,I4,q3⟩
end
theorem JW (h:Heap) (hb:sysModules < h.objs.size):ObjOk P w H (h.push { cls:=.type "dict", data:=.dict #[] }) h.objs.size (.dK []) :=
 ⟨Nat.zero_le _,beq_eq_false_iff_ne.mpr (Ne.symm (Nat.ne_of_lt hb)),[],.nil,Heap.DictOf.new h⟩
def Rs:TE:=fun _ H Q=>∀ p,H p=none->Q (.ref p) (upd H p (.dK []))
section
theorem F7:PE X (.Dict [] [] pos) Rs:=fun aa s σ H Q I h =>
 wpAny_Dict_empty ⟨.ref s.heap.objs.size,_,I.laid (a:=s.heap.objs.size) (o:=.dK []) (t':=s.toks) (fun _ _ q=>get?_push_of_some _ q) (Nat.le_refl _) (JW s.heap I.big),rfl,h _ (I.hok.fresh (Nat.le_refl _))⟩
end
def Kd:List (TE × TE)->St->Hp->(List (V × V)->Hp->Prop)->Prop
  | [],_,H,Q=>Q [] H
  | (tk,tv) :: r,σ,H,Q=>tk σ H fun x H1=>tv σ H1 fun y H2=>Kd r σ H2 fun ps H3=>Q ((x,y) :: ps) H3
abbrev VV:List (V × V)->List (Value × Value)->Prop:=Paired fun p q=>RelV p.1 q.1/\RelV p.2 q.2
def PPs (X:Cx) (pos:Pos) (keys:List (Option Expr)) (values:List Expr) (trs:List (TE × TE)):Prop :=
 ∀ (aa:LO) (s:Shared) (σ:St) (H:Hp) (Q:List (V × V)->Hp->Prop),Inv X aa σ H s->Kd trs σ H Q ->
  wpAny (model X.prog X.w) X.A (evalPairs (pairTrees keys values X.env pos)) (fun vs s'=>∃ ps H',Inv X aa σ H' s'/\VV ps vs/\Q ps H') X.xe s
theorem QD:PPs X pos [] [] []:=fun aa s σ H Q I h=>pairTrees_nil_walk ⟨[],H,I,.nil,h⟩
theorem ES {k v:Expr} {ks:List (Option Expr)} {vs:List Expr} {tk tv:TE} {trs:List (TE × TE)} (hk:PE X k tk) (hv:PE X v tv) (hr:PPs X pos ks vs trs) :
  PPs X pos (some k :: ks) (v :: vs) ((tk,tv) :: trs):=fun aa s σ H Q I h =>
 pairTrees_cons_walk (thn (hk aa s σ H _ I h) fun u s1 ⟨x,H1,I1,rx,q1⟩=>thn (hv aa s1 σ H1 _ I1 q1) fun w2 s2 ⟨y,H2,I2,ry,q2⟩ =>
  thn (hr aa s2 σ H2 _ I2 q2) fun ws s3 ⟨ps,H3,I3,rel,q3⟩=>⟨(x,y) :: ps,H3,I3,.cons ⟨rx,ry⟩ rel,q3⟩)
noncomputable def Ey (kvs more:LK):LK:=more.foldl (fun acc kv=>CO acc kv.1 kv.2) kvs
theorem KV.merge:∀ {more:LK} {rs:List (Key × Value)} {kvs:LK} {vs:List (Key × Value)},KV more rs->KV kvs vs->KV (Ey kvs more) (merged vs rs):=by
 intro more rs kvs vs r;unfold KV at r;induction r generalizing kvs vs with
 | nil=>intro q; exact q
 | @cons p q ps qs h t ih =>
  intro r0
  have e:KV (CO kvs p.1 p.2) (stored vs q.1 q.2):=by
   have:=r0.put p.1 h.2;rw [← h.1]; exact this
  exact ih e
theorem Do:∀ (more kvs:LK),(Ey kvs more).length <= kvs.length + more.length
 | [],kvs=>by show kvs.length <= kvs.length + 0; omega
 | p :: r,kvs=>by
  have h1:=Do r (CO kvs p.1 p.2);have h2:=CI kvs p.1 p.2;show (Ey (CO kvs p.1 p.2) r).length <= _;rw [length_cons]; omega
theorem F8 {P:Program} {w:World}:∀ {kvs:LK} {ws:List (Value × Value)},VV (kvs.map fun kv=>(kV kv.1,kv.2)) ws->∃ rs,Carries (Al P w) ws rs/\KV kvs rs
 | [],_,r=>by rw [map_nil] at r; cases r; exact ⟨[],True.intro,.nil⟩
 | p :: kvs,_,r=>by
  rw [map_cons] at r;cases r with
  | @cons a b as bs h t =>
   obtain ⟨rs,c,q⟩:=F8 (P:=P) (w:=w) t;obtain ⟨b1,b2⟩:=b;exact ⟨(p.1,b2) :: rs,⟨F5 h.1,rfl,c⟩,.cons ⟨rfl,h.2⟩ q⟩
def TQ (trs:List (TE × TE)):TE:=fun σ H Q=>∀ p,H p=none->Kd trs σ (upd H p (.dK [])) fun ps H2=>H2 p=some (.dK [])/\∃ kvs:LK,ps=kvs.map (fun kv=>(kV kv.1,kv.2))/\kvs.length <= 15/\Q (.ref p) (upd H2 p (.dK (Ey [] kvs)))
theorem QE {keys:List (Option Expr)} {values:List Expr} {trs:List (TE × TE)} (h:PPs X pos keys values trs) (bp:keys.all (·.isSome)=true) (hl:keys.length=values.length) (h0:keys ≠ [])
  (h15:keys.length <= 15):PE X (.Dict keys values pos) (TQ trs):=by
 intro aa s σ H Q I q;have hn:=I.hok.fresh (Nat.le_refl s.heap.objs.size);have I1:=I.laid (a:=s.heap.objs.size) (o:=.dK []) (h':=s.heap.push { cls:=.type "dict", data:=.dict #[] }) (t':=s.toks) (fun _ _ q=>get?_push_of_some _ q) (Nat.le_refl _) (JW s.heap I.big);refine wpAny_Dict_walk (knd:=Al X.prog X.w) bp hl h0 h15 (thn (h aa _ σ _ _ I1 (q _ hn)) fun ws s2 ⟨ps,H2,I2,rel,e,kvs,ep,lk,q2⟩=>?_);subst ep;obtain ⟨rs,c,rk⟩:=F8 (P:=X.prog) (w:=X.w) rel;obtain ⟨z,hd,vs0,r0,dd⟩:=OC I2.hok e;cases r0;refine ⟨rs,c,dd,fun h' dd' hs=>⟨.ref s.heap.objs.size,_,?_,rfl,q2⟩⟩
 have hz:(Ey [] kvs).length <= sizeLine:=by
  have h1:=Do kvs [];rw [length_nil] at h1;rw [sizeLine_eq]; omega
 have he:∃ q,h'.get? s.heap.objs.size=some q:=let ⟨q,_,_,hq,_⟩:=dd'; ⟨q,hq⟩
 exact Fb I2 (by rw [e]; exact True.intro) hs he (Kc hz hd (rk.merge .nil) dd')
def IsD (H:Hp) (a:Addr):Prop:=(∃ kvs,Rd H a (.dK kvs))\/∃ kvs,Rd H a (.dT kvs)
theorem OE (I:Inv X aa σ H s) (d:IsD H a) :
  s.TypeIs (.ref a) "dict" /\ (∀ b,Value.ref a=.ref b->∃ ob,s.heap.get? b=some ob/\ob.dict=none)/\(a == sysModules)=false:=by
 rcases d with ⟨kvs,e⟩ | ⟨kvs,e⟩
 ·obtain ⟨_,hd,vs,_,dd⟩:=C1 I.hok e;refine ⟨dd.typeIs,fun b q=>?_,hd⟩;cases q;obtain ⟨ob,_,_,h1,h2,_⟩:=dd;exact ⟨ob,h1,h2.2.1⟩
 ·obtain ⟨_,hd,xs,_,dd⟩:=Hr I.hok e;refine ⟨dd.typeIs,fun b q=>?_,hd⟩;cases q;obtain ⟨ob,_,_,h1,h2,_⟩:=dd;exact ⟨ob,h1,h2.2.1⟩
end L2
namespace Att
open PySem PySem.W PySem.Calls PyProof.Rows
theorem FV {P:Params}:∀ (ns:List Int) (vs:List Value),WellAll P h vs (ns.map WData.int)->IntsAre vs ns:=by
 intro ns;induction ns with
 | nil =>
  intro vs w;rw [map_nil] at w;cases w;exact .nil
 | cons n ns ih =>
  intro vs w;rw [map_cons] at w;cases w with
  | cons a b =>
   cases a;exact .cons _ _ (ih _ b)
theorem Mg {l:OpenLaw} {n:Nat} (hn:l.most=some n) {P:Params} {args:List WData} {vals:List Value}
    (cf:l.row.toRowW.claim.pre args=true) (hwl:WellAll P h vals args) :
    ∃ a vs ns,vals=[Value.ref a]/\args=[WData.list (ns.map WData.int)]/\h.get? a=some { cls:=.type "list", data:=.seq vs.toArray }/\IntsAre vs ns/\ns.length <= n:=by
  have ah:WShape.hasAll [] args [.list .int]=true:=(pre_splitW cf).1;have hc:l.pre.holds [] { args:=args }=true:=(pre_splitW cf).2;obtain ⟨d,r,rfl,h1,h2⟩:=hasAllW_cons ah;obtain rfl:=hasAllW_nil h2;obtain ⟨xs,rfl,h3⟩:=hasW_list h1;obtain ⟨ns,rfl⟩:=items_int h3
  have az:ns.length <= n:=by
    unfold OpenLaw.pre at hc
    have h4:(WTm.not (.lt (.lit (.int (n:Int))) (.len (.arg 0)))).holds [] { args:=[.list (ns.map .int)] }=true:=by
      have h4:=(holds_andW hc).1;rw [hn] at h4;exact h4
    have h5:=condW_of h4 (w_not (w_lt w_lit (w_len_list (w_arg rfl))));rw [AI] at h5;refine Nat.le_of_not_lt fun q=>?_;have q':(n:Int) < ((ns.length:Nat):Int):=by omega
    first
      | (rw [decide_eq_true q'] at h5; exact absurd h5 (by decide))
      | (simp at h5; omega)
  cases hwl with
  | cons w1 w2 =>
    cases w2;cases w1 with
    | list ho bp=>exact ⟨_,_,ns,rfl,rfl,ho,FV ns _ bp,az⟩
theorem Mh (l:OpenLaw) (args:List WData):l.row.toRowW.claim.post args (.bool true) args=true :=
 postW_of (r:=l.row.toRowW) (X:=(true == true))
  (show WShape.has [] (.bool true) .bool=true by first | rfl | decide | simp [WShape.has,WShape.arms,WShape.armsAll])
  (show (WTm.eq .res (.lit (.bool true))).value [] { args:=args,res:=some (.bool true),after:=args }=some (.bool (true == true)) from w_eq_bool (w_res rfl) w_lit) rfl
theorem attach_call {l:OpenLaw} {n:Nat} {q:Program} {loose:List Str} {XP:(Str->Option Value)->Heap->Prop} {YP:World->Heap->Prop} {d:DefRec}
  (hn:l.most=some n) (hdf:d.params.defaults=[])
  (call:∀ (w:World) (s₀ s₁:Shared) (mg mb:SV) (fa:Addr) (o:Obj) (pm cd doc:Value) (a:Addr) (vs:List Value) (ns:List Int),
   Ground q loose [] XP w s₀ mg mb s₁.heap->YP w s₁.heap ->
   s₁.heap.get? fa=some o->o.data=.func (docDef d.name d.params d.body d.scope pm cd doc)->s₁.heap.CodeRec cd d.name->mg d.name=some (.ref fa) ->
   s₁.heap.get? a=some { cls:=.type "list", data:=.seq vs.toArray }->IntsAre vs ns->ns.length <= n->s₁.gens=#[] ->
   codeAny (model l.prog w) callerA (.call (.ref fa) ⟨[.ref a],[]⟩) (fun r s'=>r=.ok (.ret (.bool true))/\OldK s₁.heap s'.heap/\s'.os=s₁.os/\AllBare s'.gens) s₁) :
  WalkO q loose XP YP l.row.toRowW d [] (fun f vs=>PySem.call f vs):=by
 intro w s₀ s₁ mg mb G Y fa o pm cd doc dV kV ho hd hcd hD hmg hg args vals as cf hlay hrd hwl hlo;obtain rfl:dV=.none:=Dflts.none hD hdf;obtain rfl:kV=.none:=Dflts.noKw hD;obtain ⟨a,vs,ns,rfl,rfl,cr,bn,az⟩:=Mg hn cf hwl;refine enter_call (codeAny_mono (call w s₀ s₁ mg mb fa o pm cd doc a vs ns G Y ho (fd_plain hd) hcd hmg cr bn az hg) fun r s' hq=>?_);obtain ⟨rfl,h2,h3,h4⟩:=hq;exact ⟨.inl ⟨.bool true,.bool true,[],rfl,fun _=>rfl,.bool true,Mh l _,fun _=>⟨List.Pairwise.nil,fun _ hm=>(nomatch hm)⟩⟩,h2,h3,h4⟩
end Att
namespace L2
open PySem PySem.Spec PyProof.Rows
theorem Dc:∀ {vs:List Value} {ns:List Int},IntsAre vs ns->Vals (ns.map V.int) vs
 | _,_,.nil=>.nil
 | _,_,.cons n t h=>.cons ⟨t,rfl⟩ (Dc h)
end L2
namespace L2
open PySem PySem.Spec PyProof.Rows
noncomputable def inClass (s:Stmt) (j:Nat):Stmt:=match s with
 | .ClassDef _ _ _ body _ _ _ _ _ _ _=>body.getD j (.Pass ⟨0,0,0,0⟩)
 | _=>.Pass ⟨0,0,0,0⟩
noncomputable def defArgs (s:Stmt):Arguments:=match s with
 | .FunctionDef _ a _ _ _ _ _ _ _ _=>a
 | _=>{ posonlyargs:=[],args:=[],vararg:=none,kwonlyargs:=[],kw_defaults:=[],kwarg:=none,defaults:=[] }
noncomputable def defBody (s:Stmt):List Stmt:=match s with
 | .FunctionDef _ _ b _ _ _ _ _ _ _=>b
 | _=>[]
noncomputable def defScope (s:Stmt):Scope:=match s with
 | .FunctionDef _ _ _ _ _ _ sc _ _ _=>sc
 | _=>{ kind:=.function,names:=[],isGenerator:=false,isCoroutine:=false }
abbrev CX0:CXT:=fun _ _ _ _ _ _=>False
abbrev E0:XK:=fun _ _ _=>False
theorem AQ:BQ CX0 X E0:=fun _ _ _ _ _ _ _ h=>h.elim
structure Fun (K:FG) (x qual:Str) (st:Stmt) (f:Addr) (fd:FuncData):Prop where
 ex:∃ (oc:Value) (od:Option Addr) (kV doc pm:Value) (an:Option Addr) (ad ct:Value) (osl:Array (Option Value)),
  fd=W.fnOf x qual (defArgs st) (defBody st) (defScope st) .none kV doc pm an ad ct/\K.lookup f=some ⟨oc,od,.func fd,osl⟩/\W.codeIn K ad qual=true
 kp:W.keepIn K (.ref f)=true
section
theorem Fun.ok {qual:Str} {st:Stmt} {fd:FuncData} {ps:List Str} {k:Nat} {sp:Sp} (F:Fun K x qual st f fd) (S:AK N ps (defScope st)) (len:∀ vs H Q E,sp vs H Q E->vs.length=ps.length)
  (be:∀ (ad:Value) (A:Around) (outer:List Env) (s:Shared) (H:Hp) (vs:List V) (Q:VK) (E:XK),Room k (A.deeper (envOfC qual (defScope st) s.heap.objs.size f ad))->sp vs H Q E ->
   ∃ t,PSs (BH CX0 P w K mg base N qual (defScope st) f ad A outer s H E).nox (defBody st) t/\t { nx:=fun _ H'=>Q .non H',rt:=Q } (BZ N vs) H):Ae P w K mg base CX0 (k + 1) f fd ps sp:=by
 obtain ⟨oc,od,kV,doc,pm,an,ad,ct,osl,rfl,lk,hcd⟩:=F.ex;refine LZ lk hcd S len fun A outer s H vs Q E hr hsp=>?_;obtain ⟨t,h,q⟩:=be ad A outer s H vs Q E hr hsp;exact ⟨t,h.nox,q⟩
structure BdC (P:Program) (w:World) (K:FG) (mg:SV) (base:Heap) (f:Addr) (qual:Str) (st:Stmt) (N ps:List Str) (k:Nat) (vs:List V) (H:Hp) (Q:VK) (E:XK):Prop where
 len:vs.length=ps.length
 ok:∀ (ad:Value) (A:Around) (outer:List Env) (s:Shared),Room k (A.deeper (envOfC qual (defScope st) s.heap.objs.size f ad)) ->
  ∃ t,PSs (BH CX0 P w K mg base N qual (defScope st) f ad A outer s H E |>.nox) (defBody st) t/\t { nx:=fun _ H'=>Q .non H',rt:=Q } (BZ N vs) H
theorem Fun.m {qual:Str} {st:Stmt} {fd:FuncData} {ps:List Str} {k:Nat} {sp:Sp} (F:Fun K x qual st f fd) (S:AK N ps (defScope st)) (h:∀ vs H Q E,sp vs H Q E->BdC P w K mg base f qual st N ps k vs H Q E) :
  Ae P w K mg base CX0 (k + 1) f fd ps sp:=F.ok S (fun vs H Q E q=>(h vs H Q E q).len) fun c A o s H vs Q E r q=>(h vs H Q E q).ok c A o s r
theorem Fun.binds {qual:Str} {st:Stmt} {fd:FuncData} {ps:List Str} (F:Fun K x qual st f fd)
  (h:∀ (kV doc pm:Value) (an:Option Addr) (ad ct:Value) (us:List Value),us.length=ps.length->bindArgs (W.fnOf x qual (defArgs st) (defBody st) (defScope st) .none kV doc pm an ad ct) ⟨us,[]⟩=pure (ps.zip us)):Binds K fd ps []:=by
 obtain ⟨oc,od,kV,doc,pm,an,ad,ct,osl,rfl,lk,hcd⟩:=F.ex;exact .all (h kV doc pm an ad ct)
theorem fun_mk {qual:Str} {st:Stmt} {oc:Value} {od an:Option Addr} {osl:Array (Option Value)} {kV doc pm ad ct:Value} (l:K.lookup f=some ⟨oc,od,.func (W.fnOf x qual (defArgs st) (defBody st) (defScope st) .none kV doc pm an ad ct),osl⟩)
  (c:W.codeIn K ad qual=true) (k:W.keepIn K (.ref f)=true):Fun K x qual st f (W.fnOf x qual (defArgs st) (defBody st) (defScope st) .none kV doc pm an ad ct):=⟨⟨oc,od,kV,doc,pm,an,ad,ct,osl,rfl,l,c⟩,k⟩
end
theorem FO {k:Nat} (hr:Room k A):A.units + 1 < cLine:=Nat.lt_of_le_of_lt (Nat.add_le_add_left (by decide:1 <= 64) _) hr.units
theorem Ad {n:Nat} (h:n <= 1000):n < sizeLine:=Nat.lt_of_le_of_lt h (by decide)
section
theorem pv (i:Nat) (hN:X.N[i]?=some x:=by rfl) (hv:Vis X.env.scope x:=by first | exact Or.inl rfl | exact Or.inr (Or.inl rfl) | exact Or.inr (Or.inr rfl)) (hd:(x == ("__debug__" : Str))=false:=by decide)
  (hcd:(x == ("__classdict__" : Str))=false:=by decide):PE X (.Name x pos) (Ft i):=Np hN hv hd hcd
end
theorem An {A B:Prop} (h:B):if false=true then A else B:=by
 rw [if_neg Bool.false_ne_true];exact h
theorem BC {A B:Prop} (h:A):if true=true then A else B:=by
 rw [if_pos rfl];exact h
theorem Bj {c A B:Prop} [Decidable c] (h1:c->A) (h2:¬ c->B):if c then A else B:=by
 by_cases h:c
 ·rw [if_pos h];exact h1 h
 ·rw [if_neg h];exact h2 h
theorem Le {c A B:Prop} [Decidable c] (hc:c) (h:B):if (!decide c)=true then A else B:=by
 rw [decide_eq_true hc];exact An h
def Same (H H':Hp):Prop:=∀ b o,H b=some o->H' b=some o
theorem Same.refl (H:Hp):Same H H:=fun _ _ h=>h
theorem Same.trans {H1 H2:Hp} (a:Same H H1) (b:Same H1 H2):Same H H2:=fun c o h=>b c o (a c o h)
theorem Same.seq (e:Same H H') (h:SqL K H a xs):SqL K H' a xs:=by
 rcases h with (h | ⟨o,h⟩) | h
 ·exact .inl (.inl (e _ _ h))
 ·exact .inl (.inr ⟨o,e _ _ h⟩)
 ·exact .inr h
section
variable {κ:Type} [DecidableEq κ]
theorem Lf:∀ {l:List κ} {k:κ},l.Nodup->¬ k ∈ l->(l++[k]).Nodup
 | [],k,_,_=>by simp
 | a :: r,k,h,hk=>by
  obtain ⟨h1,h2⟩:=nodup_cons.mp h;show (a :: (r++[k])).Nodup;refine nodup_cons.mpr ⟨fun m=>?_,Lf h2 fun m=>hk (mem_cons.mpr (Or.inr m))⟩;rcases mem_append.mp m with q | q
  ·exact h1 q
  ·exact hk (mem_cons.mpr (Or.inl (mem_singleton.mp q).symm))
end
end L2
end
section
variable {X:L2.Cx} {H:L2.Hp} {H':L2.Hp} {s:PySem.Shared} {pos:PySem.Pos} {σ:L2.St} {P:PySem.Program} {w:PySem.World} {A:PySem.Around} {aa:LO} {x:PySem.Str} {a:PySem.Addr} {K:FG} {C:PySem.Addr} {E:Ab} {h:PySem.Heap} {us:List PySem.Value} {f:PySem.Addr} {u:PySem.Value} {xs:List L2.V} {e:PySem.Expr} {te:L2.TE} {base:PySem.Heap} {N:List PySem.Str} {mg:SV}
section
namespace L2
open PySem PySem.Spec PyProof.Rows
theorem Inv.track {o:HO} (I:Inv X aa σ H s) (hn:H a=none) (hL:a ≠ X.env.locals) (h1:a ∈ X.ex\/X.s₀.heap.objs.size <= a)
  (h2:∀ x c,X.env.cells.lookup x=some c->c ≠ a) (h3:∀ p ∈ X.pn++aa,p.1 ≠ a) (new:ObjOk X.prog X.w (upd H a o) s.heap a o):Inv X aa σ (upd H a o) s:=by
 have aw:∀ b u,H b=some u->b ≠ a:=fun b u e=>AJ e hn
 refine I.step (h':=s.heap) (H':=upd H a o) (g':=s.gens) (t':=s.toks) (d':=s.drawn) (ch:=[a])
  (fun b hb=>by have e:b=a:=by simpa using hb
                subst e; exact ⟨h1,hL,h2,h3⟩)
  (fun b o _ _ _ e _=>e) (fun b o _ _ _ e _=>⟨o.slots,e⟩) (fun b o hc e n=>by rw [AH (by simpa using hc)]; exact n)
  (fun b o _ e=>⟨o,e⟩) (fun b xs e=>by rw [AH (aw b _ e)]; exact e) (fun b o u e=>by rw [AH (aw b _ e)]; exact e)
  (fun b ps e=>⟨#[],by rw [AH (aw b _ e),e]; simp⟩) (fun m h=>h) (fun b u e=>?_) I.bare
 by_cases hb:b=a
 ·subst hb; rw [AB] at e; cases e; exact new
 ·rw [AH hb] at e;exact (I.hok b u e).stay (fun c v _ q=>q) (fun c q=>by rw [AH (aw c _ q)]; exact q) fun c xs q=>by rw [AH (aw c _ q)]; exact q
structure CompFits (osc sc:Scope) (N N':List Str) (ix:List (Option Nat)):Prop where
 kind:sc.kind=.function
 nocell:∀ y ∈ sc.names,y.2 ≠ .cell
 free:∀ y ∈ sc.names,y.2=.free->osc.names.lookup y.1=some .cell\/osc.names.lookup y.1=some .free
 loc:∀ y ∈ sc.names,y.2=.local->sc.names.lookup y.1=some .local
 len:ix.length=N'.length
 slot:∀ (j:Nat) (x:Str) (i:Nat),N'[j]?=some x->ix[j]?=some (some i)->N[i]?=some x/\sc.names.lookup x=some .free
noncomputable def RT (sc:Scope) (N:List Str) (x:Str):Option Nat->Bool
 | none=>true
 | some i=>decide (N[i]?=some x) && decide (sc.names.lookup x=some .free)
noncomputable def Cm (sc:Scope) (N:List Str):List Str->List (Option Nat)->Bool
 | [],[]=>true
 | x :: r,o :: os=>RT sc N x o && Cm sc N r os
 | _,_=>false
noncomputable def FP (osc sc:Scope) (N N':List Str) (ix:List (Option Nat)):Bool :=
 decide (sc.kind=.function) && (sc.names.all fun y=>decide (y.2 ≠ .cell) && (decide (y.2 ≠ .free) || decide (osc.names.lookup y.1=some .cell) || decide (osc.names.lookup y.1=some .free)) &&
  (decide (y.2 ≠ .local) || decide (sc.names.lookup y.1=some .local))) && Cm sc N N' ix
theorem F9 {sc:Scope} {N:List Str}:∀ {N':List Str} {ix:List (Option Nat)},Cm sc N N' ix=true->ix.length=N'.length
 | [],[],_=>rfl
 | [],_ :: _,h=>by simp [Cm] at h
 | _ :: _,[],h=>by simp [Cm] at h
 | x :: r,o :: os,h=>by
  simp only [Cm,Bool.and_eq_true] at h;simp only [length_cons,F9 h.2]
theorem Hs {sc:Scope} {N:List Str}:∀ {N':List Str} {ix:List (Option Nat)},Cm sc N N' ix=true->∀ (j:Nat) (x:Str) (i:Nat),N'[j]?=some x->ix[j]?=some (some i)->N[i]?=some x/\sc.names.lookup x=some .free
 | [],_,_,_,_,_,e,_=>by simp at e
 | _ :: _,[],h,_,_,_,_,_=>by simp [Cm] at h
 | y :: r,o :: os,h,j,x,i,e1,e2=>by
  simp only [Cm,Bool.and_eq_true] at h;cases j with
  | zero =>
   simp only [List.getElem?_cons_zero,Option.some.injEq] at e1 e2;subst e1 e2;have h1:=h.1;simp only [RT,Bool.and_eq_true,decide_eq_true_eq] at h1;exact h1
  | succ j =>
   simp only [List.getElem?_cons_succ] at e1 e2;exact Hs h.2 j x i e1 e2
theorem CompFits.of {osc sc:Scope} {N':List Str} {ix:List (Option Nat)} (h:FP osc sc N N' ix=true):CompFits osc sc N N' ix:=by
 simp only [FP,Bool.and_eq_true,decide_eq_true_eq,List.all_eq_true,Bool.or_eq_true] at h;obtain ⟨⟨h1,h2⟩,h3⟩:=h;refine ⟨h1,fun y hy=>(h2 y hy).1.1,fun y hy e=>?_,fun y hy e=>?_,F9 h3,Hs h3⟩
 ·rcases (h2 y hy).1.2 with (z | z) | z
  ·exact absurd e z
  ·exact .inl z
  ·exact .inr z
 ·rcases (h2 y hy).2 with z | z
  ·exact absurd e z
  ·exact z
noncomputable abbrev Dt (env:Env):Str × NameKind->Str × NameKind:=fun (n,k)=>if (k == NameKind.free && env.scope.kind == .function && env.kindOf n == some .cell) then (n,NameKind.cell) else (n,k)
theorem JX (env:Env) (y:Str × NameKind):(Dt env y).1=y.1:=by
 obtain ⟨n,k⟩:=y; simp only [Dt]; split <;> rfl
theorem Mi (env:Env) (n:Str):(Dt env (n,.free)).2=.cell\/(Dt env (n,.free)).2=.free:=by
 simp only [Dt]; split
 ·exact .inl rfl
 ·exact .inr rfl
theorem QF (env:Env) (y:Str × NameKind) (h:y.2 ≠ .free):Dt env y=y:=by
 obtain ⟨n,k⟩:=y;have e:(k == NameKind.free)=false:=by simpa using h
 simp only [Dt,e,Bool.false_and,Bool.false_eq_true,if_false]
theorem Dp {env:Env}:∀ {names:List (Str × NameKind)} {x:Str},names.lookup x=some .free->(names.map (Dt env)).lookup x=some .cell\/(names.map (Dt env)).lookup x=some .free
  | [],_,h=>by simp at h
  | (n,k) :: r,x,h=>by
    rw [map_cons]
    have e:Dt env (n,k)=(n,(Dt env (n,k)).2):=by
      have:=JX env (n,k);exact Prod.ext this rfl
    rw [e];cases hx:x == n with
    | true =>
      simp only [lookup_cons,hx] at h ⊢;cases h;rcases Mi env n with z | z
      · rw [z]; exact .inl rfl
      · rw [z]; exact .inr rfl
    | false =>
      simp only [lookup_cons,hx] at h ⊢;exact Dp h
theorem FQ {env:Env}:∀ {names:List (Str × NameKind)} {x:Str},(∀ y ∈ names,y.2 ≠ .cell)->((names.map (Dt env)).lookup x=some .cell\/(names.map (Dt env)).lookup x=some .free)->(x,NameKind.free) ∈ names
  | [],_,_,h=>by simp at h
  | (n,k) :: r,x,hc,h=>by
    rw [map_cons] at h;have e:Dt env (n,k)=(n,(Dt env (n,k)).2):=Prod.ext (JX env (n,k)) rfl;rw [e] at h;cases hx:x == n with
    | true =>
      simp only [lookup_cons,hx] at h;have exn:x=n:=by simpa using hx
      subst exn;by_cases hk:k=.free
      · subst hk; exact mem_cons_self
      · rw [QF env (x,k) hk] at h
        rcases h with z | z
        · have:k=.cell:=by simpa using z
          exact absurd this (hc (x,k) mem_cons_self)
        · have:k=.free:=by simpa using z
          exact absurd this hk
    | false =>
      simp only [lookup_cons,hx] at h;exact mem_cons_of_mem _ (FQ (fun y hy=>hc y (mem_cons_of_mem _ hy)) h)
theorem IY {env:Env} {f:Str × NameKind->List (Str × Addr)->Sem (ForInStep (List (Str × Addr)))}
  (h1:∀ y acc,y.2 ≠ .free->f y acc=pure (.yield acc)) (h2:∀ y acc c,y.2=.free->env.cells.lookup y.1=some c->f y acc=pure (.yield ((y.1,c) :: acc))) :
  ∀ (names:List (Str × NameKind)) (acc:List (Str × Addr)),(∀ y ∈ names,y.2=.free->∃ c,env.cells.lookup y.1=some c)->(∀ x c,acc.lookup x=some c->env.cells.lookup x=some c) ->
   ∃ cl,forIn names acc f=(pure cl:Sem _)/\(∀ x c,cl.lookup x=some c->env.cells.lookup x=some c)/\(∀ y ∈ names,y.2=.free->∃ c,cl.lookup y.1=some c)/\∀ x c,acc.lookup x=some c->∃ c',cl.lookup x=some c'
 | [],acc,_,ha=>⟨acc,rfl,ha,fun _ hy=>(nomatch hy),fun x c e=>⟨c,e⟩⟩
 | y :: r,acc,hn,ha=>by
  have hr:∀ z ∈ r,z.2=.free->∃ c,env.cells.lookup z.1=some c:=fun z hz=>hn z (mem_cons_of_mem _ hz);by_cases hy:y.2=.free
  ·obtain ⟨c,hc⟩:=hn y mem_cons_self hy
   obtain ⟨cl,e,p1,p2,p3⟩:=IY h1 h2 r ((y.1,c) :: acc) hr fun x d e=>by
    cases hx:x == y.1 with
    | true =>
     simp only [lookup_cons,hx,Option.some.injEq] at e;have:x=y.1:=by simpa using hx
     rw [this,← e]; exact hc
    | false =>
     simp only [lookup_cons,hx] at e;exact ha x d e
   refine ⟨cl,by rw [forIn_cons,h2 y acc c hy hc,pure_bind]; exact e,p1,fun z hz hf=>?_,fun x d e=>?_⟩
   ·rcases mem_cons.mp hz with rfl | hz
    ·exact p3 z.1 c (by simp [lookup_cons])
    ·exact p2 z hz hf
   ·cases hx:x == y.1 with
    | true=>exact p3 x c (by simp [lookup_cons,hx])
    | false=>exact p3 x d (by simp only [lookup_cons,hx]; exact e)
  ·obtain ⟨cl,e,p1,p2,p3⟩:=IY h1 h2 r acc hr ha;refine ⟨cl,by rw [forIn_cons,h1 y acc hy,pure_bind]; exact e,p1,fun z hz hf=>?_,p3⟩;rcases mem_cons.mp hz with rfl | hz
   ·exact absurd hf hy
   ·exact p2 z hz hf
theorem QG {env:Env} {scope:Scope} (hn:∀ y ∈ scope.names,y.2=.free->∃ c,env.cells.lookup y.1=some c) :
  ∃ cl,closureFor scope env=pure cl/\(∀ x c,cl.lookup x=some c->env.cells.lookup x=some c)/\∀ y ∈ scope.names,y.2=.free->∃ c,cl.lookup y.1=some c:=by
 obtain ⟨cl,e,p1,p2,_⟩:=IY (env:=env) (f:=fun (x:Str × NameKind) (r:List (Str × Addr))=>if (x.2 == NameKind.free)=true then (cellOf env x.1 >>= fun a=>pure (ForInStep.yield ((x.1,a) :: r))) else pure (ForInStep.yield r)) (fun y acc hy=>by
  have:(y.2 == NameKind.free)=false:=by simpa using hy
  rw [this,if_neg Bool.false_ne_true]) (fun y acc c hy hc=>by
  have h0:(y.2 == NameKind.free)=true:=by rw [hy]; rfl
  rw [if_pos h0];simp only [cellOf,hc]
  rfl) scope.names [] hn fun x c e=>by simp at e
 refine ⟨cl,?_,p1,p2⟩;have e0:closureFor scope env=(forIn scope.names [] (fun (x:Str × NameKind) (r:List (Str × Addr))=>if (x.2 == NameKind.free)=true then (cellOf env x.1 >>= fun a=>pure (ForInStep.yield ((x.1,a) :: r))) else pure (ForInStep.yield r)) >>= fun cs=>pure cs):=rfl;rw [e0,e];rfl
noncomputable def Ak (X:Cx) (N':List Str) (scope:Scope) (cl:List (Str × Addr)) (s:Shared) (H:Hp) (C:Addr) (fp:List Addr) (pn:LO):Cx where
 prog:=X.prog
 w:=X.w
 K:=X.K
 mg:=X.mg
 base:=X.base
 A:=X.A
 N:=N'
 s₀:=s
 H₀:=H
 env:=compEnvC scope cl C X.env
 outer:=X.stack
 stack:=X.stack
 ex:=fp
 fn:=fun _=>false
 calm:=X.calm
 pn:=pn
 xe:=fun _ _=>False
noncomputable def Bq (ix:List (Option Nat)) (σ:St):St:=ix.map fun o=>o.bind fun i=>(σ[i]?).join
theorem QH {ix:List (Option Nat)} {j:Nat} {v:V} (h:(Bq ix σ)[j]?=some (some v)):∃ i,ix[j]?=some (some i)/\σ[i]?=some (some v):=by
 unfold Bq at h;rw [getElem?_map] at h;cases e:ix[j]? with
 | none=>rw [e] at h; cases h
 | some o =>
  rw [e] at h;simp only [Option.map_some,Option.some.injEq] at h;cases o with
  | none=>cases h
  | some i =>
   refine ⟨i,rfl,?_⟩;simp only [Option.bind_some] at h;cases q:σ[i]? with
   | none=>rw [q] at h; cases h
   | some u=>rw [q] at h; simp only [Option.join_some] at h; rw [h]
section
variable {N':List Str} {ix:List (Option Nat)} {scope:Scope} {cl:List (Str × Addr)} {fp:List Addr}
theorem QI (I:Inv X aa σ H s) (hf:CompFits X.env.scope scope X.N N' ix) (c1:∀ x c,cl.lookup x=some c->X.env.cells.lookup x=some c) (c2:∀ y ∈ scope.names,y.2=.free->∃ c,cl.lookup y.1=some c)
  (hC:s.heap.objs.size <= C) (hfp:∀ b ∈ fp,EN X aa H b) (hlt:∀ b ∈ fp,b < s.heap.objs.size):(Ak X N' scope cl s H C fp (X.pn++aa)).Ok where
 mod:=I.mod
 kind:=hf.kind
 glob:=I.ok.glob
 blt:=I.ok.blt
 above:=hC
 inj:=fun x y c e1 e2=>I.ok.inj x y c (c1 x c e1) (c1 y c e2)
 has:=fun x h=>by
  have hm:(x,NameKind.free) ∈ scope.names:=FQ (env:=X.env) hf.nocell h;exact c2 (x,.free) hm rfl
 cab:=fun x c h=>by cases h
 hd:=I.ok.hd
 frames:=I.ok.frames
 stk:=.inl rfl
 exf:=fun b hb=>⟨Nat.ne_of_lt (Nat.lt_of_lt_of_le (hlt b hb) hC),fun x c e=>(hfp b hb).2.2.2.2.1 x c (c1 x c e)⟩
 bs:=I.bs
 bsz:=Nat.le_trans I.ok.bsz I.sz
 noex:=fun b o e hb=>by
  rcases (hfp b hb).2.2.2.1 with z | z
  ·exact I.ok.noex b o e z
  ·exact absurd (Nat.lt_of_lt_of_le (Nat.lt_of_lt_of_le (lt_size e) I.ok.bsz) z) (Nat.lt_irrefl _)
 exfs:=fun b hb z=>by
  rcases mem_cons.mp (I.stkSub b z) with e | e
  ·exact (hfp b hb).2.1 e
  ·exact (hfp b hb).2.2.1 e
 funs:=I.stack
 frf:=I.stkFree
theorem Ke (I:Inv X aa σ H s) (hf:CompFits X.env.scope scope X.N N' ix) (c1:∀ x c,cl.lookup x=some c->X.env.cells.lookup x=some c) (c2:∀ y ∈ scope.names,y.2=.free->∃ c,cl.lookup y.1=some c)
  (hC:s.heap.objs.size <= C) (hfp:∀ b ∈ fp,EN X aa H b) (hlt:∀ b ∈ fp,b < s.heap.objs.size) {h₁:Heap} {tk:Nat} {m:SV} (old:∀ b o,s.heap.get? b=some o->h₁.get? b=some o) (hns:h₁.Ns C m) :
  Inv (Ak X N' scope cl s H C fp (X.pn++aa)) [] (Bq ix σ) H { s with heap:=h₁,toks:=tk } where
 ok:=QI I hf c1 c2 hC hfp hlt
 os:=rfl
 bare:=I.bare
 base:=Un.kept old
 loc:=⟨m,hns,fun j x v e1 e2 e3=>by
  obtain ⟨i,ei,ev⟩:=QH e2;obtain ⟨hN,bx⟩:=hf.slot j x i e1 ei;obtain ⟨mX,_,hl⟩:=I.loc
  have hm:(x,NameKind.free) ∈ scope.names:=by
   have:∀ {l:List (Str × NameKind)} {k:NameKind},l.lookup x=some k->(x,k) ∈ l:=fun {l k}=>by
    induction l with
    | nil=>intro e; simp at e
    | cons y r ih =>
     intro e;obtain ⟨n,kk⟩:=y;cases hx:x == n with
     | true =>
      simp only [lookup_cons,hx,Option.some.injEq] at e;have:x=n:=by simpa using hx
      subst this e;exact mem_cons_self
     | false =>
      simp only [lookup_cons,hx] at e;exact mem_cons_of_mem _ (ih e)
   exact this bx
  have hk:=hf.free _ hm rfl;obtain ⟨u,r,q⟩:=hl i x v hN ev (.inr hk);refine ⟨u,r,.inr ⟨Dp (env:=X.env) bx,?_⟩⟩;obtain ⟨c,hc⟩:=c2 _ hm rfl;refine ⟨c,hc,?_⟩;rcases q with ⟨k,_⟩ | ⟨_,c',hc',z⟩
  ·have k':X.env.scope.names.lookup x=some .local:=k;rcases hk with a | a <;> (rw [k'] at a; cases a)
  ·rw [c1 x c hc] at hc';cases hc'
   exact z.keeps old⟩
 cell:=fun x c e=>by
  obtain ⟨v,z⟩:=I.cell x c (c1 x c e);exact ⟨v,z.keeps old⟩
 free:=I.hok.fresh hC
 freeC:=fun x c e=>I.freeC x c (c1 x c e)
 pin:=fun p hp=>by
  have hp':p ∈ X.pn++aa:=by
   have z:=hp;rw [append_nil] at z;exact z
  obtain ⟨e,n,ne,nf,d⟩:=I.pin p hp';refine ⟨old _ _ e,n,Nat.ne_of_lt (Nat.lt_of_lt_of_le (lt_size e) hC),fun z=>?_,d⟩;rcases mem_cons.mp (I.stkSub p.1 z) with q | q
  ·exact ne q
  ·exact nf q
 hok:=I.hok.kept old
 len:=by
  show (Bq ix σ).length=N'.length;unfold Bq;rw [AI]; exact hf.len
theorem Mj {pins':LO} {σ':St} {s':Shared} (I:Inv X aa σ H s) (hfp:∀ b ∈ fp,EN X aa H b) (J:Inv (Ak X N' scope cl s H C fp (X.pn++aa)) pins' σ' H' s'):Inv X aa σ H' s' :=
 I.call' (ch:=fp) J.os J.base J.hok J.bare fun b hb=>⟨(hfp b hb).2.2.2.1,(hfp b hb).2.1,(hfp b hb).2.2.2.2.1,(hfp b hb).2.2.2.2.2⟩
end
def PTs (X:Cx) (ifs:List Expr) (t:TT):Prop :=
 ∀ (aa:LO) (s:Shared) (σ:St) (H:Hp) (Q:Bool->Hp->Prop),Inv X aa σ H s->t σ H Q ->
  wpAny (model X.prog X.w) X.A (forIn ifs true fun c r=>if r=true then do let ok ← isTrue c X.env (eval c X.env); pure (ForInStep.yield ok) else pure (ForInStep.yield r)) (TP X aa σ Q) X.xe s
def UA:TT:=fun _ H Q=>Q true H
theorem A8:PTs X [] UA:=fun aa s σ H Q I h=>wpAny_tests_nil ⟨H,I,h⟩
theorem Fc {c:Expr} {t:TT} (h:PT X c t):PTs X [c] t:=fun aa s σ H Q I q=>wpAny_tests_one (h aa s σ H Q I q)
def CP (wi:TI) (g:TG) (tt:TT) (te:TE) (ix:List (Option Nat)) (R:List V->Hp->Prop):St->Hp->Prop:=fun σ H=>wi σ H fun J H1=>∃ W:Nat->Nat->List V->Hp->Prop,(∃ m,W 0 m [] H1)/\∀ i m ys H,W i m ys H ->
 (J.stop i H/\ys.length <= sizeLine/\R ys H) \/
 (J.go i H/\∃ N:List V->Hp->Prop,(∀ ys' H',N ys' H'->ys'.length <= sizeLine/\∃ m',m' < m/\W (i + 1) m' ys' H') /\
  ∀ x H',J.yld i H x H'->g x (Bq ix σ) H' fun σ2 H2=>tt σ2 H2 fun b H3=>if b=true then te σ2 H3 fun y H4=>N (ys++[y]) H4 else N ys H3)
def PGk (X:Cx) (tg:Expr) (ix:List (Option Nat)) (g:TG):Prop :=
 ∀ (aa:LO) (s:Shared) (σ:St) (H:Hp) (v:V) (u:Value) (Q:St->Hp->Prop),Inv X aa (Bq ix σ) H s->RelV v u->g v (Bq ix σ) H Q ->
  wpAny (model X.prog X.w) X.A (assign tg X.env u) (fun _ s'=>∃ σ' H',Inv X aa σ' H' s'/\(∀ (j:Nat) (v:V),(Bq ix σ)[j]?=some (some v)->σ'[j]?=some (some v))/\Q σ' H') X.xe s
theorem GA {ixc:List (Option Nat)} (h:PG X (.Name x pos) (Bv 0)):PGk X (.Name x pos) (none :: ixc) (Bv 0):=by
 intro aa s σ H v u Q I r q;refine thn (h aa s _ H v u (fun σ' H'=>(∀ (j:Nat) (v:V),(Bq (none :: ixc) σ)[j]?=some (some v)->σ'[j]?=some (some v))/\Q σ' H') I r ⟨fun j w e=>?_,q⟩) fun _ s' ⟨σ',H',I',k,q⟩=>⟨σ',H',I',k,q⟩;cases j with
 | zero=>cases e
 | succ j=>exact e
theorem JY {tg:Expr} {ixc:List (Option Nat)} (h:PG X tg (Nv K 2 (Dm (Bv 0) (Dm (Bv 1) Nu)))):PGk X tg (none :: none :: ixc) (Nv K 2 (Dm (Bv 0) (Dm (Bv 1) Nu))):=by
 intro aa s σ H v u Q I r q;obtain ⟨a,xs,e1,e2,e3,v1,r1,e4,v2,r2,e5,e6,q⟩:=q;refine thn (h aa s _ H v u (fun σ' H'=>(∀ (j:Nat) (v:V),(Bq (none :: none :: ixc) σ)[j]?=some (some v)->σ'[j]?=some (some v))/\Q σ' H') I r ⟨a,xs,e1,e2,e3,v1,r1,e4,v2,r2,e5,e6,fun j w e=>?_,q⟩) fun _ s' ⟨σ',H',I',k,q⟩=>⟨σ',H',I',k,q⟩
 match j with
 | 0=>cases e
 | 1=>cases e
 | j + 2=>exact e
structure RU (RD:Cx->Prop) (P:Program) (w:World) (K:FG) (tg:Expr) (J:It) (fp:List Addr) (it:Addr) (tn:Nat->Heap->Prop):Prop where
 obj:∀ i h,tn i h->∀ b ∈ fp,∃ o,h.get? b=some o/\∀ v,o.data ≠ .cell v
 keep:∀ i h h',tn i h->(∀ b ∈ fp,∀ o,h.get? b=some o->h'.get? b=some o)->tn i h'
 item:∀ (X:Cx),X.prog=P->X.w=w->X.K=K->RD X->∀ (i:Nat) (aa:LO) (s:Shared) (σ:St) (H:Hp) (E:Ab),Inv X aa σ H s->(∀ b ∈ fp,EN X aa H b)->tn i s.heap->J.go i H ->
  wpAny (model P w) X.A (pyNext (.ref it)) (fun r s1=>∃ u,r=some u/\wpAny (model P w) X.A (letOwnedTupleGo tg (.ref it) u) (fun _ s2=>∃ x H',Inv X aa σ H' s2/\RelV x u/\J.yld i H x H'/\tn (i + 1) s2.heap/\∀ b ∈ fp,H' b=none) E s1) E s
 done:∀ (X:Cx),X.prog=P->X.w=w->X.K=K->RD X->∀ (i:Nat) (aa:LO) (s:Shared) (σ:St) (H:Hp) (E:Ab),Inv X aa σ H s->(∀ b ∈ fp,EN X aa H b)->tn i s.heap->J.stop i H ->
  wpAny (model P w) X.A (pyNext (.ref it)) (fun r s1=>r=none/\Inv X aa σ H s1) E s
 self:∀ (A:Around) (i:Nat) (s:Shared) (Q:Ab) (E:Ab),tn i s.heap->Q (.ref it) s->wpAny (model P w) A (pyIter (.ref it)) Q E s
def PIg (RD:Cx->Prop) (X:Cx) (tg iter:Expr) (wi:TI):Prop:=∀ (aa:LO) (s:Shared) (σ:St) (H:Hp) (R:It->Hp->Prop),Inv X aa σ H s->wi σ H R ->
 wpAny (model X.prog X.w) X.A (eval iter X.env) (fun v s1=>wpAny (model X.prog X.w) X.A (pyIter v) (fun itv s2=>∃ (it:Addr) (fp:List Addr) (tn:Nat->Heap->Prop) (J:It) (H':Hp),itv=.ref it/\Inv X aa σ H' s2/\RU RD X.prog X.w X.K tg J fp it tn/\tn 0 s2.heap/\(∀ b ∈ fp,EN X aa H' b)/\R J H') X.xe s1) X.xe s
theorem PI.g {tg iter:Expr} {wi:TI} (h:PI X tg iter wi):PIg (fun X=>X.calm=true) X tg iter wi:=fun aa s σ H R I q =>
 thn (h aa s σ H R I q) fun v s1 z=>thn z fun itv s2 ⟨it,fp,tn,J,H',e,I',T,r⟩=>⟨it,fp,tn,J,H',e,I',⟨T.obj,T.keep,T.item,T.done,T.self⟩,r⟩
section
variable {tg iter elt:Expr} {ifs:List Expr} {scope:Scope} {pos':Pos} {N':List Str} {ix:List (Option Nat)} {wi:TI} {g:TG} {tt:TT}
theorem Ez {α:Type} {M:Model} {t:Sem α} {Q:α->Shared->Prop} (h:wpAny M A t Q (fun _ _=>False) s):wpAny M A t Q E s :=
 wpAny_mono h (fun _ _ q=>q) fun _ _ z=>z.elim
theorem Ht {RD:Cx->Prop} {use:Option (Value->Sem Unit)} {Qv:Ab} (hf:CompFits X.env.scope scope X.N N' ix) (hc:∀ cl s H C fp aa,RD (Ak X N' scope cl s H C fp (X.pn++aa))) (hi:PIg RD X tg iter wi)
  (hg:∀ cl s H C fp pn,PGk (Ak X N' scope cl s H C fp pn) tg ix g) (ht:∀ cl s H C fp pn,PTs (Ak X N' scope cl s H C fp pn) ifs tt) (he:∀ cl s H C fp pn,PE (Ak X N' scope cl s H C fp pn) elt te)
  (hs:∀ x,foldedSetIterable iter X.env x=pure x) {aa:LO} {s:Shared} {σ:St} {H:Hp} {R:List V->Hp->Prop} (I:Inv X aa σ H s) (h:CP wi g tt te ix R σ H)
  (hpost:∀ s' ys H' D C m,Inv X aa σ (upd H' D (.lst ys)) s'->R ys H'->H' D=none->s'.heap.Ns C m->X.s₀.heap.objs.size <= C->C ≠ X.env.locals->(∀ x c,X.env.cells.lookup x=some c->c ≠ C)->(∀ p ∈ X.pn++aa,p.1 ≠ C) ->
   upd H' D (.lst ys) C=none->compPost (model X.prog X.w) X.A X.xe use Qv (.ref D) C (.ok .next) s') :
  wpAny (model X.prog X.w) X.A (comprehension (.ListComp elt [⟨tg,iter,ifs,0⟩] scope pos) scope X.env pos' (newList []) false (eval iter X.env) use) Qv X.xe s:=by
 obtain ⟨cl,hclos,c1,c2⟩:=QG (env:=X.env) (scope:=scope) fun y hy hyf=>by
  have:=hf.free y hy hyf;exact I.ok.has y.1 this
 refine wpAny_comprehension_free (use:=use) rfl hs hclos hf.kind hf.loc (thn (hi aa s σ H _ I h) fun v s1 h1=>thn h1 fun itv s2 h2=>?_);obtain ⟨it,fp,tn,J,H2,e,I2,T,st2,f2,W,⟨m0,w0⟩,turn⟩:=h2;subst e
 have hlt:∀ b ∈ fp,b < s2.heap.objs.size:=fun b hb=>by
  obtain ⟨o,e,_⟩:=T.obj _ _ st2 b hb;exact lt_size e
 refine wpAny_newObj_type (wpAny_newFunctionEnv hf.nocell (by intro y hy; simp at hy) (fun h₁ hns₁ hsb₁=>?_) hf.kind)
 dsimp only at hns₁ hsb₁ ⊢
 generalize hH2:s2.heap.push { cls:=.type "list", dict:=none,data:=.seq ([]:List Value).toArray }=HP at hns₁ hsb₁ ⊢;have hC:HP.objs.size=s2.heap.objs.size + 1:=by rw [← hH2,size_push]
 have hDC:s2.heap.objs.size ≠ HP.objs.size:=by rw [hC]; exact Nat.ne_of_lt (Nat.lt_succ_self _)
 have hCle:s2.heap.objs.size <= HP.objs.size:=by rw [hC]; exact Nat.le_succ _
 have hCne:∀ b,b < s2.heap.objs.size->b ≠ HP.objs.size:=fun b hb=>by rw [hC]; exact Nat.ne_of_lt (Nat.lt_succ_of_lt hb)
 have old:∀ b o,s2.heap.get? b=some o->h₁.get? b=some o:=fun b o e=>hsb₁.extBut b o (hCne b (lt_size e)) (get?_push_of_some _ (hH2 ▸ get?_push_of_some _ e));have cu:h₁.get? s2.heap.objs.size=some { cls:=.type "list", dict:=none,data:=.seq ([]:List Value).toArray }:=hsb₁.extBut _ _ hDC (get?_push_of_some _ (hH2 ▸ get?_push_size _ rfl));generalize hCC:HP.objs.size=C at *;generalize hDD:s2.heap.objs.size=D at *;have IX:=Ke (N':=N') (fp:=fp) I2 hf c1 c2 (by rw [hDD]; exact hCle) f2 (by rw [hDD]; exact hlt) (tk:=s2.toks + ([]:List (Str × Value)).length) old hns₁;have hDn:H2 D=none:=I2.hok.fresh (by rw [hDD]; exact Nat.le_refl _)
 have hDfs:D ∉ frs X.stack:=fun z=>by
  rcases mem_cons.mp (I2.stkSub D z) with q | q
  ·have:=I2.lt; rw [← q,hDD] at this; exact Nat.lt_irrefl _ this
  ·exact I2.nofs (by rw [hDD]; exact Nat.le_refl _) q
 have cellLt:∀ x c,X.env.cells.lookup x=some c->c < D:=fun x c e=>by
  obtain ⟨v,z⟩:=I2.cell x c e;rw [← hDD]; exact z.lt
 have pinLt:∀ p ∈ X.pn++aa,p.1 < D:=fun p hp=>by rw [← hDD]; exact lt_size (I2.pin p hp).1
 have s0D:X.s₀.heap.objs.size <= D:=by rw [← hDD]; exact I2.sz
 have locLt:X.env.locals < D:=by rw [← hDD]; exact I2.lt
 let X':Cx:=Ak X N' scope cl s2 H2 C fp (X.pn++aa)
 have stat:∀ {H':Hp} {ob:Obj},(∀ b ∈ fp,H' b=none)->∀ b ∈ fp,EN X' [(D,ob)] H' b:=fun {H' ob} hn b hb=>by
  refine ⟨hn b hb,Nat.ne_of_lt (Nat.lt_of_lt_of_le (hlt b hb) hCle),fun z=>?_,.inl hb,fun x c e=>(f2 b hb).2.2.2.2.1 x c (c1 x c e),fun p hp=>?_⟩
  ·exact IX.ok.exfs b hb z
  ·rcases mem_append.mp hp with z | z
   ·exact (f2 b hb).2.2.2.2.2 p z
   ·have e:p=(D,ob):=by simpa using z
    subst e;exact Nat.ne_of_gt (hlt b hb)
 have pinD:∀ {σ':St} {H':Hp} {s':Shared} {ob:Obj},Inv X' [] σ' H' s'->s'.heap.get? D=some ob->H' D=none->(∀ v,ob.data ≠ .cell v)->Inv X' [(D,ob)] σ' H' s':=fun {σ' H' s' ob} Ia e n d =>
  Ia.pins_of fun p hp=>by
   have q:p=(D,ob):=by simpa using hp
   subst q;exact ⟨e,n,hDC,hDfs,d⟩
 have loop:∀ s3:Shared,s3={ s2 with heap:=h₁,toks:=s2.toks + ([]:List (Str × Value)).length } ->
   codeAny (model X.prog X.w) X.A (.compLoop (.ListComp elt [⟨tg,iter,ifs,0⟩] scope pos) 0 (.ref it) (.ref D) (compEnvC scope cl C X.env)) (compPost (model X.prog X.w) X.A X.xe use Qv (.ref D) C) s3:=by
  rintro s3 rfl
  refine codeAny_loop rfl (fun n s'=>∃ i ys its k H',Inv X' [(D,({ cls:=.type "list", data:=.seq (List.toArray its) k }:Obj))] (Bq ix σ) H' s'/\tn i s'.heap/\(∀ b ∈ fp,H' b=none)/\W i n ys H'/\Vals ys its)
   (fun n s4 hI=>?_) m0 ⟨0,[],[],_,H2,pinD IX cu hDn (fun v z=>by cases z),T.keep _ _ _ st2 (fun b _ o e=>old b o e),fun b hb=>(f2 b hb).1,w0,.nil⟩
  obtain ⟨i,ys,its,k,H4,I4,st4,fr4,w4,rv⟩:=hI;show wpAny _ X.A ((compTurn (.ListComp elt [⟨tg,iter,ifs,0⟩] scope pos) 0 (.ref it) (.ref D) (compEnvC scope cl C X.env)).onRaise (fun x=>do noteFrame x (compEnvC scope cl C X.env); theTreesLotGoes x)) _ _ s4;refine wpAny_noted ?_;rw [compTurn_list];refine Ez ?_;rcases turn i n ys H4 w4 with ⟨stop,hz,r⟩ | ⟨go,N,hN,step⟩
  ·refine wpAny_bind (wpAny_standAt (wpAny_bind (thn (T.done X' rfl rfl rfl (hc _ _ _ _ _ _) i _ s4 _ H4 _ I4 (stat fr4) st4 stop) fun r' s5 ⟨hr,I5⟩=>?_)));subst hr;have pD:=I5.pin (D,_) (mem_append_right _ mem_cons_self);have Ib:Inv X aa σ H4 s5:=Mj I2 f2 I5;have Ic:Inv X aa σ (upd H4 D (.lst ys)) s5:=Ib.track pD.2.1 (Nat.ne_of_gt locLt) (.inr s0D) (fun x c e=>Nat.ne_of_lt (cellLt x c e)) (fun p hp=>Nat.ne_of_lt (pinLt p hp)) ⟨hz,its,k,rv,pD.1⟩;obtain ⟨m5,n5,_⟩:=I5.loc
   refine wpAny_pure (hpost s5 ys H4 D C m5 Ic r pD.2.1 n5 (Nat.le_trans s0D hCle) (Nat.ne_of_gt (Nat.lt_of_lt_of_le locLt hCle)) (fun x c e=>Nat.ne_of_lt (Nat.lt_of_lt_of_le (cellLt x c e) hCle))
    (fun p hp=>Nat.ne_of_lt (Nat.lt_of_lt_of_le (pinLt p hp) hCle)) ?_)
   rw [AH (Ne.symm hDC)];exact I5.free
  ·refine wpAny_bind (wpAny_standAt (wpAny_bind (thn (T.item X' rfl rfl rfl (hc _ _ _ _ _ _) i _ s4 _ H4 _ I4 (stat fr4) st4 go) fun r' s5 ⟨u,hr,h5⟩=>?_)));subst hr;refine wpAny_bind (thn h5 fun _ s6 ⟨x,H6,I6,r6,y6,st6,fr6⟩=>?_);have I6':=I6.pinned (stat fr6) (T.obj _ _ st6);refine wpAny_bind (thn (hg _ _ _ _ _ _ _ s6 _ H6 x u _ I6' r6 (step x H6 y6)) fun _ s7 ⟨σ7,H7,I7,k7,q7⟩=>?_);refine wpAny_bind (thn (ht _ _ _ _ _ _ _ s7 σ7 H7 _ I7 q7) fun b s8 ⟨H8,I8,q8⟩=>?_)
   have again:∀ {H9:Hp} {s9:Shared} {ys':List V} {its':List Value} {k':Nat},Inv X' ([(D,({ cls:=.type "list", data:=.seq (List.toArray its') k' }:Obj))]++Ds fp s6.heap) σ7 H9 s9->Vals ys' its' ->
     (∃ m',m' < n/\W (i + 1) m' ys' H9)->∃ m,m < n/\∃ i ys its k H',Inv X' [(D,({ cls:=.type "list", data:=.seq (List.toArray its) k }:Obj))] (Bq ix σ) H' s9/\tn i s9.heap/\(∀ b ∈ fp,H' b=none)/\W i m ys H'/\Vals ys its:=by
    intro H9 s9 ys' its' k' I9 rv' ⟨m',hm,w9⟩;refine ⟨m',hm,i + 1,ys',its',k',H9,I9.unpinned.weak (I4.len.trans I9.len.symm) k7,T.keep _ _ _ st6 fun b hb o e=>(I9.pin (b,o) (mem_append_right _ (mem_append_right _ (Ci hb e)))).1,fun b hb=>?_,w9,rv'⟩;obtain ⟨o,e,d⟩:=T.obj _ _ st6 b hb;exact (I9.pin (b,o) (mem_append_right _ (mem_append_right _ (Ci hb e)))).2.1
   cases b with
   | false =>
    rw [if_neg Bool.false_ne_true] at q8;exact wpAny_pure ⟨rfl,again I8 rv (hN _ _ q8).2⟩
   | true =>
    rw [if_pos rfl] at q8;refine wpAny_bind (wpAny_bind (thn (he _ _ _ _ _ _ _ s8 σ7 H8 _ I8 q8) fun y s9 ⟨z,H9,I9,r9,q9⟩=>?_))
    have hz:ys.length < sizeLine:=by
     have:=(hN _ _ q9).1;rw [length_append,length_singleton] at this;omega
    have pD:=I9.pin (D,_) (mem_append_right _ (mem_append_left _ mem_cons_self));have az:=rv.length;refine wpAny_bind (call_meets F.slot_list_append ⟨_,pD.1,rfl⟩ F.entry_list_append (F.args_list_append_2 _ _) (PySem.list_append D its.toArray k y (by rw [size_toArray]; omega)) ⟨pD.1,wpAny_pure (wpAny_pure ⟨rfl,?_⟩)⟩);have eq':its.toArray.push y=(its++[y]).toArray:=by simp
    obtain ⟨k',q⟩:∃ k',(s9.heap.update D (Obj.mapSeq (·.push y))).get? D=some { cls:=.type "list", data:=.seq (its++[y]).toArray k' }:=⟨_,by rw [← eq']; exact PySem.IsL.update pD.1 (·.push y)⟩;have Iw:Inv X' (Ds fp s6.heap) σ7 H9 s9:=I9.pins_of fun p hp=>I9.pin p (mem_append_right _ (mem_append_right _ hp))
    have It:Inv X' (Ds fp s6.heap) σ7 H9 { s9 with heap:=s9.heap.update D (Obj.mapSeq (·.push y)),toks:=s9.toks }:=Iw.turned (it:=D) (fun b o hb e=>(get?_update_other s9.heap (Obj.mapSeq (·.push y)) (Ne.symm hb)).trans e) pD.2.1 hDC
     (.inr (by show s2.heap.objs.size <= D; rw [hDD]; exact Nat.le_refl _)) (fun x c e=>Nat.ne_of_lt (cellLt x c (c1 x c e))) (fun p hp=>by
      rcases mem_append.mp hp with z' | z'
      ·exact Nat.ne_of_lt (pinLt p z')
      ·exact Nat.ne_of_lt (hlt p.1 (HW z').1))
    refine again (its':=its++[y]) (k':=k') (It.pins_of fun p hp=>?_) (rv.append (.cons r9 .nil)) (hN _ _ q9).2;rcases mem_append.mp hp with z' | z'
    ·have e:p=(D,({ cls:=.type "list", data:=.seq (its++[y]).toArray k' }:Obj)):=by simpa using z'
     subst e;exact ⟨q,pD.2.1,hDC,hDfs,fun v z=>by cases z⟩
    ·exact It.pin p (mem_append_right _ z')
 exact codeAny_compStart_list (loop _ rfl) (T.self _ 0 _ _ _ (T.keep _ _ _ st2 fun b _ o e=>old b o e) (loop _ rfl))
theorem Hu {RD:Cx->Prop} (hf:CompFits X.env.scope scope X.N N' ix) (hc:∀ cl s H C fp aa,RD (Ak X N' scope cl s H C fp (X.pn++aa))) (hi:PIg RD X tg iter wi)
  (hg:∀ cl s H C fp pn,PGk (Ak X N' scope cl s H C fp pn) tg ix g) (ht:∀ cl s H C fp pn,PTs (Ak X N' scope cl s H C fp pn) ifs tt) (he:∀ cl s H C fp pn,PE (Ak X N' scope cl s H C fp pn) elt te)
  (hs:∀ x,foldedSetIterable iter X.env x=pure x:=by intro _; rfl) :
  PE X (.ListComp elt [⟨tg,iter,ifs,0⟩] scope pos) (fun σ H Q=>CP wi g tt te ix (fun ys H'=>∀ p,H' p=none->Q (.ref p) (upd H' p (.lst ys))) σ H):=by
 intro aa s σ H Q I h;rw [eval_ListComp];refine Ht (use:=none) hf hc hi hg ht he hs I h fun s' ys H' D C m I' r hD hn h1 h2 h3 h4 h5=>?_;refine ⟨m,hn,fun h'' hs''=>⟨.ref D,_,I'.turned (it:=C) (t':=s'.toks) (fun b o hb e=>(hs''.2 b hb).trans e) h5 h2 (.inr h1) h3 h4,rfl,r D hD⟩⟩
theorem JZ (hf:CompFits X.env.scope scope X.N N' ix) (hc:X.calm=true) (hi:PI X tg iter wi)
  (hg:∀ cl s H C fp pn,PGk (Ak X N' scope cl s H C fp pn) tg ix g) (ht:∀ cl s H C fp pn,PTs (Ak X N' scope cl s H C fp pn) ifs tt) (he:∀ cl s H C fp pn,PE (Ak X N' scope cl s H C fp pn) elt te)
  (hs:∀ x,foldedSetIterable iter X.env x=pure x:=by intro _; rfl) :
  PE X (.ListComp elt [⟨tg,iter,ifs,0⟩] scope pos) (fun σ H Q=>CP wi g tt te ix (fun ys H'=>∀ p,H' p=none->Q (.ref p) (upd H' p (.lst ys))) σ H):=Hu hf (fun _ _ _ _ _ _=>hc) hi.g hg ht he hs
theorem GG {i:Nat} {py spos:Pos} (hN:X.N.Nodup) (hi':X.N[i]?=some x) (hx:X.env.scope.names.lookup x=some .local) (hsw:swapsWith (.ListComp elt [⟨tg,iter,ifs,0⟩] scope pos) (some (.Name x py)) spos.line X.env=pure true)
  (hf:CompFits X.env.scope scope X.N N' ix) (hc:X.calm=true) (hi:PI X tg iter wi)
  (hg:∀ cl s H C fp pn,PGk (Ak X N' scope cl s H C fp pn) tg ix g) (ht:∀ cl s H C fp pn,PTs (Ak X N' scope cl s H C fp pn) ifs tt) (he:∀ cl s H C fp pn,PE (Ak X N' scope cl s H C fp pn) elt te)
  (hs:∀ x,foldedSetIterable iter X.env x=pure x:=by intro _; rfl) :
  PS X (.Assign [.Name x py] (.ListComp elt [⟨tg,iter,ifs,0⟩] scope pos) spos) (fun D σ H=>CP wi g tt te ix (fun ys H'=>∀ p,H' p=none->D.nx (σ.set i (some (.ref p))) (upd H' p (.lst ys))) σ H):=by
 intro aa s σ H D I h;rw [exec_Assign_Name_used _ _ _ _ hsw];refine wpAny_bind (wpAny_standAt (wpAny_bind ?_));show wpAny _ X.A (do let _ ← comprehension (.ListComp elt [⟨tg,iter,ifs,0⟩] scope pos) scope X.env _ (newList []) false (eval iter X.env) (some (assign (.Name x py) X.env))) _ _ s;refine wpAny_bind (thn (Ht (use:=some (assign (.Name x py) X.env)) (Qv:=fun _ s'=>SP X aa D .next s') hf (fun _ _ _ _ _ _=>hc) hi.g hg ht he hs I h fun s' ys H' Da C m I' r hD hn h1 h2 h3 h4 h5=>?_) fun _ s' hq=>wpAny_pure (wpAny_pure hq));show wpAny _ X.A (assign (.Name x py) X.env (.ref Da)) _ _ _;refine wpAny_assign_Name (HU (v:=.ref Da) I' hN hi' (.inl hx) rfl (fun s'' I'' ⟨a,hsb,ha⟩=>?_) (.inr hx))
 have hCa:C ≠ a:=by
  rcases ha with z | z
  ·rw [z]; exact h2
  ·exact (h3 x a z).symm
 refine ⟨m,hn.sameBut hsb hCa,fun h'' hs''=>?_⟩;exact ⟨_,_,I''.turned (it:=C) (t':=s''.toks) (fun b o hb e=>(hs''.2 b hb).trans e) h5 h2 (.inr h1) h3 h4,r Da hD⟩
end
abbrev g2 (K:FG):TG:=Nv K 2 (Dm (Bv 0) (Dm (Bv 1) Nu))
section
variable {iter elt:Expr} {ifs:List Expr} {scope:Scope} {px py pt:Pos} {wi:TI} {tt:TT} {y:Str} {kt:Nat}
theorem BU (Nc:List Str) (ixc:List (Option Nat)) (hf:FP X.env.scope scope X.N (x :: Nc) (none :: ixc)=true) (hnd:(x :: Nc).Nodup) (hx:scope.names.lookup x=some .local) (hc:X.calm=true) (hi:PI X (.Name x px) iter wi)
  (ht:∀ cl s H C fp pn,PTs (Ak X (x :: Nc) scope cl s H C fp pn) ifs tt) (he:∀ cl s H C fp pn,PE (Ak X (x :: Nc) scope cl s H C fp pn) elt te) (hs:∀ x,foldedSetIterable iter X.env x=pure x:=by intro _; rfl) :
  PE X (.ListComp elt [⟨.Name x px,iter,ifs,0⟩] scope pos) (fun σ H Q=>CP wi (Bv 0) tt te (none :: ixc) (fun ys H'=>∀ p,H' p=none->Q (.ref p) (upd H' p (.lst ys))) σ H) :=
 JZ (CompFits.of hf) hc hi (fun cl s H C fp pn=>GA (AN (i:=0) hnd rfl (.inl (lookup_relabel_local hx)) (.inr (lookup_relabel_local hx)))) ht he hs
theorem GH (Nc:List Str) (ixc:List (Option Nat)) (hf:FP X.env.scope scope X.N (x :: y :: Nc) (none :: none :: ixc)=true) (hnd:(x :: y :: Nc).Nodup) (hx:scope.names.lookup x=some .local) (hy:scope.names.lookup y=some .local) (hc:X.calm=true)
  (hi:PI X (.Tuple [.Name x px,.Name y py] kt pt) iter wi)
  (ht:∀ cl s H C fp pn,PTs (Ak X (x :: y :: Nc) scope cl s H C fp pn) ifs tt) (he:∀ cl s H C fp pn,PE (Ak X (x :: y :: Nc) scope cl s H C fp pn) elt te) (hs:∀ x,foldedSetIterable iter X.env x=pure x:=by intro _; rfl) :
  PE X (.ListComp elt [⟨.Tuple [.Name x px,.Name y py] kt pt,iter,ifs,0⟩] scope pos) (fun σ H Q=>CP wi (g2 X.K) tt te (none :: none :: ixc) (fun ys H'=>∀ p,H' p=none->Q (.ref p) (upd H' p (.lst ys))) σ H) :=
 JZ (CompFits.of hf) hc hi (fun cl s H C fp pn=>JY (BA (X:=Ak X (x :: y :: Nc) scope cl s H C fp pn) hc (AM (AN (i:=0) hnd rfl (.inl (lookup_relabel_local hx)) (.inr (lookup_relabel_local hx)))
  (AM (AN (i:=1) hnd rfl (.inl (lookup_relabel_local hy)) (.inr (lookup_relabel_local hy))) Aw)))) ht he hs
theorem ET {i:Nat} {z:Str} {pz spos:Pos} (hN:X.N.Nodup) (hi':X.N[i]?=some z) (hz:X.env.scope.names.lookup z=some .local) (Nc:List Str) (ixc:List (Option Nat)) (hf:FP X.env.scope scope X.N (x :: Nc) (none :: ixc)=true) (hnd:(x :: Nc).Nodup)
  (hx:scope.names.lookup x=some .local) (hc:X.calm=true) (hi:PI X (.Name x px) iter wi)
  (ht:∀ cl s H C fp pn,PTs (Ak X (x :: Nc) scope cl s H C fp pn) ifs tt) (he:∀ cl s H C fp pn,PE (Ak X (x :: Nc) scope cl s H C fp pn) elt te)
  (hsw:swapsWith (.ListComp elt [⟨.Name x px,iter,ifs,0⟩] scope pos) (some (.Name z pz)) spos.line X.env=pure true:=by rfl) (hs:∀ x,foldedSetIterable iter X.env x=pure x:=by intro _; rfl) :
  PS X (.Assign [.Name z pz] (.ListComp elt [⟨.Name x px,iter,ifs,0⟩] scope pos) spos) (fun D σ H=>CP wi (Bv 0) tt te (none :: ixc) (fun ys H'=>∀ p,H' p=none->D.nx (σ.set i (some (.ref p))) (upd H' p (.lst ys))) σ H) :=
 GG hN hi' hz hsw (CompFits.of hf) hc hi (fun cl s H C fp pn=>GA (AN (i:=0) hnd rfl (.inl (lookup_relabel_local hx)) (.inr (lookup_relabel_local hx)))) ht he hs
theorem OF {i:Nat} {z:Str} {pz spos:Pos} (hN:X.N.Nodup) (hi':X.N[i]?=some z) (hz:X.env.scope.names.lookup z=some .local) (Nc:List Str) (ixc:List (Option Nat)) (hf:FP X.env.scope scope X.N (x :: y :: Nc) (none :: none :: ixc)=true) (hnd:(x :: y :: Nc).Nodup)
  (hx:scope.names.lookup x=some .local) (hy:scope.names.lookup y=some .local) (hc:X.calm=true) (hi:PI X (.Tuple [.Name x px,.Name y py] kt pt) iter wi)
  (ht:∀ cl s H C fp pn,PTs (Ak X (x :: y :: Nc) scope cl s H C fp pn) ifs tt) (he:∀ cl s H C fp pn,PE (Ak X (x :: y :: Nc) scope cl s H C fp pn) elt te)
  (hsw:swapsWith (.ListComp elt [⟨.Tuple [.Name x px,.Name y py] kt pt,iter,ifs,0⟩] scope pos) (some (.Name z pz)) spos.line X.env=pure true:=by rfl) (hs:∀ x,foldedSetIterable iter X.env x=pure x:=by intro _; rfl) :
  PS X (.Assign [.Name z pz] (.ListComp elt [⟨.Tuple [.Name x px,.Name y py] kt pt,iter,ifs,0⟩] scope pos) spos) (fun D σ H=>CP wi (g2 X.K) tt te (none :: none :: ixc) (fun ys H'=>∀ p,H' p=none->D.nx (σ.set i (some (.ref p))) (upd H' p (.lst ys))) σ H) :=
 GG hN hi' hz hsw (CompFits.of hf) hc hi (fun cl s H C fp pn=>JY (BA (X:=Ak X (x :: y :: Nc) scope cl s H C fp pn) hc (AM (AN (i:=0) hnd rfl (.inl (lookup_relabel_local hx)) (.inr (lookup_relabel_local hx)))
  (AM (AN (i:=1) hnd rfl (.inl (lookup_relabel_local hy)) (.inr (lookup_relabel_local hy))) Aw)))) ht he hs
end
theorem BE {g:TG} {tt:TT} {ix:List (Option Nat)} {R:List V->Hp->Prop} {H1:Hp} (Pv:Nat->List V->Hp->Prop) (h0:Pv 0 [] H1) (hl:∀ i ys H,i <= xs.length->Pv i ys H->SqL K H a xs) (hz:∀ i ys H,Pv i ys H->ys.length <= 1000)
  (hs:∀ i x ys H,xs[i]?=some x->Pv i ys H->g x (Bq ix σ) H fun σ2 H2=>tt σ2 H2 fun b H3=>if b=true then te σ2 H3 fun y H4=>Pv (i + 1) (ys++[y]) H4 else Pv (i + 1) ys H3) (hd:∀ ys H,Pv xs.length ys H->R ys H) :
  ∃ W:Nat->Nat->List V->Hp->Prop,(∃ m,W 0 m [] H1)/\∀ i m ys H,W i m ys H ->
   ((Itl K a).stop i H/\ys.length <= sizeLine/\R ys H) \/
   ((Itl K a).go i H/\∃ N:List V->Hp->Prop,(∀ ys' H',N ys' H'->ys'.length <= sizeLine/\∃ m',m' < m/\W (i + 1) m' ys' H') /\
    ∀ x H',(Itl K a).yld i H x H'->g x (Bq ix σ) H' fun σ2 H2=>tt σ2 H2 fun b H3=>if b=true then te σ2 H3 fun y H4=>N (ys++[y]) H4 else N ys H3):=by
 refine ⟨fun i m ys H=>m=xs.length - i/\i <= xs.length/\Pv i ys H,⟨_,rfl,Nat.zero_le _,h0⟩,?_⟩;rintro i m ys H ⟨rfl,hi,hp⟩;by_cases hlt:i < xs.length
 ·have hx:xs[i]?=some xs[i]:=List.getElem?_eq_getElem hlt;refine .inr ⟨⟨xs,xs[i],hl i ys H hi hp,hx⟩,Pv (i + 1),fun ys' H' q=>⟨Nat.le_of_lt (Ad (hz _ ys' H' q)),xs.length - (i + 1),by omega,rfl,hlt,q⟩,?_⟩;rintro x H' ⟨rfl,hy⟩
  have ex:x=xs[i]:=by
   have:=hy xs (hl i ys H' hi hp);rw [hx] at this;exact (Option.some.inj this).symm
  subst ex;exact hs i xs[i] ys H' hx hp
 ·have e:i=xs.length:=by omega
  subst e;exact .inl ⟨⟨xs,hl _ ys H hi hp,Nat.le_refl _⟩,Nat.le_of_lt (Ad (hz _ ys H hp)),hd ys H hp⟩
theorem Ja {g:TG} {tt:TT} {ix:List (Option Nat)} {R:List V->Hp->Prop} {H1:Hp} (Pv:Nat->List V->Hp->Prop) (h0:Pv 0 [] H1) (hl:∀ i ys H,i <= xs.length->Pv i ys H->SqT K H a xs) (hz:∀ i ys H,Pv i ys H->ys.length <= 1000)
  (hs:∀ i x ys H,xs[i]?=some x->Pv i ys H->g x (Bq ix σ) H fun σ2 H2=>tt σ2 H2 fun b H3=>if b=true then te σ2 H3 fun y H4=>Pv (i + 1) (ys++[y]) H4 else Pv (i + 1) ys H3) (hd:∀ ys H,Pv xs.length ys H->R ys H) :
  ∃ W:Nat->Nat->List V->Hp->Prop,(∃ m,W 0 m [] H1)/\∀ i m ys H,W i m ys H ->
   ((Itt K a).stop i H/\ys.length <= sizeLine/\R ys H) \/
   ((Itt K a).go i H/\∃ N:List V->Hp->Prop,(∀ ys' H',N ys' H'->ys'.length <= sizeLine/\∃ m',m' < m/\W (i + 1) m' ys' H') /\
    ∀ x H',(Itt K a).yld i H x H'->g x (Bq ix σ) H' fun σ2 H2=>tt σ2 H2 fun b H3=>if b=true then te σ2 H3 fun y H4=>N (ys++[y]) H4 else N ys H3):=by
 refine ⟨fun i m ys H=>m=xs.length - i/\i <= xs.length/\Pv i ys H,⟨_,rfl,Nat.zero_le _,h0⟩,?_⟩;rintro i m ys H ⟨rfl,hi,hp⟩;by_cases hlt:i < xs.length
 ·have hx:xs[i]?=some xs[i]:=List.getElem?_eq_getElem hlt;refine .inr ⟨⟨xs,xs[i],hl i ys H hi hp,hx⟩,Pv (i + 1),fun ys' H' q=>⟨Nat.le_of_lt (Ad (hz _ ys' H' q)),xs.length - (i + 1),by omega,rfl,hlt,q⟩,?_⟩;rintro x H' ⟨rfl,hy⟩
  have ex:x=xs[i]:=by
   have:=hy xs (hl i ys H' hi hp);rw [hx] at this;exact (Option.some.inj this).symm
  subst ex;exact hs i xs[i] ys H' hx hp
 ·have e:i=xs.length:=by omega
  subst e;exact .inl ⟨⟨xs,hl _ ys H hi hp,Nat.le_refl _⟩,Nat.le_of_lt (Ad (hz _ ys H hp)),hd ys H hp⟩
theorem Cn {lo:Int} {n:Nat} {g:TG} {tt:TT} {ix:List (Option Nat)} {R:List V->Hp->Prop} {H1:Hp} (Pv:Nat->List V->Hp->Prop) (h0:Pv 0 [] H1) (hz:∀ i ys H,Pv i ys H->ys.length <= 1000)
  (hs:∀ (i:Nat) ys H,i < n->Pv i ys H->g (.int (lo + i)) (Bq ix σ) H fun σ2 H2=>tt σ2 H2 fun b H3=>if b=true then te σ2 H3 fun y H4=>Pv (i + 1) (ys++[y]) H4 else Pv (i + 1) ys H3) (hd:∀ ys H,Pv n ys H->R ys H) :
  ∃ W:Nat->Nat->List V->Hp->Prop,(∃ m,W 0 m [] H1)/\∀ i m ys H,W i m ys H ->
   ((Itr lo n).stop i H/\ys.length <= sizeLine/\R ys H) \/
   ((Itr lo n).go i H/\∃ N:List V->Hp->Prop,(∀ ys' H',N ys' H'->ys'.length <= sizeLine/\∃ m',m' < m/\W (i + 1) m' ys' H') /\
    ∀ x H',(Itr lo n).yld i H x H'->g x (Bq ix σ) H' fun σ2 H2=>tt σ2 H2 fun b H3=>if b=true then te σ2 H3 fun y H4=>N (ys++[y]) H4 else N ys H3):=by
 refine ⟨fun i m ys H=>m=n - i/\i <= n/\Pv i ys H,⟨_,rfl,Nat.zero_le _,h0⟩,?_⟩;rintro i m ys H ⟨rfl,hi,hp⟩;by_cases hlt:i < n
 ·refine .inr ⟨hlt,Pv (i + 1),fun ys' H' q=>⟨Nat.le_of_lt (Ad (hz _ ys' H' q)),n - (i + 1),by omega,rfl,hlt,q⟩,?_⟩;rintro x H' ⟨rfl,rfl⟩;exact hs i ys H' hlt hp
 ·have e:i=n:=by omega
  subst e;exact .inl ⟨Nat.le_refl _,Nat.le_of_lt (Ad (hz _ ys H hp)),hd ys H hp⟩
section
variable {o:Obj} {kvs:LK}
theorem Inv.newOk (I:Inv X aa σ H s) {p:Addr} (hp:s.heap.objs.size <= p):H p=none/\p ≠ X.env.locals/\X.s₀.heap.objs.size <= p/\(∀ x c,X.env.cells.lookup x=some c->c ≠ p)/\∀ q ∈ X.pn++aa,q.1 ≠ p :=
 ⟨I.hok.fresh hp,Nat.ne_of_gt (Nat.lt_of_lt_of_le I.lt hp),Nat.le_trans I.sz hp,fun x c e=>by
  obtain ⟨v,z⟩:=I.cell x c e
  exact Nat.ne_of_lt (Nat.lt_of_lt_of_le z.lt hp),fun q hq=>Nat.ne_of_lt (Nat.lt_of_lt_of_le (lt_size (I.pin q hq).1) hp)⟩
theorem Inv.freeze (I:Inv X aa σ H s) (h:H a=some (.dK kvs)):∃ o,Inv X aa σ (upd H a (.frz o (.dK kvs))) s:=by
 obtain ⟨z,y,vs,r,ob,es,ep,e,rest⟩:=I.hok a _ h;refine ⟨ob,?_⟩;exact I.write (x:=a) (e:=a) (o:=.frz ob (.dK kvs)) (h':=s.heap) (t':=s.toks) (by rw [h]; exact trivial) (.inl rfl) (fun b u _ q=>q) ⟨ob,e⟩ ⟨e,z,y,vs,r,ob,es,ep,e,rest⟩
theorem GJ {sts:List Stmt} {t:TS} (h:PSs X sts t):PSs X sts (fun D σ H=>∃ a kvs,H a=some (.dK kvs)/\∀ o,t D σ (upd H a (.frz o (.dK kvs)))):=by
 intro aa s σ H D I ⟨a,kvs,e,k⟩;obtain ⟨o,I'⟩:=I.freeze e;exact h aa s σ _ D I' (k o)
noncomputable def OG (o:Obj):Nat:=match o.data with
 | .dict _ ep=>ep
 | _=>0
theorem GQ (I:Inv X aa σ H s) (h:H a=some (.frz o (.dK kvs))):kvs.length <= sizeLine/\(a == sysModules)=false/\∃ vs,KV kvs vs/\s.heap.DictAt (Al X.prog X.w) a vs (OG o):=by
 obtain ⟨e,z,y,vs,r,ob,es,ep,e2,ex,d,rest⟩:=I.hok a _ h;rw [e] at e2; cases e2;refine ⟨z,y,vs,r,o,es,e,ex,?_,rest⟩;show o.data=.dict es (OG o);unfold OG; rw [d]
end
theorem KV.get {κ:Type}:∀ {kvs:List (κ × V)} {vs:List (κ × Value)} {i:Nat} {kv:κ × V},KV kvs vs->kvs[i]?=some kv->∃ v,vs[i]?=some (kv.1,v)/\RelV kv.2 v
 | _,_,_,_,.nil,e=>by simp at e
 | _,_,0,_,.cons r _,e=>by
  simp only [List.getElem?_cons_zero,Option.some.injEq] at e;subst e;rename_i q _ _ _;exact ⟨q.2,by rw [r.1]; rfl,r.2⟩
 | _,_,i + 1,kv,.cons _ t,e=>by
  obtain ⟨u,h1,h2⟩:=KV.get (i:=i) (kv:=kv) (show KV _ _ from t) (by simpa using e);exact ⟨u,by simpa using h1,h2⟩
theorem Fd {k:Key} (h:(Al P w).is k u=true):RelV (kV k) u:=by
 rcases Ax (show Fq k u=true from h) with ⟨i,t,rfl,rfl⟩ | ⟨x,t,rfl,rfl⟩
 ·exact ⟨t,rfl⟩
 ·exact ⟨t,rfl⟩
noncomputable def Iti (a:Addr) (o:Obj) (kvs:LK):It:=⟨fun i H=>H a=some (.frz o (.dK kvs))/\i < kvs.length,fun i H x H'=>∃ p kv,H p=none/\x=.ref p/\kvs[i]?=some kv/\H'=upd H p (.tup [kV kv.1,kv.2]),
 fun i H=>H a=some (.frz o (.dK kvs))/\kvs.length <= i⟩
theorem Kh {elts:List Expr} {k0:Nat} (a it:Addr) (o:Obj) (kvs:LK) :
  IP P w K (.Tuple elts k0 pos) (Iti a o kvs) [it] it (fun i h=>∃ ok ov,IsItemIter h it a i kvs.length (OG o) ok ov) where
 mem:=by simp
 obj:=fun i h st b hb=>by
  have e:b=it:=by simpa using hb
  subst e;obtain ⟨ok,ov,e⟩:=st;exact ⟨_,e,fun v z=>by cases z⟩
 keep:=fun i h h' st k=>by
  obtain ⟨ok,ov,e⟩:=st;exact ⟨ok,ov,k it (by simp) _ e⟩
 item:=by
  intro X hP hw hK hc i aa s σ H E I hf st hg;subst hP hw hK;obtain ⟨hfz,hi⟩:=hg;obtain ⟨z,y,vs,rel,dd⟩:=GQ I hfz;obtain ⟨ok,ov,st⟩:=st;have az:=rel.length;obtain ⟨kv,hkv⟩:∃ kv,kvs[i]?=some kv:=⟨_,List.getElem?_eq_getElem hi⟩;obtain ⟨v,hv,rv⟩:=KV.get rel hkv;obtain ⟨f0,f1,f2,f3,f4,f5⟩:=hf it (by simp);rw [az] at st;have hlt:it < s.heap.objs.size:=lt_size st;refine wpAny_pyNext_items_item st dd hv fun key h' cq st' hp hsz keep=>?_;have I1:Inv X aa σ H { s with heap:=h' }:=I.turned (t':=s.toks) keep f0 f1 f3 f4 f5;obtain ⟨n1,n2,n3,n4,n5⟩:=I.newOk (Nat.le_refl s.heap.objs.size);have I2:Inv X aa σ (upd H s.heap.objs.size (.tup [kV kv.1,kv.2])) { s with heap:=h' }:=I1.track n1 n2 (.inr n3) n4 n5 ⟨by show 2 <= sizeLine; decide,[key,v],.cons (Fd cq) (.cons rv .nil),_,hp,rfl,_,rfl⟩;have fi:(upd H s.heap.objs.size (.tup [kV kv.1,kv.2])) it=none:=by rw [AH (Nat.ne_of_lt hlt)]; exact f0
  refine ⟨.ref s.heap.objs.size,rfl,wpAny_letOwnedTupleGo_items st' fun h'' st'' sb=>?_⟩;refine ⟨.ref s.heap.objs.size,_,I2.turned (it:=it) (t':=s.toks) (fun b o hb e=>(sb.2 b hb).trans e) fi f1 f3 f4 f5,rfl,⟨_,kv,n1,rfl,hkv,rfl⟩,⟨key,v,by rw [az]; exact st''⟩,fun b hb=>?_⟩;have e:b=it:=by simpa using hb
  rw [e]; exact fi
 done:=by
  intro X hP hw hK hc i aa s σ H E I hf st hg;subst hP hw hK;obtain ⟨hfz,hi⟩:=hg;obtain ⟨z,y,vs,rel,dd⟩:=GQ I hfz;obtain ⟨ok,ov,st⟩:=st;have az:=rel.length;rw [az] at st;obtain ⟨f0,f1,f2,f3,f4,f5⟩:=hf it (by simp);exact wpAny_pyNext_items_end (I.ok.hd hc) st dd (List.getElem?_eq_none_iff.mpr (by omega)) fun h' eb=>⟨rfl,I.turned (t':=s.toks) (fun b o hb e=>eb b o hb e) f0 f1 f3 f4 f5⟩
 self:=fun _ _ _ _ _ st h=>by
  obtain ⟨ok,ov,e⟩:=st;exact W.kcp_self e h
def Rt (to:TE):TI:=fun σ H R=>to σ H fun x H1=>∃ a o kvs,x=.ref a/\H1 a=some (.frz o (.dK kvs))/\R (Iti a o kvs) H1
theorem OH {elts:List Expr} {k0:Nat} {o:Expr} {to:TE} {apos cpos:Pos} (ho:PE X o to) (bi:attributeBase o "items" X.env (eval o X.env)=eval o X.env:=by rfl) (bo:(apos.endLine == cpos.line)=true:=by rfl) :
  PI X (.Tuple elts k0 pos) (.Call (.Attribute o "items" apos) [] [] cpos) (Rt to):=by
 intro aa s σ H R I h;refine wpAny_Call_method0_late bi bo (thn (ho aa s σ H _ I h) fun v s1 ⟨x,H1,I1,r1,a,ob,kvs,ex,hfz,q⟩=>?_);subst ex;cases r1;obtain ⟨t1,t2,_⟩:=OE I1 (.inl ⟨kvs,.inr ⟨ob,hfz⟩⟩);obtain ⟨z,y,vs,rel,dd⟩:=GQ I1 hfz;refine ⟨"dict", "dict.items", PySem.F.plainAttrs_dict,PySem.F.slot_dict_items,PySem.F.type_dict_items,t1,t2,Calls.callWith_builtin rfl (PySem.evalArgs_none (call_meetsIn PySem.F.slot_dict_items t1 PySem.F.entry_dict_items (PySem.F.args_dict_items_1 _) (meets_dict_items (Al X.prog X.w) a y) ⟨⟨vs,dd.dictOf⟩,?_⟩))⟩;have I2:Inv X aa σ H1 { s1 with heap:=s1.heap.push { cls:=.type "dict_items", data:=.fields #[.ref a] } }:=I1.kept (t':=s1.toks) fun b o e=>get?_push_of_some _ e;refine wpAny_pyIter_items (knd:=Al X.prog X.w) (d:=a) (kvs:=vs) (ep:=OG ob) ⟨_,get?_push_size _ rfl,rfl,rfl⟩ (dd.push _) ?_;refine ⟨_,[_],_,_,H1,rfl,I2.kept (t':=s1.toks) fun b o e=>get?_push_of_some _ e,Kh a _ ob kvs,⟨.none,.none,by rw [rel.length]; exact get?_push_size _ rfl⟩,fun b hb=>?_,q⟩;have e:b=(s1.heap.push { cls:=.type "dict_items", data:=.fields #[.ref a] }).objs.size:=by simpa using hb
 subst e;exact I2.fpOk (Nat.le_refl _) (I2.hok.fresh (Nat.le_refl _))
noncomputable def Ite (K:FG) (a:Addr):It:=⟨fun i H=>∃ xs x,SqL K H a xs/\xs[i]?=some x,fun i H x H'=>∃ p y,H p=none/\x=.ref p/\(∀ xs,SqL K H a xs->xs[i]?=some y)/\H'=upd H p (.tup [.int i,y]),fun i H=>∃ xs,SqL K H a xs/\xs.length <= i⟩
theorem Ml {elts:List Expr} {k0:Nat} (a e it:Addr) (aw:e ≠ it) :
  IP P w K (.Tuple elts k0 pos) (Ite K a) [e,it] e (fun i h=>∃ old,IsEnum h e it i old/\h.IsListIter it a i) where
 mem:=by simp
 obj:=fun i h st b hb=>by
  obtain ⟨old,e1,o,e2,c,d⟩:=st;have hb':b=e\/b=it:=by simpa using hb
  rcases hb' with rfl | rfl
  ·exact ⟨_,e1,fun v z=>by cases z⟩
  ·exact ⟨o,e2,fun v z=>by rw [d] at z; cases z⟩
 keep:=fun i h h' st k=>by
  obtain ⟨old,e1,e2⟩:=st;exact ⟨old,k e (by simp) _ e1,e2.at fun o q=>k it (by simp) o q⟩
 item:=by
  intro X hP hw hK hc i aa s σ H E I hf st hg;subst hP hw hK;obtain ⟨xs,x,hq,hx⟩:=hg;obtain ⟨its,rv,p,hz⟩:=I.list hq;obtain ⟨u,hu,ru⟩:=rv.get hx;obtain ⟨old,s1,s2⟩:=st;obtain ⟨f0,f1,f2,f3,f4,f5⟩:=hf e (by simp);obtain ⟨g0,g1,g2,g3,g4,g5⟩:=hf it (by simp);have hlt:e < s.heap.objs.size:=lt_size s1;have cg:it < s.heap.objs.size:=by obtain ⟨o,q,_⟩:=id s2; exact lt_size q
  refine wpAny_pyNext_enum_item s1 s2 p.isList (x:=u) (by simpa using hu) aw fun h' st' st2' hp hsz keep=>?_
  have I1:Inv X aa σ H { s with heap:=h',toks:=s.toks + 1 }:=by
   refine I.step (H':=H) (g':=s.gens) (d':=s.drawn) (ch:=[e,it]) (fun b hb=>?_) (fun b o _ _ hb q _=>keep b o (by simp at hb; exact hb.1) (by simp at hb; exact hb.2) q) (fun b o _ _ hb q _=>⟨o.slots,keep b o (by simp at hb; exact hb.1) (by simp at hb; exact hb.2) q⟩)
    (fun _ _ _ _ n=>n) (fun b o hb q=>⟨o,keep b o (by simp at hb; exact hb.1) (by simp at hb; exact hb.2) q⟩) (fun _ _ q=>q) (fun _ _ _ q=>q) (fun b ps q=>⟨#[],by rw [q]; simp⟩) (fun m hm=>?_) (fun b u q=>?_) I.bare
   ·have hb':b=e\/b=it:=by simpa using hb
    rcases hb' with rfl | rfl
    ·exact ⟨f3,f1,f4,f5⟩
    ·exact ⟨g3,g1,g4,g5⟩
   ·obtain ⟨oL,es,ep,hoL,r⟩:=hm;exact ⟨oL,es,ep,keep _ oL (Ne.symm f1) (Ne.symm g1) hoL,r⟩
   ·have ne1:∀ c v,H c=some v->c ≠ e/\c ≠ it:=fun c v q=>⟨AJ q f0,AJ q g0⟩;refine (I.hok b u q).stay (fun c v hc q'=>keep c v ?_ ?_ q') (fun _ q=>q) fun _ _ q=>q
    ·rcases hc with z | z
     ·rw [z]; exact (ne1 b u q).1
     ·exact (ne1 c _ z).1
    ·rcases hc with z | z
     ·rw [z]; exact (ne1 b u q).2
     ·exact (ne1 c _ z).2
  obtain ⟨n1,n2,n3,n4,n5⟩:=I.newOk (Nat.le_refl s.heap.objs.size);have I2:Inv X aa σ (upd H s.heap.objs.size (.tup [.int i,x])) { s with heap:=h',toks:=s.toks + 1 }:=I1.track n1 n2 (.inr n3) n4 n5 ⟨by show 2 <= sizeLine; decide,[.int i s.toks,u],.cons ⟨_,rfl⟩ (.cons ru .nil),_,hp,rfl,_,rfl⟩;have fe:(upd H s.heap.objs.size (.tup [.int i,x])) e=none:=by rw [AH (Nat.ne_of_lt hlt)]; exact f0
  have fi:(upd H s.heap.objs.size (.tup [.int i,x])) it=none:=by rw [AH (Nat.ne_of_lt cg)]; exact g0
  refine ⟨.ref s.heap.objs.size,rfl,wpAny_letOwnedTupleGo_enum st' fun h'' st'' sb=>?_⟩;refine ⟨.ref s.heap.objs.size,_,I2.turned (it:=e) (t':=s.toks + 1) (fun b o hb q=>(sb.2 b hb).trans q) fe f1 f3 f4 f5,rfl,⟨_,x,n1,rfl,fun ys hy=>by rw [I.list_inj hy hq]; exact hx,rfl⟩,⟨_,by exact_mod_cast st'',st2'.extBut sb.extBut (Ne.symm aw)⟩,fun b hb=>?_⟩;have hb':b=e\/b=it:=by simpa using hb
  rcases hb' with rfl | rfl
  ·exact fe
  ·exact fi
 done:=by
  intro X hP hw hK hc i aa s σ H E I hf st hg;subst hP hw hK;obtain ⟨xs,hq,hx⟩:=hg;obtain ⟨its,rv,p,hz⟩:=I.list hq;obtain ⟨old,s1,s2⟩:=st;obtain ⟨g0,g1,g2,g3,g4,g5⟩:=hf it (by simp);have hl:=rv.length;exact wpAny_pyNext_enum_end (I.ok.hd hc) s1 s2 p.isList (by simp; omega) fun h' eb=>⟨rfl,I.turned (t':=s.toks) (fun b o hb e=>eb b o hb e) g0 g1 g3 g4 g5⟩
 self:=fun _ _ _ _ _ st h=>by
  obtain ⟨old,e1,_⟩:=st;exact wpAny_pyIter_enum e1 h
def TR (K:FG) (tl:TA):TI:=fun σ H R=>tl σ H fun vs H1=>∃ a,vs=[.ref a]/\(∃ xs,SqL K H1 a xs)/\R (Ite K a) H1
theorem QJ {elts:List Expr} {k0:Nat} {p cpos:Pos} {l:Expr} {tl:TA} (hg:Gl X "enumerate") (hm:X.mg "enumerate" = none) (hl:PA X [l] tl) (hs:starEach [l] X.env=[(false,eval l X.env)]:=by rfl) :
  PI X (.Tuple elts k0 pos) (.Call (.Name "enumerate" p) [l] [] cpos) (TR X.K tl):=by
 intro aa s σ H R I h;refine wpAny_Call_Name_kw (Ch (u:=.type "enumerate") I hg hm (by decide +kernel) ?_);refine PyProof.Rows.callWith_type1 (thn (hl cpos aa s σ H _ I h) fun us s1 ⟨vs,H1,I1,r1,a,ev,⟨xs,hq⟩,q⟩=>?_) hs rfl;subst ev;obtain ⟨u,rfl,ru⟩:=Bw r1;cases ru;obtain ⟨its,rv,pl,hz⟩:=I1.list hq;refine call_enumerate_list pl.isList fun h' he hi hsz keep=>?_;refine wpAny_pyIter_enum he ?_;have I2:Inv X aa σ H1 { s1 with heap:=h' }:=I1.kept (t':=s1.toks) keep;refine ⟨_,[s1.heap.objs.size + 1,s1.heap.objs.size],_,_,H1,rfl,I2,Ml a _ _ (Nat.succ_ne_self _),⟨_,he,hi⟩,fun b hb=>?_,q⟩;have hb':b=s1.heap.objs.size + 1\/b=s1.heap.objs.size:=by simpa using hb
 rcases hb' with rfl | rfl
 ·exact I1.fpOk (Nat.le_succ _) (I1.hok.fresh (Nat.le_succ _))
 ·exact I1.fpOk (Nat.le_refl _) (I1.hok.fresh (Nat.le_refl _))
noncomputable def Its (x:Str):It:=⟨fun i _=>i < x.cps.size,fun i H v H'=>H'=H/\∃ c,x.cps[i]?=some c/\v=.str ⟨#[c]⟩,fun i _=>x.cps.size <= i⟩
theorem OI {n:Str} (it:Addr) (x:Str) (t:Tok) :
  IP P w K (.Name n pos) (Its x) [it] it (fun i h=>h.IsStrIter it "str_ascii_iterator" x t i) where
 mem:=by simp
 obj:=fun i h st b hb=>by
  have e:b=it:=by simpa using hb
  subst e;obtain ⟨o,e,c,d⟩:=st;exact ⟨o,e,fun v z=>by rw [d] at z; cases z⟩
 keep:=fun i h h' st k=>by
  obtain ⟨o,e,r⟩:=st;exact ⟨o,k it (by simp) o e,r⟩
 item:=by
  intro X hP hw hK hc i aa s σ H E I hf st hg;subst hP hw hK;have hi:i < x.cps.size:=hg;obtain ⟨f0,f1,f2,f3,f4,f5⟩:=hf it (by simp);refine wpAny_pyNext_ascii_item st (Array.getElem?_eq_getElem hi) fun h' st' sb=>?_;refine ⟨_,rfl,wpAny_pure ⟨.str ⟨#[x.cps[i]]⟩,H,I.turned (t':=s.toks + 1) (fun b o hb e=>(sb.2 b hb).trans e) f0 f1 f3 f4 f5,⟨_,rfl⟩,⟨rfl,_,Array.getElem?_eq_getElem hi,rfl⟩,st',fun b hb=>(hf b hb).1⟩⟩
 done:=by
  intro X hP hw hK hc i aa s σ H E I hf st hg;subst hP hw hK;have hi:x.cps.size <= i:=hg;obtain ⟨f0,f1,f2,f3,f4,f5⟩:=hf it (by simp);exact wpAny_pyNext_ascii_end (I.ok.hd hc) st (Array.getElem?_eq_none hi) fun h' eb=>⟨rfl,I.turned (t':=s.toks) (fun b o hb e=>eb b o hb e) f0 f1 f3 f4 f5⟩
 self:=fun _ _ _ _ _ st h=>wpAny_pyIter_striter_ascii st h
def UB (ts:TE):TI:=fun σ H R=>ts σ H fun v H1=>∃ x,v=.str x/\x.cps.all (· < 128)=true/\R (Its x) H1
theorem Ru {n:Str} {ts:TE} (he:PE X e ts):PI X (.Name n pos) e (UB ts):=by
 intro aa s σ H R I h;refine thn (he aa s σ H _ I h) fun v s1 ⟨z,H1,I1,r1,x,ez,ha,q⟩=>?_;subst ez;obtain ⟨t,rfl⟩:=r1;refine wpAny_pyIter_ascii ha ?_;refine ⟨s1.heap.objs.size,[s1.heap.objs.size],_,_,H1,rfl,I1.kept (t':=s1.toks) fun b o e=>get?_push_of_some _ e,OI _ x t,⟨_,get?_push_size _ rfl,rfl,rfl⟩,fun b hb=>?_,q⟩;have e:b=s1.heap.objs.size:=by simpa using hb
 subst e;exact I1.fpOk (Nat.le_refl _) (I1.hok.fresh (Nat.le_refl _))
theorem HJ:entryFor table "proto.unchain" = some Builtin.«proto.unchain»:=entryFor_of_tree (by kernel_rfl)
section
variable {prog:Program}
theorem QK {α:Type} {c e:Addr} {oc oe:Obj} {vc ve:Array Value} {Q:α->Shared->Prop} (hh:A.handled=some (.ref c)) (hce:c ≠ e) (hc:s.heap.get? c=some oc) (hdc:oc.data=.fields vc) (h2:vc[2]?=some .none)
  (he:s.heap.get? e=some oe) (hde:oe.data=.fields ve) (hz:2 < ve.size) (h:E (.ref e) { s with heap:=s.heap.update e (Obj.mapFields (·.setIfInBounds 2 (.ref c))) }):wpAny (model prog w) A (raiseNew (.ref e):Sem α) Q E s:=by
 unfold raiseNew;refine wpAny_bind (wpAny_handled ?_);rw [hh]
 dsimp only
 rw [if_pos (show (Value.ref c != Value.ref e)=true by simp [hce])];refine wpAny_bind (wpAny_holding (wpAny_runValue (codeAny_builtin HJ ?_)));unfold Builtin.«proto.unchain»
 dsimp only
 refine wpAny_bind (wpAny_field hc hdc h2 ?_);rw [if_pos (by decide)];refine wpAny_pure ?_;show wpAny _ _ _ _ _ _;have up:=wpAny_setField (M:=model prog w) (A:=A) (E:=E) (x:=Value.ref c) (Q:=fun _ s'=>E (.ref e) s') he hde hz h;unfold setField at up;exact wpAny_bind (wpAny_mono up (fun _ s' z=>wpAny_throw z) fun _ _ z=>z)
theorem C2 {it l c:Addr} {i:Nat} {xs:Array Value} {oc:Obj} {vc:Array Value} {Q:Option Value->Shared->Prop} (hh:A.handled=some (.ref c)) (hc:s.heap.get? c=some oc) (hdc:oc.data=.fields vc) (h2:vc[2]?=some .none) (hci:c ≠ it)
  (hI:s.heap.IsListIter it l i) (hL:s.heap.IsList l xs) (hx:xs[i]?=none) (fin:∀ h',Heap.ExtBut it s.heap h'->Q none { s with heap:=h' }):wpAny (model prog w) A (pyNext (.ref it)) Q E s:=by
 obtain ⟨o,ho,oc1,hd⟩:=id hI;obtain ⟨ol,hol,_,nl,hdl⟩:=hL;unfold pyNext;refine wpAny_bind (wpAny_attempt (wpAny_callSpecial?_slot (name:=Str.ofString "__next__") hI.typeIs slot_listiter_next (wpAny_call_entry slot_listiter_next hI.typeIs entry_listiter_next ?_ (args_listiter_next _))));show wpAny _ _ (field (.ref it) 0 >>= _) _ _ s;refine wpAny_bind (wpAny_field (x:=.ref l) ho hd rfl ?_);show wpAny _ _ (if (Value.ref l == Value.none)=true then _ else _) _ _ s;rw [if_neg (by simp:¬ (Value.ref l == Value.none)=true)];show wpAny _ _ (field (.ref it) 1 >>= _) _ _ s;refine wpAny_bind (wpAny_field (x:=.int i 0) ho hd rfl ?_);show wpAny _ _ (seqItems? (.ref l) >>= _) _ _ s;refine wpAny_bind (wpAny_seqItems hol hdl ?_);simp only [Int.toNat_natCast,hx];refine wpAny_bind (wpAny_rule (wpAny_bind (wpAny_setField ho hd (by simp) ?_)));show wpAny _ _ (newExc (.type "StopIteration") [] >>= raiseNew) _ _ _;refine wpAny_bind ?_;simp only [newExc,newTuple];refine wpAny_bind (wpAny_newObj_type ?_ (by size_fits));refine wpAny_bind (m:=firstArgMember _ _) (wpAny_of_eq (a:=Value.none) (by first | rfl | (simp only [firstArgMember]; rfl)) (wpAny_newObj_type ?_ (by size_fits)));have k1:=(get?_update_other s.heap (Obj.mapFields (·.setIfInBounds 0 Value.none)) (Ne.symm hci)).trans hc;refine QK (c:=c) (show A.in1.handled=_ from hh) (fun z=>?_) (get?_push_of_some _ (get?_push_of_some _ k1)) hdc h2 (get?_push_size _ rfl) rfl (by simp; omega) ?_
 ·have:=lt_size (get?_push_of_some { cls:=.type "tuple", data:=.seq #[] } k1);rw [z] at this;exact absurd this (Nat.lt_irrefl _)
 ·refine wpAny_bind (wpAny_isInstance (T := "StopIteration") (b:=true) ⟨_,get?_update_self _ (get?_push_size _ rfl) rfl,rfl⟩ isSubtype_stop ?_);refine wpAny_pure (fin _ fun b u hb z=>?_);have z1:=(get?_update_other s.heap (Obj.mapFields (·.setIfInBounds 0 Value.none)) (Ne.symm hb)).trans z;have z2:=get?_push_of_some { cls:=.type "tuple", data:=.seq #[] } z1;rw [get?_update_other _ _ (Nat.ne_of_gt (lt_size z2))];exact get?_push_of_some _ z2
end
def Sft (X:Cx):Prop:=∃ e oe vs,X.A.handled=some (.ref e)/\(e,oe) ∈ X.pn/\oe.data=.fields vs/\vs[2]?=some .none
def Rdy (X:Cx):Prop:=X.calm=true\/Sft X
theorem Rdy.comp {N':List Str} {scope:Scope} {cl:List (Str × Addr)} {fp:List Addr} (h:Rdy X):Rdy (Ak X N' scope cl s H C fp (X.pn++aa)):=by
 rcases h with h | ⟨e,oe,vs,a,b,c,d⟩
 ·exact .inl h
 ·exact .inr ⟨e,oe,vs,a,mem_append_left _ b,c,d⟩
section
theorem OJ {it l:Addr} {i:Nat} {xs:Array Value} {Q:Option Value->Shared->Prop} (hc:Rdy X) (I:Inv X aa σ H s) (hf:EN X aa H it) (hI:s.heap.IsListIter it l i) (hL:s.heap.IsList l xs) (hx:xs[i]?=none)
  (fin:∀ h',Heap.ExtBut it s.heap h'->Q none { s with heap:=h' }):wpAny (model X.prog X.w) X.A (pyNext (.ref it)) Q E s:=by
 rcases hc with hc | ⟨e,oe,vs,a,b,c,d⟩
 ·exact wpAny_pyNext_list_end (I.ok.hd hc) hI hL hx fin
 ·exact C2 a (I.pin (e,oe) (mem_append_left _ b)).1 c d (hf.2.2.2.2.2 (e,oe) (mem_append_left _ b)) hI hL hx fin
end
theorem Ki {tg:Expr} (a it:Addr):RU Rdy P w K tg (Itl K a) [it] it (fun i h=>h.IsListIter it a i):=by
 have T:=HV (P:=P) (w:=w) (K:=K) (tg:=tg) a it;refine ⟨T.obj,T.keep,?_,?_,T.self⟩
 ·intro X hP hw hK hc i aa s σ H E I hf st hg;subst hP hw hK;obtain ⟨xs,x,hq,hx⟩:=hg;obtain ⟨its,rv,p,hz⟩:=I.list hq;obtain ⟨u,hu,ru⟩:=rv.get hx;obtain ⟨f0,f1,f2,f3,f4,f5⟩:=hf it (by simp);refine wpAny_pyNext_list_item st p.isList (x:=u) (by simpa using hu) fun h' st' sb=>?_;obtain ⟨o,e,c,d⟩:=id st';exact ⟨u,rfl,LM (s:={ s with heap:=h' }) e c d (by decide) ⟨x,H,I.turned (t':=s.toks) (fun b o hb e=>(sb.2 b hb).trans e) f0 f1 f3 f4 f5,ru,⟨rfl,fun ys hy=>by rw [I.list_inj hy hq]; exact hx⟩,st',fun b hb=>(hf b hb).1⟩⟩
 ·intro X hP hw hK hc i aa s σ H E I hf st hg;subst hP hw hK;obtain ⟨xs,hq,hx⟩:=hg;obtain ⟨its,rv,p,hz⟩:=I.list hq;have f:=hf it (by simp);have hl:=rv.length;exact OJ hc I f st p.isList (by simp; omega) fun h' eb=>⟨rfl,I.turned (t':=s.toks) (fun b o hb e=>eb b o hb e) f.1 f.2.1 f.2.2.2.1 f.2.2.2.2.1 f.2.2.2.2.2⟩
section
variable {iter elt:Expr} {ifs:List Expr} {scope:Scope} {px:Pos} {wi:TI} {tt:TT}
theorem OK {tg l:Expr} {tl:TE} (hl:PE X l tl):PIg Rdy X tg l (RN X.K tl):=by
 intro aa s σ H R I h;refine thn (hl aa s σ H _ I h) fun v s1 ⟨x,H1,I1,r1,a,e,⟨xs,hq⟩,q⟩=>?_;subst e;cases r1;obtain ⟨its,rv,p,hz⟩:=I1.list hq;refine wpAny_pyIter_list p.isList ⟨s1.heap.objs.size,[s1.heap.objs.size],_,_,H1,rfl,I1.kept (t':=s1.toks) fun b o e=>get?_push_of_some _ e,Ki a _,⟨_,get?_push_size _ rfl,rfl,rfl⟩,fun b hb=>?_,q⟩;obtain rfl:b=s1.heap.objs.size:=by simpa using hb
 exact I1.fpOk (Nat.le_refl _) (I1.hok.fresh (Nat.le_refl _))
theorem Mm (Nc:List Str) (ixc:List (Option Nat)) (hf:FP X.env.scope scope X.N (x :: Nc) (none :: ixc)=true) (hnd:(x :: Nc).Nodup) (hx:scope.names.lookup x=some .local) (hc:Rdy X) (hi:PIg Rdy X (.Name x px) iter wi)
  (ht:∀ cl s H C fp pn,PTs (Ak X (x :: Nc) scope cl s H C fp pn) ifs tt) (he:∀ cl s H C fp pn,PE (Ak X (x :: Nc) scope cl s H C fp pn) elt te) (hs:∀ x,foldedSetIterable iter X.env x=pure x:=by intro _; rfl) :
  PE X (.ListComp elt [⟨.Name x px,iter,ifs,0⟩] scope pos) (fun σ H Q=>CP wi (Bv 0) tt te (none :: ixc) (fun ys H'=>∀ p,H' p=none->Q (.ref p) (upd H' p (.lst ys))) σ H) :=
 Hu (CompFits.of hf) (fun _ _ _ _ _ _=>hc.comp) hi (fun cl s H C fp pn=>GA (AN (i:=0) hnd rfl (.inl (lookup_relabel_local hx)) (.inr (lookup_relabel_local hx)))) ht he hs
end
theorem Kj {p:Addr} {its:List Value} (hc:Rdy X) (I:Inv X aa σ H s) (pl:s.heap.IsList p its.toArray):∃ fp St,Walks X.prog X.w X.A.in1 s.heap.objs.size fp [s.heap.objs.size] its.toArray.size (fun i v=>its.toArray[i]?=some v) St /\
  St 0 (s.heap.push { cls:=.type "list_iterator", data:=.fields #[.ref p,.int 0 0] })/\∀ b ∈ fp,b < s.heap.objs.size + 1:=by
 have hp:p < s.heap.objs.size:=by obtain ⟨o,e,_⟩:=id pl; exact lt_size e
 have st0:(s.heap.push { cls:=.type "list_iterator", data:=.fields #[.ref p,.int 0 0] }).IsListIter s.heap.objs.size p 0/\(s.heap.push { cls:=.type "list_iterator", data:=.fields #[.ref p,.int 0 0] }).IsList p its.toArray :=
  ⟨⟨_,get?_push_size _ rfl,rfl,rfl⟩,pl.at fun o e=>get?_push_of_some _ e⟩
 rcases hc with hc | ⟨e,oe,vs,a,b,c,d⟩
 ·refine ⟨_,_,Walks.list (A:=X.A.in1) (show X.A.in1.handled=none from I.ok.hd hc) _ p (Nat.ne_of_lt hp) its.toArray,st0,fun b hb=>?_⟩;have z:b=s.heap.objs.size\/b=p:=by simpa using hb
  rcases z with rfl | rfl
  ·exact Nat.lt_succ_self _
  ·exact Nat.lt_succ_of_lt hp
 ·have he:=(I.pin (e,oe) (mem_append_left _ b)).1;have hlt:=lt_size he;refine ⟨[s.heap.objs.size,p,e],fun i h=>(h.IsListIter s.heap.objs.size p i/\h.IsList p its.toArray)/\h.get? e=some oe,⟨fun b hb=>by simp at hb; simp [hb],fun i h h' st k=>⟨⟨st.1.1.at fun o z=>k _ (by simp) o z,st.1.2.at fun o z=>k _ (by simp) o z⟩,k e (by simp) oe st.2⟩,?_,?_,fun _ _ _ _ st hQ=>wpAny_pyIter_listiter st.1.1 hQ⟩,⟨st0,get?_push_of_some _ he⟩,fun b hb=>?_⟩
  ·intro i s1 Q E hi st hQ;refine wpAny_pyNext_list_item st.1.1 st.1.2 (x:=its.toArray[i]) (by simp [hi]) fun h' t1 t2=>?_;exact hQ _ h' s1.toks (by simp [hi]) ⟨⟨t1,st.1.2.extBut t2.extBut (Nat.ne_of_lt hp)⟩,t2.extBut e oe (Nat.ne_of_lt hlt) st.2⟩ fun b o hb z=>t2.extBut b o (fun y=>hb (by simp [y])) z
  ·intro s1 Q E st hQ;exact C2 (show X.A.in1.handled=_ from a) st.2 c d (Nat.ne_of_lt hlt) st.1.1 st.1.2 (by simp) fun h' z=>hQ h' s1.toks fun b o hb y=>z b o (fun y'=>hb (by simp [y'])) y
  ·have z:b=s.heap.objs.size\/b=p\/b=e:=by simpa using hb
   rcases z with rfl | rfl | rfl
   ·exact Nat.lt_succ_self _
   ·exact Nat.lt_succ_of_lt hp
   ·exact Nat.lt_succ_of_lt hlt
noncomputable def Lg (a p:Addr):HO:=.ext fun h=>h.IsItemsView p a
noncomputable def OL (a p:Addr):HO:=.ext fun h=>h.IsValuesView p a
section
variable {o:Expr} {to:TE} {name:Str} {apos cpos:Pos} {id:String} {r:V->List V->Hp->VK->Prop}
theorem OM (slot:Slot "dict" name id) (hty:typeOf (.builtin id)=pure (.type "method_descriptor")) (hm:MtR X id r) (ho:PE X o to)
  (bi:attributeBase o name X.env (eval o X.env)=eval o X.env:=by rfl) (bo:(apos.endLine == cpos.line)=true:=by rfl) :
  PE X (.Call (.Attribute o name apos) [] [] cpos) (fun σ H Q=>to σ H fun x H1=>∃ a,x=.ref a/\IsD H1 a/\r x [] H1 Q):=by
 intro aa s σ H Q I h;refine wpAny_Call_method0_late bi bo (thn (ho aa s σ H _ I h) fun v s1 ⟨x,H1,I1,r1,a,ex,d,q1⟩=>?_);subst ex;cases r1;obtain ⟨t1,t2,_⟩:=OE I1 d;exact ⟨"dict", id,PySem.F.plainAttrs_dict,slot,hty,t1,t2,Calls.callWith_builtin rfl (PySem.evalArgs_none (hm aa s1 σ H1 (.ref a) [] (.ref a) [] Q I1 rfl .nil q1))⟩
theorem ON:MtR X "dict.items" (fun x xs H Q=>∃ a kvs,x=.ref a/\xs=[]/\Rd H a (.dK kvs)/\∀ p,H p=none->Q (.ref p) (upd H p (Lg a p))):=by
 intro aa s σ H x xs v us Q I rx rs h;obtain ⟨a,kvs,rfl,rfl,hd,q⟩:=h;cases rx;cases rs;obtain ⟨z,y,vs,rel,dd⟩:=C1 I.hok hd;refine call_meetsIn PySem.F.slot_dict_items dd.typeIs PySem.F.entry_dict_items (PySem.F.args_dict_items_1 _) (meets_dict_items (Al X.prog X.w) a y) ⟨⟨vs,dd⟩,?_⟩;refine ⟨.ref s.heap.objs.size,_,I.laid (t':=s.toks) (o:=Lg a s.heap.objs.size) (fun b o e=>get?_push_of_some _ e) (Nat.le_refl _) ⟨⟨_,get?_push_size _ rfl,rfl,rfl⟩,⟨_,get?_push_size _ rfl⟩,fun h1 h2 z k=>?_⟩,rfl,q _ (I.hok.fresh (Nat.le_refl _))⟩;obtain ⟨ob,e,r⟩:=z;exact ⟨ob,k ob e,r⟩
theorem Mn:MtR X "dict.values" (fun x xs H Q=>∃ a kvs,x=.ref a/\xs=[]/\Rd H a (.dK kvs)/\∀ p,H p=none->Q (.ref p) (upd H p (OL a p))):=by
 intro aa s σ H x xs v us Q I rx rs h;obtain ⟨a,kvs,rfl,rfl,hd,q⟩:=h;cases rx;cases rs;obtain ⟨z,y,vs,rel,dd⟩:=C1 I.hok hd;refine call_meetsIn PySem.F.slot_dict_values dd.typeIs PySem.F.entry_dict_values (PySem.F.args_dict_values_1 _) (meets_dict_values (Al X.prog X.w) a y) ⟨⟨vs,dd⟩,?_⟩;refine ⟨.ref s.heap.objs.size,_,I.laid (t':=s.toks) (o:=OL a s.heap.objs.size) (fun b o e=>get?_push_of_some _ e) (Nat.le_refl _) ⟨⟨_,get?_push_size _ rfl,rfl,rfl⟩,⟨_,get?_push_size _ rfl⟩,fun h1 h2 z k=>?_⟩,rfl,q _ (I.hok.fresh (Nat.le_refl _))⟩;obtain ⟨ob,e,r⟩:=z;exact ⟨ob,k ob e,r⟩
theorem B3 {α β:Type} {F:α->β->Prop}:∀ {xs:List α} {ys:List β},xs.length=ys.length->(∀ (j:Nat) x y,xs[j]?=some x->ys[j]?=some y->F x y)->Paired F xs ys
 | [],[],_,_=>.nil
 | [],_ :: _,h,_=>by simp at h
 | _ :: _,[],h,_=>by simp at h
 | x :: xs,y :: ys,h,k=>.cons (k 0 x y rfl rfl) (B3 (by simpa using h) fun j a b ea eb=>k (j + 1) a b (by simpa using ea) (by simpa using eb))
theorem Kk (hc:X.calm=true):BY X (.type "list") (fun xs H Q=>∃ a kvs,xs=[.ref a]/\Rd H a (.dK kvs)/\∀ l,H l=none->Q (.ref l) (upd H l (.lst (kvs.map fun kv=>kV kv.1)))):=by
 intro aa s σ H xs us Q I r h;obtain ⟨a,kvs,rfl,hd,q⟩:=h;obtain ⟨u,rfl,ru⟩:=Bw r;cases ru;obtain ⟨z,y,vs,rel,dd⟩:=C1 I.hok hd;obtain ⟨ep,da⟩:=dd.dictAt;have hl:=rel.length;refine W.kdl_call (W.kdl_dict (knd:=Al X.prog X.w) (kvs:=vs) (ep:=ep) y) (I.ok.hd hc) da (by rw [← hl]; exact z) fun h' tk acc c' keep e hit=>?_;refine ⟨.ref s.heap.objs.size,_,I.laid (t':=tk) keep (Nat.le_refl _) (show ObjOk X.prog X.w _ h' _ (.lst (kvs.map fun kv=>kV kv.1)) from ⟨by rw [AI]; exact z,acc.toList,c',?_,by rw [Array.toArray_toList]; exact e⟩),rfl,q _ (I.hok.fresh (Nat.le_refl _))⟩
 refine B3 (by have e0:acc.toList.length=acc.size:=by simp
               rw [AI,e0,hit.1,hl]) fun j v w' ev ew=>?_
 rw [Array.getElem?_toList] at ew;obtain ⟨k,x,ex,hk⟩:=hit.2 j w' ew;rw [getElem?_map] at ev;cases e2:kvs[j]? with
 | none=>rw [e2] at ev; cases ev
 | some kv =>
  rw [e2] at ev;simp only [Option.map_some,Option.some.injEq] at ev;obtain ⟨v2,hv2,_⟩:=KV.get rel e2;rw [ex] at hv2;simp only [Option.some.injEq,Prod.mk.injEq] at hv2;rw [← ev,← hv2.1];exact Fd hk
theorem Kl (hc:X.calm=true):BY X (.type "list") (fun xs H Q=>∃ p a kvs,xs=[.ref p]/\H p=some (OL a p)/\Rd H a (.dK kvs)/\∀ l,H l=none->Q (.ref l) (upd H l (.lst (kvs.map (·.2))))):=by
 intro aa s σ H xs us Q I r h;obtain ⟨p,a,kvs,rfl,hp,hd,q⟩:=h;obtain ⟨u,rfl,ru⟩:=Bw r;cases ru;obtain ⟨z,y,vs,rel,dd⟩:=C1 I.hok hd;obtain ⟨ep,da⟩:=dd.dictAt;obtain ⟨hv,_⟩:=I.hok p _ hp;have hl:=rel.length;refine W.kdl_call (W.kdl_values (knd:=Al X.prog X.w) (d:=a) (kvs:=vs) (ep:=ep)) (I.ok.hd hc) ⟨hv,da⟩ (by rw [← hl]; exact z) fun h' tk acc c' keep e hit=>?_;refine ⟨.ref s.heap.objs.size,_,I.laid (t':=tk) keep (Nat.le_refl _) (show ObjOk X.prog X.w _ h' _ (.lst (kvs.map (·.2))) from ⟨by rw [AI]; exact z,acc.toList,c',?_,by rw [Array.toArray_toList]; exact e⟩),rfl,q _ (I.hok.fresh (Nat.le_refl _))⟩
 refine B3 (by have e0:acc.toList.length=acc.size:=by simp
               rw [AI,e0,hit.1,hl]) fun j v w' ev ew=>?_
 rw [Array.getElem?_toList] at ew;obtain ⟨k,ex⟩:=hit.2 j w' ew;rw [getElem?_map] at ev;cases e2:kvs[j]? with
 | none=>rw [e2] at ev; cases ev
 | some kv =>
  rw [e2] at ev;simp only [Option.map_some,Option.some.injEq] at ev;obtain ⟨v2,hv2,rv2⟩:=KV.get rel e2;rw [ex] at hv2;simp only [Option.some.injEq,Prod.mk.injEq] at hv2;rw [← ev,hv2.2];exact rv2
theorem IZ (hc:X.calm=true):BY X (.builtin "sorted") (fun xs H Q=>∃ a kvs,xs=[.ref a]/\Rd H a (.dK kvs)/\kvs.length < 64/\(∀ kv ∈ kvs,∃ i,kv.1=Sum.inl i) /\
  ∀ (l:Addr) (ns:List Int),H l=none->ns.Perm (kvs.map fun kv=>match kv.1 with | Sum.inl i=>i | Sum.inr _=>0)->ns.Pairwise (· <= ·)->Q (.ref l) (upd H l (.lst (ns.map V.int)))):=by
 intro aa s σ H xs us Q I r h;obtain ⟨a,kvs,rfl,hd,h64,hk,q⟩:=h;obtain ⟨u,rfl,ru⟩:=Bw r;cases ru;obtain ⟨z,y,vs,rel,dd⟩:=C1 I.hok hd;obtain ⟨ep,da⟩:=dd.dictAt;have hl:=rel.length;refine Calls.call_function_entry kind_sorted plain_sorted entry_sorted (args_sorted1 _) ?_;unfold Builtin.«sorted»;refine wpAny_bind (m:=checkCount "sorted" 1 1 _) (wpAny_pure ?_);refine wpAny_bind (W.kdu_collect (A:=X.A.in1) (W.kdl_dict (knd:=Al X.prog X.w) (kvs:=vs) (ep:=ep) y) (I.ok.hd hc) da (by rw [← hl]; exact z) fun h' tk acc keep hit=>?_)
 have ar:acc.toList.length=kvs.length:=by
  have e0:acc.toList.length=acc.size:=by simp
  rw [e0,hit.1,hl]
 refine wpAny_bind (wpAny_newList ?_ (by rw [ar]; exact z))
 have bn:IntsAre acc.toList (kvs.map fun kv=>match kv.1 with | Sum.inl i=>i | Sum.inr _=>0):=by
  refine Cl (B3 (by rw [AI,AI,ar]) fun j v w' ev ew=>?_);rw [Array.getElem?_toList] at ew;obtain ⟨k,x,ex,hkk⟩:=hit.2 j w' ew;rw [getElem?_map,getElem?_map] at ev;cases e2:kvs[j]? with
  | none=>rw [e2] at ev; cases ev
  | some kv =>
   rw [e2] at ev;simp only [Option.map_some,Option.some.injEq] at ev;obtain ⟨v2,hv2,_⟩:=KV.get rel e2;rw [ex] at hv2;simp only [Option.some.injEq,Prod.mk.injEq] at hv2;obtain ⟨i,hi⟩:=hk kv (mem_of_getElem? e2);rw [hv2.1,hi] at hkk;rw [← ev,hi];exact Fd hkk
 have I1:Inv X aa σ H { s with heap:=h',toks:=tk }:=I.kept keep;have hoL:(h'.push { cls:=.type "list", data:=.seq acc.toList.toArray }).get? h'.objs.size=some (seqObj "list" acc.toList.toArray 0):=get?_push_size _ rfl;refine wpAny_bind (wpAny_holding (wpAny_call_entry slot_list_sort ⟨_,hoL,rfl⟩ entry_list_sort (list_sort_tree hoL bn (by rw [ar]; exact h64) fun out ns' a1 a2 a3=>⟨_,rfl,?_⟩) (args_list_sort _)));refine wpAny_pure ⟨_,rfl,?_⟩;have hn:H h'.objs.size=none:=I1.hok.fresh (Nat.le_refl _);have az:ns'.length=kvs.length:=by rw [a2.length_eq,AI]
 refine ⟨.ref h'.objs.size,_,I1.laid (t':=tk) (o:=.lst (ns'.map V.int)) (h':=sortedHeap (h'.push { cls:=.type "list", data:=.seq acc.toList.toArray }) h'.objs.size acc.toList out) (fun b o e=>?_) (Nat.le_refl _) ⟨by rw [AI,az]; exact z,out.toList,?_⟩,rfl,q _ ns' hn a2 a3⟩
 ·rw [sortedHeap_old (Nat.ne_of_lt (lt_size e)) (lt_size (get?_push_of_some _ e))];exact get?_push_of_some _ e
 ·obtain ⟨c,hcx⟩:=sortedHeap_at (out:=out) hoL;exact ⟨c,Dc a1,by rw [Array.toArray_toList]; exact hcx⟩
end
section
theorem EV (hc:X.calm=true):BY X (.builtin "all") (fun xs H Q=>∃ (p:Addr) (bs:List Bool),xs=[.ref p]/\SqL X.K H p (bs.map V.bl)/\Q (.bl (bs.all id)) H):=by
 intro aa s σ H xs us Q I r h;obtain ⟨p,bs,rfl,hq,q⟩:=h;obtain ⟨u,rfl,ru⟩:=Bw r;cases ru;obtain ⟨its,rv,pl,hz⟩:=I.list hq;have hp:p < s.heap.objs.size:=by obtain ⟨o,n,e,_⟩:=id pl; exact lt_size e
 have az:bs.length=its.length:=by have:=rv.length; rw [AI] at this; exact this
 refine call_all_walk (wpAny_pyIter_list pl.isList ?_);refine ⟨_,_,_,_,_,_,fun i=>bs.getD i false,rfl,Walks.list (A:=X.A.in1) (show X.A.in1.handled=none from I.ok.hd hc) _ p (Nat.ne_of_lt hp) its.toArray,⟨⟨_,get?_push_size _ rfl,rfl,rfl⟩,pl.isList.at fun o e=>get?_push_of_some _ e⟩,fun i v s' Q' E' hP hQ=>?_,fun h' tk keep=>?_⟩
 ·have hv:its[i]?=some v:=by simpa using hP
  have hi:i < its.length:=(List.getElem?_eq_some_iff.mp hv).1;have hb:bs[i]?=some (bs[i]'(by omega)):=List.getElem?_eq_getElem (by omega);obtain ⟨u',hu',ru'⟩:=rv.get (i:=i) (x:=V.bl (bs[i]'(by omega))) (by rw [getElem?_map,hb]; rfl);rw [hv] at hu';cases hu';cases (show v=Value.bool _ from ru');refine wpAny_truthy_bool ?_;have hQ':Q' (bs.getD i false) s':=hQ;rw [getD_eq_getElem?_getD,hb] at hQ';exact hQ'
 ·have I1:Inv X aa σ H { s with heap:=h',toks:=tk }:=I.kept fun b o e=>keep b o (by simp; exact Nat.ne_of_lt (lt_size e)) (get?_push_of_some _ e);refine ⟨.bl _,H,I1,rfl,?_⟩
  have e:(List.range its.toArray.size).all (fun i=>bs.getD i false)=bs.all id:=by
   rw [size_toArray,← az,Bool.eq_iff_iff,List.all_eq_true,List.all_eq_true];constructor
   ·intro h b hb;obtain ⟨i,hi,rfl⟩:=List.mem_iff_getElem.mp hb;have:=h i (mem_range.mpr hi);rw [getD_eq_getElem?_getD,List.getElem?_eq_getElem hi] at this;exact this
   ·intro h i hi;have hi':=mem_range.mp hi;rw [getD_eq_getElem?_getD,List.getElem?_eq_getElem hi'];exact h _ (List.getElem_mem hi')
  rw [e];exact q
theorem DC (ns:List Int):∀ k,k <= ns.length->preSum (fun i=>ns.getD i 0) k=(ns.take k).sum
 | 0,_=>by simp [preSum]
 | k + 1,h=>by
  have ih:=DC ns k (by omega);have hk:k < ns.length:=by omega
  simp only [preSum,ih];rw [take_add_one,List.getElem?_eq_getElem hk,sum_append];simp [getD_eq_getElem?_getD,List.getElem?_eq_getElem hk]
theorem Hv (hc:Rdy X):BY X (.builtin "sum") (fun xs H Q=>∃ (p:Addr) (ns:List Int),xs=[.ref p]/\SqL X.K H p (ns.map V.int)/\(∀ n ∈ ns,0 <= n)/\ns.sum < 2 ^ 62/\Q (.int ns.sum) H):=by
 intro aa s σ H xs us Q I r h;obtain ⟨p,ns,rfl,hq,hnn,hsum,q⟩:=h;obtain ⟨u,rfl,ru⟩:=Bw r;cases ru;obtain ⟨its,rv,pl,hz⟩:=I.list hq;have hp:p < s.heap.objs.size:=by obtain ⟨o,n,e,_⟩:=id pl; exact lt_size e
 have az:ns.length=its.length:=by have:=rv.length; rw [AI] at this; exact this
 have tk0:∀ k,0 <= (ns.take k).sum:=fun k=>by
  have:∀ l:List Int,(∀ n ∈ l,0 <= n)->0 <= l.sum:=fun l=>by
   induction l with
   | nil=>intro _; simp
   | cons a r ih=>intro h; rw [sum_cons]; have:=h a mem_cons_self; have:=ih fun n hn=>h n (mem_cons_of_mem _ hn); omega
  exact this _ fun n hn=>hnn n (List.mem_of_mem_take hn)
 have tkle:∀ k,(ns.take k).sum <= ns.sum:=fun k=>by
  have e:ns.sum=(ns.take k).sum + (ns.drop k).sum:=by rw [← sum_append,take_append_drop]
  have:∀ l:List Int,(∀ n ∈ l,0 <= n)->0 <= l.sum:=fun l=>by
   induction l with
   | nil=>intro _; simp
   | cons a r ih=>intro h; rw [sum_cons]; have:=h a mem_cons_self; have:=ih fun n hn=>h n (mem_cons_of_mem _ hn); omega
  have:=this _ fun n hn=>hnn n (List.mem_of_mem_drop (i:=k) hn);omega
 refine call_sum_walk (wpAny_pyIter_list pl.isList ?_);obtain ⟨fp,St,W,st0,hfp⟩:=Kj hc I pl.isList;refine ⟨_,_,_,_,_,_,fun i=>ns.getD i 0,rfl,W,st0,fun b hb=>?_,fun i v hP=>?_,fun j hj=>?_,fun h' tk t' keep=>?_⟩
 ·have hs:(s.heap.push { cls:=.type "list_iterator", data:=.fields #[.ref p,.int 0 0] }).objs.size=s.heap.objs.size + 1:=size_push ..;show b < (s.heap.push { cls:=.type "list_iterator", data:=.fields #[.ref p,.int 0 0] }).objs.size;rw [hs];exact hfp b hb
 ·have hv:its[i]?=some v:=by simpa using hP
  have hi:i < its.length:=(List.getElem?_eq_some_iff.mp hv).1;have hb:ns[i]?=some (ns[i]'(by omega)):=List.getElem?_eq_getElem (by omega);obtain ⟨u',hu',t,ru'⟩:=rv.get (i:=i) (x:=V.int (ns[i]'(by omega))) (by rw [getElem?_map,hb]; rfl);rw [hv] at hu';cases hu';refine ⟨t,?_⟩;show v=Value.int (ns.getD i 0) t;rw [ru',getD_eq_getElem?_getD,hb];rfl
 ·have hj':j < ns.length:=by rw [size_toArray] at hj; omega
  rw [DC ns (j + 1) (by omega)];have h1:=tk0 (j + 1);have h2:=tkle (j + 1);have h3:ns.getD j 0=ns[j]:=by rw [getD_eq_getElem?_getD,List.getElem?_eq_getElem hj']; rfl
  have h4:=hnn _ (List.getElem_mem hj');have h5:(ns.take (j + 1)).sum=(ns.take j).sum + ns[j]:=by rw [take_add_one,List.getElem?_eq_getElem hj',sum_append]; simp
  have h6:=tk0 j;show InLong (ns.getD j 0)/\InLong _;unfold InLong;rw [h3];omega
 ·have I1:Inv X aa σ H { s with heap:=h',toks:=tk }:=I.kept fun b o e=>keep b o (by simp; exact Nat.ne_of_lt (lt_size e)) (get?_push_of_some _ e);refine ⟨.int ns.sum,H,I1,⟨t',?_⟩,q⟩;rw [size_toArray,← az,DC ns ns.length (Nat.le_refl _),take_length]
theorem EW (hc:X.calm=true):BY X (.builtin "sum") (fun xs H Q=>∃ (p:Addr) (ns:List Int),xs=[.ref p]/\SqL X.K H p (ns.map V.int)/\(∀ n ∈ ns,0 <= n)/\ns.sum < 2 ^ 62/\Q (.int ns.sum) H):=Hv (.inl hc)
theorem EY:MtR X "int.bit_length" (fun x xs H Q=>∃ i,x=.int i/\xs=[]/\Q (.int (Builtin.Int.intBits i)) H):=by
 intro aa s σ H x xs v us Q I rx rs h;obtain ⟨i,rfl,rfl,q⟩:=h;obtain ⟨t,rfl⟩:=rx;cases rs;exact call_int_bit_length ⟨.int _,H,I.tok _,⟨_,rfl⟩,q⟩
theorem Hw:OpR X (compareOp .LtE) (fun x y H Q=>∃ i j,x=.str i/\y=.str j/\Q (.bl (!decide (j.cps.toList < i.cps.toList))) H):=by
 intro aa s σ H x y v u Q I rx ry h;obtain ⟨i,j,rfl,rfl,q⟩:=h;obtain ⟨t,rfl⟩:=rx;obtain ⟨t',rfl⟩:=ry;exact PySem.P.le_str (Aq I q rfl)
theorem HK:MtR X "dict.setdefault" (fun x xs H Q=>∃ a kvs k v,x=.ref a/\xs=[kV k,v]/\H a=some (.dK kvs)/\kvs.length < sizeLine /\
  (∀ w,BS kvs k=some w->Q w H)/\(BS kvs k=none->Q v (upd H a (.dK (CO kvs k v))))):=by
 intro aa s σ H x xs u us Q I rx rs h;obtain ⟨a,kvs,k,v,rfl,rfl,hd,hl,q1,q2⟩:=h;cases rx;obtain ⟨uk,uv,rfl,rk,rv⟩:=F0 rs;obtain ⟨z,y,vs,rel,dd⟩:=OC I.hok hd;refine call_meetsIn PySem.F.slot_dict_setdefault dd.typeIs PySem.F.entry_dict_setdefault (PySem.F.args_dict_setdefault_3 _ _ _) (PySem.kt_meets_setdefault (Al X.prog X.w) a (F5 rk) y uv) ⟨vs,dd,by rw [← rel.length]; exact z,fun w' hw=>?_,fun hn h' dd' hs=>?_⟩
 ·have rr:=rel.val k;rw [hw] at rr;cases e:BS kvs k with
  | none=>rw [e] at rr; exact False.elim rr
  | some w=>rw [e] at rr; exact ⟨w,H,I.tok _,rr,q1 w e⟩
 ·have rr:=rel.val k;rw [hn] at rr
  have e:BS kvs k=none:=by
   cases e:BS kvs k with
   | none=>rfl
   | some w=>rw [e] at rr; exact False.elim rr
  have he:∃ q,h'.get? a=some q:=let ⟨q,_,_,hq,_⟩:=dd'; ⟨q,hq⟩
  have hl':(CO kvs k v).length <= sizeLine:=by have:=CI kvs k v; omega
  exact ⟨v,_,Fb I (by rw [hd]; exact True.intro) hs he (Kc hl' y (rel.put k rv) dd'),rv,q2 e⟩
theorem OO:BY X (.builtin "isinstance") (fun xs H Q=>∃ v T t b,xs=[v,.ty T]/\TyOf X.K H v t/\W.kitOne X.K t (.type T)=some b/\Q (.bl b) H):=by
 intro aa s σ H xs us Q I r h;obtain ⟨v,T,t,b,rfl,ty,hk,q⟩:=h;obtain ⟨u,uT,rfl,ru,ruT⟩:=F0 r;cases (show uT=Value.type T from ruT);exact Hk I ru ty hk fun tk=>⟨.bl b,H,I.tok tk,rfl,q⟩
end
noncomputable def GS (d:Int):List Int->Int
 | []=>d
 | n :: r=>r.foldl max n
theorem Hx (d:Int) (ns:List Int) (n:Int) (h:ns ≠ []):GS d (ns++[n])=max (GS d ns) n:=by
 cases ns with
 | nil=>exact absurd rfl h
 | cons a r=>show (r++[n]).foldl max a=_; rw [foldl_append]; rfl
theorem Mo (a v:Value):argsOk "max" ⟨[a],[(Str.ofString "default", v)]⟩:=by unfold argsOk; kernel_rfl
section
variable {prog:Program} {R:Result->Shared->Prop} {p I S:Addr} {its:List Value} {ns:List Int} {d:Value}
noncomputable def OP:Option (Int × Tok)->Array Value
 | none=>#[]
 | some (m,t)=>#[.int m t,.int m t]
theorem Mp (hh:A.handled=none) (bn:IntsAre its ns) (hpI:p ≠ I) (hSI:S ≠ I) (hpS:p ≠ S)
  (hR:∀ h' tk v,(∀ b o,b ≠ I->b ≠ S->s.heap.get? b=some o->h'.get? b=some o)->(ns=[]->v=d)->(ns ≠ []->∃ t,v=.int (GS 0 ns) t)->R (.ok (.ret v)) { s with heap:=h',toks:=tk }) :
  ∀ (k i:Nat) (h:Heap) (tk c:Nat) (b:Option (Int × Tok)),its.length - i=k->i <= its.length->h.IsListIter I p i->h.IsList p its.toArray->h.get? S=some { cls:=.type "list", data:=.seq (OP b) c } ->
   (b=none->i=0)->(∀ m t,b=some (m,t)->0 < i/\m=GS 0 (ns.take i))->(∀ b' o,b' ≠ I->b' ≠ S->s.heap.get? b'=some o->h.get? b'=some o) ->
   codeAny (model prog w) A (.builtin "max.loop" ⟨[.ref I,.none,.ref S],[(Str.ofString "default", d)]⟩) R { s with heap:=h,toks:=tk }:=by
 have bz:(toString "max" ++ toString ".loop" : String) = "max.loop" := by decide
 have az:=bn.length;intro k;induction k with
 | zero =>
  intro i h tk c b hk hi hit hl hS hb0 hb1 keep;have e:i=its.length:=by omega
  refine codeAny_builtin PySem.F.entry_max_loop ?_;rw [Around.under_plainId PySem.F.plain_max_loop _];show wpAny _ A.in1 (seqItems? (.ref S) >>= _) _ _ _;refine wpAny_bind (wpAny_seqItems hS rfl ?_);show wpAny _ A.in1 (tryCatch (pyNext (.ref I)) _ >>= _) _ _ _;refine wpAny_bind (wpAny_tryCatch (wpAny_pyNext_list_end (show A.in1.handled=none from hh) hit hl (by simp; omega) fun h' eb=>?_));cases b with
  | none =>
   have hn:ns=[]:=by
    have:=hb0 rfl;exact List.eq_nil_of_length_eq_zero (by omega)
   exact wpAny_bind (wpAny_rule (wpAny_pure (hR h' tk d (fun b o h1 h2 q=>eb b o h1 (keep b o h1 h2 q)) (fun _=>rfl) fun z=>absurd hn z)))
  | some mt =>
   obtain ⟨m,t⟩:=mt;obtain ⟨b8,hm⟩:=hb1 m t rfl
   have aw:ns ≠ []:=fun z=>by
    have:its.length=0:=by rw [az,z]; rfl
    omega
   show wpAny _ A.in1 (updateSeq S (fun _=>#[]) >>= _) _ _ _;refine wpAny_bind (wpAny_updateSeq (eb S _ hSI hS) rfl (wpAny_bind (wpAny_letGo (wpAny_pure ?_))) sl2);refine hR _ tk _ (fun b o h1 h2 q=>(get?_update_other _ _ (Ne.symm h2)).trans (eb b o h1 (keep b o h1 h2 q))) (fun z=>absurd z aw) fun _=>⟨t,?_⟩;rw [hm,e,az,take_length]
 | succ k ih =>
  intro i h tk c b hk hi hit hl hS hb0 hb1 keep;have hlt:i < its.length:=by omega
  have hv:its[i]?=some its[i]:=List.getElem?_eq_getElem hlt
  obtain ⟨n,t,hn,hvt⟩:∃ n t,ns[i]?=some n/\its[i]=.int n t:=by
   have hi2:i < ns.length:=by omega
   obtain ⟨u,hu,t,ru⟩:=(Dc bn).get (i:=i) (x:=V.int ns[i]) (by rw [getElem?_map,List.getElem?_eq_getElem hi2]; rfl);rw [hv] at hu;exact ⟨ns[i],t,List.getElem?_eq_getElem hi2,(Option.some.inj hu).trans ru⟩
  refine codeAny_builtin PySem.F.entry_max_loop ?_;rw [Around.under_plainId PySem.F.plain_max_loop _];show wpAny _ A.in1 (seqItems? (.ref S) >>= _) _ _ _;refine wpAny_bind (wpAny_seqItems hS rfl ?_);show wpAny _ A.in1 (tryCatch (pyNext (.ref I)) _ >>= _) _ _ _;refine wpAny_bind (wpAny_tryCatch (wpAny_pyNext_list_item hit hl (x:=.int n t) (by simpa [hvt] using hv) fun h' hit' sb=>?_));have hS':h'.get? S=some { cls:=.type "list", data:=.seq (OP b) c }:=(sb.2 S hSI).trans hS;have hl':h'.IsList p its.toArray:=hl.at fun o q=>(sb.2 p hpI).trans q;have keep':∀ b' o,b' ≠ I->b' ≠ S->s.heap.get? b'=some o->h'.get? b'=some o:=fun b' o h1 h2 q=>(sb.2 b' h1).trans (keep b' o h1 h2 q);have etk:ns.take (i + 1)=ns.take i++[n]:=by rw [take_add_one,hn]; rfl
  have store:∀ c0,(∀ v,v=Value.int n t->(h'.update S (Obj.mapSeq fun _=>#[v,v])).get? S=some { cls:=.type "list", data:=.seq (OP (some (n,t))) c0 })->n=GS 0 (ns.take (i + 1)) ->
    codeAny (model prog w) A (.builtin "max.loop" ⟨[.ref I,.none,.ref S],[(Str.ofString "default", d)]⟩) R { s with heap:=h'.update S (Obj.mapSeq fun _=>#[.int n t,.int n t]),toks:=tk }:=fun c0 e0 em =>
   ih (i + 1) _ tk c0 (some (n,t)) (by omega) hlt (hit'.at fun o q=>(get?_update_other _ _ hSI).trans q) (hl'.at fun o q=>(get?_update_other _ _ (Ne.symm hpS)).trans q) (e0 _ rfl) (fun z=>by cases z)
    (fun m t' z=>by cases z; exact ⟨Nat.succ_pos _,em⟩) fun b' o h1 h2 q=>(get?_update_other _ _ (Ne.symm h2)).trans (keep' b' o h1 h2 q)
  cases b with
  | none =>
   have hi0:=hb0 rfl;show wpAny _ A.in1 (updateSeq S (fun _=>#[Value.int n t,Value.int n t]) >>= _) _ _ _;refine wpAny_bind (wpAny_updateSeq hS' rfl ?_);rw [bz];refine wpAny_pure ⟨plainId_quiet PySem.F.plain_max_loop _,store _ (fun v e=>by subst e; exact get?_update_seq hS' fun _=>#[_,_]) ?_⟩;rw [etk,hi0];rfl
  | some mt =>
   obtain ⟨m,t0⟩:=mt;obtain ⟨b8,hm⟩:=hb1 m t0 rfl
   have aw:ns.take i ≠ []:=fun z=>by
    have:=congrArg List.length z;rw [length_take,length_nil] at this;omega
   show wpAny _ A.in1 (tryCatch (holding [Value.int n t,Value.int n t] (richCompare .Gt (.int n t) (.int m t0) >>= _)) _ >>= _) _ _ _
   refine wpAny_bind (wpAny_tryCatch (wpAny_holding (wpAny_bind (CmpOf.ints_gt (P:=fun i v=>(i=0/\v=.int n t)\/(i=1/\v=.int m t0)) (fun i=>if i=0 then n else m) (fun i v h=>by
    rcases h with ⟨rfl,rfl⟩ | ⟨rfl,rfl⟩
    ·exact ⟨t,rfl⟩
    ·exact ⟨t0,rfl⟩) 0 1 _ _ _ _ _ (.inl ⟨rfl,rfl⟩) (.inr ⟨rfl,rfl⟩) ?_))))
   refine wpAny_bind (wpAny_holding (wpAny_truthy_bool ?_));refine wpAny_bind (wpAny_letGo (wpAny_pure ?_));by_cases hgt:n > m
   ·have e1:(fun (i j:Nat)=>decide ((if i=0 then n else m) > if j=0 then n else m)) 0 1=true:=decide_eq_true hgt;rw [e1];simp only [if_true];refine wpAny_bind (wpAny_updateSeq hS' rfl (wpAny_bind (wpAny_letGo ?_)) sl2);rw [bz];refine wpAny_pure ⟨plainId_quiet PySem.F.plain_max_loop _,store _ (fun v e=>by subst e; exact get?_update_seq hS' fun _=>#[_,_]) ?_⟩;rw [etk,Hx 0 _ n aw,← hm];omega
   ·have e1:(fun (i j:Nat)=>decide ((if i=0 then n else m) > if j=0 then n else m)) 0 1=false:=decide_eq_false hgt;rw [e1];simp only [Bool.false_eq_true,if_false];refine wpAny_bind (wpAny_letGo ?_);rw [bz]
    refine wpAny_pure ⟨plainId_quiet PySem.F.plain_max_loop _,ih (i + 1) _ tk c (some (m,t0)) (by omega) hlt hit' hl' hS' (fun z=>by cases z) (fun m' t' z=>by
     cases z;refine ⟨Nat.succ_pos _,?_⟩;rw [etk,Hx 0 _ n aw,← hm]
     omega) keep'⟩
end
section
variable {c:Expr} {tc:TE} {p kp:Pos}
theorem Ie (hc:X.calm=true) (hg:Gl X "max") (hm:X.mg "max" = none) (he:PE X e te) (hcc:PE X c tc) (hs:starEach [e] X.env=(false,eval e X.env) :: starEach [] X.env:=by rfl)
  (hs2:backTo pos (starEach [e] X.env)=(false,eval e X.env) :: backTo pos (starEach [] X.env):=by rfl) :
  PE X (.Call (.Name "max" p) [e] [⟨some "default", c,kp⟩] pos) (fun σ H Q=>te σ H fun x H1=>tc σ H1 fun y H2=>∃ (a:Addr) (ns:List Int) (d:Int),x=.ref a/\y=.int d/\SqL X.K H2 a (ns.map V.int)/\(ns=[]->Q (.int d) H2)/\(ns ≠ []->Q (.int (GS 0 ns)) H2)):=by
 intro aa s σ H Q I h;refine wpAny_Call_Name_kw (Ch (u:=.builtin "max") I hg hm boot_max ?_)
 let R3:V->V->Hp->Prop:=fun x y H2=>∃ (a:Addr) (ns:List Int) (d:Int),x=.ref a/\y=.int d/\SqL X.K H2 a (ns.map V.int)/\(ns=[]->Q (.int d) H2)/\(ns ≠ []->Q (.int (GS 0 ns)) H2)
 refine callWith_kw (thn ((AA he AC hs:PA X [e] (Ar te CN)) pos aa s σ H (fun vs H1=>match vs with | [x]=>tc σ H1 (fun y H2=>R3 x y H2) | _=>False) I h) fun us s1 ⟨vs,H1,I1,r1,q1⟩=>?_) hs2 (by rw [hs2]; rfl)
 match vs,r1,q1 with
 | [x],r1,q1 =>
  refine thn ((LY (nm:=some "default") (kpos:=kp) hcc N7:PK X [⟨some "default", c,kp⟩] (Ar tc CN)) pos aa s1 σ H1 (fun vs H2=>match vs with | [y]=>R3 x y H2 | _=>False) I1 q1) fun us2 s2 ⟨vs2,H2,I2,r2,q2⟩=>?_
  match vs2,r2,q2 with
  | [y],r2,q2 =>
   obtain ⟨a,ns,d,rfl,rfl,hq,k1,k2⟩:=q2;obtain ⟨u,rfl,ru⟩:=Bw r1;cases ru;obtain ⟨ud,rfl,td,rud⟩:=Bw r2;subst rud;obtain ⟨its,rv,pl,hz⟩:=I2.list hq;have hp:a < s2.heap.objs.size:=by obtain ⟨o,n,e,_⟩:=id pl; exact lt_size e
   show wpAny _ _ (call (.builtin "max") [.ref a] [(Str.ofString "default", .int d td)]) _ _ _;refine PyProof.Rows.kmk_tree PySem.F.kind_max PySem.F.plain_max PySem.F.entry_max (Mo _ _) ?_;show wpAny _ X.A.in1 (Builtin.Builtins.bindParams "max" ["key", "default"] 0 ⟨[],[(Str.ofString "default", .int d td)]⟩ >>= _) _ _ _;refine wpAny_bind (wpAny_of_eq (show Builtin.Builtins.bindParams "max" ["key", "default"] 0 ⟨[],[(Str.ofString "default", Value.int d td)]⟩=pure [none,some (.int d td)] from rfl) ?_);refine wpAny_bind (wpAny_pure ?_);refine wpAny_bind (wpAny_pyIter_list pl.isList ?_);refine wpAny_bind (wpAny_newList ?_ (Nat.zero_le _));have bz:(toString "max" ++ toString ".loop" : String) = "max.loop" := by decide
   rw [bz];have hS:(s2.heap.push { cls:=.type "list_iterator", data:=.fields #[.ref a,.int 0 0] }).objs.size=s2.heap.objs.size + 1:=size_push ..
   refine wpAny_pure ⟨plainId_quiet PySem.F.plain_max_loop _,Mp (its:=its) (ns:=ns) (s:=s2) (I.ok.hd hc) (Cl rv) (Nat.ne_of_lt hp) (by rw [hS]; exact Nat.succ_ne_self _) (by rw [hS]; exact Nat.ne_of_lt (Nat.lt_succ_of_lt hp))
    (fun h' tk v keep e1 e2=>?_) _ 0 _ _ 0 none rfl (Nat.zero_le _) ⟨_,get?_push_of_some _ (get?_push_size _ rfl),rfl,rfl⟩ (pl.isList.at fun o q=>get?_push_of_some _ (get?_push_of_some _ q)) (get?_push_size _ rfl) (fun _=>rfl) (fun m t z=>by cases z) fun b o h1 h2 q=>get?_push_of_some _ (get?_push_of_some _ q)⟩
   have I3:Inv X aa σ H2 { s2 with heap:=h',toks:=tk }:=I2.kept fun b o q=>keep b o (Nat.ne_of_lt (lt_size q)) (by rw [hS]; exact Nat.ne_of_lt (Nat.lt_succ_of_lt (lt_size q))) q;by_cases hn:ns=[]
   ·rw [e1 hn];exact ⟨.int d,H2,I3,⟨td,rfl⟩,k1 hn⟩
   ·obtain ⟨t,ev⟩:=e2 hn;rw [ev];exact ⟨.int _,H2,I3,⟨t,rfl⟩,k2 hn⟩
end
def TupsAt (H:Hp):List Addr->List (V × V)->Prop:=Paired fun b p=>H b=some (.tup [p.1,p.2])
theorem TupsAt.same {as:List Addr} {ps:List (V × V)} (s:∀ b o,H b=some o->H' b=some o) (h:TupsAt H as ps):TupsAt H' as ps:=Paired.mapP h fun _ _ e=>s _ _ e
theorem Inv.trackTups {as:List Addr} {ps:List (V × V)} (hr:Paired (fun a (p:V × V)=>∃ its,Vals [p.1,p.2] its/\IsTup s.heap a its.toArray) as ps):∀ (H:Hp),Inv X aa σ H s->as.Pairwise (· < ·) ->
  (∀ a ∈ as,H a=none/\a ≠ X.env.locals/\X.s₀.heap.objs.size <= a/\(∀ x c,X.env.cells.lookup x=some c->c ≠ a)/\∀ q ∈ X.pn++aa,q.1 ≠ a)->∃ H',Inv X aa σ H' s/\Same H H'/\TupsAt H' as ps:=by
 induction hr with
 | nil=>intro H I _ _; exact ⟨H,I,Same.refl H,.nil⟩
 | @cons a p as ps h hr ih =>
  intro H I hp hok;obtain ⟨its,hv,ht⟩:=h;obtain ⟨p1,p2⟩:=List.pairwise_cons.mp hp;obtain ⟨o1,o2,o3,o4,o5⟩:=hok a mem_cons_self;have I1:Inv X aa σ (upd H a (.tup [p.1,p.2])) s:=I.track o1 o2 (.inr o3) o4 o5 ⟨by show 2 <= sizeLine; decide,its,hv,ht⟩;have s1:Same H (upd H a (.tup [p.1,p.2])):=fun b u e=>by rw [AH (AJ e o1)]; exact e
  obtain ⟨H',I',s',t'⟩:=ih _ I1 p2 (fun b hb=>by
   obtain ⟨q1,q2⟩:=hok b (mem_cons_of_mem _ hb)
   exact ⟨by rw [AH (Nat.ne_of_gt (p1 b hb))]; exact q1,q2⟩)
  exact ⟨H',I',s1.trans s',.cons (s' _ _ AB) t'⟩
theorem Km (hc:X.calm=true):BY X (.type "list") (fun xs H Q=>∃ p a kvs,xs=[.ref p]/\H p=some (Lg a p)/\Rd H a (.dK kvs) /\
  ∀ l as H',Same H H'->H l=none->H' l=some (.lst (as.map V.ref))->TupsAt H' as (kvs.map fun kv=>(kV kv.1,kv.2))->Q (.ref l) H'):=by
 intro aa s σ H xs us Q I r h;obtain ⟨p,a,kvs,rfl,hp,hd,q⟩:=h;obtain ⟨u,rfl,ru⟩:=Bw r;cases ru;obtain ⟨z,y,vs,rel,dd⟩:=C1 I.hok hd;obtain ⟨ep,da⟩:=dd.dictAt;obtain ⟨hv,_⟩:=I.hok p _ hp;have hl:=rel.length;refine W.kdx_call (knd:=Al X.prog X.w) (kvs:=vs) (ep:=ep) (I.ok.hd hc) hv da (by rw [← hl]; exact z) fun h' tk acc c as keep e az G cu=>?_;have I1:Inv X aa σ H { s with heap:=h',toks:=tk }:=I.kept keep;obtain ⟨n1,n2,n3,n4,n5⟩:=I.newOk (Nat.le_refl s.heap.objs.size);have el:acc=(as.map Value.ref).toArray:=by rw [← cu]
 have I2:Inv X aa σ (upd H s.heap.objs.size (.lst (as.map V.ref))) { s with heap:=h',toks:=tk }:=I1.track n1 n2 (.inr n3) n4 n5 ⟨by rw [AI,az,← hl]; exact z,as.map Value.ref,c,B3 (by rw [AI,AI]) fun j v w' ev ew=>by
  rw [getElem?_map] at ev ew;cases e2:as[j]? with
  | none=>rw [e2] at ev; cases ev
  | some b=>rw [e2] at ev ew; cases ev; cases ew; rfl,by rw [← el]; exact e⟩
 have hpp:Paired (fun a (p:V × V)=>∃ its,Vals [p.1,p.2] its/\IsTup h' a its.toArray) as (kvs.map fun kv=>(kV kv.1,kv.2)):=(B3 (by rw [AI,az,hl]) fun j b pr eb ep'=>by
   obtain ⟨key,k,x,ex,hk,ho⟩:=G.pairs j b eb;rw [getElem?_map] at ep';cases e2:kvs[j]? with
   | none=>rw [e2] at ep'; cases ep'
   | some kv =>
    rw [e2] at ep';simp only [Option.map_some,Option.some.injEq] at ep';obtain ⟨v2,hv2,rv2⟩:=KV.get rel e2;rw [ex] at hv2;simp only [Option.some.injEq,Prod.mk.injEq] at hv2;subst ep';refine ⟨[key,x],.cons ?_ (.cons ?_ .nil),_,ho,rfl,_,rfl⟩
    ·show RelV (kV kv.1) key;rw [← hv2.1]; exact Fd hk
    ·show RelV kv.2 x
     rw [hv2.2]; exact rv2)
 obtain ⟨H',I',s',t'⟩:=Inv.trackTups (s:={ s with heap:=h',toks:=tk }) hpp _ I2 G.rise (fun b hb=>by
   have hgt:=G.above b hb;obtain ⟨m1,m2,m3,m4,m5⟩:=I.newOk (Nat.le_of_lt hgt)
   exact ⟨by rw [AH (Nat.ne_of_gt hgt)]; exact m1,m2,m3,m4,m5⟩)
 exact ⟨.ref s.heap.objs.size,H',I',rfl,q _ as H' (fun b u e=>s' b u (by rw [AH (AJ e n1)]; exact e)) n1 (s' _ _ AB) t'⟩
mutual
def Bt (K:FG) (H:Hp):PyData->V->Prop
 | .none,v=>v=.non
 | .bool b,v=>v=.bl b
 | .int i,v=>v=.int i
 | .str x,v=>v=.str x
 | .list ds,v=>∃ a xs,v=.ref a/\SqL K H a xs/\A7 K H ds xs
 | .tuple ds,v=>∃ a xs,v=.ref a/\SqT K H a xs/\A7 K H ds xs
 | .dict _,_=>False
def A7 (K:FG) (H:Hp):List PyData->List V->Prop
 | [],xs=>xs=[]
 | d :: ds,xs=>∃ x r,xs=x :: r/\Bt K H d x/\A7 K H ds r
end
section
mutual
theorem Inv.reads (I:Inv X aa σ H s):∀ (d:PyData) (v:V) (u:Value),RelV v u->Bt X.K H d v->∃ as,Reads s.heap u d as
 | .none,v,u,r,h=>by
  have e:v=.non:=by simpa [Bt] using h
  subst e; cases r; exact ⟨_,.none⟩
 | .bool b,v,u,r,h=>by
  have e:v=.bl b:=by simpa [Bt] using h
  subst e; cases r; exact ⟨_,.bool b⟩
 | .int i,v,u,r,h=>by
  have e:v=.int i:=by simpa [Bt] using h
  subst e; obtain ⟨t,rfl⟩:=r; exact ⟨_,.int i t⟩
 | .str x,v,u,r,h=>by
  have e:v=.str x:=by simpa [Bt] using h
  subst e; obtain ⟨t,rfl⟩:=r; exact ⟨_,.str x t⟩
 | .list ds,v,u,r,h=>by
  rw [Bt] at h;obtain ⟨a,xs,rfl,hq,hd⟩:=h;cases r;obtain ⟨its,rv,⟨o,n,e,c,_,dd⟩,_⟩:=I.list hq;obtain ⟨as,hr⟩:=I.readsAll ds xs its rv hd;exact ⟨_,.list e c dd (by simpa using hr)⟩
 | .tuple ds,v,u,r,h=>by
  rw [Bt] at h;obtain ⟨a,xs,rfl,hq,hd⟩:=h;cases r;obtain ⟨its,rv,⟨o,e,c,n,dd⟩,_⟩:=I.tuple hq;obtain ⟨as,hr⟩:=I.readsAll ds xs its rv hd;exact ⟨_,.tuple e c dd (by simpa using hr)⟩
 | .dict kvs,v,u,r,h=>by
  rw [Bt] at h;exact h.elim
theorem Inv.readsAll (I:Inv X aa σ H s):∀ (ds:List PyData) (xs:List V) (us:List Value),Vals xs us->A7 X.K H ds xs->∃ as,ReadsAll s.heap us ds as
 | [],xs,us,r,h=>by
  have e:xs=[]:=by simpa [A7] using h
  subst e; cases r; exact ⟨_,.nil⟩
 | d :: ds,xs,us,r,h=>by
  rw [A7] at h;obtain ⟨x,xr,rfl,h1,h2⟩:=h;cases r with
  | cons p q =>
   obtain ⟨as,h3⟩:=I.reads d x _ p h1;obtain ⟨bs,h4⟩:=I.readsAll ds xr _ q h2;exact ⟨_,.cons h3 h4⟩
end
end
section
theorem Rv (K:FG) (hK:X.K=K) (hu:X.A.units + 64 < cLine):OpR X (compareOp .Eq) (fun x y H Q=>∃ dx dy,Bt K H dx x/\Bt K H dy y/\SeqAt.shaped dx=true/\SeqAt.shaped dy=true/\Q (.bl (PyData.eqv dx dy)) H):=by
 subst hK;intro aa s σ H x y v u Q I rx ry h;obtain ⟨dx,dy,h1,h2,s1,s2,q⟩:=h;obtain ⟨as,r1⟩:=I.reads dx x v rx h1;obtain ⟨bs,r2⟩:=I.reads dy y u ry h2;exact eq_dataH r1 r2 s1 s2 hu ⟨.bl _,H,I,rfl,q⟩
theorem GY (K:FG) (hK:X.K=K) (hu:X.A.units + 64 < cLine):OpR X (compareOp .NotEq) (fun x y H Q=>∃ dx dy,Bt K H dx x/\Bt K H dy y/\SeqAt.shaped dx=true/\SeqAt.shaped dy=true/\Q (.bl (!PyData.eqv dx dy)) H):=by
 subst hK;intro aa s σ H x y v u Q I rx ry h;obtain ⟨dx,dy,h1,h2,s1,s2,q⟩:=h;obtain ⟨as,r1⟩:=I.reads dx x v rx h1;obtain ⟨bs,r2⟩:=I.reads dy y u ry h2;exact ne_dataH r1 r2 s1 s2 hu ⟨.bl _,H,I,rfl,q⟩
theorem Rw (K:FG) (hK:X.K=K) (hu:X.A.units + 64 < cLine):OpR X (compareOp .Eq) (fun x y H Q=>∃ (a b:Addr) (ns ms:List Int),x=.ref a/\y=.ref b/\SqL K H a (ns.map V.int)/\SqL K H b (ms.map V.int)/\Q (.bl (decide (ns=ms))) H):=by
 subst hK;intro aa s σ H x y v u Q I rx ry h;obtain ⟨a,b,ns,ms,rfl,rfl,h1,h2,q⟩:=h;cases rx;cases ry;obtain ⟨is1,r1,p1,_⟩:=I.list h1;obtain ⟨is2,r2,p2,_⟩:=I.list h2;exact W.ke_eq_ints p1.isList p2.isList (Cl r1) (Cl r2) hu ⟨.bl _,H,I,rfl,q⟩
def Ry (C:Addr) (sp:Sp) (gV:List V->List V->List V) (E:XK) (t tk:TA):TE:=fun σ H Q=>t σ H fun vs H1=>tk σ H1 fun zs H2=>∀ x dx,H2 x=none->H2 dx=none->dx ≠ x ->
 sp (gV (.ref x :: vs) zs) (upd (upd H2 dx (.own x)) x (.ins C dx [])) (fun v H3=>v=.non/\Q (.ref x) H3) E
variable {k:Nat} {fd:FuncData} {ps ks:List Str} {sp:Sp} {p:Pos} {es:List Expr} {kws:List Keyword} {t tk:TA} {g:List Value->List Value->List Value} {gV:List V->List V->List V}
theorem OQ (M:Mk X.K C f) (F:Ae X.prog X.w X.K X.mg X.base CX0 k f fd ps sp) (hr:Room (k + 1) X.A) (hg:Gl X x) (hm:X.mg x=some (.ref C)) (hb:KZ X.K fd ps ks g gV)
  (ha:PA X (e :: es) t) (hkw:PK X kws tk) (bp:(backToKw pos (keywordEach kws X.env)).all (·.1.isSome)=true:=by rfl) (hks:(backToKw pos (keywordEach kws X.env)).filterMap (·.1)=ks:=by rfl)
  (hdb:(x == ("__debug__" : Str))=false:=by decide) (he:starEach (e :: es) X.env=(false,eval e X.env) :: starEach es X.env:=by rfl)
  (hpl:((backTo pos (starEach (e :: es) X.env)).any (·.1) || (backToKw pos (keywordEach kws X.env)).any (·.1.isNone))=false:=by rfl) :
  PE X (.Call (.Name x p) (e :: es) kws pos) (Ry C sp gV E0 t tk):=by
 intro aa s σ H Q I h;refine wpAny_Call_Name_kw (Bn I hg hm ?_ hdb);refine W.callWith_KW (h₀:=X.base) I.ok.mod.kin M.kp bp (thn (ha pos aa s σ H _ I h) fun us s1 ⟨vs,H1,I1,r,q⟩=>?_) hpl he;refine thn (hkw pos aa s1 σ H1 _ I1 q) fun ws s2 ⟨zs,H2,I2,rz,q2⟩=>⟨I2.kIn,?_⟩;rw [hks];have hq:=q2 (s2.heap.objs.size + 1) s2.heap.objs.size (I2.hok.fresh (Nat.le_succ _)) (I2.hok.fresh (Nat.le_refl _)) (Nat.ne_of_lt (Nat.lt_succ_self _));have I3:=Inv.made (C:=C) I2;have r2:Vals (gV (V.ref (s2.heap.objs.size + 1) :: vs) zs) (g (Value.ref (s2.heap.objs.size + 1) :: us) ws):=hb.rel (.cons rfl r) rz;have hl:(g (Value.ref (s2.heap.objs.size + 1) :: us) ws).length=ps.length:=by rw [← r2.length]; exact F.len _ _ _ _ hq
 refine wpAny_call (JR (f:=f) I2.kIn M.makes M.init (beq_iff_eq.mp M.fn) (codeAny_mono (F.run _ X.stack _ _ ⟨Value.ref (s2.heap.objs.size + 1) :: us,ks.zip ws⟩ _ _ _ E0 (hr.make C us (ks.zip ws)) (I3.env0.make C us (ks.zip ws)) (hb.to _ _ _ I3.kIn hl) r2 hq) fun r' s' hq'=>?_));cases r' with
 | error e=>exact hq'.elim
 | ok fl =>
  cases fl with
  | ret u =>
   obtain ⟨v,H',I4,rv,ev,q3⟩:=I3.after hq';subst ev;exact ⟨rv,⟨V.ref (s2.heap.objs.size + 1),H',I4,rfl,q3⟩⟩
  | next=>exact False.elim hq'
  | brk=>exact False.elim hq'
  | cont=>exact False.elim hq'
def UC (i j:Int):Prop:=Builtin.Int.intBits i <= 2 ^ 20/\Builtin.Int.intBits j <= 2 ^ 20
theorem Ig:OpR X (binaryOp .Mult) (rI UC fun i j=>.int (i * j)):=opI fun _ _ _ _ _ _ _ hc q=>mul_int q (IntMulOk.of_bits hc.1 hc.2)
def TU (i j:Int):Prop:=0 < j/\Builtin.divisionGoesByPylong i j=false
theorem Jb:OpR X (binaryOp .FloorDiv) (rI TU fun i j=>.int (i / j)):=opI fun i j _ _ _ _ _ hc q=>by
 have h1:(0:Int) < j:=hc.1;exact floordiv_int (by omega) (by rw [Int.fdiv_eq_ediv_of_nonneg i (by omega)]; exact q) (.inl hc.2)
end
section
variable {k:Nat} {fd:FuncData} {sp:Sp}
def Rz (sp:Sp) (a b:Addr) (H:Hp) (Q:VK):Prop:=sp [.ref a,.ref b] H (fun v H'=>∃ t:Bool,v=.bl t/\Q (.bl t) H') E0
theorem OR {b:Addr} {Q:VK} (F:Ae X.prog X.w X.K X.mg X.base CX0 k f fd ["self", "other"] sp) (hr:Room k A) (hA:Env0 X.prog X.w X.K X.mg X.base A X.stack s H) (hb:Binds X.K fd ["self", "other"] []) (I:Inv X aa σ H s) (h:Rz sp a b H Q) :
  wpAny (model X.prog X.w) A (call (.ref f) [.ref a,.ref b]) (fun v s'=>∃ t:Bool,v=.bool t/\EP X aa σ Q (.bool t) s') E s:=by
 refine wpAny_call (codeAny_mono (F.run A X.stack s H ⟨[.ref a,.ref b],[]⟩ [.ref a,.ref b] [.ref a,.ref b] _ E0 hr hA (hb s [.ref a,.ref b] I.kIn rfl) (.cons rfl (.cons rfl .nil)) h) fun r' s' hq=>?_);cases r' with
 | error e=>exact hq.elim
 | ok fl =>
  cases fl with
  | ret u =>
   obtain ⟨v,H',I',rv,t,ev,q'⟩:=I.after hq;subst ev;cases rv;exact ⟨t,rfl,.bl t,H',I',rfl,q'⟩
  | next=>exact False.elim hq
  | brk=>exact False.elim hq
  | cont=>exact False.elim hq
theorem Jc (F:Ae X.prog X.w X.K X.mg X.base CX0 k f fd ["self", "other"] sp) (hr:Room k X.A) (hb:Binds X.K fd ["self", "other"] []) (hm:IR X.K C "__eq__" f) :
  OpR X (compareOp .Eq) (fun x y H Q=>∃ a dx fs b,x=.ref a/\y=.ref b/\H a=some (.ins C dx fs)/\((∃ dy gs,H b=some (.ins C dy gs))\/((∃ xs,SqL X.K H b xs)/\W.subIn X.K (.type "list") (.ref C)=some false))/\Rz sp a b H Q):=by
 intro aa s σ H x y v u Q I rx ry h;obtain ⟨a,dx,fs,b,rfl,rfl,ha,hy,q⟩:=h;cases rx;cases ry;obtain ⟨m,Fm⟩:=I.fr;obtain ⟨mA,om,_⟩:=CH I.hok ha;obtain ⟨od,ia,_⟩:=om.look;have run:=OR (E:=X.xe) F hr I.env0 hb I q;have hu:X.A.units < cLine:=Nat.lt_of_le_of_lt (Nat.le_add_right _ 64) hr.units
 have run2:wpAny (model X.prog X.w) X.A (call (.ref f) [.ref a,.ref b]) (W.CmpBack (EP X aa σ Q)) X.xe s:=by
  refine thn run fun v s' hv=>?_;obtain ⟨t,rfl,q⟩:=hv;exact q
 show wpAny _ _ (richCompare .Eq (.ref a) (.ref b)) _ _ _;rcases hy with ⟨dy,gs,hy⟩ | ⟨⟨xs,hy⟩,hn⟩
 ·obtain ⟨mB,ob,_⟩:=CH I.hok hy;obtain ⟨odb,ib,_⟩:=ob.look;exact W.cmp_K hu Fm I.mod.kin ia ib.type (by simp [W.notFirst]) hm.at_ hm.fn run2
 ·obtain ⟨its,rv,⟨o,n,e,c,dd,_⟩,_⟩:=I.list hy;have T:W.Looks (model X.prog X.w) s.heap (typeOf (.ref b)) (.type "list"):=c ▸ (W.Looks.ld e).andThen .now;exact W.cmp_K hu Fm I.mod.kin ia T (by simp [W.notFirst,hn]) hm.at_ hm.fn run2
end
structure GZ (fs:List Addr) (e:Addr) (oe:Obj) (vs:Array Value) (old:Addr->Prop) (h h':Heap):Prop where
 tb:∃ T oT ts,h.objs.size <= T/\h'.get? T=some oT/\oT.data=.fields ts/\ts[3]?=some .none/\h'.get? e=some { oe with data:=.fields (vs.setIfInBounds 1 (.ref T)) }
 keep:∀ b o,h.get? b=some o->b ≠ e->¬ old b->b ∉ fs->h'.get? b=some o
 slot:∀ b o,h.get? b=some o->b ≠ e->¬ old b->b ∈ fs->∃ sl,h'.get? b=some { o with slots:=sl }
 there:∀ b o,h.get? b=some o->∃ o',h'.get? b=some o'
section
variable {M:Model}
theorem Du {o:Obj} {vs:Array Value} (hd:o.data=.fields vs) (f:Array Value->Array Value):Obj.mapFields f o={ o with data:=.fields (f vs) }:=by
 obtain ⟨c,d,dt,sl⟩:=o;cases hd;rfl
theorem Mq {b:Addr} {f:Obj->Obj} (hf:∀ o,h.get? a=some o->(f o).isFreed=false):∀ o,h.get? b=some o->∃ o',(h.update a f).get? b=some o':=fun o ho=>by
 by_cases q:b=a
 ·subst q;exact ⟨_,get?_update_self f ho (hf o ho)⟩
 ·exact ⟨o,(get?_update_other _ _ (Ne.symm q)).trans ho⟩
theorem Lh {env:Env} {outer:List Env} {L e:Addr} {oe:Obj} {vs:Array Value} {head:Value} {hadNext:Bool} {Q:Unit->Shared->Prop}
  (hfr:A.frames=some (env :: outer)) (hl:s.heap.FunFrames base (env :: outer)) (hf:env.frame=some L) (he:s.heap.get? e=some oe) (hd:oe.data=.fields vs) (hsz:1 < vs.size)
  (h:∀ h',GZ (frs (env :: outer)) e oe vs (fun _=>False) s.heap h'->Q () { s with heap:=h' }) :
  wpAny M A (do let a ← frameOf env; let pl ← entryPlaceOf L hadNext; let b ← EntryCells.newEntry head a .none (rawInt L) .none pl; setField (.ref e) 1 b) (fun _ s'=>wpAny M A (setFlight (.ref e) none) Q E s') E s:=by
 have hene:e ∉ frs (env :: outer):=fun hm=>by
  obtain ⟨_,o,ho,hnf⟩:=hl.mem hm;rw [he] at ho;cases ho;exact hnf vs hd
 refine wpAny_bind (wpAny_frameOf_fun hfr hl hf fun h1 x1=>wpAny_bind (wpAny_entryPlaceOf fun pl hpl=>?_));unfold EntryCells.newEntry newFields;refine wpAny_bind (wpAny_newObj_type ?_ (hpl.sizeOk5 _ _ _ _ _));generalize hpg:([head,Value.ref L,.none,rawInt L,.none]++(if pl.isEmpty then List.replicate 6 Value.none else pl)).toArray=pg;have hp3:3 < pg.size:=by rw [← hpg]; simp only [size_toArray,length_append,length_cons,length_nil]; omega
 have e1:h1.get? e=some oe:=(x1.2.1 e hene).trans he;have e2:=get?_push_of_some (h:=h1) ⟨.type "traceback", none,.fields pg,#[]⟩ e1;refine wpAny_setField e2 hd hsz ?_;have ne:h1.objs.size ≠ e:=Nat.ne_of_gt (lt_size e1);have d3:=Obj.data_mapFields hd (·.setIfInBounds 1 (Value.ref h1.objs.size));have e3:=get?_update_self (Obj.mapFields (·.setIfInBounds 1 (Value.ref h1.objs.size))) e2 (Obj.isFreed_of_fields d3);have t3:=(get?_update_other (h1.push ⟨.type "traceback", none,.fields pg,#[]⟩) (Obj.mapFields (·.setIfInBounds 1 (Value.ref h1.objs.size))) (Ne.symm ne)).trans (get?_push_size h1 rfl);unfold setFlight;refine wpAny_bind (wpAny_field e3 d3 (x:=.ref h1.objs.size) (by simp [hsz]) ?_);rw [if_pos (show (Value.ref h1.objs.size != Value.none)=true from by simp)];refine wpAny_setField t3 rfl hp3 (h _ ?_)
 have other:∀ b o,b ≠ e->h1.get? b=some o->∀ (g:Obj->Obj),(((h1.push ⟨.type "traceback", none,.fields pg,#[]⟩).update e (Obj.mapFields (·.setIfInBounds 1 (Value.ref h1.objs.size)))).update h1.objs.size g).get? b=some o:=fun b o hb hlt g=>by
  rw [get?_update_other _ _ (Nat.ne_of_gt (lt_size hlt)),get?_update_other _ _ (Ne.symm hb)];exact get?_push_of_some _ hlt
 refine ⟨⟨h1.objs.size,_,_,Nat.le_of_eq x1.1.symm,get?_update_self _ t3 (Obj.isFreed_of_fields (Obj.data_mapFields rfl _)),Obj.data_mapFields rfl _,by simp [hp3],?_⟩,fun b o hb n1 _ n3=>?_,fun b o hb n1 _ n3=>?_,fun b o hb=>?_⟩
 ·rw [get?_update_other _ _ ne,e3,Du hd]
 ·have hb1:h1.get? b=some o:=(x1.2.1 b n3).trans hb;exact other b o n1 hb1 _
 ·obtain ⟨sl,hs⟩:=x1.2.2 b o hb;exact ⟨sl,other b _ n1 hs _⟩
 ·obtain ⟨sl,hs⟩:=x1.2.2 b o hb;by_cases q:b=e
  ·subst q;exact ⟨_,(get?_update_other _ _ ne).trans e3⟩
  ·exact ⟨_,other b _ q hs _⟩
theorem Jd {env:Env} {outer:List Env} {L e:Addr} {oe:Obj} {vs:Array Value} {Q:Unit->Shared->Prop}
  (hfr:A.frames=some (env :: outer)) (hl:s.heap.FunFrames base (env :: outer)) (hf:env.frame=some L) (he:s.heap.get? e=some oe) (hd:oe.data=.fields vs) (h1:vs[1]?=some .none)
  (h:∀ h',GZ (frs (env :: outer)) e oe vs (fun _=>False) s.heap h'->Q () { s with heap:=h' }):wpAny M A (leaving env (.ref e)) Q E s:=by
 unfold leaving noteFrame;simp only [hf];refine wpAny_bind (wpAny_bind (wpAny_field he hd h1 ?_));rw [if_neg (by decide)];exact Lh hfr hl hf he hd (Array.getElem?_eq_some_iff.mp h1).1 h
theorem Hy {env:Env} {outer:List Env} {L e T:Addr} {oe oT:Obj} {vs ts:Array Value} {Q:Unit->Shared->Prop}
  (hfr:A.frames=some (env :: outer)) (hl:s.heap.FunFrames base (env :: outer)) (hf:env.frame=some L) (he:s.heap.get? e=some oe) (hd:oe.data=.fields vs) (h1:vs[1]?=some (.ref T)) (hTe:T ≠ e)
  (hT:s.heap.get? T=some oT) (hdT:oT.data=.fields ts) (h3:ts[3]?=some .none)
  (h:∀ h',GZ (frs (env :: outer)) e oe vs (·=T) s.heap h'->Q () { s with heap:=h' }):wpAny M A (noteFrame (.ref e) env) (fun _ s2=>wpAny M A (setFlight (.ref e) none) Q E s2) E s:=by
 unfold noteFrame;simp only [hf];refine wpAny_bind (wpAny_field he hd h1 ?_);rw [if_pos (show (Value.ref T != Value.none)=true from by simp)];refine wpAny_bind (wpAny_field hT hdT h3 ?_);rw [if_neg (show ¬ ((Value.none == rawInt L)=true) from by simp [rawInt])];refine wpAny_bind (wpAny_setField hT hdT (Array.getElem?_eq_some_iff.mp h3).1 ?_);have far:∀ b,b ≠ T->(s.heap.update T (Obj.mapFields (·.setIfInBounds 3 Value.none))).get? b=s.heap.get? b:=fun b hb=>get?_update_other _ _ (Ne.symm hb)
 have nr:∀ b o,s.heap.get? b=some o->(∀ vs,o.data ≠ .fields vs)->b ≠ T:=fun b o hb hn q=>by
  subst q;rw [hT] at hb;cases hb;exact hn ts hdT
 refine Lh (hfr:=hfr) (hl.of_keeps fun b o hb hn=>⟨o,(far b (nr b o hb hn)).trans hb,rfl⟩) hf ((far e (Ne.symm hTe)).trans he) hd (Array.getElem?_eq_some_iff.mp h1).1 fun h' x=>h h' ?_
 have fr:∀ o,s.heap.get? T=some o->(Obj.mapFields (·.setIfInBounds 3 Value.none) o).isFreed=false:=fun o ho=>by
  rw [hT] at ho;cases ho;exact Obj.isFreed_of_fields (Obj.data_mapFields hdT _)
 obtain ⟨T',oT',ts',a1,a2⟩:=x.tb;refine ⟨⟨T',oT',ts',by rw [Heap.size_update] at a1; exact a1,a2⟩,fun b o hb n1 n2 n3=>x.keep b o ((far b n2).trans hb) n1 (fun z=>z) n3,fun b o hb n1 n2 n3=>x.slot b o ((far b n2).trans hb) n1 (fun z=>z) n3,fun b o hb=>?_⟩;obtain ⟨o',ho'⟩:=Mq fr o hb;exact x.there b o' ho'
theorem Kn {env:Env} {outer:List Env} {L e T:Addr} {oe oT:Obj} {vs ts:Array Value} {Q:Unit->Shared->Prop}
  (hfr:A.frames=some (env :: outer)) (hl:s.heap.FunFrames base (env :: outer)) (hf:env.frame=some L) (he:s.heap.get? e=some oe) (hd:oe.data=.fields vs) (h1:vs[1]?=some (.ref T)) (hTe:T ≠ e)
  (hT:s.heap.get? T=some oT) (hdT:oT.data=.fields ts) (h3:ts[3]?=some .none)
  (h:∀ h',GZ (frs (env :: outer)) e oe vs (·=T) s.heap h'->Q () { s with heap:=h' }):wpAny M A (leaving env (.ref e)) Q E s:=by
 unfold leaving;exact wpAny_bind (Hy hfr hl hf he hd h1 hTe hT hdT h3 h)
end
noncomputable def E1 (e C:Addr) (dx:Option Addr):HO:=.ext fun h=>∃ oe vs,h.get? e=some oe/\oe.cls=.ref C/\oe.dict=dx/\oe.data=.fields vs/\5 < vs.size/\vs[2]?=some .none
structure OS (P:Program) (w:World) (l:List Env) (H:Hp) (s:Shared) (e C:Addr) (dx:Option Addr) (H':Hp) (s':Shared):Prop where
 os:s'.os=s.os
 bare:AllBare s'.gens
 un:Un (frs l) [] H H' s.heap s'.heap
 hok:HOk P w H' s'.heap
 at_:H' e=some (E1 e C dx)
def Tb0 (e:Addr) (s':Shared):Prop:=∃ oe vs,s'.heap.get? e=some oe/\oe.data=.fields vs/\vs[1]?=some .none
def Tb1 (e:Addr) (H':Hp) (s s':Shared) (fl:Value):Prop:=∃ oe vs T oT ts,s'.heap.get? e=some oe/\oe.data=.fields vs/\vs[1]?=some (.ref T)/\T ≠ e/\s'.heap.get? T=some oT/\oT.data=.fields ts/\ts[3]?=some fl/\H' T=none/\s.heap.get? T=none
def Fly (P:Program) (w:World) (l:List Env) (H:Hp) (s:Shared) (e C:Addr) (dx:Option Addr) (H':Hp) (s':Shared):Prop:=OS P w l H s e C dx H' s'/\Tb1 e H' s s' .none
def CXr (P:Program) (w:World):CXT:=fun outer H s E e s'=>∃ ea C dx H',e=.ref ea/\Fly P w outer H s ea C dx H' s'/\E (.ref C) dx H'
theorem Li {base h h':Heap} {fs:List Addr} {H H':Hp} (u:Un fs [] H H' h h'):∀ {l:List Env},(∀ b ∈ frs l,b ∈ fs)->(∀ b ∈ frs l,H b=none)->h.FunFrames base l->h'.FunFrames base l
 | [],_,_,_=>trivial
 | env :: r,hs,hn,⟨hk,⟨L,o,hf,hb,ho,hd⟩,hr⟩=>by
  have hL:L ∈ frs (env :: r):=by unfold frs; rw [filterMap_cons,hf]; exact mem_cons_self
  have sub:∀ b ∈ frs r,b ∈ frs (env :: r):=fun b z=>by unfold frs; rw [filterMap_cons,hf]; exact mem_cons_of_mem _ z
  obtain ⟨sl,e⟩:=u.slot L o ho (hn L hL) (hs L hL) (by simp);exact ⟨hk,⟨L,_,hf,hb,e,hd⟩,Li u (fun b z=>hs b (sub b z)) (fun b z=>hn b (sub b z)) hr⟩
section
variable {H1 H2:Hp} {s1 s2:Shared} {e:Addr} {dx:Option Addr}
structure Ko (X:Cx):Prop where
 stk:X.stack=X.env :: X.outer
 fr:X.env.frame=some X.env.locals
 ex:X.ex=[]
theorem Je {fs:List Addr} {oe:Obj} {vs:Array Value} {old:Addr->Prop} {h':Heap} (ok:HOk P w H2 h) (L:GZ fs e oe vs old h h') (hf:∀ b ∈ fs,H2 b=none) (ho:∀ b,old b->H2 b=none)
  (he:h.get? e=some oe) (hd:oe.data=.fields vs) (at_:H2 e=some (E1 e C dx)):HOk P w H2 h':=fun b u q=>by
 have kp:∀ c v,c ≠ e->(∃ z,H2 c=some z)->h.get? c=some v->h'.get? c=some v:=fun c v n ⟨z,hz⟩ hv=>L.keep c v hv n (fun y=>by rw [ho c y] at hz; cases hz) fun y=>by rw [hf c y] at hz; cases hz
 by_cases hb:b=e
 ·subst hb;rw [at_] at q;cases q;obtain ⟨⟨oe',vs',a1,a2,a3,a4,a5,a6⟩,_,st⟩:=ok _ _ at_;rw [he] at a1;cases a1;rw [hd] at a4;cases a4;obtain ⟨T,oT,ts,b1,b2,b3,b4,b5⟩:=L.tb;exact ⟨⟨_,_,b5,a2,a3,rfl,by rw [Array.size_setIfInBounds]; exact a5,by rw [Array.getElem?_setIfInBounds_ne (by decide)]; exact a6⟩,⟨_,b5⟩,st⟩
 ·refine (ok b u q).stay (fun c v hc r=>?_) (fun _ z=>z) fun _ _ z=>z;rcases hc with rfl | hc
  ·exact kp c v hb ⟨u,q⟩ r
  ·refine kp c v (fun z=>?_) ⟨_,hc⟩ r;subst z;rw [at_] at hc;cases hc
theorem Jf {oe:Obj} {vs:Array Value} {old:Addr->Prop} {h':Heap} (O:Ko X) (I:Inv X aa σ H1 s1) (F:OS X.prog X.w X.stack H1 s1 e C dx H2 s2) (he:s2.heap.get? e=some oe) (hd:oe.data=.fields vs) (h1:1 < vs.size)
  (hold:∀ b,old b->H2 b=none/\s1.heap.get? b=none) (L:GZ (frs X.stack) e oe vs old s2.heap h'):Fly X.prog X.w X.outer X.H₀ X.s₀ e C dx H2 { s2 with heap:=h' }:=by
 have b0:Un (frs X.outer) [] X.H₀ H1 X.s₀.heap s1.heap:=by have:=I.base; rw [O.ex] at this; exact this
 have free2:∀ b ∈ frs X.stack,H2 b=none:=fun b hb=>by
  obtain ⟨_,o,ho,_⟩:=I.stack.mem hb;exact F.un.free b o ho (I.stkFree b hb) (by simp)
 have ne:∀ b,H2 b=none->b ≠ e:=fun b n z=>by subst z; rw [F.at_] at n; cases n
 have out:∀ b o,X.s₀.heap.get? b=some o->b ∉ frs X.outer->b ∉ frs X.stack:=fun b o hb hn z=>by
  rw [O.stk] at z;unfold frs at z;rw [filterMap_cons,O.fr] at z;rcases mem_cons.mp z with z | z
  ·exact absurd (Nat.lt_of_lt_of_le (lt_size hb) I.ok.above) (by rw [z]; exact Nat.lt_irrefl _)
  ·exact hn z
 have up:∀ b,b ∈ frs X.outer->b ∈ frs X.stack:=fun b hb=>by
  rw [O.stk];unfold frs;rw [filterMap_cons,O.fr];exact mem_cons_of_mem _ hb
 have nold:∀ b o,X.s₀.heap.get? b=some o->¬ old b:=fun b o hb z=>by
  obtain ⟨o',ho'⟩:=b0.there b o hb (by simp);rw [(hold b z).2] at ho';cases ho'
 have und:Un (frs X.outer) [] X.H₀ H2 X.s₀.heap h':=by
  refine ⟨fun b o q n hb _=>?_,fun b o q n hb _=>?_,fun b o q n _=>?_,fun b o q _=>?_,fun b xs q=>F.un.tups b xs (b0.tups b xs q),fun b o xs q=>F.un.frzs b o xs (b0.frzs b o xs q),fun b ps q=>?_⟩
  ·have q1:=b0.keep b o q n hb (by simp);have n1:=b0.free b o q n (by simp);have q2:=F.un.keep b o q1 n1 (out b o q hb) (by simp);exact L.keep b o q2 (ne b (F.un.free b o q1 n1 (by simp))) (nold b o q) (out b o q hb)
  ·obtain ⟨sl,q1⟩:=b0.slot b o q n hb (by simp);have n1:=b0.free b o q n (by simp);obtain ⟨sl2,q2⟩:=F.un.slot b _ q1 n1 (up b hb) (by simp);obtain ⟨sl3,q3⟩:=L.slot b _ q2 (ne b (F.un.free b _ q1 n1 (by simp))) (nold b o q) (up b hb);exact ⟨sl3,q3⟩
  ·obtain ⟨o1,q1⟩:=b0.there b o q (by simp);exact F.un.free b o1 q1 (b0.free b o q n (by simp)) (by simp)
  ·obtain ⟨o1,q1⟩:=b0.there b o q (by simp);obtain ⟨o2,q2⟩:=F.un.there b o1 q1 (by simp);exact L.there b o2 q2
  ·obtain ⟨m1,e1⟩:=b0.tbls b ps q;obtain ⟨m2,e2⟩:=F.un.tbls b _ e1;exact ⟨m1++m2,by rw [e2,Array.append_assoc]⟩
 refine ⟨⟨F.os.trans I.os,F.bare,und,Je F.hok L free2 (fun b z=>(hold b z).1) he hd F.at_,F.at_⟩,?_⟩;obtain ⟨T,oT,ts,b1,b2,b3,b4,b5⟩:=L.tb;have hT:s2.heap.get? T=none:=Heap.get?_none_of_le b1;refine ⟨_,_,T,oT,ts,b5,rfl,by simp [h1],fun z=>?_,b2,b3,b4,F.hok.fresh b1,?_⟩
 ·subst z;rw [he] at hT;cases hT
 ·cases q:X.s₀.heap.get? T with
  | none=>rfl
  | some o =>
   obtain ⟨o1,q1⟩:=b0.there T o q (by simp);obtain ⟨o2,q2⟩:=F.un.there T o1 q1 (by simp);rw [hT] at q2;cases q2
theorem Dv (I:Inv X aa σ H1 s1) (F:OS X.prog X.w X.stack H1 s1 e C dx H2 s2):s2.heap.FunFrames X.base X.stack:=Li F.un (fun _ z=>z) I.stkFree I.stack
theorem Ga {E':Ab} (O:Ko X) (I:Inv X aa σ H1 s1) (F:Fly X.prog X.w X.stack H1 s1 e C dx H2 s2) :
  wpAny (model X.prog X.w) X.A (leaving X.env (.ref e)) (fun _ s3=>Fly X.prog X.w X.outer X.H₀ X.s₀ e C dx H2 s3) E' s2:=by
 obtain ⟨B,oe,vs,T,oT,ts,a1,a2,a3,a4,a5,a6,a7,a8,a9⟩:=F;have fr:=Dv I B;have hA:=I.ok.frames;rw [O.stk] at fr hA;refine Kn hA fr O.fr a1 a2 a3 a4 a5 a6 a7 fun h' L=>?_;rw [← O.stk] at L;exact Jf O I B a1 a2 (Array.getElem?_eq_some_iff.mp a3).1 (fun b z=>by subst z; exact ⟨a8,a9⟩) L
theorem Kp {E':Ab} (O:Ko X) (I:Inv X aa σ H1 s1) (B:OS X.prog X.w X.stack H1 s1 e C dx H2 s2) (T:Tb0 e s2) :
  wpAny (model X.prog X.w) X.A (leaving X.env (.ref e)) (fun _ s3=>Fly X.prog X.w X.outer X.H₀ X.s₀ e C dx H2 s3) E' s2:=by
 obtain ⟨oe,vs,a1,a2,a3⟩:=T;have fr:=Dv I B;have hA:=I.ok.frames;rw [O.stk] at fr hA;refine Jd hA fr O.fr a1 a2 a3 fun h' L=>?_;rw [← O.stk] at L;exact Jf O I B a1 a2 (Array.getElem?_eq_some_iff.mp a3).1 (fun b z=>z.elim) L
end
theorem SA {CX:CXT} {qual:Str} {scope:Scope} {cd:Value} {outer:List Env} {E:XK} :
  Ko (BH CX P w K mg base N qual scope f cd A outer s H E):=⟨rfl,rfl,rfl⟩
theorem TV {qual:Str} {scope:Scope} {cd:Value} {outer:List Env} {E:XK} :
  BQ (CXr P w) (BH (CXr P w) P w K mg base N qual scope f cd A outer s H E) E:=by
 rintro aa σ H1 s1 e s2 I ⟨ea,C,dx,H2,rfl,F,q⟩;exact wpAny_mono (Ga (X:=BH (CXr P w) P w K mg base N qual scope f cd A outer s H E) SA I F) (fun _ s3 G=>⟨ea,C,dx,H2,rfl,G,q⟩) fun _ _ z=>z
def OT (X:Cx) (E:XK):Prop:=∀ (aa:LO) (σ:St) (H:Hp) (s:Shared) (e C:Addr) (dx:Option Addr) (H':Hp) (s':Shared),Inv X aa σ H s->OS X.prog X.w X.stack H s e C dx H' s'->Tb0 e s'->E (.ref C) dx H'->X.xe (.ref e) s'
theorem Lj {qual:Str} {scope:Scope} {cd:Value} {outer:List Env} {E:XK} :
  OT (BH (CXr P w) P w K mg base N qual scope f cd A outer s H E) E:=by
 intro aa σ H1 s1 ea C dx H2 s2 I F T q;exact wpAny_mono (Kp (X:=BH (CXr P w) P w K mg base N qual scope f cd A outer s H E) SA I F T) (fun _ s3 G=>⟨ea,C,dx,H2,rfl,G,q⟩) fun _ _ z=>z
structure Jg (B:String) (bm:List Value):Prop where
 b:bm.contains (.type B)=true
 base:bm.contains (.type "BaseException")=true
 na:bm.contains (.type "AttributeError")=false
 nn:bm.contains (.type "NameError")=false
section
variable {M:Model} {g:Array GenState} {d:Drawn} {t:Nat} {os:OsState}
variable {nm qn:Str} {N:Addr} {bs bm bmB:List Value} {a0:Bool} {sn:List Str} {sub:List Value} {ab:Bool} {col:Option Bool} {dd:Option Addr} {k0 k1 k2 k3 k5:Option Value} {B newId initId:String}
theorem Kq (F:ExcBaseFacts B newId initId bmB) (T:Jg B bm) {rest:List Value} {Q:Unit->Shared->Prop} (oC:h.get? C=some (excClassObj nm qn C N bs bm a0 sn sub ab col dd k0 k1 k2 k3 k5 newId))
  (fin:Q () ⟨h,g,d,t,os⟩):wpAny M A (checkBuiltinCall newId ⟨.ref C :: rest,[]⟩) Q E ⟨h,g,d,t,os⟩:=by
 have c1:(Value.ref C :: bm).contains (.type B)=true:=by rw [contains_cons,T.b]; simp
 have st:=F.noStar;simp only [checkBuiltinCall,F.newKind,F.newSplit,F.newRow]
 repeat (first | refine wpAny_loadPart_at oC ?_ | (refine wpAny_isSubtype_exc oC ?_; rw [c1]) | refine wpAny_staticBase_exc oC ?_ | refine wpAny_madeBy_exc oC ?_ | simp only [bne_self_eq_false,Bool.false_eq_true,if_false] | wp_step)
 exact fin
end
section
variable {prog:Program} {R:Result->Shared->Prop} {g:Array GenState} {d:Drawn} {t:Nat} {os:OsState}
variable {nm qn:Str} {N:Addr} {bs bm bmB:List Value} {a0:Bool} {sn:List Str} {sub:List Value} {ab:Bool} {col:Option Bool} {dd:Option Addr} {k0 k1 k2 k3 k5:Option Value} {B newId initId:String}
noncomputable abbrev Kr (C:Addr) (h:Heap):Obj:={ cls:=.ref C,data:=.fields #[.ref h.objs.size,.none,.none,.none,.bool false,.none] }
noncomputable abbrev DD (C:Addr) (rest:List Value) (h:Heap):Heap:=(h.push { cls:=.type "tuple", data:=.seq rest.toArray }).push (Kr C h)
theorem OU (F:ExcBaseFacts B newId initId bmB) (T:Jg B bm) {rest:List Value} (oC:h.get? C=some (excClassObj nm qn C N bs bm a0 sn sub ab col dd k0 k1 k2 k3 k5 newId))
  (fin:R (.ok (.ret (.ref (h.objs.size + 1)))) ⟨DD C rest h,g,d,t,os⟩) (hz:rest.length <= sizeLine):codeAny (model prog w) A (.builtin newId ⟨.ref C :: rest,[]⟩) R ⟨h,g,d,t,os⟩:=by
 have e1:=F.ends;have c1:(Value.ref C :: bm).contains (.type B)=true:=by rw [contains_cons,T.b]; simp
 have c2:(Value.ref C :: bm).contains (.type "AttributeError")=false:=by rw [contains_cons,T.na]; rfl
 have c3:(Value.ref C :: bm).contains (.type "NameError")=false:=by rw [contains_cons,T.nn]; rfl
 refine codeAny_builtinAt F.entry ?_;unfold Builtin.«BaseException.__new__»;refine PySem.wpAt_bind ?_;show PySem.wpAt _ _ _ (stack >>= _) _ _ _;refine PySem.wpAt_bind (PySem.wpAt_stack fun p below=>PySem.wpAt_of_wpAny ?_)
 wp_walk
 refine PySem.wpAt_of_wpAny ?_;rw [F.owner]
 repeat (first | with_reducible refine wpAny_madeHere_exc F.canon oC ?_ | with_reducible refine wpAny_loadPart_at oC ?_ | (with_reducible refine wpAny_isSubtype_exc oC ?_; first | rw [c1] | rw [c2] | rw [c3]) | wp_step)
 show R _ _;rw [size_push];exact fin
theorem Ks (F:ExcBaseFacts B newId initId bmB) (T:Jg B bm) {rest:List Value} {fI:Addr} {oI:Obj} {Q:Fin->Shared->Prop}
  (oC:h.get? C=some (excClassObj nm qn C N bs bm a0 sn sub ab col dd k0 k1 k2 k3 k5 newId)) (li:W.Looks (model prog w) h (typeLookup (.ref C) "__init__") (some (.ref fI))) (oF:h.get? fI=some oI) (cF:oI.cls=.type "function") (hz:rest.length <= sizeLine)
  (fin:wpAny (model prog w) A (call (.ref fI) (.ref (h.objs.size + 1) :: rest)) (fun r s'=>r=.none/\Q (.done (.ret (.ref (h.objs.size + 1)))) s') E ⟨DD C rest h,g,d,t,os⟩) :
  wpAny (model prog w) A (Builtin.«type.__call__» ⟨.ref C :: rest,[]⟩) Q E ⟨h,g,d,t,os⟩:=by
 repeat (first | with_reducible refine wpAny_loadPart_at oC ?_ | with_reducible refine wpAny_madeBy_exc oC ?_ | wp_step)
 refine codeAny_call_builtin_code (Code.quiet_builtin _ F.quiet) (Kq F T oC (OU F T oC ?_ hz));show wpAny _ _ _ _ _ _;have kp:∀ b o,h.get? b=some o->(DD C rest h).get? b=some o:=fun b o z=>get?_push_of_some _ (get?_push_of_some _ z);have oC1:=kp _ _ oC;have ge:(DD C rest h).get? (h.objs.size + 1)=some (Kr C h):=by unfold DD; heap_get
 have c1:(Value.ref C :: bm).contains (.ref C)=true:=by simp
 unfold isInstance
 repeat (first | with_reducible refine wpAny_loadPart_at ge ?_ | (with_reducible refine wpAny_isSubtype_exc oC1 ?_; rw [c1]) | wp_step)
 refine li A _ E ⟨DD C rest h,g,d,t,os⟩ kp ?_;refine wpAny_holding (wpAny_bind ?_);unfold bindSpecial;refine wpAny_bind (wpAny_typeOf (T := "function") ⟨_,kp _ _ oF,cF⟩ ?_);rw [if_pos (by decide)];refine wpAny_pure (wpAny_bind (wpAny_mono fin (fun r s' z=>?_) fun _ _ x=>x));obtain ⟨rfl,hQ⟩:=z
 wp_walk
 exact hQ
theorem Mr (F:ExcBaseFacts B newId initId bmB) (T:Jg B bm) {rest:List Value} {fI:Addr} {oI:Obj} {Q:Ab}
  (oC:h.get? C=some (excClassObj nm qn C N bs bm a0 sn sub ab col dd k0 k1 k2 k3 k5 newId)) (li:W.Looks (model prog w) h (typeLookup (.ref C) "__init__") (some (.ref fI))) (oF:h.get? fI=some oI) (cF:oI.cls=.type "function") (hz:rest.length <= sizeLine)
  (fin:wpAny (model prog w) (A.under (.builtin "type.__call__" ⟨.ref C :: rest,[]⟩)) (call (.ref fI) (.ref (h.objs.size + 1) :: rest)) (fun r s'=>r=.none/\Q (.ref (h.objs.size + 1)) s') E ⟨DD C rest h,g,d,t,os⟩) :
  wpAny (model prog w) A (call (.ref C) rest) Q E ⟨h,g,d,t,os⟩:=by
 have f1:=tc_lookup;have f2:=tc_bind (.ref C);have hT:(⟨h,g,d,t,os⟩:Shared).TypeIs (.ref C) "type" := ⟨_,oC,rfl⟩;refine wpAny_call (codeAny_of_tree ?_);show wpAny _ _ (callAny (.ref C) _) _ _ _
 repeat (any_goals (first | assumption | with_reducible refine wpAny_loadPart_at oC ?_ | wp_step))
 refine ⟨rfl,?_⟩;exact codeAny_call_builtin_at (Code.quiet_builtin _ (by decide +kernel)) entry_typeCall (wpAny_check_type_call_sub oC (Ks F T oC li oF cF hz fin))
end
noncomputable def EZ (e C:Addr) (dx:Option Addr):HO:=.ext fun h=>∃ oe vs,h.get? e=some oe/\oe.cls=.ref C/\oe.dict=dx/\oe.data=.fields vs/\vs.size=6/\vs[1]?=some .none/\vs[2]?=some .none
noncomputable def Ay (K:FG) (C:Addr):Bool:=match K.lookup C with
 | some ⟨.type "type", _,.cls cd,sl⟩=>(match cd.mro,sl.toList with
  | .ref C' :: bm,[_,_,_,_,some (.builtin n),_]=>C' == C && !cd.hasDel && n == "ValueError.__new__" && bm.contains (.type "BaseException") && bm.contains (.type "ValueError") && !bm.contains (.type "AttributeError") && !bm.contains (.type "NameError")
  | _,_=>false)
 | _=>false
theorem Fe (X:K.In h) (q:Ay K C=true):∃ nm qn N bs bm a0 sn sub ab col dd k0 k1 k2 k3 k5,h.get? C=some (excClassObj nm qn C N bs bm a0 sn sub ab col dd k0 k1 k2 k3 k5 "ValueError.__new__")/\Jg "ValueError" bm:=by
 unfold Ay at q;split at q
 ·rename_i dd cd sl ho;split at q
  ·rename_i C' bm k0 k1 k2 k3 n k5 hm hs;simp only [Bool.and_eq_true,beq_iff_eq,Bool.not_eq_true'] at q;obtain ⟨⟨⟨⟨⟨⟨rfl,hdel⟩,rfl⟩,hb⟩,ht⟩,ha⟩,hn⟩:=q;obtain ⟨nm,bs,mro,ns,qn,hd,sn,sub,ab,col,del⟩:=cd
   dsimp only at hm hdel
   subst hm hdel;obtain ⟨l⟩:=sl;simp only at hs;subst hs;exact ⟨nm,qn,ns,bs,bm,hd,sn,sub,ab,col,dd,k0,k1,k2,k3,k5,X _ _ ho,⟨ht,hb,ha,hn⟩⟩
  ·cases q
 ·cases q
structure MkX (K:FG) (C f:Addr):Prop where
 cls:Ay K C=true
 init:W.findIn K (.ref C) "__init__" = some (some (.ref f))
 fn:W.isFn K (.ref f)=true
 fo:∃ o,K.lookup f=some o/\o.cls=.type "function"
 kp:W.keepIn K (.ref C)=true
section
variable {CX:CXT} {k:Nat} {fd:FuncData} {ps:List Str} {sp:Sp} {dvs:List V} {ds:List Value} {E:XK} {m:Str} {p apos:Pos} {o:Expr} {es:List Expr} {t:TA}
theorem Ms (C:Addr) (rest:List Value) (h:Heap):(DD C rest h).get? (h.objs.size + 1)=some (Kr C h):=by unfold DD; heap_get
theorem Inv.madeX (I:Inv X aa σ H s) (rest:List Value):Inv X aa σ (upd H (s.heap.objs.size + 1) (EZ (s.heap.objs.size + 1) C none)) { s with heap:=DD C rest s.heap }:=by
 have kp:∀ b o,s.heap.get? b=some o->(DD C rest s.heap).get? b=some o:=fun b o z=>get?_push_of_some _ (get?_push_of_some _ z);refine I.laid (t':=s.toks) kp (Nat.le_succ _) ?_;have ge:=Ms C rest s.heap;exact ⟨⟨_,_,ge,rfl,rfl,rfl,rfl,rfl,rfl⟩,⟨_,ge⟩,fun h1 h2 ⟨oe,vs,a,r⟩ k=>⟨oe,vs,k _ a,r⟩⟩
theorem Mu {Q:VK} {vs:List V} (M:MkX X.K C f) (F:Ae X.prog X.w X.K X.mg X.base CX k f fd ps sp) (hr:Room (k + 1) X.A) (hb:Binds X.K fd ps ds) (hd:Vals dvs ds) (hx:BQ CX X E) (I:Inv X aa σ H s) (r:Vals vs us) (hz:vs.length <= 1000)
  (h:∀ x,H x=none->sp (.ref x :: (vs++dvs)) (upd H x (EZ x C none)) (fun v H2=>v=.non/\Q (.ref x) H2) E):wpAny (model X.prog X.w) X.A (call (.ref C) us) (EP X aa σ Q) X.xe s:=by
 have hq:=h (s.heap.objs.size + 1) (I.hok.fresh (Nat.le_succ _));have I2:=Inv.madeX (C:=C) I us;have r2:Vals (V.ref (s.heap.objs.size + 1) :: (vs++dvs)) (Value.ref (s.heap.objs.size + 1) :: (us++ds)):=.cons rfl (r.append hd)
 have hl:(Value.ref (s.heap.objs.size + 1) :: us++ds).length=ps.length:=by
  have e:=r2.length;rw [F.len _ _ _ _ hq] at e;exact e.symm
 obtain ⟨nm,qn,N,bs,bm,a0,sn,sub,ab,col,dd,k0,k1,k2,k3,k5,oC,T⟩:=Fe I.kIn M.cls;obtain ⟨oF,lF,cF⟩:=M.fo;obtain ⟨hh,g,d,tk,os⟩:=s;refine Mr PySem.F.excBase_ValueError T oC (W.looks_findIn I.kIn M.init) (I.kIn _ _ lF) cF (by rw [← r.length]; exact Nat.le_of_lt (Ad hz)) ?_;refine wpAny_call (codeAny_mono (F.run _ X.stack _ _ ⟨_,[]⟩ (Value.ref (hh.objs.size + 1) :: (us++ds)) _ _ E (hr.make C us []) (I2.env0.make C us []) (hb _ (Value.ref (hh.objs.size + 1) :: us) I2.kIn hl) r2 hq) fun r s' hq'=>?_);cases r with
 | error e=>exact hx aa σ _ _ e s' I2 hq'
 | ok fl =>
  cases fl with
  | ret u =>
   obtain ⟨v,H',I3,rv,ev,q3⟩:=I2.after hq';subst ev;exact ⟨rv,⟨V.ref (hh.objs.size + 1),H',I3,rfl,q3⟩⟩
  | next=>exact False.elim hq'
  | brk=>exact False.elim hq'
  | cont=>exact False.elim hq'
def Ih (C:Addr) (sp:Sp) (dvs:List V) (E:XK) (t:TA):TE:=fun σ H Q=>t σ H fun vs H1=>vs.length <= 1000/\∀ x,H1 x=none->sp (.ref x :: (vs++dvs)) (upd H1 x (EZ x C none)) (fun v H2=>v=.non/\Q (.ref x) H2) E
theorem Gb (M:MkX X.K C f) (F:Ae X.prog X.w X.K X.mg X.base CX k f fd ps sp) (hr:Room (k + 1) X.A) (hg:Gl X x) (hm:X.mg x=some (.ref C)) (hb:Binds X.K fd ps ds) (hd:Vals dvs ds) (hx:BQ CX X E)
  (ha:PA X (e :: es) t) (hdb:(x == ("__debug__" : Str))=false:=by decide) (he:starEach (e :: es) X.env=(false,eval e X.env) :: starEach es X.env:=by rfl) (hpl:(backTo pos (starEach es X.env)).any (·.1)=false:=by rfl) :
  PE X (.Call (.Name x p) (e :: es) [] pos) (Ih C sp dvs E t):=by
 intro aa s σ H Q I h;refine wpAny_Call_Name_kw (Bn I hg hm ?_ hdb);refine W.callWith_K (h₀:=X.base) I.ok.mod.kin M.kp (thn (ha pos aa s σ H _ I h) fun us s1 ⟨vs,H1,I1,r,q⟩=>⟨I1.kIn,?_⟩) he hpl;exact Mu M F hr hb hd hx I1 r q.1 q.2
def Ii (C:Addr) (te:TE) (E:XK):TS:=fun _ σ H=>te σ H fun v H1=>∃ e dx,v=.ref e/\H1 e=some (EZ e C dx)/\E (.ref C) dx (upd H1 e (E1 e C dx))
theorem Mv {H1:Hp} {e:Addr} {dx:Option Addr} (ok:HOk P w H1 h) (at_:H1 e=some (EZ e C dx)):HOk P w (upd H1 e (E1 e C dx)) h:=by
 obtain ⟨⟨oe,vs,a1,a2,a3,a4,a5,a6,a7⟩,_,_⟩:=ok _ _ at_;refine ok.write (x:=e) (e:=e) (by rw [at_]; exact True.intro) (.inl rfl) (fun b u _ q=>q) ⟨_,a1⟩ ⟨⟨oe,vs,a1,a2,a3,a4,by omega,a7⟩,⟨_,a1⟩,fun h1 h2 ⟨oe,vs,a,r⟩ k=>⟨oe,vs,k _ a,r⟩⟩
end
section
variable {M:Model} {env:Env}
theorem Jh {x:Sem Value} {Q:Flow->Shared->Prop} (hh:A.handled=none)
  (h:wpAny M A x (fun v s1=>∃ e oe vs,v=.ref e/\s1.heap.get? e=some oe/\oe.cls=.ref C/\oe.data=.fields vs/\vs[1]?=some .none /\
   (∃ nm qn N bs bm a0 sn sub ab col dd k0 k1 k2 k3 k5 nid,s1.heap.get? C=some (excClassObj nm qn C N bs bm a0 sn sub ab col dd k0 k1 k2 k3 k5 nid)/\bm.contains (.type "BaseException")=true)/\E (.ref e) s1) E s) :
  wpAny M A (raiseStmt env (some x) none) Q E s:=by
 unfold raiseStmt;refine wpAny_bind (wpAny_mono h (fun v s1 z=>?_) fun _ _ y=>y);obtain ⟨e,oe,vs,rfl,he,bg,hd,h1,⟨nm,qn,N,bs,bm,a0,sn,sub,ab,col,dd,k0,k1,k2,k3,k5,nid,oC,hb⟩,hE⟩:=z;have c1:(Value.ref C :: bm).contains (.type "BaseException")=true:=by rw [contains_cons,hb,Bool.or_true]
 obtain ⟨hp,g,d,tk,os⟩:=s1
 repeat (first | (with_reducible refine wpAny_loadPart_at he ?_; rw [bg]) | with_reducible refine wpAny_loadPart_at oC ?_ | (with_reducible refine wpAny_isSubtype_exc oC ?_; rw [c1]) | wp_step)
 rw [hd];refine wpAny_pure ?_;rw [h1];refine wpAny_pure ?_;rw [if_neg (by decide)];exact wpAny_pure (wpAny_raiseNew_none hh hE)
end
section
variable {E:XK} {o:Expr}
theorem Gc (hR:OT X E) (hc:X.calm=true) (hC:Ay X.K C=true) (he:PE X o te):PS X (.Raise (some o) none pos) (Ii C te E):=by
 intro aa s σ H D I h;rw [arm_exec_Raise];refine wpAny_bind (wpAny_standAt (Jh (C:=C) (I.ok.hd hc) (wpAny_bind (wpAny_mono (he aa s σ H _ I h) (fun v s1 z=>wpAny_bind (wpAny_standAt (wpAny_pure ?_))) fun _ _ y=>y))));obtain ⟨u,H1,I1,ru,e,dx,rfl,at_,q⟩:=z;obtain rfl:v=.ref e:=ru;obtain ⟨⟨oe,vs,a1,a2,a3,a4,a5,a6,a7⟩,_,_⟩:=I1.hok _ _ at_;obtain ⟨nm,qn,N,bs,bm,a0,sn,sub,ab,col,dd,k0,k1,k2,k3,k5,oC,T⟩:=Fe I1.kIn hC;refine ⟨e,oe,vs,rfl,a1,a2,a4,a6,⟨nm,qn,N,bs,bm,a0,sn,sub,ab,col,dd,k0,k1,k2,k3,k5,_,oC,T.base⟩,?_⟩;refine hR aa σ H1 s1 e C dx _ s1 I1 ⟨rfl,I1.bare,Un.write (x:=e) (e:=e) (by rw [at_]; exact True.intro) (.inl rfl) (fun b u _ r=>r) ⟨_,a1⟩,Mv I1.hok at_,AB⟩ ⟨oe,vs,a1,a4,a6⟩ q
end
section
variable {prog:Program} {g:Array GenState} {d:Drawn} {t:Nat} {os:OsState}
variable {nm qn:Str} {N:Addr} {bs bm bmB:List Value} {a0:Bool} {sn:List Str} {sub:List Value} {ab:Bool} {col:Option Bool} {dd:Option Addr} {k0 k1 k2 k3 k5:Option Value} {B newId initId:String}
theorem Ji (F:ExcBaseFacts B newId initId bmB) (T:Jg B bm) {M:Model} {e:Addr} {oe:Obj} {rest:List Value} {Q:Unit->Shared->Prop}
  (oC:h.get? C=some (excClassObj nm qn C N bs bm a0 sn sub ab col dd k0 k1 k2 k3 k5 newId)) (he:h.get? e=some oe) (bg:oe.cls=.ref C) (fin:Q () ⟨h,g,d,t,os⟩) :
  wpAny M A (checkBuiltinCall initId ⟨.ref e :: rest,[]⟩) Q E ⟨h,g,d,t,os⟩:=by
 have c1:(Value.ref C :: bm).contains (.type B)=true:=by rw [contains_cons,T.b]; simp
 have st:=F.noStar;simp only [checkBuiltinCall,F.initKind,F.initSplit,F.initRow]
 repeat (first | (with_reducible refine wpAny_loadPart_at he ?_; rw [bg]) | with_reducible refine wpAny_loadPart_at oC ?_ | (with_reducible refine wpAny_isSubtype_exc oC ?_; rw [c1]) | wp_step)
 refine wpAny_onRaise ?_;rw [show ∀ (a b:String) (n:Nat),Bind.check ⟨.positional, "*", B,.self,[⟨"args", .varPos,false⟩]⟩ a b n (List.map (fun x=>x.fst) ({ pos:=Value.ref e :: rest }:Args).kw)=pure () from fun a b n=>check_star_args _ _ _ _ _ _];exact wpAny_pure fin
theorem Kt (F:ExcBaseFacts B newId initId bmB) (T:Jg B bm) {e:Addr} {oe:Obj} {vs:Array Value} {v0:Value} {rest:List Value} {Q:Ab}
  (oC:h.get? C=some (excClassObj nm qn C N bs bm a0 sn sub ab col dd k0 k1 k2 k3 k5 newId)) (he:h.get? e=some oe) (bg:oe.cls=.ref C) (hd:oe.data=.fields vs) (h0:vs[0]?=some v0) (hz:rest.length <= sizeLine)
  (fin:Q .none ⟨(h.push { cls:=.type "tuple", data:=.seq rest.toArray }).update e (Obj.mapFields (·.setIfInBounds 0 (.ref h.objs.size))),g,d,t,os⟩) :
  wpAny (model prog w) A (call (.builtin initId) (.ref e :: rest)) Q E ⟨h,g,d,t,os⟩:=by
 refine wpAny_call (codeAny_call_builtin F.init.plain F.initEntry (Ji F T oC he bg ?_));have e1:=get?_push_of_some { cls:=.type "tuple", data:=.seq rest.toArray } he;unfold Builtin.«BaseException.__init__»
 wp_walk
 rw [hd];refine wpAny_pure ?_;rw [h0];refine wpAny_pure (wpAny_bind (wpAny_setField e1 hd (Array.getElem?_eq_some_iff.mp h0).1 ?_))
 have done:∀ {E':Ab},wpAny (model prog w) A.in1 (match v0 with | Value.ref _=>letGo [v0] | _=>pure ()) (fun _ s'=>Q .none s') E' ⟨(h.push { cls:=.type "tuple", data:=.seq rest.toArray }).update e (Obj.mapFields (·.setIfInBounds 0 (.ref h.objs.size))),g,d,t,os⟩:=fun {E'}=>by
  cases v0 <;> first | exact wpAny_pure fin | (wp_walk; exact fin)
 exact wpAny_mono done (fun _ s' q=>wpAny_pure q) fun _ _ z=>z
end
theorem OV {o:HO} (h:H a=some o):upd H a o=H:=by
 funext b;unfold upd;split
 ·rename_i e;rw [e,h]
 ·rfl
theorem Mw {x:V}:∀ {us:List Value},Vals (x :: xs) us->∃ u ls,us=u :: ls/\RelV x u/\Vals xs ls
 | _ :: _,.cons a b=>⟨_,_,rfl,a,b⟩
section
variable {es:List Expr} {t:TA} {np apos:Pos}
def SB (K:FG) (t:TA):TE:=fun σ H Q=>t σ H fun vs H1=>∃ a C dx rest,vs=.ref a :: rest/\rest.length <= 1000/\Ay K C=true/\H1 a=some (EZ a C dx)/\Q .non H1
theorem QL:typeOf (.type "ValueError")=pure (.type "type"):=by kernel_rfl
theorem QM:Manifest.isStub "ValueError" = false:=by decide +kernel
theorem QN (K:FG):W.findCls K (.type "ValueError") (.type "type") "__init__" = some (.val (.builtin "ValueError.__init__")):=by kernel_rfl
theorem QO:W.handedIn (.builtin "ValueError.__init__")=true:=by decide +kernel
theorem Lk:bootBuiltins "ValueError" = some (.type "ValueError"):=by decide +kernel
theorem OW {pl:Sem Bool} (hg:Gl X "ValueError") (hm:X.mg "ValueError" = none) (ha:PA X (e :: es) t) (he:starEach (e :: es) X.env=(false,eval e X.env) :: starEach es X.env:=by rfl) (hpl:(backTo pos (starEach es X.env)).any (·.1)=false:=by rfl)
  (ht:eval (.Call (.Attribute (.Name "ValueError" np) "__init__" apos) (e :: es) [] pos) X.env=(do
   let ov ← eval (.Name "ValueError" np) X.env
   standAt apos.atName
   let (f,first) ← holding [ov] (getMethod ov "__init__" pl)
   callWith pos f first (backTo pos (starEach (e :: es) X.env)) (backToKw pos (keywordEach [] X.env))):=by rfl) :
  PE X (.Call (.Attribute (.Name "ValueError" np) "__init__" apos) (e :: es) [] pos) (SB X.K t):=by
 intro aa s σ H Q I h;refine W.methodCall_KW (pl:=pl) ?_ ht;refine Ch (u:=.type "ValueError") I hg hm Lk ?_;obtain ⟨m,Fm⟩:=I.fr;have L1:=fun (Q':Value × List Value->Shared->Prop) hq=>W.method_type (prog:=X.prog) (w:=X.w) (A:=X.A) (E:=X.xe) (K:=X.K) (T := "ValueError") (name := "__init__") (pl:=pl) (v:=.builtin "ValueError.__init__") (Q:=Q') Fm I.ok.mod.kin QL QM (QN X.K) QO hq;refine L1 _ ?_;refine PyProof.Rows.callWith_builtin1 (thn (ha pos aa _ σ H _ (I.tok _) h) fun us s1 ⟨vs,H1,I1,r1,a,C,dx,rest,ev,hz,hC,at_,q⟩=>?_) he hpl;subst ev;obtain ⟨nm,qn,N,bs,bm,a0,sn,sub,ab,col,dd,k0,k1,k2,k3,k5,oC,T⟩:=Fe I1.kIn hC;obtain ⟨⟨oe,ws,a1,a2,a3,a4,a5,a6,a7⟩,_,st⟩:=I1.hok _ _ at_;obtain ⟨u0,ls,eu,ra,rr⟩:=Mw r1;subst eu
 ·obtain rfl:=ra;obtain ⟨hp,g,d,tk,os⟩:=s1;refine Kt PySem.F.excBase_ValueError T oC a1 a2 a4 (v0:=ws[0]'(by omega)) (by rw [Array.getElem?_eq_getElem]) (by rw [← rr.length]; exact Nat.le_of_lt (Ad hz)) ?_;have J:=I1.kept (h':=hp.push { cls:=.type "tuple", data:=.seq ls.toArray }) (t':=tk) fun b u z=>get?_push_of_some _ z;have e1:=get?_push_of_some { cls:=.type "tuple", data:=.seq ls.toArray } a1;have e2:=get?_update_self (Obj.mapFields (·.setIfInBounds 0 (.ref hp.objs.size))) e1 (Obj.isFreed_of_fields (Obj.data_mapFields a4 _));rw [Du a4] at e2
  have J2:=J.write (x:=a) (e:=a) (o:=EZ a C dx) (t':=tk) (by rw [at_]; exact True.intro) (.inl rfl) (fun b u n z=>(get?_update_other _ _ (Ne.symm n)).trans z) ⟨_,e2⟩
   ⟨⟨_,_,e2,a2,a3,rfl,by rw [Array.size_setIfInBounds]; exact a5,by rw [Array.getElem?_setIfInBounds_ne (by decide)]; exact a6,by rw [Array.getElem?_setIfInBounds_ne (by decide)]; exact a7⟩,⟨_,e2⟩,st⟩
  rw [OV at_] at J2;exact ⟨.non,H1,J2,rfl,q⟩
end
noncomputable def Gd (P:Program) (w:World) (K:FG) (mg:SV) (base:Heap) (N:List Str) (qual:Str) (scope:Scope) (f:Addr) (cd:Value) (A:Around) (outer:List Env) (s:Shared) (H:Hp) (e:Addr) (oe:Obj):Cx :=
 { BH CX0 P w K mg base N qual scope f cd A outer s H (fun _ _ _=>False) with calm:=false,pn:=[(e,oe)],xe:=fun _ _=>False }
structure RoomS (k:Nat) (A:Around):Prop where
 dp:A.depth + 3 * k + 5 < recursionLimit
 un:A.units + 16 * k + 200 < cLine
theorem RoomS.deeper {k:Nat} {A:Around} (r:RoomS (k + 1) A) (env:Env):RoomS k (A.deeper env):=⟨by have:=r.dp; show A.depth + 1 + 3 * k + 5 < _; omega,by have:=r.un; show A.units + 3 + 16 * k + 200 < _; omega⟩
theorem Ku {ps:List Str} {qual:Str} {scope:Scope} {cd:Value} {outer:List Env} {s1:Shared} {vs:List V} {e:Addr} {oe:Obj}
  (S:AK N ps scope) (e0:Env0 P w K mg base A outer s H) (hl:vs.length=ps.length) (r:Vals vs us) (he:s.heap.get? e=some oe) (hn:H e=none) (ho:e ∉ frs outer) (hd:∀ v,oe.data ≠ .cell v)
  (x:InCallC s s.heap.objs.size (bindL (envOfC qual scope s.heap.objs.size f cd).kindOf (ps.zip us) fun _=>none) (cellsFrom (s.heap.objs.size + 1) scope.names []) (bindC (envOfC qual scope s.heap.objs.size f cd).kindOf (ps.zip us) fun _=>none) s1) :
  Inv (Gd P w K mg base N qual scope f cd A outer s H e oe) [] (BZ N vs) H s1:=by
 have A0:∃ A0:Around,A0.handled=none/\A0.frames=A.frames:=⟨{ A with handled:=none },rfl,rfl⟩;obtain ⟨A0,h1,h2⟩:=A0;have I:=Ew (CX:=CX0) (E:=fun _ _ _=>False) (A:=A0) S h1 ⟨h2.trans e0.frames,e0.mod,e0.bs,e0.bsz,e0.funs,e0.frf,e0.hok,e0.bare⟩ hl r x;obtain ⟨hh,tk,rfl,hk⟩:=x.done;have ok:=I.ok;refine ⟨⟨ok.mod,ok.kind,ok.glob,ok.blt,ok.above,ok.inj,ok.has,ok.cab,(fun z=>by cases (show false=true from z)),Around.frames_deeper e0.frames,ok.stk,ok.exf,ok.bs,ok.bsz,ok.noex,ok.exfs,ok.funs,ok.frf⟩,I.os,I.bare,I.base,I.loc,I.cell,I.free,I.freeC,fun p hp=>?_,I.hok,I.len⟩;have q:p=(e,oe):=by simpa [Gd] using hp
 subst q;exact ⟨hk _ _ he,hn,Nat.ne_of_lt (lt_size he),ho,hd⟩
end L2
namespace L2
open PySem PySem.Spec PyProof.Rows
abbrev SpS:=Addr->Obj->List V->Hp->VK->Prop
structure Ll (P:Program) (w:World) (K:FG) (mg:SV) (base:Heap) (k:Nat) (f:Addr) (fd:FuncData) (ps:List Str) (sp:SpS):Prop where
 len:∀ e oe vs H Q,sp e oe vs H Q->vs.length=ps.length
 run:∀ (A:Around) (outer:List Env) (s:Shared) (H:Hp) (args:Args) (us:List Value) (vs:List V) (Q:VK) (e:Addr) (oe:Obj),RoomS k A->Env0 P w K mg base A outer s H->A.handled=some (.ref e)->s.heap.get? e=some oe->H e=none->e ∉ frs outer->(∀ v,oe.data ≠ .cell v) ->
  BindsTo s fd args (ps.zip us)->Vals vs us->sp e oe vs H Q->codeAny (model P w) A (.call (.ref f) args) (CR CX0 outer P w H s Q fun _ _ _=>False) s
section
theorem Fun.okS {qual:Str} {st:Stmt} {fd:FuncData} {ps:List Str} {k:Nat} {sp:SpS} (F:Fun K x qual st f fd) (S:AK N ps (defScope st)) (len:∀ e oe vs H Q,sp e oe vs H Q->vs.length=ps.length)
  (be:∀ (ad:Value) (A:Around) (outer:List Env) (s:Shared) (H:Hp) (vs:List V) (Q:VK) (e:Addr) (oe:Obj),A.handled=some (.ref e)->RoomS k (A.deeper (envOfC qual (defScope st) s.heap.objs.size f ad))->sp e oe vs H Q ->
   ∃ t,PSs (Gd P w K mg base N qual (defScope st) f ad A outer s H e oe) (defBody st) t/\t { nx:=fun _ H'=>Q .non H',rt:=Q } (BZ N vs) H):Ll P w K mg base (k + 1) f fd ps sp:=by
 obtain ⟨oc,od,kV,doc,pm,an,ad,ct,osl,rfl,lk,hcd⟩:=F.ex;refine ⟨len,fun A outer s H args us vs Q e oe hr e0 hh he hn ho hd hb r hsp=>?_⟩;have hl:=len _ _ _ _ _ hsp;have KX:K.In s.heap:=e0.mod.kin.keeps fun b o z=>(e0.bs b o z).1;have lim:s.heap.NoLimit:=e0.mod.nolimit.keeps fun b o z=>(e0.bs b o z).1
 have hk:∀ y ∈ ps.zip us,(defScope st).names.lookup y.1=some .local\/((defScope st).names.lookup y.1=some .cell/\((cellsFrom (s.heap.objs.size + 1) (defScope st).names []).lookup y.1).isSome=true):=fun ⟨n,v⟩ hy=>by
  rcases S.par n (of_mem_zip hy).1 with q | q
  ·exact .inl q
  ·exact .inr ⟨q,W.cellsFrom_some _ _ _ (.inl q)⟩
 refine codeAny_call_function (by have:=hr.dp; omega) (KX _ _ lk) rfl S.co S.gen rfl (W.codeRec_of KX hcd) (hb _ _ _ _ (wpAny_newFunctionEnv_cells S.kind hk fun env ee s1 x=>?_));subst ee;refine ⟨lim.keeps x.toInCall.keep,codeAny_func ?_⟩;obtain ⟨t,ht,hq⟩:=be ad A outer s H vs Q e oe hh (hr.deeper _) hsp;have I:Inv (Gd P w K mg base N qual (defScope st) f ad A outer s H e oe) [] (BZ N vs) H s1:=Ku S e0 hl r he hn ho hd x;refine wpAny_mono (ht [] s1 (BZ N vs) H _ I hq) (fun fl s' z=>?_) fun _ _ z=>z.elim;cases fl with
 | ret u =>
  obtain ⟨v,σ',H',J,rv,q⟩:=z;exact ⟨v,H',J.os,J.bare,J.base,J.hok,rv,q⟩
 | next =>
  obtain ⟨σ',H',J,q⟩:=z;exact ⟨.non,H',J.os,J.bare,J.base,J.hok,rfl,q⟩
 | brk =>
  obtain ⟨_,_,_,q⟩:=z;exact q.elim
 | cont =>
  obtain ⟨_,_,_,q⟩:=z;exact q.elim
theorem QP {qual:Str} {scope:Scope} {cd:Value} {outer:List Env} {e:Addr} {oe:Obj} {vs:Array Value} (hh:A.handled=some (.ref e)) (hd:oe.data=.fields vs) (h2:vs[2]?=some .none) :
  Rdy (Gd P w K mg base N qual scope f cd A outer s H e oe):=.inr ⟨e,oe,vs,hh,mem_cons_self,hd,h2⟩
end
noncomputable def del (H:Hp) (a:Addr):Hp:=fun b=>if b=a then none else H b
theorem Jj:del H a a=none:=if_pos rfl
theorem DE {b:Addr} (h:b ≠ a):del H a b=H b:=if_neg h
section
variable {H1 H2:Hp} {s1 s2:Shared} {e:Addr} {dx:Option Addr}
theorem OX {fs:List Addr} {oe:Obj} {vs:Array Value} {old:Addr->Prop} {h2 h':Heap} (u:Un fs [] H1 H2 h h2) (L:GZ fs e oe vs old h2 h') (at_:H2 e=some (E1 e C dx)) (hold:∀ b,old b->H2 b=none/\h.get? b=none):Un fs [] H1 (del H2 e) h h':=by
 have ne:∀ b,H2 b=none->b ≠ e:=fun b n z=>by subst z; rw [at_] at n; cases n
 have nold:∀ b o,h.get? b=some o->¬ old b:=fun b o hb z=>by rw [(hold b z).2] at hb; cases hb
 have ne2:∀ b v,H2 b=some v->(∀ φ,v ≠ .ext φ)->b ≠ e:=fun b v hv hn z=>by subst z; rw [at_] at hv; cases hv; exact hn _ rfl
 refine ⟨fun b o q n hb _=>?_,fun b o q n hb _=>?_,fun b o q n _=>?_,fun b o q _=>?_,fun b xs q=>?_,fun b o xs q=>?_,fun b ps q=>?_⟩
 ·exact L.keep b o (u.keep b o q n hb (by simp)) (ne b (u.free b o q n (by simp))) (nold b o q) hb
 ·obtain ⟨sl,q1⟩:=u.slot b o q n hb (by simp);obtain ⟨sl2,q2⟩:=L.slot b _ q1 (ne b (u.free b o q n (by simp))) (nold b o q) hb;exact ⟨sl2,q2⟩
 ·have z:=u.free b o q n (by simp);rw [DE (ne b z)];exact z
 ·obtain ⟨o1,q1⟩:=u.there b o q (by simp);exact L.there b o1 q1
 ·have z:=u.tups b xs q;rw [DE (ne2 b _ z fun _ y=>nomatch y)];exact z
 ·have z:=u.frzs b o xs q;rw [DE (ne2 b _ z fun _ y=>nomatch y)];exact z
 ·obtain ⟨m,z⟩:=u.tbls b ps q;exact ⟨m,by rw [DE (ne2 b _ z fun _ y=>nomatch y)]; exact z⟩
theorem QQ (ok:HOk P w H2 h) (at_:H2 e=some (E1 e C dx)):HOk P w (del H2 e) h:=fun b u q=>by
 have hb:b ≠ e:=fun z=>by subst z; rw [Jj] at q; cases q
 rw [DE hb] at q;have ne2:∀ c v,H2 c=some v->(∀ φ,v ≠ .ext φ)->c ≠ e:=fun c v hv hn z=>by subst z; rw [at_] at hv; cases hv; exact hn _ rfl
 exact (ok b u q).stay (fun _ _ _ z=>z) (fun c z=>by rw [DE (ne2 c _ z fun _ y=>nomatch y)]; exact z) fun c xs z=>by rw [DE (ne2 c _ z fun _ y=>nomatch y)]; exact z
structure Cgt (C:Addr) (dx:Option Addr) (e:Addr) (oe:Obj) (T:Addr) (oT:Obj):Prop where
 cls:oe.cls=.ref C
 dict:oe.dict=dx
 fld:∃ vs,oe.data=.fields vs/\vs[1]?=some (.ref T)/\vs[2]?=some .none
 tb:∃ ts,oT.data=.fields ts/\ts[3]?=some .none
theorem SC {E':Ab} {Q:Unit->Shared->Prop} (O:Ko X) (I:Inv X aa σ H1 s1) (F:Fly X.prog X.w X.stack H1 s1 e C dx H2 s2)
  (h:∀ s3 oe T oT,Cgt C dx e oe T oT->Inv X ((e,oe) :: (T,oT) :: aa) σ (del H2 e) s3->Q () s3) :
  wpAny (model X.prog X.w) X.A (noteFrame (.ref e) X.env) (fun _ s3=>wpAny (model X.prog X.w) X.A (setFlight (.ref e) none) Q E' s3) E' s2:=by
 obtain ⟨B,oe,vs,T,oT,ts,a1,a2,a3,a4,a5,a6,a7,a8,a9⟩:=F;have fr:=Dv I B;have hA:=I.ok.frames;rw [O.stk] at fr hA;refine Hy hA fr O.fr a1 a2 a3 a4 a5 a6 a7 fun h' L=>?_;rw [← O.stk] at L;have hold:∀ b,b=T->H2 b=none/\s1.heap.get? b=none:=fun b z=>by subst z; exact ⟨a8,a9⟩
 have free2:∀ b ∈ frs X.stack,H2 b=none:=fun b hb=>by
  obtain ⟨_,o,ho,_⟩:=I.stack.mem hb;exact B.un.free b o ho (I.stkFree b hb) (by simp)
 have ok3:=Je B.hok L free2 (fun b z=>(hold b z).1) a1 a2 B.at_;obtain ⟨T',oT',ts',b1,b2,b3,b4,b5⟩:=L.tb;obtain ⟨⟨oe',vs',c1,c2,c3,c4,c5,c6⟩,_,_⟩:=B.hok _ _ B.at_;rw [a1] at c1;cases c1;rw [a2] at c4;cases c4;have I3:Inv X aa σ (del H2 e) { s2 with heap:=h' }:=I.call' (ch:=[]) B.os (OX B.un L B.at_ hold) (QQ ok3 B.at_) B.bare fun b z=>nomatch z;have hT0:s2.heap.get? T'=none:=Heap.get?_none_of_le b1;have hTH:H2 T'=none:=B.hok.fresh b1;have hTe:T' ≠ e:=fun z=>by subst z; rw [a1] at hT0; cases hT0
 have locs:∃ o,s2.heap.get? X.env.locals=some o:=by
  obtain ⟨m,⟨o,_,_,ho,_⟩,_⟩:=id I.loc;exact B.un.there _ o ho (by simp)
 have fsIn:∀ b ∈ X.fs,∃ o,s2.heap.get? b=some o:=fun b hb=>by
  obtain ⟨_,o,ho,_⟩:=I.funs.mem hb;exact B.un.there b o ho (by simp)
 have upfs:∀ b ∈ X.fs,b ∈ frs X.stack:=fun b hb=>by
  rw [O.stk];unfold frs;rw [filterMap_cons,O.fr];exact mem_cons_of_mem _ hb
 refine h _ { oe with data:=.fields (vs.setIfInBounds 1 (.ref T')) } T' oT' ⟨c2,c3,⟨vs.setIfInBounds 1 (.ref T'),rfl,by simp [(Array.getElem?_eq_some_iff.mp a3).1],by rw [Array.getElem?_setIfInBounds_ne (by decide)]; exact c6⟩,⟨ts',b3,b4⟩⟩ (I3.pins_of fun p hp=>?_);rcases mem_cons.mp hp with z | z
 ·subst z;refine ⟨b5,Jj,fun z=>?_,fun z=>?_,fun v z=>by cases z⟩
  ·obtain ⟨m,⟨o,_,_,ho,_⟩,_⟩:=id I.loc;have n1:=B.un.free _ _ ho I.free (by simp);rw [← z,B.at_] at n1;cases n1
  ·have n1:=free2 e (upfs e z);rw [B.at_] at n1;cases n1
 rcases mem_cons.mp z with z | z
 ·subst z;refine ⟨b2,by rw [DE hTe]; exact hTH,fun z=>?_,fun z=>?_,fun v z=>by rw [b3] at z; cases z⟩
  ·obtain ⟨o,ho⟩:=locs;rw [← z,hT0] at ho;cases ho
  ·obtain ⟨o,ho⟩:=fsIn _ z;rw [hT0] at ho;cases ho
 ·exact I3.pin p (mem_append_right _ z)
end
noncomputable def C5 (K:FG) (C:Addr):List Value:=match K.lookup C with
 | some ⟨_,_,.cls cd,_⟩=>cd.mro
 | _=>[]
theorem Jk (X:K.In h) (q:Ay K C=true):∃ nm qn N bs bm a0 sn sub ab col dd k0 k1 k2 k3 k5,h.get? C=some (excClassObj nm qn C N bs bm a0 sn sub ab col dd k0 k1 k2 k3 k5 "ValueError.__new__")/\Jg "ValueError" bm/\C5 K C=.ref C :: bm:=by
 obtain ⟨nm,qn,N,bs,bm,a0,sn,sub,ab,col,dd,k0,k1,k2,k3,k5,oC,T⟩:=Fe X q;refine ⟨nm,qn,N,bs,bm,a0,sn,sub,ab,col,dd,k0,k1,k2,k3,k5,oC,T,?_⟩;unfold Ay at q;unfold C5;split at q
 ·rename_i dd' cd sl ho;rw [ho];have e:=X _ _ ho;rw [oC] at e;have e1:=Option.some.inj e;have e3:=congrArg Obj.data e1;injection e3 with e2
  rw [← e2]
 ·cases q
section
variable {M:Model} {g:Array GenState} {d:Drawn} {t:Nat} {os:OsState}
variable {nm qn nm' qn':Str} {N D N':Addr} {bs bm bs' bm':List Value} {a0 hdct':Bool} {sn sn':List Str} {sub sub':List Value} {ab ab':Bool} {col col':Option Bool} {dd dd':Option Addr} {k0 k1 k2 k3 k5 l0 l1 l2 l3 l5:Option Value} {newId newId':String}
theorem Ij {e:Addr} {oe:Obj} {Q:Bool->Shared->Prop} (oC:h.get? C=some (excClassObj nm qn C N bs bm a0 sn sub ab col dd k0 k1 k2 k3 k5 newId)) (oD:h.get? D=some (excClassObj nm' qn' D N' bs' bm' hdct' sn' sub' ab' col' dd' l0 l1 l2 l3 l5 newId'))
  (he:h.get? e=some oe) (bg:oe.cls=.ref C) (bi:bm'.contains (.type "BaseException")=true) (hq:Q ((Value.ref C :: bm).contains (.ref D)) ⟨h,g,d,t,os⟩):wpAny M A (excMatches (.ref e) (.ref D)) Q E ⟨h,g,d,t,os⟩:=by
 have hcB:(Value.ref D :: bm').contains (.type "BaseException")=true:=by rw [contains_cons,bi,Bool.or_true]
 have f:=tc_notTuple;unfold excMatches;generalize hb:(Value.ref C :: bm).contains (.ref D)=b at hq
 repeat (first | (with_reducible refine wpAny_loadPart_at he ?_; rw [bg]) | with_reducible refine wpAny_loadPart_at oD ?_ | (with_reducible refine wpAny_isSubtype_exc oD ?_; rw [hcB]) | (with_reducible refine wpAny_isSubtype_exc oC ?_; rw [hb]) | wp_step)
 cases b <;> (wp_walk; exact hq)
end
noncomputable def BL (X:Cx) (e:Addr) (oe:Obj) (T:Addr) (oT:Obj):Cx:={ X with A:=X.A.mark (some (.ref e)),calm:=false,pn:=X.pn++[(e,oe),(T,oT)],xe:=fun _ _=>False }
section
variable {e T:Addr} {oe oT:Obj}
theorem Inv.mark (I:Inv X ((e,oe) :: (T,oT) :: aa) σ H s):Inv (BL X e oe T oT) aa σ H s :=
 ⟨⟨I.ok.mod,I.ok.kind,I.ok.glob,I.ok.blt,I.ok.above,I.ok.inj,I.ok.has,I.ok.cab,(fun z=>by cases (show false=true from z)),I.ok.frames,I.ok.stk,I.ok.exf,I.ok.bs,I.ok.bsz,I.ok.noex,I.ok.exfs,I.ok.funs,I.ok.frf⟩,I.os,I.bare,I.base,I.loc,I.cell,I.free,I.freeC,
  fun p hp=>I.pin p (by simpa [BL] using hp),I.hok,I.len⟩
theorem Inv.unmark (ok:X.Ok) (I:Inv (BL X e oe T oT) aa σ H s):Inv X ((e,oe) :: (T,oT) :: aa) σ H s :=
 ⟨ok,I.os,I.bare,I.base,I.loc,I.cell,I.free,I.freeC,fun p hp=>I.pin p (by simpa [BL] using hp),I.hok,I.len⟩
theorem Inv.less {q:LO} (I:Inv X (q++aa) σ H s):Inv X aa σ H s:=I.pins_of fun p hp=>I.pin p (mem_append_right _ (mem_append_right _ hp))
theorem Inv.nameless {h':Heap} {m':SV} {tk:Nat} (I:Inv X aa σ H s) (hn:h'.Ns X.env.locals m') (hs:Heap.SameBut X.env.locals s.heap h'):Inv X aa (List.replicate σ.length none) H { s with heap:=h',toks:=tk }:=by
 obtain ⟨m,⟨oL,_,_,hoL,_⟩,_⟩:=id I.loc;refine ⟨I.ok,I.os,I.bare,⟨fun b o e n hb hx=>?_,fun b o e n hb hx=>?_,I.base.free,fun b o e hx=>?_,I.base.tups,I.base.frzs,I.base.tbls⟩,⟨_,hn,fun j y v' e1 e2 e3=>?_⟩,fun y c e=>?_,I.free,I.freeC,fun p hp=>?_,fun b ob e=>?_,by simpa using I.len⟩
 ·exact (hs.2 b (Nat.ne_of_lt (Nat.lt_of_lt_of_le (lt_size e) I.ok.above))).trans (I.base.keep b o e n hb hx)
 ·obtain ⟨sl,e1⟩:=I.base.slot b o e n hb hx;exact ⟨sl,(hs.2 b (Nat.ne_of_lt (Nat.lt_of_lt_of_le (lt_size e) I.ok.above))).trans e1⟩
 ·obtain ⟨o',e1⟩:=I.base.there b o e hx;exact ⟨o',(hs.2 b (Nat.ne_of_lt (Nat.lt_of_lt_of_le (lt_size e) I.ok.above))).trans e1⟩
 ·rw [List.getElem?_replicate] at e2;split at e2 <;> cases e2
 ·obtain ⟨w',z⟩:=I.cell y c e;exact ⟨w',z.sameBut hs (I.cne y c e)⟩
 ·obtain ⟨e,n,ne,nf,d⟩:=I.pin p hp;exact ⟨(hs.2 p.1 ne).trans e,n,ne,nf,d⟩
 ·refine (I.hok b ob e).stay (fun c w' hc q=>(hs.2 c ?_).trans q) (fun _ q=>q) fun _ _ q=>q;intro z;subst z;rcases hc with z | hc
  ·rw [← z,I.free] at e; cases e
  ·rw [I.free] at hc; cases hc
end
def PH (X:Cx) (C:Addr) (dx:Option Addr) (hs:List ExceptHandler) (t:Addr->TS):Prop :=
 ∀ (aa:LO) (s:Shared) (σ:St) (H:Hp) (D:C4) (e:Addr) (oe:Obj) (T:Addr) (oT:Obj),Cgt C dx e oe T oT->Inv X ((e,oe) :: (T,oT) :: aa) σ H s->t e D σ H->wpAny (model X.prog X.w) X.A (handleBy (.ref e) X.env hs) (SP X aa D) X.xe s
section
variable {Dn:Addr} {dx:Option Addr} {hs:List ExceptHandler} {t:Addr->TS} {np:Pos} {name:Option Str} {body:List Stmt}
theorem Hz (e:Addr):Value.ref e ≠ byPass:=by intro q; cases q
theorem IA {e T:Addr} {oe oT:Obj} (hC:Ay X.K C=true) (hD:Ay X.K Dn=true) (c:Cgt C dx e oe T oT) (I:Inv X ((e,oe) :: (T,oT) :: aa) σ H s) {Q:Bool->Shared->Prop}
  (h:Q ((C5 X.K C).contains (.ref Dn)) s):wpAny (model X.prog X.w) A (excMatches (.ref e) (.ref Dn)) Q E s:=by
 obtain ⟨nm,qn,N,bs,bm,a0,sn,sub,ab,col,dd,k0,k1,k2,k3,k5,oC,T1,e1⟩:=Jk I.kIn hC;obtain ⟨nm',qn',N',bs',bm',hdct',sn',sub',ab',col',dd',l0,l1,l2,l3,l5,oD,T2,e2⟩:=Jk I.kIn hD;have he:=(I.pin (e,oe) (by simp)).1;rw [e1] at h;obtain ⟨hp,g,d,tk,os⟩:=s;exact Ij oC oD he c.cls T2.base h
theorem Bo (hC:Ay X.K C=true) (hD:Ay X.K Dn=true) (hg:Gl X x) (hm:X.mg x=some (.ref Dn)) (hs':(C5 X.K C).contains (.ref Dn)=false) (hr:PH X C dx hs t) (hdb:(x == ("__debug__" : Str))=false:=by decide) :
  PH X C dx (.ExceptHandler (some (.Name x np)) name body pos :: hs) t:=by
 intro aa s σ H D e oe T oT c I h;refine wpAny_handleBy_cons (codeAny_handlers_test ?_) (Hz e);refine Bn (X:=BL X e oe T oT) I.mark hg hm ?_ hdb;refine IA hC hD c I ?_;rw [hs'];exact hr aa s σ H D e oe T oT c I h
def Lm (i:Nat) (tb:TS):Addr->TS:=fun e D σ H=>tb { nx:=fun _ _=>False,rt:=D.rt } (σ.set i (some (.ref e))) H
theorem Ln {n:Str} {b₀:Stmt} {i:Nat} {tb:Addr->TS} (hN:X.N.Nodup) (hi:X.N[i]?=some n) (hl:X.env.scope.names.lookup n=some .local) (hC:Ay X.K C=true) (hD:Ay X.K Dn=true) (hg:Gl X x) (hm:X.mg x=some (.ref Dn)) (hs':(C5 X.K C).contains (.ref Dn)=true)
  (hb:∀ e oe T oT,Cgt C dx e oe T oT->PSs (BL X e oe T oT) (b₀ :: body) (tb e)) (hdb:(x == ("__debug__" : Str))=false:=by decide) :
  PH X C dx (.ExceptHandler (some (.Name x np)) (some n) (b₀ :: body) pos :: hs) (fun e=>Lm i (tb e) e):=by
 intro aa s σ H D e oe T oT c I h;refine wpAny_handleBy_cons (codeAny_handlers_test ?_) (Hz e);refine Bn (X:=BL X e oe T oT) I.mark hg hm ?_ hdb;refine IA hC hD c I ?_;rw [hs'];refine codeAny_handlers_suite_as ?_;obtain ⟨vs,hd,h1,h2⟩:=c.fld;obtain ⟨ts,hdT,h3⟩:=c.tb;have he:=(I.pin (e,oe) (by simp)).1;have hT:=(I.pin (T,oT) (by simp)).1;refine wpAny_setFlight_none he hd h1 hT hdT (Array.getElem?_eq_some_iff.mp h3).1 ?_
 have I1:Inv X ((e,oe) :: (T,oT) :: aa) σ H { s with heap:=s.heap.update T (Obj.mapFields (·.setIfInBounds 3 .none)) }:=I.kept (t':=s.toks) fun b u q=>by
  by_cases z:b=T
  ·subst z;have e1:=get?_update_self (Obj.mapFields (·.setIfInBounds 3 Value.none)) hT (Obj.isFreed_of_fields (Obj.data_mapFields hdT _));rw [Du hdT] at e1
   have e2:ts.setIfInBounds 3 Value.none=ts:=by
    obtain ⟨l1,l2⟩:=Array.getElem?_eq_some_iff.mp h3;rw [Array.setIfInBounds,dif_pos l1]
    conv=>lhs; rw [← l2]
    exact Array.set_getElem_self l1
   rw [e2,← hdT] at e1;rw [show s.heap.get? b=some oT from hT] at q;cases q;exact e1
  ·exact (get?_update_other _ _ (Ne.symm z)).trans q
 refine CW (X:=BL X e oe T oT) (v:=.ref e) I1.mark hN hi (.inl hl) rfl (fun s2 I2=>?_) (.inr hl);refine wpAny_mono (hb e oe T oT c aa s2 _ H _ I2 h) (fun fl s3 z=>?_) fun _ _ z=>z.elim;cases fl with
 | ret u =>
  obtain ⟨v,σ',H',J,rv,q⟩:=z;have J':=J.unmark I.ok;obtain ⟨m,hn,_⟩:=id J'.loc;have bg:(X.env.scope.kind == .class || (X.env.scope.kind == .module && X.env.locals != X.env.globals))=false:=by rw [I.ok.kind]; rfl
  exact wpAny_nameGoes hl hn bg fun h' m' hn' hs'=>⟨v,_,H',(J'.nameless hn' hs').less (q:=[(e,oe),(T,oT)]),rv,q⟩
 | next =>
  obtain ⟨_,_,_,q⟩:=z;exact q.elim
 | brk =>
  obtain ⟨_,_,_,q⟩:=z;exact q.elim
 | cont =>
  obtain ⟨_,_,_,q⟩:=z;exact q.elim
end
noncomputable def Ea (X:Cx) (P0:LO) (xe:Ab):Cx:={ X with pn:=X.pn++P0,xe:=xe }
section
variable {P0:LO} {xe:Ab}
theorem Cx.Ok.tr (ok:X.Ok):(Ea X P0 xe).Ok:=⟨ok.mod,ok.kind,ok.glob,ok.blt,ok.above,ok.inj,ok.has,ok.cab,ok.hd,ok.frames,ok.stk,ok.exf,ok.bs,ok.bsz,ok.noex,ok.exfs,ok.funs,ok.frf⟩
theorem Cx.Ok.untr (ok:(Ea X P0 xe).Ok):X.Ok:=⟨ok.mod,ok.kind,ok.glob,ok.blt,ok.above,ok.inj,ok.has,ok.cab,ok.hd,ok.frames,ok.stk,ok.exf,ok.bs,ok.bsz,ok.noex,ok.exfs,ok.funs,ok.frf⟩
theorem Inv.tr (I:Inv X P0 σ H s):Inv (Ea X P0 xe) [] σ H s:=⟨I.ok.tr,I.os,I.bare,I.base,I.loc,I.cell,I.free,I.freeC,fun p hp=>I.pin p (by simpa [Ea] using hp),I.hok,I.len⟩
theorem Inv.untr (I:Inv (Ea X P0 xe) aa σ H s):Inv X P0 σ H s:=⟨I.ok.untr,I.os,I.bare,I.base,I.loc,I.cell,I.free,I.freeC,fun p hp=>I.pin p (by
 rcases mem_append.mp hp with z | z
 ·exact mem_append_left _ (mem_append_left _ z)
 ·exact mem_append_left _ (mem_append_right _ z)),I.hok,I.len⟩
end
def QR (n:Nat) (th:Addr->Option Addr->Addr->TS) (D:C4):XK:=fun Cv dx H2=>∃ C,Cv=.ref C/\∀ e,H2 e=some (E1 e C dx)->th C dx e D (List.replicate n none) (del H2 e)
def UD (n:Nat) (tb:XK->TS) (th:Addr->Option Addr->Addr->TS):TS:=fun D σ H=>tb (QR n th D) { D with nx:=D.nx } σ H
section
variable {body:List Stmt} {h₀:ExceptHandler} {hs:List ExceptHandler} {tb:XK->TS} {th:Addr->Option Addr->Addr->TS} {Cs:Addr->Prop}
theorem SD (O:Ko X) (hb:∀ P0 xe E,BQ (CXr X.prog X.w) (Ea X P0 xe) E->PSs (Ea X P0 xe) body (tb E)) (hh:∀ C dx,PH X C dx (h₀ :: hs) (th C dx)) :
  PS X (.Try body (h₀ :: hs) [] [] pos) (UD X.N.length tb th):=by
 intro aa s σ H D I h;refine wpAny_Try_except ?_
 let E:XK:=QR X.N.length th D
 let xe:Value->Shared->Prop:=fun ev s2=>∃ σ1 H1 s1 ea C dx H2,ev=.ref ea/\Inv X aa σ1 H1 s1/\Fly X.prog X.w X.stack H1 s1 ea C dx H2 s2/\E (.ref C) dx H2
 have hp:BQ (CXr X.prog X.w) (Ea X aa xe) E:=by
  rintro pins' σ1 H1 s1 ev s2 I1 ⟨ea,C,dx,H2,rfl,F,q⟩;exact ⟨σ1,H1,s1,ea,C,dx,H2,rfl,I1.untr,F,q⟩
 have ok:=I.ok;refine wpAny_mono (hb aa xe E hp [] s σ H _ I.tr h) (fun fl s1 z=>?_) fun ev s2 z=>?_
 ·cases fl with
  | next =>
   obtain ⟨σ',H',J,q⟩:=z;exact wpAny_execs_nil ⟨σ',H',J.untr,q⟩
  | brk=>obtain ⟨σ',H',J,q⟩:=z; exact ⟨σ',H',J.untr,q⟩
  | cont=>obtain ⟨σ',H',J,q⟩:=z; exact ⟨σ',H',J.untr,q⟩
  | ret u=>obtain ⟨v,σ',H',J,r,q⟩:=z; exact ⟨v,σ',H',J.untr,r,q⟩
 ·obtain ⟨σ1,H1,s1,ea,C,dx,H2,rfl,I1,F,C',eC,q⟩:=z;cases eC;refine SC O I1 F fun s3 oe T oT c I3=>?_
  have I4:Inv X ((ea,oe) :: (T,oT) :: aa) (List.replicate X.N.length none) (del H2 ea) s3:=I3.weak (by rw [List.length_replicate,I3.len]) fun i v z=>by
   rw [List.getElem?_replicate] at z;split at z <;> cases z
  exact hh C dx aa s3 _ _ D ea oe T oT c I4 (q ea F.1.at_)
end
structure Dw (K:FG) (C:Addr):Prop where
 ga:W.findIn K (.ref C) "__getattribute__" = some (some (.builtin "BaseException.__getattribute__"))
 gr:W.findIn K (.ref C) "__getattr__" = some none
 mb:W.mroIn K C (.type "BaseException")=some true
section
variable {prog:Program} {x:Addr} {ox:Obj} {od:Option Obj} {name:Str} {g:Array GenState} {d:Drawn} {t:Nat} {os:OsState}
theorem Mx {M:Model} {nameV:Value} {Q:Unit->Shared->Prop} (p:Dw K C) (X:K.In h) (I:W.InstAt h x ox C od) (hq:Q () ⟨h,g,d,t,os⟩):wpAny M A (checkBuiltinCall "BaseException.__getattribute__" ⟨[.ref x,nameV],[]⟩) Q E ⟨h,g,d,t,os⟩:=by
 have hk:builtinKind "BaseException.__getattribute__" = some .slot:=by decide +kernel
 have hsplit:splitId "BaseException.__getattribute__" = some ("BaseException", "__getattribute__"):=by decide +kernel
 have ha:=F.args_bexc_ga (.ref x) nameV;have L0:=I.type (M:=M);have L1:=W.looks_mroIn (M:=M) X p.mb;simp only [checkBuiltinCall,hk,hsplit];refine wpAny_bind ?_
 ·unfold isInstance
  repeat (first | with_reducible refine L0.at ?_ | with_reducible refine L1.at ?_ | wp_step)
  exact hq
theorem My {v:Value} {tk:Tok} {Q:Fin->Shared->Prop} (X:K.In h) (I:W.InstAt h x ox C od) (hf:W.findObj K C od name=some (.value v)) (hq:Q (.done (.ret v)) ⟨h,g,d,t,os⟩) :
  wpAny (model prog w) A (Builtin.«object.__getattribute__» ⟨[.ref x,.str name tk],[]⟩) Q E ⟨h,g,d,t,os⟩:=by
 have L0:=I.type (M:=model prog w);have L1:=W.looks_find (M:=model prog w) X I hf
 repeat (any_goals (first | assumption | with_reducible refine L0.at ?_ | with_reducible refine L1.at ?_ | wp_step))
theorem Mz {tk:Tok} {Q:Fin->Shared->Prop} (X:K.In h) (I:W.InstAt h x ox C od) (hf:W.findObj K C od name=some (.bind (.builtin "getset_descriptor.__get__") (.builtin "object.__class__"))) (hm:W.mroIn K C (.type "object")=some true)
  (hq:Q (.done (.ret (.ref C))) ⟨h,g,d,t,os⟩) :
  wpAny (model prog w) A (Builtin.«object.__getattribute__» ⟨[.ref x,.str name tk],[]⟩) Q E ⟨h,g,d,t,os⟩:=by
 have L0:=I.type (M:=model prog w);have L1:=W.looks_find (M:=model prog w) X I hf
 repeat (any_goals (first | assumption | with_reducible refine L0.at ?_ | with_reducible refine L1.at ?_ | wp_step))
 exact W.class_get X I hm (wpAny_pure hq)
theorem OY {tk:Tok} {v:Value} {R:Result->Shared->Prop} (p:Dw K C) (X:K.In h) (I:W.InstAt h x ox C od)
  (hb:∀ (A':Around) (E':Ab) (Q:Fin->Shared->Prop),Q (.done (.ret v)) ⟨h,g,d,t,os⟩->wpAny (model prog w) A' (Builtin.«object.__getattribute__» ⟨[.ref x,.str name tk],[]⟩) Q E' ⟨h,g,d,t,os⟩) (hq:R (.ok (.ret v)) ⟨h,g,d,t,os⟩) :
  codeAny (model prog w) A (.call (.builtin "BaseException.__getattribute__") ⟨[.ref x,.str name tk],[]⟩) R ⟨h,g,d,t,os⟩ :=
 codeAny_call_builtin F.excAttr_ValueError.ga.plain F.entry_bexc_ga (Mx p X I (hb _ _ _ hq))
theorem OZ {tk:Tok} {v:Value} {fill expr:Bool} {Q:Ab} (p:Dw K C) (X:K.In h) (I:W.InstAt h x ox C od) (hh:W.handedIn v=true)
  (hb:∀ (A':Around) (E':Ab) (Q:Fin->Shared->Prop),Q (.done (.ret v)) ⟨h,g,d,t,os⟩->wpAny (model prog w) A' (Builtin.«object.__getattribute__» ⟨[.ref x,.str name tk],[]⟩) Q E' ⟨h,g,d,t,os⟩) (hq:Q v ⟨h,g,d,t,os⟩) :
  wpAny (model prog w) A (getAttrBy (.ref x) (.str name tk) fill expr) Q E ⟨h,g,d,t,os⟩:=by
 have L0:=I.type (M:=model prog w);have L1:=W.looks_findIn (M:=model prog w) X p.ga;have L2:=W.looks_findIn (M:=model prog w) X p.gr;have f3:=F.excAttr_ValueError.ga.bind (.ref x);have hx0:(expr && onTheHeap (Value.builtin "BaseException.__getattribute__"))=false:=by cases expr <;> rfl
 have hx2:(Value.builtin "BaseException.__getattribute__" == Value.builtin "object.__getattribute__")=false:=by decide +kernel
 have hx1:(onTheHeap (Value.ref C) && Value.builtin "BaseException.__getattribute__" == Value.builtin "object.__getattribute__")=false:=by rw [hx2]; rfl
 have ho:=W.handedOut_of hh
 repeat (any_goals (first | assumption | with_reducible refine L0.at ?_ | with_reducible refine L1.at ?_ | with_reducible refine L2.at ?_ | wp_step))
 refine OY p X I hb ?_
 repeat (any_goals (first | assumption | (rw [ho]; exact wpAny_pure hq) | wp_step))
theorem Oa {v:Value} {expr:Bool} {Q:Ab} (p:Dw K C) (X:K.In h) (I:W.InstAt h x ox C od) (hf:W.findObj K C od name=some (.value v)) (hh:W.handedIn v=true) (hq:Q v ⟨h,g,d,t + 1,os⟩) :
  wpAny (model prog w) A (getAttr (.ref x) name expr) Q E ⟨h,g,d,t,os⟩:=by
 unfold getAttr;refine wpAny_bind (wpAny_mkText ?_);exact OZ p X I hh (fun A' E' Q' z=>My X I hf z) hq
theorem Jl {Q:Option Value->Shared->Prop} (p:Dw K C) (X:K.In h) (I:W.InstAt h x ox C od) (hf:W.findObj K C od "__class__" = some (.bind (.builtin "getset_descriptor.__get__") (.builtin "object.__class__"))) (hm:W.mroIn K C (.type "object")=some true)
  (hq:Q (some (.ref C)) ⟨h,g,d,t + 1,os⟩):wpAny (model prog w) A (getAttr? (.ref x) "__class__") Q E ⟨h,g,d,t,os⟩:=by
 unfold getAttr? getAttrBy?;refine wpAny_bind (wpAny_mkText (wpAny_bind (wpAny_attempt ?_)));exact OZ (v:=.ref C) p X I rfl (fun A' E' Q' z=>Mz X I hf hm z) (wpAny_pure hq)
end
theorem HL {name:Str} {od:Option Obj} {a g:Value} (hc:(W.clsIn K C).isSome=true) (ha:W.findIn K (.ref C) name=some (some a)) (hg:W.specialIn K a "__get__" = some (some g)) (ht:W.takesIn K a=some true):W.findObj K C od name=some (.bind g a):=by
 obtain ⟨cd,hc⟩:=Option.isSome_iff_exists.mp hc;unfold W.findObj;rw [hc,Option.bind_some,ha,Option.bind_some];simp [hg,ht]
structure QS (K:FG) (C:Addr):Prop where
 hg:Dw K C
 hc:(W.clsIn K C).isSome=true
 ha:W.findIn K (.ref C) "__class__" = some (some (.builtin "object.__class__"))
 hn:W.specialIn K (.builtin "object.__class__") "__get__" = some (some (.builtin "getset_descriptor.__get__"))
 htk:W.takesIn K (.builtin "object.__class__")=some true
 hm:W.mroIn K C (.type "object")=some true
theorem Ob {x D:Addr} {ox:Obj} {od:Option Obj} (k:QS K D):W.KitX K (.ref x) (.ref D) (fun h=>W.InstAt h x ox D od) where
 ty:=fun _ _ _ I=>I.type
 it:=fun _ _ X _=>by
  have hcD:=k.hc;unfold W.clsIn at hcD;split at hcD
  ·rename_i c' d' cd' sl' ho;intro A' Q' E' s' k q;unfold isType loadHead;exact wpAny_bind (wpAny_loadPart (k _ _ (X _ _ ho)) (wpAny_pure q))
  ·cases hcD
 ne:=fun h tp dd its n sl X htp=>by
  have hcD:=k.hc;refine Bool.eq_false_iff.mpr fun q=>?_;have e:D=tp:=Value.ref.inj (beq_iff_eq.mp q);subst e;unfold W.clsIn at hcD;split at hcD
  ·rename_i c' d' cd' sl' ho;have z:=(X _ _ ho).symm.trans htp;cases z
  ·cases hcD
 ca:=fun {prog w A E Q s} X I h=>by
  obtain ⟨hh,g,d,t,os⟩:=s;exact Jl k.hg X I (HL k.hc k.ha k.hn k.htk) k.hm h
structure ExcP (X:Cx) (e:Addr) (oe:Obj) (C:Addr):Prop where
 at_:(e,oe) ∈ X.pn
 cls:oe.cls=.ref C
 fld:∃ vs,oe.data=.fields vs
section
variable {e:Addr} {oe:Obj}
theorem ExcP.inst (p:ExcP X e oe C) (I:Inv X aa σ H s) (hd:oe.dict=none\/∃ d u,oe.dict=some d/\H d=some u):∃ od,W.InstAt s.heap e oe C od:=by
 have he:=(I.pin (e,oe) (mem_append_left _ p.at_)).1;obtain ⟨vs,hv⟩:=p.fld;have no:W.notCls oe=true:=by unfold W.notCls; rw [hv]
 rcases hd with z | ⟨d,u,z,hu⟩
 ·exact ⟨none,he,p.cls,no,by rw [z]; trivial⟩
 ·have hlt:=(I.hok d u hu).lt
  have:∃ o,s.heap.get? d=some o:=by
   have q:=(I.hok d u hu);cases u with
   | lst xs=>obtain ⟨_,_,_,_,e⟩:=q; exact ⟨_,e⟩
   | tup xs=>obtain ⟨_,_,_,o,e,_⟩:=q; exact ⟨o,e⟩
   | dK kvs=>obtain ⟨_,_,_,_,o,_,_,e,_⟩:=q; exact ⟨o,e⟩
   | dT kvs=>obtain ⟨_,_,_,_,o,_,_,e,_⟩:=q; exact ⟨o,e⟩
   | set S n=>obtain ⟨o,_,_,_,e,_⟩:=q; exact ⟨o,e⟩
   | ins C dx fs=>obtain ⟨_,_,_,e,_⟩:=q; exact ⟨_,e⟩
   | own y=>exact q
   | xd fs=>obtain ⟨_,⟨o,_,_,e,_⟩,_⟩:=q; exact ⟨o,e⟩
   | rng lo hi=>obtain ⟨_,_,_,e⟩:=q; exact ⟨_,e⟩
   | frz ob u=>exact ⟨_,q.1⟩
   | tbl ps=>exact ⟨_,(show s.heap.get? d=some _ from q)⟩
   | met f y=>exact ⟨_,(show s.heap.get? d=some _ from q)⟩
   | ext φ=>exact q.2.1
  obtain ⟨o,ho⟩:=this;exact ⟨some o,he,p.cls,no,by rw [z]; exact ho⟩
theorem IB (p:ExcP X e oe C) (k:QS X.K C):BY X (.builtin "isinstance") (fun xs H Q=>∃ v c b,xs=[.ref e,v]/\((∃ D,v=.ref D/\c=.ref D)\/∃ T,v=.ty T/\c=.type T)/\(oe.dict=none\/∃ d u,oe.dict=some d/\H d=some u)/\W.kitOne X.K (.ref C) c=some b/\Q (.bl b) H):=by
 intro aa s σ H xs us Q I r h;obtain ⟨v,c,b,rfl,hv,hd,hk,q⟩:=h;obtain ⟨u,uT,rfl,ru,ruT⟩:=F0 r;cases (show u=Value.ref e from ru);obtain ⟨od,J⟩:=p.inst I hd
 have hc:uT=c:=by
  rcases hv with ⟨D,rfl,rfl⟩ | ⟨T,rfl,rfl⟩
  ·exact ruT
  ·exact ruT
 subst hc;exact W.kia_one (Ob k) I.kIn J hk (fun z=>nomatch z) fun tk=>⟨.bl b,H,I.tok tk,rfl,q⟩
end
section
variable {k:Nat} {e:Addr} {oe:Obj} {fd:FuncData} {ps:List Str} {sp:SpS} {p:Pos} {a:Expr} {es:List Expr} {t:TA}
def Ik (sp:SpS) (e:Addr) (oe:Obj) (t:TA):TE:=fun σ H Q=>t σ H fun vs H1=>sp e oe vs H1 Q
theorem Jm (F:Ll X.prog X.w X.K X.mg X.base k f fd ps sp) (hr:RoomS k X.A) (hh:X.A.handled=some (.ref e)) (at_:(e,oe) ∈ X.pn) (hg:Gl X x) (hm:X.mg x=some (.ref f)) (hk:W.keepIn X.K (.ref f)=true) (hb:Binds X.K fd ps [])
  (ha:PA X (a :: es) t) (hdb:(x == ("__debug__" : Str))=false:=by decide) (he:starEach (a :: es) X.env=(false,eval a X.env) :: starEach es X.env:=by rfl) (hpl:(backTo pos (starEach es X.env)).any (·.1)=false:=by rfl) :
  PE X (.Call (.Name x p) (a :: es) [] pos) (Ik sp e oe t):=by
 intro aa s σ H Q I h;refine wpAny_Call_Name_kw (Bn I hg hm ?_ hdb);refine W.callWith_K (h₀:=X.base) I.ok.mod.kin hk (thn (ha pos aa s σ H _ I h) fun us s1 ⟨vs,H1,I1,r,q⟩=>⟨I1.kIn,?_⟩) he hpl;obtain ⟨e1,e2,e3,e4,e5⟩:=I1.pin (e,oe) (mem_append_left _ at_);have hl:(us++[]).length=ps.length:=by rw [append_nil,← r.length]; exact F.len _ _ _ _ _ q
 have bb:=hb s1 us I1.kIn hl;rw [append_nil] at bb;refine wpAny_call (codeAny_mono (F.run X.A X.stack s1 H1 ⟨us,[]⟩ us vs Q e oe hr I1.env0 hh e1 e2 (fun z=>(mem_cons.mp (I1.stkSub e z)).elim e3 e4) e5 bb r q) fun r s' hq=>?_);cases r with
 | error e=>exact False.elim hq
 | ok fl =>
  cases fl with
  | ret u=>exact I1.after hq
  | next=>exact False.elim hq
  | brk=>exact False.elim hq
  | cont=>exact False.elim hq
end
theorem Oc (a b:Bool):MeetsSeq.EqGives (.bool a) (.bool b) (a == b):=fun prog w A E s Q h=>SeqAt.EqAt.bool_bool a b prog w E Q h
theorem IC:∀ {bs:List Bool} {us:List Value},Vals (bs.map V.bl) us->us=bs.map Value.bool
 | [],_,.nil=>rfl
 | _ :: _,_,.cons r t=>by rw [map_cons,← IC t]; cases r; rfl
def QT:V->List V->Hp->VK->Prop:=fun x vs H Q=>∃ (l:Addr) (bs:List Bool) (j:Nat),x=.ref l/\vs=[.bl true]/\H l=some (.lst (bs.map V.bl))/\bs[j]?=some true/\(∀ m,m < j->bs[m]?=some false)/\Q (.int (j:Nat)) H
section
theorem M0:MtM X "list.index" QT:=by
 intro aa s σ H x vs v us Q I rx rv h;obtain ⟨l,bs,j,rfl,rfl,hH,hj,hno,q⟩:=h;cases rx;obtain ⟨u,rfl,ru⟩:=rv.one;obtain rfl:u=Value.bool true:=ru;obtain ⟨z,its,n,r,hl,e⟩:=I.lstM hH;have ei:=IC r;subst ei;have hjs:j < bs.length:=(List.getElem?_eq_some_iff.mp hj).1
 have hz:(j:Int) < 2 ^ 63 - 1:=by
  have hs:sizeLine < 2 ^ 62:=by decide
  rw [AI] at z;omega
 refine call_meets F.slot_list_index ⟨_,e,rfl⟩ F.entry_list_index (F.args_list_index_2 _ _)
  (MeetsSeq.list_index l (bs.map Value.bool).toArray n (.bool true) (fun y=>match y with | .bool a=>a == true | _=>false) (fun y hy=>?_) j (by simpa using hjs) hz ?_ fun m hm hlt=>?_) ⟨e,?_⟩
 ·obtain ⟨a,_,rfl⟩:=mem_map.mp (List.mem_toArray.mp hy);exact Oc a true
 ·have:=(List.getElem?_eq_some_iff.mp hj).2;simp [this]
 ·have:=(List.getElem?_eq_some_iff.mp (hno m hlt)).2;simp [this]
 ·exact ⟨.int (j:Nat),H,I.tok _,⟨_,rfl⟩,q⟩
end
noncomputable def FnO (f:Addr) (o:Obj):HO:=.ext fun h=>h.get? f=some o
noncomputable def Eb (c:Addr) (qual:Str):HO:=.ext fun h=>h.CodeRec (.ref c) qual
noncomputable def Dq (P:Program) (w:World) (K:FG) (mg:SV) (base:Heap) (N:List Str) (qual:Str) (scope:Scope) (f:Addr) (cd:Value) (cl:List (Str × Addr)) (A:Around) (outer:List Env) (s:Shared) (H:Hp) (E:XK):Cx where
 prog:=P
 w:=w
 K:=K
 mg:=mg
 base:=base
 A:=A.deeper (W.envX qual scope s.heap.objs.size f cd cl)
 N:=N
 s₀:=s
 H₀:=H
 env:=W.envX qual scope s.heap.objs.size f cd cl
 outer:=outer
 stack:=W.envX qual scope s.heap.objs.size f cd cl :: outer
 ex:=[]
 calm:=true
 fn:=fun _=>false
 pn:=[]
 xe:=fun e s'=>wpAny (model P w) (A.deeper (W.envX qual scope s.heap.objs.size f cd cl)) (leaving (W.envX qual scope s.heap.objs.size f cd cl) e) (fun _ s''=>CXr P w outer H s E e s'') (fun e' s''=>CXr P w outer H s E e' s'') s'
structure Ge (N:List Str) (scope:Scope) (cl:List (Str × Addr)) (σ:St) (H:Hp) (h:Heap):Prop where
 inj:∀ x y c,cl.lookup x=some c->cl.lookup y=some c->x=y
 has:∀ x,(scope.names.lookup x=some .cell\/scope.names.lookup x=some .free)->∃ c,cl.lookup x=some c
 cell:∀ x c,cl.lookup x=some c->(∃ v,h.IsCell c v)/\H c=none
 val:∀ (i:Nat) x v,N[i]?=some x->σ[i]?=some (some v)->scope.names.lookup x=some .free/\∃ u c,RelV v u/\cl.lookup x=some c/\h.IsCell c (some u)
 len:σ.length=N.length
section
variable {qual name:Str} {scope:Scope} {c':Addr} {cd:Value} {cl:List (Str × Addr)} {outer:List Env} {E:XK}
theorem UE:Ko (Dq P w K mg base N qual scope f cd cl A outer s H E):=⟨rfl,rfl,rfl⟩
theorem TW:BQ (CXr P w) (Dq P w K mg base N qual scope f cd cl A outer s H E) E:=by
 rintro aa σ H1 s1 e s2 I ⟨ea,C,dx,H2,rfl,F,q⟩;exact wpAny_mono (Ga (X:=Dq P w K mg base N qual scope f cd cl A outer s H E) UE I F) (fun _ s3 G=>⟨ea,C,dx,H2,rfl,G,q⟩) fun _ _ z=>z
theorem Kv {h1:Heap} {m0:SV} {tk:Nat} (hk0:scope.kind=.function) (hd:A.handled=none) (e0:Env0 P w K mg base A outer s H) (C:Ge N scope cl σ H s.heap) (hns:h1.Ns s.heap.objs.size m0) (hk:∀ b o,s.heap.get? b=some o->h1.get? b=some o) :
  Inv (Dq P w K mg base N qual scope f cd cl A outer s H E) [] σ H { s with heap:=h1,toks:=tk }:=by
 have noA:∀ b:Addr,b ∉ (Dq P w K mg base N qual scope f cd cl A outer s H E).ex:=fun b z=>absurd (show b ∈ ([]:List Addr) from z) (by simp);have cellK:∀ {c:Addr} {v:Option Value},s.heap.IsCell c v->h1.IsCell c v:=fun {c v} ⟨o,ho,hd⟩=>⟨o,hk _ _ ho,hd⟩
 refine ⟨⟨e0.mod,hk0,rfl,rfl,Nat.le_refl _,C.inj,C.has,fun y c z _=>(by cases (show false=true from z)),fun _=>hd,Around.frames_deeper e0.frames,.inr ⟨rfl,rfl⟩,fun b z=>absurd z (noA b),e0.bs,e0.bsz,fun b _ _=>noA b,fun b z=>absurd z (noA b),e0.funs,e0.frf⟩,
  rfl,e0.bare,Un.kept hk,⟨m0,hns,fun i x v h1 h2 h3=>?_⟩,fun y c h=>?_,e0.hok.fresh (Nat.le_refl _),fun y c h=>(C.cell y c h).2,fun p hp=>absurd (show p ∈ ([]:LO) from hp) (by simp),e0.hok.kept hk,C.len⟩
 ·obtain ⟨k,u,c,r,e,z⟩:=C.val i x v h1 h2;exact ⟨u,r,.inr ⟨.inr k,c,e,cellK z⟩⟩
 ·obtain ⟨⟨v,z⟩,_⟩:=C.cell y c h;exact ⟨v,cellK z⟩
theorem Od {k:Nat} {params:Arguments} {body:Expr} {pm ctv:Value} {Q:VK} {tb:TE} (hr:Room k A) (e0:Env0 P w K mg base A outer s H) (C:Ge N scope cl σ H s.heap)
  (ho:s.heap.get? f=some (W.kla_obj name qual params body scope cl pm c' ctv)) (hcd:s.heap.CodeRec (.ref c') qual) (bj:bindArgs (W.kla_fn name qual params body scope cl pm (.ref c') ctv) ⟨[],[]⟩=pure [])
  (hco:scope.isCoroutine=false) (bq:scope.isGenerator=false) (hk:scope.kind=.function) (bf:∀ x ∈ scope.names,x.2 ≠ .cell)
  (hb:PE (Dq P w K mg base N qual scope f (.ref c') cl A outer s H E) body tb) (h:tb σ H Q):codeAny (model P w) A (.call (.ref f) ⟨[],[]⟩) (CR (CXr P w) outer P w H s Q E) s:=by
 have lim:s.heap.NoLimit:=e0.mod.nolimit.keeps fun b o e=>(e0.bs b o e).1;refine W.kla_callFunE hr.depth ho rfl hco bq rfl hcd ?_;rw [bj];refine wpAny_pure (wpAny_newFunctionEnv bf (fun y hy=>nomatch hy) (fun h₁ hns hsb=>⟨lim.fresh _ hsb,?_⟩) hk);show codeAny _ _ (.expr body (W.envX qual scope s.heap.objs.size f (.ref c') cl)) _ _;have hk₁:∀ b o,s.heap.get? b=some o->h₁.get? b=some o:=fun b o e=>hsb.extBut b o (Nat.ne_of_lt (lt_size e)) (get?_push_of_some _ e);have I:Inv (Dq P w K mg base N qual scope f (.ref c') cl A outer s H E) [] σ H _:=Kv (tk:=s.toks + ([]:List (Str × Value)).length) hk hr.hd e0 C hns hk₁;exact W.kla_codeExpr (wpAny_mono (hb [] _ σ H Q I h) (fun v s' ⟨x,H',J,rv,q⟩=>⟨x,H',J.os,J.bare,J.base,J.hok,rv,q⟩) fun e s' z=>z)
end
section
theorem Inv.cells {scope:Scope} {cl:List (Str × Addr)} {σl:St} (I:Inv X aa σ H s) (C:Ge N scope cl σl X.H₀ X.s₀.heap) (hfs:∀ x c,cl.lookup x=some c->c ∉ X.fs) (hex:X.ex=[]):Ge N scope cl σl H s.heap:=by
 have kp:∀ x c v,cl.lookup x=some c->X.s₀.heap.IsCell c v->s.heap.IsCell c v:=fun x c v e ⟨o,ho,hd⟩=>⟨o,I.base.keep c o ho (C.cell x c e).2 (hfs x c e) (by rw [hex]; simp),hd⟩;refine ⟨C.inj,C.has,fun x c e=>?_,fun i x v h1 h2=>?_,C.len⟩
 ·obtain ⟨⟨v,z⟩,n⟩:=C.cell x c e;obtain ⟨o,ho,_⟩:=id z;exact ⟨⟨v,kp x c v e z⟩,I.base.free c o ho n (by rw [hex]; simp)⟩
 ·obtain ⟨k,u,c,r,e,z⟩:=C.val i x v h1 h2;exact ⟨k,u,c,r,e,kp x c _ e z⟩
def Jn (i:Nat) (f c':Addr) (qual:Str) (o:Obj) (σl:St) (tb:TE):TE:=fun σ H Q=>σ[i]?=some (some (.ref f))/\H f=some (FnO f o)/\H c'=some (Eb c' qual)/\tb σl H Q
theorem Kw {i k:Nat} {name qual:Str} {p:Pos} {Nl:List Str} {scope:Scope} {cl:List (Str × Addr)} {σl:St} {c':Addr} {params:Arguments} {body:Expr} {pm ctv:Value} {tb:TE} {E:XK}
  (hN:X.N[i]?=some x) (hv:Vis X.env.scope x) (hr:Room k X.A) (C:Ge Nl scope cl σl X.H₀ X.s₀.heap) (hfs:∀ x c,cl.lookup x=some c->c ∉ X.fs) (hex:X.ex=[]) (hx:BQ (CXr X.prog X.w) X E)
  (bj:bindArgs (W.kla_fn name qual params body scope cl pm (.ref c') ctv) ⟨[],[]⟩=pure [])
  (hco:scope.isCoroutine=false) (bq:scope.isGenerator=false) (hk:scope.kind=.function) (bf:∀ x ∈ scope.names,x.2 ≠ .cell)
  (hb:∀ s H,PE (Dq X.prog X.w X.K X.mg X.base Nl qual scope f (.ref c') cl X.A X.stack s H E) body tb) (hd:(x == ("__debug__" : Str))=false:=by decide) (hcd:(x == ("__classdict__" : Str))=false:=by decide) :
  PE X (.Call (.Name x p) [] [] pos) (Jn i f c' qual (W.kla_obj name qual params body scope cl pm c' ctv) σl tb):=by
 intro aa s σ H Q I h;obtain ⟨h1,h2,h3,h4⟩:=h;refine wpAny_Call_Name_kw (thn (Np hN hv hd hcd aa s σ H (fun v H'=>v=.ref f/\H'=H) I ⟨_,h1,rfl,rfl⟩) fun u s1 ⟨v,H1,I1,r,ev,eH⟩=>?_);subst ev eH;obtain rfl:u=Value.ref f:=r;obtain ⟨ho,_,_⟩:=I1.hok _ _ h2;obtain ⟨hc,_,_⟩:=I1.hok _ _ h3;refine callWith_meth0 rfl ho (wpAny_call (codeAny_mono (Od hr I1.env0 (I1.cells C hfs hex) ho hc bj hco bq hk bf (hb s1 H1) h4) fun r s' hq=>?_));cases r with
 | error e=>exact hx aa σ H1 s1 e s' I1 hq
 | ok fl =>
  cases fl with
  | ret u=>exact I1.after hq
  | next=>exact False.elim hq
  | brk=>exact False.elim hq
  | cont=>exact False.elim hq
end
section
variable {CX:CXT}
theorem Fun.at {qual:Str} {st:Stmt} {fd:FuncData} {ps:List Str} {k:Nat} {outer:List Env} {args:Args} {vs:List V} {Q:VK} {E:XK} (F:Fun K x qual st f fd) (S:AK N ps (defScope st)) (hl:vs.length=ps.length)
  (hr:Room (k + 1) A) (e0:Env0 P w K mg base A outer s H) (hb:BindsTo s fd args (ps.zip us)) (r:Vals vs us)
  (be:∀ ad,Room k (A.deeper (envOfC qual (defScope st) s.heap.objs.size f ad))->∃ t,PSs (BH CX P w K mg base N qual (defScope st) f ad A outer s H E) (defBody st) t/\t { nx:=fun _ H'=>Q .non H',rt:=Q } (BZ N vs) H) :
  codeAny (model P w) A (.call (.ref f) args) (CR CX outer P w H s Q E) s:=by
 obtain ⟨oc,od,kV,doc,pm,an,ad,ct,osl,rfl,lk,hcd⟩:=F.ex;have KX:K.In s.heap:=e0.mod.kin.keeps fun b o z=>(e0.bs b o z).1;have lim:s.heap.NoLimit:=e0.mod.nolimit.keeps fun b o z=>(e0.bs b o z).1
 have hk:∀ y ∈ ps.zip us,(defScope st).names.lookup y.1=some .local\/((defScope st).names.lookup y.1=some .cell/\((cellsFrom (s.heap.objs.size + 1) (defScope st).names []).lookup y.1).isSome=true):=fun ⟨n,v⟩ hy=>by
  rcases S.par n (of_mem_zip hy).1 with q | q
  ·exact .inl q
  ·exact .inr ⟨q,W.cellsFrom_some _ _ _ (.inl q)⟩
 refine codeAny_call_function hr.depth (KX _ _ lk) rfl S.co S.gen rfl (W.codeRec_of KX hcd) (hb _ _ _ _ (wpAny_newFunctionEnv_cells S.kind hk fun env ee s1 x=>?_));subst ee;refine ⟨lim.keeps x.toInCall.keep,codeAny_func ?_⟩;obtain ⟨t,ht,hq⟩:=be ad (hr.deeper _);have I:Inv (BH CX P w K mg base N qual (defScope st) f ad A outer s H E) [] (BZ N vs) H s1:=Ew S hr.hd e0 hl r x;refine wpAny_mono (ht [] s1 (BZ N vs) H _ I hq) (fun fl s' z=>?_) fun _ _ z=>z;cases fl with
 | ret u =>
  obtain ⟨v,σ',H',J,rv,q⟩:=z;exact ⟨v,H',J.os,J.bare,J.base,J.hok,rv,q⟩
 | next =>
  obtain ⟨σ',H',J,q⟩:=z;exact ⟨.non,H',J.os,J.bare,J.base,J.hok,rfl,q⟩
 | brk =>
  obtain ⟨_,_,_,q⟩:=z;exact q.elim
 | cont =>
  obtain ⟨_,_,_,q⟩:=z;exact q.elim
end
theorem FW {q:Pos} {c:Value} (aw:(q.line == pos.line && q.col == pos.col)=false) (l:List Value) (h:TriplesOk l):codeAmong q (l++[rawInt pos.line,rawInt pos.col,c])=codeAmong q l:=by
 fun_induction TriplesOk l with
 | case1 =>
  have:((pos.line:Int) == (q.line:Int) && (pos.col:Int) == (q.col:Int))=false:=by
   rw [Bool.and_eq_false_iff] at aw ⊢;rcases aw with z | z
   ·left; rw [beq_eq_false_iff_ne] at z ⊢; omega
   ·right; rw [beq_eq_false_iff_ne] at z ⊢; omega
  simp [codeAmong,rawInt,this]
 | case2 a t b u x rest ih =>
  simp only [List.cons_append,codeAmong];split
  ·rfl
  ·exact ih h
 | case3 l h1 h2=>exact h.elim
def TabOk (H:Hp) (P0:Addr) (qual:Str) (ls:List Pos):Prop:=∃ ps,H P0=some (.tbl ps)/\TriplesOk ps.toList/\∀ q ∈ ls,codeAmong q ps.toList=none\/∃ c',codeAmong q ps.toList=some (.ref c')/\H c'=some (Eb c' qual)
def Jo (P0:Addr) (H H':Hp):Prop:=∀ b u,b ≠ P0->H b=some u->H' b=some u
structure QU (X:Cx) (c P0:Addr):Prop where
 code:X.env.code=.ref c
 hd:W.CodeHd X.base c P0
 bu:X.base.BuiltinsAt X.mg P0
section
variable {c P0:Addr} {ls:List Pos} {lpos:Pos}
def TX (P0:Addr) (qual:Str) (ls:List Pos) (o:Addr->Value->Obj):TE:=fun σ H Q=>TabOk H P0 qual ls/\∀ f c' ctv H',H f=none->Jo P0 H H'->TabOk H' P0 qual ls->H' f=some (FnO f (o c' ctv))->H' c'=some (Eb c' qual)->Q (.ref f) H'
theorem QV {c':Addr} {qual:Str} (r:h.CodeRec (.ref c') qual):ObjOk P w H h c' (Eb c' qual):=by
 obtain ⟨c1,oc,vs,t,e,ho,hd,hq⟩:=id r;cases e;exact ⟨r,⟨_,ho⟩,fun h1 h2 ⟨c2,o2,v2,t2,e2,a,b⟩ k=>by cases e2; exact ⟨_,o2,v2,t2,rfl,k _ a,b⟩⟩
theorem RV {o:Obj} (r:h.get? f=some o):ObjOk P w H h f (FnO f o):=⟨r,⟨_,r⟩,fun h1 h2 a k=>k _ a⟩
theorem SE {params:Arguments} {body:Expr} {scope:Scope} {clos:List (Str × Addr)} (L:QU X c P0) (hm:lpos ∈ ls) (aw:∀ q ∈ ls,q=lpos\/(q.line == lpos.line && q.col == lpos.col)=false)
  (ag:closureFor scope X.env=pure clos) (cv:defaultsOf params X.env=([],[])) :
  PE X (.Lambda params body scope lpos) (TX P0 (X.env.qual ++ "<lambda>") ls (fun c' ctv=>W.kla_obj "<lambda>" (X.env.qual ++ "<lambda>") params body scope clos ((X.mg "__name__").getD .none) c' ctv)):=by
 intro aa s σ H Q I h;obtain ⟨⟨ps,hP,ht,hls⟩,k⟩:=h;have bk:∀ b o,X.base.get? b=some o->s.heap.get? b=some o:=fun b o e=>(I.bs b o e).1;have hPg:s.heap.get? P0=some (W.tabObj ps):=I.hok _ _ hP;have hgs:s.heap.Ns mainGlobals X.mg:=I.ok.mod.glob.keeps bk
 have hgP:mainGlobals ≠ P0:=fun q=>by
  obtain ⟨o,es,ep,e,_⟩:=I.ok.mod.glob;have n:=(I.bs _ _ e).2;rw [q,hP] at n;cases n
 have C:=L.hd.keeps bk
 have B:s.heap.BuiltinsAt X.mg P0:=by
  obtain ⟨bm,o,a1,a2,a3,a4,a5,a6⟩:=L.bu;exact ⟨bm,o,a1,a2,a3,a4,bk _ _ a5,a6⟩
 refine W.kla_eval cv ?_;rcases hls lpos hm with hn | ⟨c',hf,hc'⟩
 ·refine W.kla_makeFunction (mg:=X.mg) ag I.ok.glob hgs L.code C hPg ht hn hgP B fun c' ctv h' tk hx hge hlt hrec au=>?_;have kp:∀ b o,b ≠ P0->s.heap.get? b=some o->(h'.push (W.kla_obj "<lambda>" (X.env.qual ++ "<lambda>") params body scope clos ((X.mg "__name__").getD .none) c' ctv)).get? b=some o:=fun b o n e=>get?_push_of_some _ (hx b o n e);have lt:∀ b u,H b=some u->b < s.heap.objs.size:=fun b u e=>I.hok.lt e;have hfs:s.heap.objs.size <= h'.objs.size:=Nat.le_trans hge (Nat.le_of_lt hlt);have hPl:P0 < s.heap.objs.size:=lt _ _ hP;have hcP:c' ≠ P0:=fun z=>by rw [z] at hge; exact absurd hPl (Nat.not_lt_of_le hge)
  have hfP:h'.objs.size ≠ P0:=fun z=>by rw [z] at hfs; exact absurd hPl (Nat.not_lt_of_le hfs)
  have hcf:c' ≠ h'.objs.size:=Nat.ne_of_lt hlt;generalize b9:upd (upd (upd H P0 (.tbl (ps++#[rawInt lpos.line,rawInt lpos.col,.ref c']))) c' (Eb c' (X.env.qual ++ "<lambda>"))) h'.objs.size (FnO h'.objs.size (W.kla_obj "<lambda>" (X.env.qual ++ "<lambda>") params body scope clos ((X.mg "__name__").getD .none) c' ctv))=H'
  have oth:∀ b,b < s.heap.objs.size->b ≠ P0->H' b=H b:=fun b hb n=>by
   rw [← b9,AH (Nat.ne_of_lt (Nat.lt_of_lt_of_le hb hfs)),AH (Nat.ne_of_lt (Nat.lt_of_lt_of_le hb hge)),AH n]
  have atP:H' P0=some (.tbl (ps++#[rawInt lpos.line,rawInt lpos.col,.ref c'])):=by rw [← b9,AH (Ne.symm hfP),AH (Ne.symm hcP),AB]
  have atc:H' c'=some (Eb c' (X.env.qual ++ "<lambda>")):=by rw [← b9,AH hcf,AB]
  have atf:H' h'.objs.size=some (FnO h'.objs.size (W.kla_obj "<lambda>" (X.env.qual ++ "<lambda>") params body scope clos ((X.mg "__name__").getD .none) c' ctv)):=by rw [← b9,AB]
  have ntbl:∀ b u,H b=some u->(∀ qs,u ≠ .tbl qs)->b ≠ P0:=fun b u e n z=>by subst z; rw [hP] at e; cases e; exact n _ rfl
  have un:Un X.fs [] H H' s.heap (h'.push (W.kla_obj "<lambda>" (X.env.qual ++ "<lambda>") params body scope clos ((X.mg "__name__").getD .none) c' ctv)):=by
   have nP:∀ b,H b=none->b ≠ P0:=fun b n z=>by subst z; rw [hP] at n; cases n
   refine ⟨fun b o q n _ _=>kp b o (nP b n) q,fun b o q n _ _=>⟨o.slots,kp b o (nP b n) q⟩,fun b o q n _=>by rw [oth b (lt_size q) (nP b n)]; exact n,fun b o q _=>?_,fun b xs e=>?_,fun b o u e=>?_,fun b qs e=>?_⟩
   ·by_cases z:b=P0
    ·subst z; exact ⟨_,get?_push_of_some _ au⟩
    ·exact ⟨o,kp b o z q⟩
   ·rw [oth b (lt _ _ e) (ntbl b _ e fun _ y=>nomatch y)]; exact e
   ·rw [oth b (lt _ _ e) (ntbl b _ e fun _ y=>nomatch y)]; exact e
   ·by_cases z:b=P0
    ·subst z;rw [hP] at e;cases e;exact ⟨_,atP⟩
    ·exact ⟨#[],by rw [oth b (lt _ _ e) z,e]; simp⟩
  have hok:HOk X.prog X.w H' (h'.push (W.kla_obj "<lambda>" (X.env.qual ++ "<lambda>") params body scope clos ((X.mg "__name__").getD .none) c' ctv)):=fun b u e=>by
   by_cases z1:b=h'.objs.size
   ·subst z1;rw [atf] at e;cases e;exact RV (get?_push_size _ rfl)
   by_cases z2:b=c'
   ·subst z2;rw [atc] at e;cases e;obtain ⟨c1,oc,vs,t,ec,ho,hd⟩:=hrec;exact QV ⟨c1,oc,vs,t,ec,get?_push_of_some _ ho,hd⟩
   by_cases z3:b=P0
   ·subst z3;rw [atP] at e;cases e;exact get?_push_of_some _ au
   ·have e':H b=some u:=by rw [← b9,AH z1,AH z2,AH z3] at e; exact e
    refine (I.hok b u e').stay (fun b2 o hb q=>kp b2 o ?_ q) (fun b2 q=>?_) fun b2 xs q=>?_
    ·rcases hb with z | z
     ·rw [z]; exact z3
     ·exact ntbl b2 _ z fun _ y=>nomatch y
    ·rw [oth b2 (lt _ _ q) (ntbl b2 _ q fun _ y=>nomatch y)]; exact q
    ·rw [oth b2 (lt _ _ q) (ntbl b2 _ q fun _ y=>nomatch y)]; exact q
  have I':=I.un (t':=tk) un hok;refine ⟨.ref h'.objs.size,H',I',rfl,k _ c' ctv H' (I.hok.fresh hfs) (fun b u n e=>by rw [oth b (lt _ _ e) n]; exact e) ⟨_,atP,?_,fun q hq=>?_⟩ atf atc⟩
  ·rw [Array.toList_append]; exact TriplesOk_snoc _ _ _ _ ht
  ·rw [Array.toList_append];rcases aw q hq with z | z
   ·subst z;exact .inr ⟨c',codeAmong_snoc _ ht hn,atc⟩
   ·show codeAmong q (ps.toList++[rawInt lpos.line,rawInt lpos.col,.ref c'])=none\/_;rw [FW z _ ht];rcases hls q hq with y | ⟨c2,y1,y2⟩
    ·exact .inl y
    ·exact .inr ⟨c2,y1,by rw [oth c2 (lt _ _ y2) (ntbl c2 _ y2 fun _ y=>nomatch y)]; exact y2⟩
 ·refine W.kla_makeFunctionHit (mg:=X.mg) ag I.ok.glob hgs L.code C hPg ht hf B fun ctv h' tk hk hsz=>?_;have I':=I.laid (t':=tk) (a:=h'.objs.size) (o:=FnO h'.objs.size (W.kla_obj "<lambda>" (X.env.qual ++ "<lambda>") params body scope clos ((X.mg "__name__").getD .none) c' ctv)) (fun b o e=>get?_push_of_some _ (hk b o e)) hsz (RV (get?_push_size _ rfl));have fr:H h'.objs.size=none:=I.hok.fresh hsz
  have sm:∀ b u,H b=some u->upd H h'.objs.size (FnO h'.objs.size (W.kla_obj "<lambda>" (X.env.qual ++ "<lambda>") params body scope clos ((X.mg "__name__").getD .none) c' ctv)) b=some u:=fun b u e=>by
   rw [AH (AJ e fr)]; exact e
  refine ⟨.ref h'.objs.size,_,I',rfl,k _ c' ctv _ fr (fun b u _ e=>sm b u e) ⟨ps,sm _ _ hP,ht,fun q hq=>?_⟩ AB (sm _ _ hc')⟩;rcases hls q hq with y | ⟨c2,y1,y2⟩
  ·exact .inl y
  ·exact .inr ⟨c2,y1,sm _ _ y2⟩
end
def Oe (P0:Addr) (H:Hp):Prop:=∀ b,H b=none\/(∃ o xs,H b=some (.frz o (.lst xs)))\/(b=P0/\H b=some (.tbl #[]))
theorem M6 {mb:SV} {CX:CXT} {k:Nat} {fa c P0:Addr} {fd:FuncData} {sp:Sp} {s₁:Shared} {vs:List Value} {ns:List Int}
  (KX:K.In s₁.heap) (hns:s₁.heap.Ns mainGlobals mg) (hb:s₁.heap.Ns builtinsNs mb) (hbb:∀ x:Str,x ≠ "__name__" -> mb x=bootBuiltins x) (hlim:s₁.heap.NoLimit) (hg:s₁.gens=#[])
  (ha:s₁.heap.get? a=some { cls:=.type "list", data:=.seq vs.toArray }) (hi:IntsAre vs ns) (hl:ns.length <= sizeLine) (hr:Room k callerA)
  (hP:s₁.heap.get? P0=some (W.tabObj #[])) (hKP:K.lookup P0=none) (hC:W.CodeHd s₁.heap c P0) (hB:s₁.heap.BuiltinsAt mg P0)
  (F:∀ base:Heap,K.In base->base.Ns mainGlobals mg->W.CodeHd base c P0->base.BuiltinsAt mg P0->Ae P w K mg base CX k fa fd [x] sp) (bj:∀ (s:Shared) (u:Value),BindsTo s fd ⟨[u],[]⟩ [(x,u)])
  (hsp:∀ H:Hp,Oe P0 H->H P0=some (.tbl #[])->SqL K H a (ns.map V.int)->sp [.ref a] H (fun v _=>v=.bl true) fun _ _ _=>False)
  (hCX:∀ H e s',CX [] H s₁ (fun _ _ _=>False) e s'->False) :
  codeAny (model P w) callerA (.call (.ref fa) ⟨[.ref a],[]⟩) (fun r s'=>r=.ok (.ret (.bool true))/\OldK s₁.heap s'.heap/\s'.os=s₁.os/\AllBare s'.gens) s₁:=by
 have rv:=Dc hi;have lenV:=hi.length;have haP:a ≠ P0:=fun z=>by subst z; rw [ha] at hP; cases hP
 have core:∀ H:Hp,Oe P0 H->H P0=some (.tbl #[])->SqL K H a (ns.map V.int)->HOk P w H s₁.heap->(∀ b,H b ≠ none->b=a\/b=P0)->(H a ≠ none->K.lookup a=none) ->
   codeAny (model P w) callerA (.call (.ref fa) ⟨[.ref a],[]⟩) (fun r s'=>r=.ok (.ret (.bool true))/\OldK s₁.heap s'.heap/\s'.os=s₁.os/\AllBare s'.gens) s₁:=by
  intro H hO hHP hS hok hA hK;have base_of:∀ {b:Addr} {o:Obj},s₁.heap.get? b=some o->H b=none->(Fs s₁.heap H).get? b=some o:=fun e n=>No e n
  have noS:∀ {b:Addr} {o:Obj},s₁.heap.get? b=some o->(∀ xs n,o.data ≠ .seq xs n)->o.cls ≠ .none->H b=none:=fun {b o} e d1 d2=>by
   cases q:H b with
   | none=>rfl
   | some u =>
    rcases hA b (by rw [q]; simp) with e' | e'
    ·subst e';rw [ha] at e; cases e;exact absurd rfl (d1 _ _)
    ·subst e';rw [hP] at e; cases e;exact absurd rfl d2
  have noA:∀ {b:Addr} {o:Obj} {es:Array DictEntry} {ep:Nat},s₁.heap.get? b=some o->o.data=.dict es ep->H b=none:=fun {b o es ep} e d=>by
   cases q:H b with
   | none=>rfl
   | some u =>
    rcases hA b (by rw [q]; simp) with e' | e'
    ·subst e';rw [ha] at e; cases e;cases (show Data.seq vs.toArray _=Data.dict es ep from d)
    ·subst e';rw [hP] at e; cases e;cases (show Data.fields #[]=Data.dict es ep from d)
  have nsK:∀ {b:Addr} {m:SV},s₁.heap.Ns b m->(Fs s₁.heap H).Ns b m:=fun {b m} ⟨o,es,ep,e,d,r⟩=>⟨o,es,ep,base_of e (noA e d),d,r⟩
  have hKb:K.In (Fs s₁.heap H):=fun b o e=>base_of (KX b o e) (by
   cases q:H b with
   | none=>rfl
   | some u =>
    rcases hA b (by rw [q]; simp) with e' | e'
    ·subst e';rw [hK (by rw [q]; simp)] at e; cases e
    ·subst e'
     rw [hKP] at e; cases e)
  have hM:Mod K mg (Fs s₁.heap H):=⟨hKb,nsK hns,⟨mb,nsK hb,hbb⟩,let ⟨mc,h1,h2⟩:=hlim; ⟨mc,nsK h1,h2⟩⟩
  have hCb:W.CodeHd (Fs s₁.heap H) c P0:=by
   obtain ⟨o,vs',file,tf,flags,tg,inF,text,tt,e,ag,hda,r⟩:=id hC;exact ⟨o,vs',file,tf,flags,tg,inF,text,tt,base_of e (noS e (fun xs n z=>by rw [hda] at z; cases z) (by rw [ag]; exact fun z=>nomatch z)),ag,hda,r⟩
  have hBb:(Fs s₁.heap H).BuiltinsAt mg P0:=by
   obtain ⟨bm,o,a1,a2,a3,a4,a5,a6,a7,a8⟩:=id hB;exact ⟨bm,o,a1,a2,a3,a4,base_of a5 (noS a5 (fun xs n z=>by rw [a8] at z; cases z) (by rw [a6]; exact fun z=>nomatch z)),a6,a7,a8⟩
  have e0:Env0 P w K mg (Fs s₁.heap H) callerA [] s₁ H:=⟨rfl,hM,fun b o e=>Pu e,Nat.le_of_eq (MY _ _),trivial,fun b hb=>absurd (show b ∈ ([]:List Addr) from hb) (by simp),hok,.of_eq hg⟩;refine codeAny_mono ((F _ hKb (nsK hns) hCb hBb).run callerA [] s₁ H ⟨[.ref a],[]⟩ [.ref a] [.ref a] _ _ hr e0 (bj s₁ (.ref a)) (.cons rfl .nil) (hsp H hO hHP hS)) fun r s' h=>?_;cases r with
  | error e=>exact (hCX H e s' h).elim
  | ok fl =>
   cases fl with
   | next=>exact False.elim h
   | brk=>exact False.elim h
   | cont=>exact False.elim h
   | ret u =>
    obtain ⟨v,H',os,bare,un,hok',r',q⟩:=h;have q':v=.bl true:=q;subst q';obtain rfl:u=Value.bool true:=r'
    have tabNow:∃ more,s'.heap.get? P0=some (W.tabObj (#[]++more)):=by
     obtain ⟨more,e⟩:=un.tbls P0 #[] hHP;exact ⟨more,hok' _ _ e⟩
    have rest:∀ b o,b ≠ P0->s₁.heap.get? b=some o->s'.heap.get? b=some o:=fun b o hb e=>by
     cases q:H b with
     | none=>exact un.keep b o e q (by intro z; exact absurd (show b ∈ ([]:List Addr) from z) (by simp)) (by simp)
     | some u =>
      rcases hO b with z | ⟨ob,xs,z⟩ | ⟨z,_⟩
      ·rw [q] at z; cases z
      ·have z2:=un.frzs b ob _ z;obtain ⟨e1,_⟩:=hok b _ z;obtain ⟨e2,_⟩:=hok' b _ z2;rw [e] at e1; cases e1;exact e2
      ·exact absurd z hb
    refine ⟨rfl,⟨fun b o e=>?_,fun b o e=>?_⟩,os,bare⟩
    ·by_cases hb:b=P0
     ·subst hb;rw [hP] at e;cases e;obtain ⟨more,e2⟩:=tabNow;exact .inr (.inl ⟨(hC.tab hP).isCodeTable,rfl,#[],more,rfl,e2⟩)
     ·exact .inl (rest b o hb e)
    ·by_cases hb:b=P0
     ·subst hb;obtain ⟨more,e2⟩:=tabNow;exact ⟨_,e2⟩
     ·exact ⟨o,rest b o hb e⟩
 cases hk:K.lookup a with
 | some o =>
  have e:=KX a o hk;rw [ha] at e;cases e;refine core (fun b=>if b=P0 then some (.tbl #[]) else none) (fun b=>?_) (if_pos rfl) (.inr ⟨_,vs.toArray,_,hk,rfl,rfl,rfl,by rw [size_toArray,lenV]; exact hl,by simpa using rv⟩) (fun b u z=>?_) (fun b z=>?_) fun z=>absurd (if_neg haP) z
  ·by_cases hb:b=P0
   ·exact .inr (.inr ⟨hb,if_pos hb⟩)
   ·exact .inl (if_neg hb)
  ·by_cases hb:b=P0
   ·have z':=(if_pos hb).symm.trans z;cases z';subst hb;exact hP
   ·have z':=(if_neg hb).symm.trans z;cases z'
  ·by_cases hb:b=P0
   ·exact .inr hb
   ·exact absurd (if_neg hb) z
 | none =>
  refine core (fun b=>if b=P0 then some (.tbl #[]) else if b=a then some (.frz { cls:=.type "list", data:=.seq vs.toArray } (.lst (ns.map V.int))) else none) (fun b=>?_) (if_pos rfl) (.inl (.inr ⟨{ cls:=.type "list", data:=.seq vs.toArray },(if_neg haP).trans (if_pos rfl)⟩)) (fun b u z=>?_) (fun b z=>?_) fun _=>hk
  ·by_cases hb:b=P0
   ·exact .inr (.inr ⟨hb,if_pos hb⟩)
   ·by_cases hb2:b=a
    ·exact .inr (.inl ⟨_,_,(if_neg hb).trans (if_pos hb2)⟩)
    ·exact .inl ((if_neg hb).trans (if_neg hb2))
  ·by_cases hb:b=P0
   ·have z':=(if_pos hb).symm.trans z;cases z';subst hb;exact hP
   ·by_cases hb2:b=a
    ·have z':=((if_neg hb).trans (if_pos hb2)).symm.trans z;cases z';subst hb2;exact ⟨ha,by rw [AI]; exact hl,vs,_,rv,ha⟩
    ·have z':=((if_neg hb).trans (if_neg hb2)).symm.trans z;cases z'
  ·by_cases hb:b=P0
   ·exact .inr hb
   ·by_cases hb2:b=a
    ·exact .inl hb2
    ·exact absurd ((if_neg hb).trans (if_neg hb2)) z
theorem Of {l:W.OpenLaw} {n k:Nat} {q:Program} {loose:List Str} {XP:(Str->Option Value)->Heap->Prop} {YP:World->Heap->Prop} {d:DefRec} {K:Params->FG} {CX:World->CXT} {sp:World->Sp} {c P0:Addr}
  (hn:l.most=some n) (hn2:n <= sizeLine) (hdf:d.params.defaults=[]) (hr:Room k callerA)
  (hY:∀ (w:World) (h:Heap),YP w h->(K w.params).In h/\h.get? P0=some (W.tabObj #[])/\(K w.params).lookup P0=none/\W.CodeHd h c P0)
  (F:∀ (w:World) (mg:SV) (fa:Addr) (h:Heap),(K w.params).In h->h.Ns mainGlobals mg->mg d.name=some (.ref fa) ->
   ∃ fd:FuncData,(∀ (s:Shared) (u:Value),BindsTo s fd ⟨[u],[]⟩ [(x,u)]) /\
    ∀ base:Heap,(K w.params).In base->base.Ns mainGlobals mg->W.CodeHd base c P0->base.BuiltinsAt mg P0->Ae l.prog w (K w.params) mg base (CX w) k fa fd [x] (sp w))
  (hsp:∀ (w:World) (H:Hp) (a:Addr) (ns:List Int),ns.length <= n->Oe P0 H->H P0=some (.tbl #[])->SqL (K w.params) H a (ns.map V.int)->sp w [.ref a] H (fun v _=>v=.bl true) fun _ _ _=>False)
  (hCX:∀ (w:World) (H:Hp) (s:Shared) (e:Value) (s':Shared),CX w [] H s (fun _ _ _=>False) e s'->False) :
  W.WalkO q loose XP YP l.row.toRowW d [] (fun f vs=>PySem.call f vs):=by
 refine Att.attach_call hn hdf fun w s₀ s₁ mg mb fa o pm cd doc a vs ns G Y ho hd hcd hmg cr bn az hg=>?_;obtain ⟨KX,hP,hKP,hC⟩:=hY w _ Y;obtain ⟨fd,hb,hF⟩:=F w mg fa _ KX G.T.g hmg
 have hB:s₁.heap.BuiltinsAt mg P0:=by
  obtain ⟨bm,ob,b1,b2,b3,b4,b5,b6⟩:=G.T.bmain;refine ⟨bm,ob,b1,b2,fun z=>?_,fun z=>?_,b3,b4,b5,b6⟩
  ·obtain ⟨o',es,ep,e,hd',_⟩:=G.T.g;rw [z,e] at b3; cases b3; rw [hd'] at b6; cases b6
  ·rw [z,hP] at b3; cases b3; cases b4
 exact M6 KX G.T.g G.T.b G.T.builtins G.T.nolimit hg cr bn (Nat.le_trans az hn2) hr hP hKP hC hB hF hb (fun H hO hH hS=>hsp w H a ns az hO hH hS) fun H e s'=>hCX w H s₁ e s'
section
theorem Fun.okX {qual:Str} {st:Stmt} {fd:FuncData} {ps:List Str} {k:Nat} {sp:Sp} (F:Fun K x qual st f fd) (S:AK N ps (defScope st)) (len:∀ vs H Q E,sp vs H Q E->vs.length=ps.length)
  (be:∀ (ad:Value) (A:Around) (outer:List Env) (s:Shared) (H:Hp) (vs:List V) (Q:VK) (E:XK),Room k (A.deeper (envOfC qual (defScope st) s.heap.objs.size f ad))->sp vs H Q E ->
   ∃ t,PSs (BH (CXr P w) P w K mg base N qual (defScope st) f ad A outer s H E) (defBody st) t/\t { nx:=fun _ H'=>Q .non H',rt:=Q } (BZ N vs) H):Ae P w K mg base (CXr P w) (k + 1) f fd ps sp:=by
 obtain ⟨oc,od,kV,doc,pm,an,ad,ct,osl,rfl,lk,hcd⟩:=F.ex;exact LZ lk hcd S len fun A outer s H vs Q E hr hsp=>be ad A outer s H vs Q E hr hsp
structure BdX (P:Program) (w:World) (K:FG) (mg:SV) (base:Heap) (f:Addr) (qual:Str) (st:Stmt) (N ps:List Str) (k:Nat) (vs:List V) (H:Hp) (Q:VK) (E:XK):Prop where
 len:vs.length=ps.length
 ok:∀ (ad:Value) (A:Around) (outer:List Env) (s:Shared),Room k (A.deeper (envOfC qual (defScope st) s.heap.objs.size f ad)) ->
  ∃ t,PSs (BH (CXr P w) P w K mg base N qual (defScope st) f ad A outer s H E) (defBody st) t/\t { nx:=fun _ H'=>Q .non H',rt:=Q } (BZ N vs) H
theorem Fun.n {qual:Str} {st:Stmt} {fd:FuncData} {ps:List Str} {k:Nat} {sp:Sp} (F:Fun K x qual st f fd) (S:AK N ps (defScope st)) (h:∀ vs H Q E,sp vs H Q E->BdX P w K mg base f qual st N ps k vs H Q E) :
  Ae P w K mg base (CXr P w) (k + 1) f fd ps sp:=F.okX S (fun vs H Q E q=>(h vs H Q E q).len) fun c A o s H vs Q E r q=>(h vs H Q E q).ok c A o s r
structure FunD (K:FG) (x qual:Str) (st:Stmt) (f:Addr) (fd:FuncData):Prop where
 ex:∃ (oc:Value) (od:Option Addr) (dV kV doc pm:Value) (an:Option Addr) (ad ct:Value) (osl:Array (Option Value)),
  fd=W.fnOf x qual (defArgs st) (defBody st) (defScope st) dV kV doc pm an ad ct/\K.lookup f=some ⟨oc,od,.func fd,osl⟩/\W.codeIn K ad qual=true
theorem FunD.ok {qual:Str} {st:Stmt} {fd:FuncData} {ps:List Str} {k:Nat} {sp:Sp} (F:FunD K x qual st f fd) (S:AK N ps (defScope st)) (len:∀ vs H Q E,sp vs H Q E->vs.length=ps.length)
  (be:∀ (ad:Value) (A:Around) (outer:List Env) (s:Shared) (H:Hp) (vs:List V) (Q:VK) (E:XK),Room k (A.deeper (envOfC qual (defScope st) s.heap.objs.size f ad))->sp vs H Q E ->
   ∃ t,PSs (BH CX0 P w K mg base N qual (defScope st) f ad A outer s H E).nox (defBody st) t/\t { nx:=fun _ H'=>Q .non H',rt:=Q } (BZ N vs) H):Ae P w K mg base CX0 (k + 1) f fd ps sp:=by
 obtain ⟨oc,od,dV,kV,doc,pm,an,ad,ct,osl,rfl,lk,hcd⟩:=F.ex;refine LZ lk hcd S len fun A outer s H vs Q E hr hsp=>?_;obtain ⟨t,h,q⟩:=be ad A outer s H vs Q E hr hsp;exact ⟨t,h.nox,q⟩
end
end L2
end
section
namespace L2
open PySem PySem.Spec PyProof.Rows Builtin Builtin.ObjectAttr
noncomputable def Dx (C M:Addr):List Value:=[.ref C,.ref M,.type "ValueError", .type "Exception", .type "BaseException", .type "object"]
section
variable {prog:Program} {x M:Addr} {ox:Obj} {vs:Array Value} {name:Str} {v:Value} {cd:ClassData}
theorem QW {R:Result->Shared->Prop} {tk:Tok} (X:K.In s.heap) (hx:s.heap.get? x=some ox) (ag:ox.cls=.ref C) (hdn:ox.dict=none) (hf:ox.data=.fields vs) (hc:W.clsIn K C=some cd) (cb:cd.mro=Dx C M) (a0:cd.hasDict=true) (hn:W.findIn K (.ref C) name=some none)
  (h:∀ (h':Heap) (tk':Nat),h'.get? x=some { ox with dict:=some s.heap.objs.size }->h'.Ns1 s.heap.objs.size (fun y=>if y=name then some v else none)->(∀ b o,b ≠ x->s.heap.get? b=some o->h'.get? b=some o)->R (.ok (.ret .none)) { s with heap:=h',toks:=tk' }) :
  codeAny (model prog w) A (.call (.builtin "object.__setattr__") ⟨[.ref x,.str name tk,v],[]⟩) R s:=by
 have SF:=PySem.F.store_object;have I:W.InstAt s.heap x ox C none:=⟨hx,ag,by unfold W.notCls; rw [hf],by rw [hdn]; trivial⟩;have ne:cd.mro.isEmpty=false:=by rw [cb]; rfl
 have sub:W.Looks (model prog w) s.heap (isInstance (.ref x) (.type "object")) true:=I.type.andThen (W.looks_mroIn X (by unfold W.mroIn; rw [hc,Option.bind_some,if_neg (by rw [ne]; decide),cb]; simp [Dx]));refine codeAny_call_builtin SF.slot.plain SF.entry (@W.check_slot (model prog w) _ _ s "object.__setattr__" "object" "__setattr__" (.ref x) [.str name tk,v] [] _ SF.kind SF.split sub (SF.args (.ref x) (.str name tk) v) ?_);have hm:W.Looks (model prog w) s.heap (mroOf (.ref C)) cd.mro:=(W.looks_clsIn X hc).andThen .now;have L3:W.Looks (model prog w) s.heap (storeTaker? none) none:=.now;rw [W.osa_eq,refuse_eq];refine wpAny_bind (wpAny_bind (I.type.here (wpAny_bind (hm.here ?_))));rw [cb];unfold Dx;rw [refuseLoop_ref,refuseLoop_ref,PySem.F.store_ValueError.passes];refine wpAny_pure (wpAny_bind (I.type.here (wpAny_bind ((W.looks_findIn X hn).here (wpAny_bind (L3.here ?_))))));obtain ⟨oc,odi,oda,osl⟩:=ox
 dsimp only at ag hdn hf
 subst ag hdn hf;refine wpAny_bind (wpAny_pure (wpAny_bind (wpAny_bind (wpAny_loadPart hx (wpAny_bind ((W.looks_clsIn X hc).here ?_))))));rw [a0];have hx₁:(s.heap.push { cls:=.type "dict", data:=.dict #[] }).get? x=some _:=get?_push_of_some _ hx;have hxs:x ≠ s.heap.objs.size:=Nat.ne_of_lt (lt_size hx);obtain ⟨hp,g,d,t,os⟩:=s
 dsimp only at hx hx₁ hxs h ⊢
 rw [if_neg (by decide),if_neg (by simp [typeHasDict])];refine wpAny_bind (wpAny_alloc' ?_);refine wpAny_bind (wpAny_update' hx₁ ?_);refine wpAny_pure ?_
 have hgd:((hp.push { cls:=.type "dict", data:=.dict #[] }).update x fun o=>{ cls:=o.cls,dict:=some hp.objs.size,data:=o.data,slots:=o.slots }).get? hp.objs.size=some { cls:=.type "dict", data:=.dict #[] } :=
  (Heap.get?_update_ne _ _ _ _ hxs.symm).trans (Heap.get?_push_at rfl rfl)
 have hnd:((hp.push { cls:=.type "dict", data:=.dict #[] }).update x fun o=>{ cls:=o.cls,dict:=some hp.objs.size,data:=o.data,slots:=o.slots }).Ns hp.objs.size (fun _=>none) :=
  ⟨_,#[],_,hgd,rfl,fun e he=>absurd he (by simp),fun _=>rfl⟩
 show wpAny _ _ (storeInDict hp.objs.size (.str name tk) name v) _ _ _;unfold storeInDict newKeyGuard;refine wpAny_bind (wpAny_pure (wpAny_bind (wpAny_nsSet1 (Heap.Ns1.of_empty hnd) fun h' hn' hs=>?_)));obtain ⟨oD,esD,epD,hoD,hdD,hcD⟩:=hn'.count (Within.cons name v Within.nil);refine wpAny_bind (wpAny_lookBehind hoD (by rw [hdD]; exact pastItsLine_dict (Nat.le_trans hcD (by rw [length_cons,length_nil,sizeLine_eq]; omega))) ?_)
 wp_walk
 have hx':h'.get? x=some { cls:=.ref C,dict:=some hp.objs.size,data:=.fields vs,slots:=osl }:=(hs.2 x hxs).trans (get?_update_self _ hx₁ rfl);exact h h' _ hx' hn' fun b ob hbx hb=>(hs.2 b (Nat.ne_of_lt (lt_size hb))).trans ((Heap.get?_update_ne _ _ _ _ hbx).trans (get?_push_of_some _ hb))
theorem QX {Q:Unit->Shared->Prop} (X:K.In s.heap) (hx:s.heap.get? x=some ox) (ag:ox.cls=.ref C) (hdn:ox.dict=none) (hf:ox.data=.fields vs) (hc:W.clsIn K C=some cd) (cb:cd.mro=Dx C M) (a0:cd.hasDict=true) (hn:W.findIn K (.ref C) name=some none)
  (hs:W.findIn K (.ref C) "__setattr__" = some (some (.builtin "object.__setattr__")))
  (h:∀ (h':Heap) (tk':Nat),h'.get? x=some { ox with dict:=some s.heap.objs.size }->h'.Ns1 s.heap.objs.size (fun y=>if y=name then some v else none)->(∀ b o,b ≠ x->s.heap.get? b=some o->h'.get? b=some o)->Q () { s with heap:=h',toks:=tk' }) :
  wpAny (model prog w) A (setAttr (.ref x) name v) Q E s:=by
 have I:W.InstAt s.heap x ox C none:=⟨hx,ag,by unfold W.notCls; rw [hf],by rw [hdn]; trivial⟩;exact W.set_plain X I hs (QW (s:={ s with toks:=s.toks + 1 }) X hx ag hdn hf hc cb a0 hn fun h' tk' a b c=>h h' tk' a b c)
end
end L2
end
section
namespace L2
open PySem PySem.Spec PyProof.Rows
structure Og (K:FG) (C M:Addr) (f:Str):Prop where
 cls:∃ cd,W.clsIn K C=some cd/\cd.mro=Dx C M/\cd.hasDict=true
 nf:W.findIn K (.ref C) f=some none
 sa:W.findIn K (.ref C) "__setattr__" = some (some (.builtin "object.__setattr__"))
section
variable {o value:Expr} {ta tv:TE} {f:Str} {pos':Pos} {M:Addr}
def TY (K:FG) (M:Addr) (ta tv:TE) (f:Str):TS:=fun D σ H=>tv σ H fun y H1=>ta σ H1 fun x H2=>∃ e C,x=.ref e/\H2 e=some (EZ e C none)/\Og K C M f /\
 ∀ d,H2 d=none->d ≠ e->D.nx σ (upd (upd H2 e (EZ e C (some d))) d (.xd [(f,y)]))
theorem QY (ha:PE X o ta) (hv:PE X value tv) (hs:swapsWith value (some (.Attribute o f pos')) pos.line X.env=pure false):PS X (.Assign [.Attribute o f pos'] value pos) (TY X.K M ta tv f):=by
 intro aa s σ H D I h;refine plainObj_wpAny_Assign_Attribute (thn (hv aa s σ H _ I h) fun u s1 ⟨y,H1,I1,ry,q⟩=>thn (ha aa s1 σ H1 _ I1 q) fun ov s2 ⟨x,H2,I2,rx,e,C,ex,ea,S,q2⟩=>?_) hs;subst ex;obtain rfl:ov=Value.ref e:=rx;obtain ⟨⟨oe,vs,a1,a2,a3,a4,a5,a6,a7⟩,_,_⟩:=I2.hok _ _ ea;obtain ⟨cd,hc,hm,hd⟩:=S.cls;refine QX I2.kIn a1 a2 a3 a4 hc hm hd S.nf S.sa fun h' tk' hx hn hk=>?_;have hde:s2.heap.objs.size ≠ e:=Nat.ne_of_gt (lt_size a1);have hdn:H2 s2.heap.objs.size=none:=I2.hok.fresh (Nat.le_refl _);generalize hH':upd (upd H2 e (EZ e C (some s2.heap.objs.size))) s2.heap.objs.size (.xd [(f,y)])=H';have lt:∀ b u,H2 b=some u->b < s2.heap.objs.size:=fun b u z=>I2.hok.lt z;have oth:∀ b,b < s2.heap.objs.size->b ≠ e->H' b=H2 b:=fun b hb n=>by rw [← hH',AH (Nat.ne_of_lt hb),AH n]
 have ate:H' e=some (EZ e C (some s2.heap.objs.size)):=by rw [← hH',AH (Ne.symm hde),AB]
 have atd:H' s2.heap.objs.size=some (.xd [(f,y)]):=by rw [← hH',AB]
 have next:∀ b u,H2 b=some u->(∀ φ,u ≠ .ext φ)->b ≠ e:=fun b u z n w=>by subst w; rw [ea] at z; cases z; exact n _ rfl
 have nn:∀ b,H2 b=none->b ≠ e:=fun b z w=>by subst w; rw [ea] at z; cases z
 have un:Un X.fs [] H2 H' s2.heap h':=by
  refine ⟨fun b ob z n _ _=>hk b ob (nn b n) z,fun b ob z n _ _=>⟨ob.slots,hk b ob (nn b n) z⟩,fun b ob z n _=>by rw [oth b (lt_size z) (nn b n)]; exact n,fun b ob z _=>?_,fun b xs z=>?_,fun b ob w z=>?_,fun b ps z=>⟨#[],?_⟩⟩
  ·by_cases w:b=e
   ·subst w; exact ⟨_,hx⟩
   ·exact ⟨ob,hk b ob w z⟩
  ·rw [oth b (lt _ _ z) (next b _ z fun _ w=>nomatch w)]; exact z
  ·rw [oth b (lt _ _ z) (next b _ z fun _ w=>nomatch w)]; exact z
  ·rw [oth b (lt _ _ z) (next b _ z fun _ w=>nomatch w),z]; simp
 have hok:HOk X.prog X.w H' h':=fun b w z=>by
  by_cases hb:b=s2.heap.objs.size
  ·subst hb;rw [atd] at z;cases z;refine ⟨_,hn,fun g=>?_⟩;by_cases hg:g=f
   ·subst hg;simp only [if_pos rfl,lookup_cons,beq_self_eq_true];exact ry
   ·have e1:(g == f)=false:=beq_eq_false_iff_ne.mpr hg;simp only [if_neg hg,lookup_cons,e1,List.lookup_nil];trivial
  by_cases hb2:b=e
  ·subst hb2;rw [ate] at z;cases z;exact ⟨⟨_,vs,hx,a2,rfl,a4,a5,a6,a7⟩,⟨_,hx⟩,fun h1 h2 ⟨oe,vs,a,r⟩ k=>⟨oe,vs,k _ a,r⟩⟩
  ·have z':H2 b=some w:=by rw [← hH',AH hb,AH hb2] at z; exact z
   refine (I2.hok b w z').stay (fun b2 ob hc2 q=>hk b2 ob ?_ q) (fun b2 q=>?_) fun b2 xs q=>?_
   ·rcases hc2 with w2 | w2
    ·rw [w2]; exact hb2
    ·exact next b2 _ w2 fun _ y=>nomatch y
   ·rw [oth b2 (lt _ _ q) (next b2 _ q fun _ y=>nomatch y)]; exact q
   ·rw [oth b2 (lt _ _ q) (next b2 _ q fun _ y=>nomatch y)]; exact q
 have I3:=I2.un (t':=tk') un hok;have q3:=q2 s2.heap.objs.size hdn hde;rw [hH'] at q3;exact ⟨σ,H',I3,q3⟩
end
section
variable {CX:CXT} {k:Nat} {fd:FuncData} {ps:List Str} {sp:Sp} {dvs:List V} {ds:List Value} {E:XK} {name:Str} {np apos:Pos} {es:List Expr} {t:TA} {mc:Value}
theorem Kx {pl:Sem Bool} (hg:Gl X x) (hm:X.mg x=some (.ref C)) (ga:W.specialIn X.K (.ref C) "__getattribute__" = some (some (.builtin "type.__getattribute__"))) (hr0:W.readsIn X.K C mc=true) (hf:W.findCls X.K (.ref C) mc name=some (.val (.ref f)))
  (F:Ae X.prog X.w X.K X.mg X.base CX k f fd ps sp) (hr:Room k X.A) (hk:W.keepIn X.K (.ref f)=true) (hb:Binds X.K fd ps ds) (hd:Vals dvs ds) (hx:BQ CX X E) (ha:PA X (e :: es) t) (hdb:(x == ("__debug__" : Str))=false:=by decide)
  (he:starEach (e :: es) X.env=(false,eval e X.env) :: starEach es X.env:=by rfl) (hpl:(backTo pos (starEach es X.env)).any (·.1)=false:=by rfl)
  (ht:eval (.Call (.Attribute (.Name x np) name apos) (e :: es) [] pos) X.env=(do
   let ov ← eval (.Name x np) X.env
   standAt apos.atName
   let (f,first) ← holding [ov] (getMethod ov name pl)
   callWith pos f first (backTo pos (starEach (e :: es) X.env)) (backToKw pos (keywordEach [] X.env))):=by rfl) :
  PE X (.Call (.Attribute (.Name x np) name apos) (e :: es) [] pos) (RQ sp dvs E t):=by
 intro aa s σ H Q I h;refine W.methodCall_KW (pl:=pl) ?_ ht;refine Bn I hg hm ?_ hdb;refine W.method_cls I.kIn ga (W.cls_value I.kIn hr0 hf rfl ?_);refine W.callWith_K (h₀:=X.base) I.ok.mod.kin hk (thn (ha pos aa _ σ H _ (I.tok _) h) fun us s1 ⟨vs,H1,I1,r,q⟩=>⟨I1.kIn,?_⟩) he hpl;exact IS F hr hb hd hx I1 r q
end
section
variable {c:Str} {cp fp:Pos} {ck:Nat}
def TZ (c:Str) (te:TE):TE:=fun σ H Q=>te σ H fun x H1=>((∃ i,x=.int i/\i.natAbs.log2 < 1920)\/(∃ z,x=.str z/\z.length <= 1000)\/x=.non)/\∀ z,Q (.str z) H1
theorem Ff (a b:Str):(a++b).length=a.length + b.length:=strLen_append a b
theorem QZ (hc:c.length <= 1000) (he:PE X e te):PE X (.JoinedStr [.Constant (.str c) ck cp,.FormattedValue e (-1) none fp] pos) (TZ c te):=by
 intro aa s σ H Q I h;refine JoinedStr_many (joinParts_cons (Calls.Constant_str ?_));have l0:(Str.empty++c).length <= 1000:=by rw [Ff]; show 0 + c.length <= 1000; omega
 have sz:(3000:Nat) <= sizeLine:=by decide
 refine ⟨Nat.le_trans l0 (Nat.le_trans (by decide) sz),joinParts_cons ?_⟩;refine wpAny_FormattedValue_plain (thn (he aa _ σ H _ (I.tok _) h) fun u s1 ⟨x,H1,I1,r,q,k⟩=>?_);rcases q with ⟨i,rfl,hi⟩ | ⟨z,rfl,hz⟩ | rfl
 ·obtain ⟨t,rfl⟩:=r;refine PySem.wpAny_formatField_int hi ?_;have l1:(Str.ofString (toString i)).length <= 1921:=by rw [PySem.ofString_length]; exact int_text_length_le (k:=1920) (by decide) hi
  have l2:((Str.empty++c)++Str.ofString (toString i)).length <= sizeLine:=by
   rw [Ff];omega
  exact ⟨l2,joinParts_nil ⟨.str _,H1,(I1.tok _).tok _,⟨_,rfl⟩,k _⟩ l2⟩
 ·obtain ⟨t,rfl⟩:=r
  have l2:((Str.empty++c)++z).length <= sizeLine:=by
   rw [Ff];omega
  have hz2:z.length <= sizeLine:=by omega
  exact PySem.wpAny_formatField_str ⟨l2,joinParts_nil ⟨.str _,H1,I1.tok _,⟨_,rfl⟩,k _⟩ l2⟩ ⟨l2,joinParts_nil ⟨.str _,H1,(I1.tok _).tok _,⟨_,rfl⟩,k _⟩ l2⟩ hz2
 ·obtain rfl:u=Value.none:=r
  have l2:((Str.empty++c)++("None" : Str)).length <= sizeLine:=by
   have:("None" : Str).length=4:=by decide +kernel
   rw [Ff];omega
  exact PySem.wpAny_formatField_none ⟨l2,joinParts_nil ⟨.str _,H1,(I1.tok _).tok _,⟨_,rfl⟩,k _⟩ l2⟩
end
structure Ta (K:FG) (C:Addr) (f:Str):Prop where
 hg:Dw K C
 hh:W.hasDictIn K C=true
 ha:W.findIn K (.ref C) f=some none
section
variable {e:Addr} {oe:Obj} {o:Expr} {f:Str} {ta:TE}
def Oh (e:Addr) (oe:Obj) (f:Str) (ta:TE):TE:=fun σ H Q=>ta σ H fun x H1=>∃ d fs v,x=.ref e/\oe.dict=some d/\H1 d=some (.xd fs)/\fs.lookup f=some v/\Q v H1
theorem Qa (p:ExcP X e oe C) (g:Ta X.K C f) (he:PE X o ta) (hb:attributeBase o f X.env (eval o X.env)=eval o X.env):PE X (.Attribute o f pos) (Oh e oe f ta):=by
 intro aa s σ H Q I h;refine LV hb (thn (he aa s σ H _ I h) fun u s1 ⟨x,H1,I1,rx,d,fs,v,ex,hd,hH,l,q⟩=>?_);subst ex;obtain rfl:u=Value.ref e:=rx;obtain ⟨mA,hn,r⟩:=I1.hok _ _ hH;obtain ⟨od,ho,hl⟩:=Hi hn;obtain ⟨w,hw,rw'⟩:=RelO.some_of (v:=v) (o:=mA f) (by rw [← l]; exact r f);have hp:=(I1.pin (e,oe) (mem_append_left _ p.at_)).1;obtain ⟨vs,hv⟩:=p.fld;have J:W.InstAt s1.heap e oe C (some od):=⟨hp,p.cls,by unfold W.notCls; rw [hv],by rw [hd]; exact ho⟩;exact Oa g.hg I1.kIn J (W.findObj_own g.hh g.ha rfl (by rw [hl,hw])) (Hj rw') ⟨v,H1,I1.tok _,rw',q⟩
end
noncomputable def Itz (K:FG) (a b:Addr):It:=⟨fun i H=>∃ xs ys x y,SqL K H a xs/\SqL K H b ys/\xs[i]?=some x/\ys[i]?=some y,fun i H v H'=>∃ p x y,H p=none/\v=.ref p/\(∀ xs,SqL K H a xs->xs[i]?=some x)/\(∀ ys,SqL K H b ys->ys[i]?=some y)/\H'=upd H p (.tup [x,y]),fun i H=>∃ xs ys,SqL K H a xs/\SqL K H b ys/\(xs.length <= i\/ys.length <= i)⟩
theorem Oi {elts:List Expr} {k0:Nat} (a b z TI TO i1 i2:Addr) (D:ZipApart z TI TO i1 i2 a b) :
  IP P w K (.Tuple elts k0 pos) (Itz K a b) [z,TI,TO,i1,i2] z (fun i h=>IsZip h z TI TO .none/\IsPair h TI (.ref i1) (.ref i2)/\(∃ x y,IsPair h TO x y)/\h.IsListIter i1 a i/\h.IsListIter i2 b i) where
 mem:=by simp
 obj:=fun i h st c hc=>by
  obtain ⟨e1,e2,⟨x,y,e3⟩,⟨o4,e4,c4,d4⟩,⟨o5,e5,c5,d5⟩⟩:=st;have hc':c=z\/c=TI\/c=TO\/c=i1\/c=i2:=by simpa using hc
  rcases hc' with rfl | rfl | rfl | rfl | rfl
  ·exact ⟨_,e1,fun v z=>by cases z⟩
  ·exact ⟨_,e2,fun v z=>by cases z⟩
  ·exact ⟨_,e3,fun v z=>by cases z⟩
  ·exact ⟨o4,e4,fun v z=>by rw [d4] at z; cases z⟩
  ·exact ⟨o5,e5,fun v z=>by rw [d5] at z; cases z⟩
 keep:=fun i h h' st k=>by
  obtain ⟨e1,e2,⟨x,y,e3⟩,e4,e5⟩:=st;exact ⟨k z (by simp) _ e1,k TI (by simp) _ e2,⟨x,y,k TO (by simp) _ e3⟩,e4.at fun o q=>k i1 (by simp) o q,e5.at fun o q=>k i2 (by simp) o q⟩
 item:=by
  intro X hP hw hK hc i aa s σ H E I hf st hg;subst hP hw hK;obtain ⟨xs,ys,x,y,hq1,hq2,hx,hy⟩:=hg;obtain ⟨its1,rv1,p1,hz1⟩:=I.list hq1;obtain ⟨its2,rv2,p2,hz2⟩:=I.list hq2;obtain ⟨u1,hu1,ru1⟩:=rv1.get hx;obtain ⟨u2,hu2,ru2⟩:=rv2.get hy;obtain ⟨s1,s2,⟨x0,y0,s3⟩,s4,s5⟩:=st;have hF:∀ c,c ∈ [z,TO,i1,i2]->c ∈ [z,TI,TO,i1,i2]:=fun c h=>by simp at h ⊢; rcases h with z | z | z | z <;> simp [z]
  have lts:∀ c,c ∈ [z,TI,TO,i1,i2]->c < s.heap.objs.size:=fun c h=>by
   have h':c=z\/c=TI\/c=TO\/c=i1\/c=i2:=by simpa using h
   rcases h' with rfl | rfl | rfl | rfl | rfl
   ·exact lt_size s1
   ·exact lt_size s2
   ·exact lt_size s3
   ·obtain ⟨o,q,_⟩:=id s4; exact lt_size q
   ·obtain ⟨o,q,_⟩:=id s5; exact lt_size q
  refine wpAny_pyNext_zip_item D s1 s2 s3 s4 s5 p1.isList p2.isList (x:=u1) (y:=u2) (by simpa using hu1) (by simpa using hu2) fun h' st1 st3 st4 st5 hp hsz keep=>?_
  have kp:∀ c o,c ∉ [z,TO,i1,i2]->s.heap.get? c=some o->h'.get? c=some o:=fun c o hc q=>by
   simp at hc;exact keep c o hc.1 hc.2.1 hc.2.2.1 hc.2.2.2 q
  have I1:Inv X aa σ H { s with heap:=h',toks:=s.toks }:=by
   refine I.step (H':=H) (g':=s.gens) (d':=s.drawn) (ch:=[z,TO,i1,i2]) (fun c hc=>?_) (fun c o _ _ hc q _=>kp c o hc q) (fun c o _ _ hc q _=>⟨o.slots,kp c o hc q⟩)
    (fun _ _ _ _ n=>n) (fun c o hc q=>⟨o,kp c o hc q⟩) (fun _ _ q=>q) (fun _ _ _ q=>q) (fun b ps q=>⟨#[],by rw [q]; simp⟩) (fun m hm=>?_) (fun c u q=>?_) I.bare
   ·obtain ⟨f0,f1,f2,f3,f4,f5⟩:=hf c (hF c hc);exact ⟨f3,f1,f4,f5⟩
   ·obtain ⟨oL,es,ep,hoL,r⟩:=hm;exact ⟨oL,es,ep,kp _ oL (fun q=>(hf _ (hF _ q)).2.1 rfl) hoL,r⟩
   ·have ne1:∀ c v,H c=some v->c ∉ [z,TO,i1,i2]:=fun c v q hc=>by rw [(hf c (hF c hc)).1] at q; cases q
    refine (I.hok c u q).stay (fun e v he q'=>kp e v ?_ q') (fun _ q=>q) fun _ _ q=>q;rcases he with z | z
    ·rw [z]; exact ne1 c u q
    ·exact ne1 e _ z
  obtain ⟨n1,n2,n3,n4,n5⟩:=I.newOk (Nat.le_refl s.heap.objs.size);have I2:Inv X aa σ (upd H s.heap.objs.size (.tup [x,y])) { s with heap:=h',toks:=s.toks }:=I1.track n1 n2 (.inr n3) n4 n5 ⟨by show 2 <= sizeLine; decide,[u1,u2],.cons ru1 (.cons ru2 .nil),_,hp,rfl,_,rfl⟩;have fn:∀ c,c ∈ [z,TI,TO,i1,i2]->(upd H s.heap.objs.size (.tup [x,y])) c=none:=fun c hc=>by rw [AH (Nat.ne_of_lt (lts c hc))]; exact (hf c hc).1
  obtain ⟨f0,f1,f2,f3,f4,f5⟩:=hf z (by simp);refine ⟨.ref s.heap.objs.size,rfl,wpAny_letOwnedTupleGo_zip st1 fun h'' st'' sb=>?_⟩;refine ⟨.ref s.heap.objs.size,_,I2.turned (it:=z) (t':=s.toks) (fun b o hb q=>(sb.2 b hb).trans q) (fn z (by simp)) f1 f3 f4 f5,rfl,⟨_,x,y,n1,rfl,fun zs hy'=>by rw [I.list_inj hy' hq1]; exact hx,fun zs hy'=>by rw [I.list_inj hy' hq2]; exact hy,rfl⟩,⟨st'',sb.extBut _ _ D.TIz (kp _ _ (by simp [D.TIz,D.TITO,D.TIi1,D.TIi2]) s2),⟨_,_,sb.extBut _ _ D.TOz st3⟩,st4.extBut sb.extBut D.i1z,st5.extBut sb.extBut D.i2z⟩,fun c hc=>fn c hc⟩
 done:=by
  intro X hP hw hK hc i aa s σ H E I hf st hg;subst hP hw hK;obtain ⟨xs,ys,hq1,hq2,hx⟩:=hg;obtain ⟨its1,rv1,p1,hz1⟩:=I.list hq1;obtain ⟨its2,rv2,p2,hz2⟩:=I.list hq2;obtain ⟨s1,s2,⟨x0,y0,s3⟩,s4,s5⟩:=st;have hl1:=rv1.length;have hl2:=rv2.length;have hF:∀ c,c ∈ [z,TO,i1,i2]->c ∈ [z,TI,TO,i1,i2]:=fun c h=>by simp at h ⊢; rcases h with z | z | z | z <;> simp [z]
  refine wpAny_pyNext_zip_end (I.ok.hd hc) D s1 s2 s3 s4 s5 p1.isList p2.isList (by
   rcases hx with z | z
   ·left; simp; omega
   ·right; simp; omega) fun h' keep=>⟨rfl,?_⟩
  have kp:∀ c o,c ∉ [z,TO,i1,i2]->s.heap.get? c=some o->h'.get? c=some o:=fun c o hc q=>by
   simp at hc;exact keep c o hc.1 hc.2.1 hc.2.2.1 hc.2.2.2 q
  refine I.step (H':=H) (g':=s.gens) (d':=s.drawn) (ch:=[z,TO,i1,i2]) (fun c hc=>?_) (fun c o _ _ hc q _=>kp c o hc q) (fun c o _ _ hc q _=>⟨o.slots,kp c o hc q⟩)
   (fun _ _ _ _ n=>n) (fun c o hc q=>⟨o,kp c o hc q⟩) (fun _ _ q=>q) (fun _ _ _ q=>q) (fun b ps q=>⟨#[],by rw [q]; simp⟩) (fun m hm=>?_) (fun c u q=>?_) I.bare
  ·obtain ⟨f0,f1,f2,f3,f4,f5⟩:=hf c (hF c hc);exact ⟨f3,f1,f4,f5⟩
  ·obtain ⟨oL,es,ep,hoL,r⟩:=hm;exact ⟨oL,es,ep,kp _ oL (fun q=>(hf _ (hF _ q)).2.1 rfl) hoL,r⟩
  ·have ne1:∀ c v,H c=some v->c ∉ [z,TO,i1,i2]:=fun c v q hc=>by rw [(hf c (hF c hc)).1] at q; cases q
   refine (I.hok c u q).stay (fun e v he q'=>kp e v ?_ q') (fun _ q=>q) fun _ _ q=>q;rcases he with z | z
   ·rw [z]; exact ne1 c u q
   ·exact ne1 e _ z
 self:=fun _ _ _ _ _ st h=>wpAny_pyIter_zip st.1 h
def UF (K:FG) (tl:TA):TI:=fun σ H R=>tl σ H fun vs H1=>∃ a b,vs=[.ref a,.ref b]/\(∃ xs,SqL K H1 a xs)/\(∃ ys,SqL K H1 b ys)/\R (Itz K a b) H1
theorem E2 {elts:List Expr} {k0:Nat} {p cpos:Pos} {l m:Expr} {tl:TA} (hg:Gl X "zip") (hm:X.mg "zip" = none) (hl:PA X [l,m] tl) (hs:starEach [l,m] X.env=(false,eval l X.env) :: starEach [m] X.env:=by rfl) (hpl:(backTo cpos (starEach [m] X.env)).any (·.1)=false:=by rfl) :
  PI X (.Tuple elts k0 pos) (.Call (.Name "zip" p) [l,m] [] cpos) (UF X.K tl):=by
 intro aa s σ H R I h;refine wpAny_Call_Name_kw (Ch (u:=.type "zip") I hg hm (by decide +kernel) ?_);refine PyProof.Rows.callWith_type1 (thn (hl cpos aa s σ H _ I h) fun us s1 ⟨vs,H1,I1,r1,a,b,ev,⟨xs,hq1⟩,⟨ys,hq2⟩,q⟩=>?_) hs hpl;subst ev;obtain ⟨u1,u2,rfl,ru1,ru2⟩:=F0 r1;cases ru1;cases ru2;obtain ⟨its1,rv1,p1,hz1⟩:=I1.list hq1;obtain ⟨its2,rv2,p2,hz2⟩:=I1.list hq2;have a1:a < s1.heap.objs.size:=by obtain ⟨_,e,_⟩:=p1.isList; exact lt_size e
 have a2:b < s1.heap.objs.size:=by obtain ⟨_,e,_⟩:=p2.isList; exact lt_size e
 refine call_zip_2 p1.isList p2.isList fun h' hz hTI hTO hi1 hi2 hsz keep=>?_;refine wpAny_pyIter_zip hz ?_;have I2:Inv X aa σ H1 { s1 with heap:=h' }:=I1.kept (t':=s1.toks) keep;refine ⟨_,[s1.heap.objs.size + 4,s1.heap.objs.size + 2,s1.heap.objs.size + 3,s1.heap.objs.size,s1.heap.objs.size + 1],_,_,H1,rfl,I2,Oi a b _ _ _ _ _ (zipApart_new a1 a2),⟨hz,hTI,⟨_,_,hTO⟩,hi1,hi2⟩,fun c hc=>?_,q⟩
 have hle:s1.heap.objs.size <= c:=by
  have hc':c=s1.heap.objs.size + 4\/c=s1.heap.objs.size + 2\/c=s1.heap.objs.size + 3\/c=s1.heap.objs.size\/c=s1.heap.objs.size + 1:=by simpa using hc
  rcases hc' with z | z | z | z | z <;> rw [z] <;> first | exact Nat.le_refl _ | exact Nat.le_add_right _ _
 exact I1.fpOk hle (I1.hok.fresh hle)
section
open PySem.SeqAt PySem.MeetsSeq PySem.MeetsSeq2 PySem.MeetsSeq3 PySem.SeqRoads2
open PySem.AutoSeq1 (wpAny_loadPart')
def RW (prog:Program) (w:World) (A:Around) (E:Ab) (items ae:Array Value) (T:Nat->Shared->Prop):Prop :=
 ∀ (i:Nat) (x y:Value) (s:Shared) (Q:Bool->Shared->Prop),items[i]?=some x->ae[i]?=some y->T i s->(∀ s',T (i + 1) s'->Q true s')->wpAny (model prog w) A (eqBool x y) Q E s
def Jp (l:Addr) (items:Array Value) (s:Shared):Prop:=∃ n dd sl,s.heap.get? l=some { cls:=.type "list", dict:=dd,data:=.seq items n,slots:=sl }
theorem Oj {prog:Program} {R:Result->Shared->Prop} {l b:Addr} {items ae:Array Value} {T:Nat->Shared->Prop} (hsz:items.size=ae.size)
  (hl:∀ i s,T i s->Jp l items s/\Jp b ae s)
  (he:RW prog w A.in1 (fun e s'=>R (.error e) s') items ae T) (hR:∀ s',T items.size s'->R (.ok (.ret (.bool false))) s') (k:Nat) :
  ∀ (i:Nat) (s:Shared),items.size - i=k->i <= items.size->T i s->wpAny (model prog w) A.in1 (Builtin.«list.__eq__.loop» ⟨[.ref l,.ref b,rawInt i,rawInt 3],[]⟩) (fun fin s'=>match fin with | .done f=>R (.ok f) s' | .again c'=>c'.quiet=true/\codeAny (model prog w) A c' R s') (fun e s'=>R (.error e) s') s:=by
 induction k with
 | zero =>
  intro i s hk hi h;obtain ⟨⟨n,dd,sl,h0⟩,⟨n2,dd2,sl2,h2⟩⟩:=hl i s h;have e:i=items.size:=by omega
  subst e;have hR':=hR s h;obtain ⟨hp,g,d,tk,os⟩:=s
  wp_walk using wpAny_loadPart' h0,wpAny_loadPart' h2
  have hi1:items[((items.size:Nat):Int).toNat]?=none:=by simp
  have hi2:ae[((items.size:Nat):Int).toNat]?=none:=by simp; omega
  rw [hi1,hi2]
  wp_walk using wpAny_loadPart' h0,wpAny_loadPart' h2
  show R (.ok (.ret (.bool (items.size != ae.size)))) _;rw [hsz];simpa using hR'
 | succ k ih =>
  intro i s hk hi h;obtain ⟨⟨n,dd,sl,h0⟩,⟨n2,dd2,sl2,h2⟩⟩:=hl i s h;have hlt:i < items.size:=by omega
  have cg:i < ae.size:=by omega
  have hi1:items[((i:Nat):Int).toNat]?=some items[i]:=by simp [hlt]
  have hi2:ae[((i:Nat):Int).toNat]?=some ae[i]:=by simp [cg]
  have key:=fun Q=>he i items[i] ae[i] s Q (by simp [hlt]) (by simp [cg]) h;obtain ⟨hp,g,d,tk,os⟩:=s
  wp_walk using wpAny_loadPart' h0,wpAny_loadPart' h2
  rw [hi1,hi2];refine wpAny_bind (key _ fun s' hs'=>?_);have hc:((i:Int) + 1)=((i + 1:Nat):Int):=by push_cast; rfl
  wp_walk
  rw [hc]
  exact ⟨plainId_quiet plain_eq_loop _,codeAny_builtin entry_eq_loop (by
   rw [Around.under_plainId plain_eq_loop _]
   exact ih (i + 1) s' (by omega) (by omega) hs')⟩
theorem Ol (prog:Program) (w:World) (l b:Addr) (items ae:Array Value) (hsz:items.size=ae.size):MeetsIn prog w (Builtin.«list.__ne__» ⟨[.ref l,.ref b],[]⟩)
  (fun A R s=>∃ T:Nat->Shared->Prop,(∀ i s,T i s->Jp l items s/\Jp b ae s)/\RW prog w A.in1 (fun e s'=>R (.error e) s') items ae T/\(∀ s',T items.size s'->R (.ok (.ret (.bool false))) s')/\T 0 s):=by
 intro A R s h;obtain ⟨T,hl,he,hR,h⟩:=h;obtain ⟨⟨n,dd,sl,h0⟩,⟨n2,dd2,sl2,h2⟩⟩:=hl 0 s h;have key:=Oj (A:=A) (l:=l) (b:=b) hsz hl he hR _ 0 s rfl (Nat.zero_le _) h;obtain ⟨hp,g,d,tk,os⟩:=s;have f3:=AutoSeq1.sub_list_list;have aw:¬ (items.size != ae.size)=true:=by simp [hsz]
 wp_walk using wpAny_loadPart' h0,wpAny_loadPart' h2
 exact ⟨plainId_quiet plain_eq_loop _,codeAny_builtin entry_eq_loop (by
  rw [Around.under_plainId plain_eq_loop _]
  exact key)⟩
end
section
variable {k:Nat} {fd:FuncData} {sp:Sp}
theorem ID:∀ (bs:List Addr) (its:List Value),Vals (bs.map V.ref) its->its=bs.map Value.ref
 | [],_,.nil=>rfl
 | z :: zs,_,.cons p r=>by
  cases p;rw [ID zs _ r];rfl
theorem M7 (F:Ae X.prog X.w X.K X.mg X.base CX0 k f fd ["self", "other"] sp) (hr:Room (k + 1) X.A) (hb:Binds X.K fd ["self", "other"] []) (hm:IR X.K C "__eq__" f) :
  OpR X (compareOp .NotEq) (fun x y H Q=>∃ (l l2:Addr) (as bs:List Addr),x=.ref l/\y=.ref l2/\H l=some (.lst (as.map V.ref))/\H l2=some (.lst (bs.map V.ref))/\as.length=bs.length/\(∀ (i:Nat) a b,as[i]?=some a->bs[i]?=some b->(∃ dy gs,H a=some (.ins C dy gs))/\(∃ dy gs,H b=some (.ins C dy gs))/\∀ H' Q',Same H H'->(∀ H2,Same H' H2->Q' (.bl true) H2)->Rz sp a b H' Q')/\∀ H',Same H H'->Q (.bl false) H'):=by
 intro aa s σ H x y v u Q I rx ry h;obtain ⟨l,l2,as,bs,rfl,rfl,hl,hl2,az,am,q⟩:=h;cases rx;cases ry
 have lst:∀ H' s' l (bs:List Addr),Inv X aa σ H' s'->H' l=some (.lst (bs.map V.ref))->Jp l (bs.map Value.ref).toArray s':=by
  intro H' s' l bs I' e;obtain ⟨its,rv,⟨o,n,e2,c,dd,sl⟩,_⟩:=I'.list (SqL.of e);have:=ID bs its rv;subst this;obtain ⟨ocl,odi,oda,osl⟩:=o;simp only at c dd sl;subst c sl;exact ⟨n,odi,osl,e2⟩
 obtain ⟨n,dd,sl,g0⟩:=lst H s l as I hl;obtain ⟨n2,dd2,sl2,g2⟩:=lst H s l2 bs I hl2;have hu:X.A.units < cLine:=Nat.lt_of_le_of_lt (Nat.le_add_right _ 64) hr.units
 have hu1:X.A.in1.units < cLine:=by
  have:=hr.units;show X.A.units + 1 < cLine;omega
 show wpAny _ _ (richCompare .NotEq (.ref l) (.ref l2)) _ _ _
 refine wpAny_richCompare_same_room (T := "list") ⟨_,g0,rfl⟩ ⟨_,g2,rfl⟩ PySem.F.slot_list_ne (wpAny_mono (call_meetsIn (A:=X.A) PySem.F.slot_list_ne ⟨_,g0,rfl⟩ PySem.F.entry_list_ne (PySem.F.args_list_ne_2 _ _) (Ol X.prog X.w l l2 (as.map Value.ref).toArray (bs.map Value.ref).toArray (by simp [az]))
  (Q:=fun v s'=>v=.bool false/\∃ H',Inv X aa σ H' s'/\Same H H') (E:=X.xe) ?_) (fun v s' hv=>?_) fun _ _ e=>e) hu
 ·refine ⟨fun _ s'=>∃ H',Inv X aa σ H' s'/\Same H H',fun i s' ⟨H',I',sm⟩=>⟨lst H' s' l as I' (sm _ _ hl),lst H' s' l2 bs I' (sm _ _ hl2)⟩,fun i y z s' Q' hy hz ⟨H',I',sm⟩ hq=>?_,fun s' h=>⟨rfl,h⟩,⟨H,I,Same.refl _⟩⟩;have hy':(as.map Value.ref)[i]?=some y:=by simpa using hy
  have hz':(bs.map Value.ref)[i]?=some z:=by simpa using hz
  rw [getElem?_map] at hy' hz';obtain ⟨a,ha1,rfl⟩:=Option.map_eq_some_iff.mp hy';obtain ⟨b,hb1,rfl⟩:=Option.map_eq_some_iff.mp hz';obtain ⟨⟨da,fs,hai⟩,⟨dy,gs,hbi⟩,hsp⟩:=am i a b ha1 hb1;unfold eqBool;refine wpAny_holding ?_;refine wpAny_ite_split (fun _=>?_) (fun _=>?_)
  ·have:=hq s' ⟨H',I',sm⟩
   wp_walk
   exact this
  obtain ⟨m,Fm⟩:=I'.fr;obtain ⟨mB,ob,_⟩:=CH I'.hok (sm _ _ hbi);obtain ⟨odb,ib,_⟩:=ob.look;obtain ⟨mA,oa,_⟩:=CH I'.hok (sm _ _ hai);obtain ⟨oda,ia,_⟩:=oa.look;have run:=OR (Q:=fun v H2=>v=.bl true/\Same H' H2) (E:=fun e s'=>wants (fun v s'=>v=.bool false/\∃ H',Inv X aa σ H' s'/\Same H H') X.xe (.error e) s') F hr.in1 I'.env0.in1 hb I' (hsp H' _ sm fun H2 s2=>⟨rfl,s2⟩);refine wpAny_bind (W.cmp_K hu1 Fm I'.mod.kin ia ib.type (by simp [W.notFirst]) hm.at_ hm.fn (thn run fun v s2 hv=>?_));obtain ⟨t,rfl,v',H2,I2,rv,ev,s2⟩:=hv;subst ev;cases rv;exact wpAny_truthy_bool (hq _ ⟨H2,I2,fun b o e=>s2 _ _ (sm _ _ e)⟩)
 ·obtain ⟨rfl,H',I',sm⟩:=hv;exact ⟨(fun z=>nomatch z),.bl false,H',I',rfl,q _ sm⟩
end
structure DF (z t o i j k p q r:Addr):Prop where
 tz:t ≠ z
 oz:o ≠ z
 ot:o ≠ t
 iz:i ≠ z
 it:i ≠ t
 io:i ≠ o
 jz:j ≠ z
 jt:j ≠ t
 jo:j ≠ o
 ji:j ≠ i
 kz:k ≠ z
 kt:k ≠ t
 ko:k ≠ o
 ki:k ≠ i
 kj:k ≠ j
 pz:p ≠ z
 po:p ≠ o
 pi:p ≠ i
 pj:p ≠ j
 pk:p ≠ k
 qz:q ≠ z
 qo:q ≠ o
 qi:q ≠ i
 qj:q ≠ j
 qk:q ≠ k
 rz:r ≠ z
 ro:r ≠ o
 ri:r ≠ i
 rj:r ≠ j
 rk:r ≠ k
abbrev Tri (h:Heap) (a:Addr) (x y v:Value):Prop:=h.get? a=some { cls:=.type "tuple", data:=.seq #[x,y,v] }
structure Z3 (z t o i j k p q r:Addr) (xs ys vs:Array Value) (h0:Heap) (f a b d:Value) (l m n:Nat) (h:Heap):Prop where
 hz:IsZip h z t o f
 ht:Tri h t (.ref i) (.ref j) (.ref k)
 ho:Tri h o a b d
 hi:h.IsListIter i p l
 hj:h.IsListIter j q m
 hk:h.IsListIter k r n
 hp:h.IsList p xs
 hq:h.IsList q ys
 hr:h.IsList r vs
 kp:∀ c u,c ≠ z->c ≠ o->c ≠ i->c ≠ j->c ≠ k->h0.get? c=some u->h.get? c=some u
section
variable {z t o i j k p q r:Addr} {xs ys vs:Array Value} {h0 h':Heap} {f a b d f' a' b' d':Value} {l m n:Nat}
theorem Z3.at_z (D:DF z t o i j k p q r) (Z:Z3 z t o i j k p q r xs ys vs h0 f a b d l m n h) (e:IsZip h' z t o f') (S:Heap.ExtBut z h h'):Z3 z t o i j k p q r xs ys vs h0 f' a b d l m n h' :=
 ⟨e,S _ _ D.tz Z.ht,S _ _ D.oz Z.ho,Z.hi.extBut S D.iz,Z.hj.extBut S D.jz,Z.hk.extBut S D.kz,Z.hp.extBut S D.pz,Z.hq.extBut S D.qz,Z.hr.extBut S D.rz,fun c u c0 c1 c2 c3 c4 g=>S _ _ c0 (Z.kp c u c0 c1 c2 c3 c4 g)⟩
theorem Z3.at_o (D:DF z t o i j k p q r) (Z:Z3 z t o i j k p q r xs ys vs h0 f a b d l m n h) (e:Tri h' o a' b' d') (S:Heap.ExtBut o h h'):Z3 z t o i j k p q r xs ys vs h0 f a' b' d' l m n h' :=
 ⟨S _ _ D.oz.symm Z.hz,S _ _ D.ot.symm Z.ht,e,Z.hi.extBut S D.io,Z.hj.extBut S D.jo,Z.hk.extBut S D.ko,Z.hp.extBut S D.po,Z.hq.extBut S D.qo,Z.hr.extBut S D.ro,fun c u c0 c1 c2 c3 c4 g=>S _ _ c1 (Z.kp c u c0 c1 c2 c3 c4 g)⟩
theorem Z3.at_i (D:DF z t o i j k p q r) (Z:Z3 z t o i j k p q r xs ys vs h0 f a b d l m n h) (e:h'.IsListIter i p (l + 1)) (S:Heap.ExtBut i h h'):Z3 z t o i j k p q r xs ys vs h0 f a b d (l + 1) m n h' :=
 ⟨S _ _ D.iz.symm Z.hz,S _ _ D.it.symm Z.ht,S _ _ D.io.symm Z.ho,e,Z.hj.extBut S D.ji,Z.hk.extBut S D.ki,Z.hp.extBut S D.pi,Z.hq.extBut S D.qi,Z.hr.extBut S D.ri,fun c u c0 c1 c2 c3 c4 g=>S _ _ c2 (Z.kp c u c0 c1 c2 c3 c4 g)⟩
theorem Z3.at_j (D:DF z t o i j k p q r) (Z:Z3 z t o i j k p q r xs ys vs h0 f a b d l m n h) (e:h'.IsListIter j q (m + 1)) (S:Heap.ExtBut j h h'):Z3 z t o i j k p q r xs ys vs h0 f a b d l (m + 1) n h' :=
 ⟨S _ _ D.jz.symm Z.hz,S _ _ D.jt.symm Z.ht,S _ _ D.jo.symm Z.ho,Z.hi.extBut S D.ji.symm,e,Z.hk.extBut S D.kj,Z.hp.extBut S D.pj,Z.hq.extBut S D.qj,Z.hr.extBut S D.rj,fun c u c0 c1 c2 c3 c4 g=>S _ _ c3 (Z.kp c u c0 c1 c2 c3 c4 g)⟩
theorem Z3.at_k (D:DF z t o i j k p q r) (Z:Z3 z t o i j k p q r xs ys vs h0 f a b d l m n h) (e:h'.IsListIter k r (n + 1)) (S:Heap.ExtBut k h h'):Z3 z t o i j k p q r xs ys vs h0 f a b d l m (n + 1) h' :=
 ⟨S _ _ D.kz.symm Z.hz,S _ _ D.kt.symm Z.ht,S _ _ D.ko.symm Z.ho,Z.hi.extBut S D.ki.symm,Z.hj.extBut S D.kj.symm,e,Z.hp.extBut S D.pk,Z.hq.extBut S D.qk,Z.hr.extBut S D.rk,fun c u c0 c1 c2 c3 c4 g=>S _ _ c4 (Z.kp c u c0 c1 c2 c3 c4 g)⟩
end
section
variable {prog:Program} {z t o i j k p q r:Addr} {xs ys vs:Array Value} {h0:Heap} {a b d x y v:Value} {l m n:Nat}
theorem Ec {T:Addr} {g:Array Value->Array Value} {Q:Unit->Shared->Prop} {u1 u2 u3:Value} (hT:Tri s.heap T a b d) (hg:g #[a,b,d]=#[u1,u2,u3]) (H:∀ h',Tri h' T u1 u2 u3->Heap.ExtBut T s.heap h'->h'.objs.size=s.heap.objs.size->Q () { s with heap:=h' }) :
  wpAny (model prog w) A (updateSeq T g) Q E s:=by
 have S:=Heap.SameBut.update (h:=s.heap) (a:=T) (f:=fun ob=>ob.mapSeq g);refine wpAny_updateSeq hT rfl (H _ ?_ S.extBut S.1) (_hz':=by rw [hg]; show 3 <= sizeLine + 1; decide);show (s.heap.update T (Obj.mapSeq g)).get? T=_;rw [get?_update_self _ hT rfl];simp [Obj.mapSeq,hg]
theorem M8 (D:DF z t o i j k p q r) (Z:Z3 z t o i j k p q r xs ys vs s.heap .none a b d l m n s.heap) (hx:xs[l]?=some x) (hy:ys[m]?=some y) (hv:vs[n]?=some v) {Q:Ab}
  (hQ:∀ h',Z3 z t o i j k p q r xs ys vs s.heap (rawInt s.heap.objs.size) x y v (l + 1) (m + 1) (n + 1) h'->Tri h' s.heap.objs.size x y v->Q (.ref s.heap.objs.size) { s with heap:=h' }) :
  wpAny (model prog w) A (Builtin.«zip.__next__» ⟨[.ref z],[]⟩) (fun fin s'=>∃ u,fin=.done (.ret u)/\Q u s') E s:=by
 refine wpAny_bind (m:=field (.ref z) 2) (wpAny_field Z.hz rfl (x:=.bool false) rfl ?_);refine wpAny_bind (m:=field (.ref z) 3) (wpAny_field Z.hz rfl (x:=.ref t) rfl ?_);refine wpAny_bind (wpAny_seqItems Z.ht rfl ?_);refine wpAny_bind (m:=Builtin.SmallTypes.ownedTupleIsFree (.ref z)) ?_;unfold Builtin.SmallTypes.ownedTupleIsFree;refine wpAny_bind (wpAny_field Z.hz rfl (x:=.none) rfl (wpAny_pure ?_));simp only [if_true];refine wpAny_bind (wpAny_rule (wpAny_bind (wpAny_field Z.hz rfl (x:=.ref o) rfl ?_)));refine wpAny_bind (wpAny_setField_rec Z.hz (by simp) fun g1 e1 S1=>?_);have Z1:=Z.at_z (f':=.ellipsis) D e1 S1.extBut;refine wpAny_bind ?_;simp only [List.zipIdx_cons,List.zipIdx_nil,forIn_cons,List.forIn_nil];refine wpAny_bind (wpAny_bind (wpAny_onRaise ?_));refine wpAny_bind (m:=Builtin.SmallTypes.nextOf (.ref i)) (wpAny_nextOf_list_item Z1.hi Z1.hp hx fun g2 e2 S2=>wpAny_pure ?_);have Z2:=Z1.at_i D e2 S2.extBut;refine wpAny_bind (wpAny_seqItems Z2.ho rfl (wpAny_bind (Ec Z2.ho (u1:=x) (u2:=b) (u3:=d) rfl fun g3 e3 S3 z3=>?_)));have Z3':=Z2.at_o D e3 S3;refine wpAny_bind (wpAny_letGo (wpAny_pure ?_));refine wpAny_bind (wpAny_bind (wpAny_onRaise ?_));refine wpAny_bind (m:=Builtin.SmallTypes.nextOf (.ref j)) (wpAny_nextOf_list_item Z3'.hj Z3'.hq hy fun g4 e4 S4=>wpAny_pure ?_);have Z4:=Z3'.at_j D e4 S4.extBut;refine wpAny_bind (wpAny_seqItems Z4.ho rfl (wpAny_bind (Ec Z4.ho (u1:=x) (u2:=y) (u3:=d) rfl fun g5 e5 S5 z5=>?_)));have Z5:=Z4.at_o D e5 S5;refine wpAny_bind (wpAny_letGo (wpAny_pure ?_));refine wpAny_bind (wpAny_bind (wpAny_onRaise ?_));refine wpAny_bind (m:=Builtin.SmallTypes.nextOf (.ref k)) (wpAny_nextOf_list_item Z5.hk Z5.hr hv fun g6 e6 S6=>wpAny_pure ?_);have Z6:=Z5.at_k D e6 S6.extBut;refine wpAny_bind (wpAny_seqItems Z6.ho rfl (wpAny_bind (Ec Z6.ho (u1:=x) (u2:=y) (u3:=v) rfl fun g7 e7 S7 z7=>?_)));have Z7:=Z6.at_o D e7 S7;refine wpAny_bind (wpAny_letGo (wpAny_pure (wpAny_pure ?_)));refine wpAny_bind (wpAny_seqItems Z7.ho rfl (wpAny_bind (wpAny_newTuple ?_)))
 have sz:g7.objs.size=s.heap.objs.size:=by
  have a1:=S1.1;have a2:=S2.1;have a4:=S4.1;have a6:=S6.1;simp only at z3 z5 z7 a1 a2 a4 a6;omega
 refine wpAny_bind (m:=Builtin.SmallTypes.ownedTupleHandOut (.ref z) (.ref g7.objs.size)) ?_;unfold Builtin.SmallTypes.ownedTupleHandOut;have push:∀ c u,g7.get? c=some u->(g7.push { cls:=.type "tuple", data:=.seq #[x,y,v] }).get? c=some u:=fun c u e=>get?_push_of_some _ e;have tri8:Tri (g7.push { cls:=.type "tuple", data:=.seq #[x,y,v] }) g7.objs.size x y v:=get?_push_size _ rfl
 have Z8:Z3 z t o i j k p q r xs ys vs s.heap .ellipsis x y v (l + 1) (m + 1) (n + 1) (g7.push { cls:=.type "tuple", data:=.seq #[x,y,v] }) :=
  ⟨push _ _ Z7.hz,push _ _ Z7.ht,push _ _ Z7.ho,Z7.hi.at fun _ e=>push _ _ e,Z7.hj.at fun _ e=>push _ _ e,Z7.hk.at fun _ e=>push _ _ e,Heap.IsList.push Z7.hp _,Heap.IsList.push Z7.hq _,Heap.IsList.push Z7.hr _,fun c u c0 c1 c2 c3 c4 e=>push _ _ (Z7.kp c u c0 c1 c2 c3 c4 e)⟩
 have ne:g7.objs.size ≠ z:=Nat.ne_of_gt (lt_size Z7.hz);generalize g7.push { cls:=.type "tuple", data:=.seq #[x,y,v] }=g8 at tri8 Z8 ⊢;refine wpAny_bind (wpAny_setField_rec Z8.hz (by simp) fun g9 e9 S9=>?_);have Z9:=Z8.at_z (f':=rawInt g7.objs.size) D e9 S9.extBut;refine wpAny_setField_rec Z9.hz (by simp) fun g10 e10 S10=>?_;have Z10:=Z9.at_z (f':=rawInt g7.objs.size) D e10 S10.extBut;have tri10:=S10.extBut _ _ ne (S9.extBut _ _ ne tri8);rw [sz] at Z10 tri10;refine wpAny_pure ⟨_,rfl,?_⟩;show Q (.ref g7.objs.size) _;rw [sz];exact hQ g10 Z10 tri10
theorem Om {Q:Fin->Shared->Prop} (hh:A.handled=none) (D:DF z t o i j k p q r) (Z:Z3 z t o i j k p q r xs ys vs s.heap .none a b d l m n s.heap) (cw:xs[l]?=none\/ys[m]?=none\/vs[n]?=none)
  (hE:∀ h' e,(∀ c u,c ≠ z->c ≠ o->c ≠ i->c ≠ j->c ≠ k->s.heap.get? c=some u->h'.get? c=some u)->(∃ u,h'.get? e=some u/\u.cls=.type "StopIteration")->E (.ref e) { s with heap:=h' }) :
  wpAny (model prog w) A (Builtin.«zip.__next__» ⟨[.ref z],[]⟩) Q E s:=by
 refine wpAny_bind (m:=field (.ref z) 2) (wpAny_field Z.hz rfl (x:=.bool false) rfl ?_);refine wpAny_bind (m:=field (.ref z) 3) (wpAny_field Z.hz rfl (x:=.ref t) rfl ?_);refine wpAny_bind (wpAny_seqItems Z.ht rfl ?_);refine wpAny_bind (m:=Builtin.SmallTypes.ownedTupleIsFree (.ref z)) ?_;unfold Builtin.SmallTypes.ownedTupleIsFree;refine wpAny_bind (wpAny_field Z.hz rfl (x:=.none) rfl (wpAny_pure ?_));simp only [if_true];refine wpAny_bind (wpAny_rule (wpAny_bind (wpAny_field Z.hz rfl (x:=.ref o) rfl ?_)));refine wpAny_bind (wpAny_setField_rec Z.hz (by simp) fun g1 e1 S1=>?_);have Z1:=Z.at_z (f':=.ellipsis) D e1 S1.extBut;refine wpAny_bind ?_;simp only [List.zipIdx_cons,List.zipIdx_nil,forIn_cons,List.forIn_nil]
 have fin:∀ {g g':Heap} {a b d:Value} {l m n:Nat} {c e:Addr},Z3 z t o i j k p q r xs ys vs s.heap .ellipsis a b d l m n g->Heap.ExtBut c g g'->c ≠ z->(c=i\/c=j\/c=k)->(∃ u,g'.get? e=some u/\u.cls=.type "StopIteration") ->
   wpAny (model prog w) A (setField (.ref z) 0 .none) (fun _ s'=>E (.ref e) s') E { s with heap:=g' }:=by
  intro g g' a b d l m n c e Y S cz cc he;obtain ⟨u,hu,hc⟩:=he;have hz':IsZip g' z t o .ellipsis:=S _ _ cz.symm Y.hz;have ez:e ≠ z:=fun q=>by subst q; rw [hz'] at hu; cases hu; simp at hc
  refine wpAny_setField_rec hz' (by simp) fun g3 _ S3=>hE g3 e (fun c' u' c0 c1 c2 c3 c4 q=>S3.extBut _ _ c0 (S _ _ ?_ (Y.kp c' u' c0 c1 c2 c3 c4 q))) ⟨u,S3.extBut _ _ ez hu,hc⟩;rcases cc with q | q | q <;> rw [q] <;> assumption
 refine wpAny_bind (wpAny_bind (wpAny_onRaise ?_));cases hx:xs[l]? with
 | none=>exact wpAny_bind (m:=Builtin.SmallTypes.nextOf (.ref i)) (wpAny_nextOf_list_end hh Z1.hi Z1.hp hx fun g2 e S2 he=>fin Z1 S2 D.iz (.inl rfl) he)
 | some x =>
  refine wpAny_bind (m:=Builtin.SmallTypes.nextOf (.ref i)) (wpAny_nextOf_list_item Z1.hi Z1.hp hx fun g2 e2 S2=>wpAny_pure ?_);have Z2:=Z1.at_i D e2 S2.extBut;refine wpAny_bind (wpAny_seqItems Z2.ho rfl (wpAny_bind (Ec Z2.ho (u1:=x) (u2:=b) (u3:=d) rfl fun g3 e3 S3 z3=>?_)));have Z3':=Z2.at_o D e3 S3;refine wpAny_bind (wpAny_letGo (wpAny_pure ?_));refine wpAny_bind (wpAny_bind (wpAny_onRaise ?_));cases hy:ys[m]? with
  | none=>exact wpAny_bind (m:=Builtin.SmallTypes.nextOf (.ref j)) (wpAny_nextOf_list_end hh Z3'.hj Z3'.hq hy fun g4 e S4 he=>fin Z3' S4 D.jz (.inr (.inl rfl)) he)
  | some y =>
   have hv:vs[n]?=none:=by
    rcases cw with q | q | q
    ·rw [hx] at q; cases q
    ·rw [hy] at q; cases q
    ·exact q
   refine wpAny_bind (m:=Builtin.SmallTypes.nextOf (.ref j)) (wpAny_nextOf_list_item Z3'.hj Z3'.hq hy fun g4 e4 S4=>wpAny_pure ?_);have Z4:=Z3'.at_j D e4 S4.extBut;refine wpAny_bind (wpAny_seqItems Z4.ho rfl (wpAny_bind (Ec Z4.ho (u1:=x) (u2:=y) (u3:=d) rfl fun g5 e5 S5 z5=>?_)));have Z5:=Z4.at_o D e5 S5;refine wpAny_bind (wpAny_letGo (wpAny_pure ?_));refine wpAny_bind (wpAny_bind (wpAny_onRaise ?_));exact wpAny_bind (m:=Builtin.SmallTypes.nextOf (.ref k)) (wpAny_nextOf_list_end hh Z5.hk Z5.hr hv fun g6 e S6 he=>fin Z5 S6 D.kz (.inr (.inr rfl)) he)
theorem Ky (D:DF z t o i j k p q r) (Z:Z3 z t o i j k p q r xs ys vs s.heap .none a b d l m n s.heap) (hx:xs[l]?=some x) (hy:ys[m]?=some y) (hv:vs[n]?=some v) {Q:Option Value->Shared->Prop}
  (hQ:∀ h',Z3 z t o i j k p q r xs ys vs s.heap (rawInt s.heap.objs.size) x y v (l + 1) (m + 1) (n + 1) h'->Tri h' s.heap.objs.size x y v->Q (some (.ref s.heap.objs.size)) { s with heap:=h' }) :
  wpAny (model prog w) A (pyNext (.ref z)) Q E s:=by
 have T:s.TypeIs (.ref z) "zip" := ⟨_,Z.hz,rfl⟩;unfold pyNext;exact wpAny_bind (wpAny_attempt (wpAny_callSpecial?_slot (name:=Str.ofString "__next__") T F.slot_zip_next (wpAny_call_entry F.slot_zip_next T F.entry_zip_next (M8 D Z hx hy hv fun h' a1 a2=>wpAny_pure (hQ h' a1 a2)) (F.args_zip_next_1 _))))
theorem M9 {Q:Option Value->Shared->Prop} (hh:A.handled=none) (D:DF z t o i j k p q r) (Z:Z3 z t o i j k p q r xs ys vs s.heap .none a b d l m n s.heap) (cw:xs[l]?=none\/ys[m]?=none\/vs[n]?=none)
  (hQ:∀ h',(∀ c u,c ≠ z->c ≠ o->c ≠ i->c ≠ j->c ≠ k->s.heap.get? c=some u->h'.get? c=some u)->Q none { s with heap:=h' }):wpAny (model prog w) A (pyNext (.ref z)) Q E s:=by
 have T:s.TypeIs (.ref z) "zip" := ⟨_,Z.hz,rfl⟩;unfold pyNext;refine wpAny_bind (wpAny_attempt (wpAny_callSpecial?_slot (name:=Str.ofString "__next__") T F.slot_zip_next (wpAny_call_entry F.slot_zip_next T F.entry_zip_next (Om hh D Z cw fun h' e kp he=>?_) (F.args_zip_next_1 _))));obtain ⟨u,hu,hc⟩:=he;exact wpAny_bind (wpAny_isInstance (T := "StopIteration") (b:=true) ⟨u,hu,hc⟩ isSubtype_stop (wpAny_pure (hQ _ kp)))
end
theorem Qb (a b c:Value):checkTypeCall "zip" ⟨[a,b,c],[]⟩=pure ():=by kernel_rfl
theorem Qc (a b c:Value):checkBuiltinCall "zip.__new__" ⟨[.type "zip", a,b,c],[]⟩=pure ():=by kernel_rfl
theorem Qd (x a b c:Value):argsOk "object.__init__" ⟨[x,a,b,c],[]⟩:=by
 unfold argsOk;rw [signature?_of (id := "object.__init__") (n:=['_','_','t','i','n','i','_','_']) (o:=['t','c','e','j','b','o']) (by kernel_rfl) PySem.F.owner_object]
 kernel_rfl
noncomputable abbrev C3 (l:Addr):Obj:={ cls:=.type "list_iterator", data:=.fields #[.ref l,.int 0 0] }
noncomputable def h3 (h:Heap) (p q r:Addr):Heap:=((h.push (C3 p)).push (C3 q)).push (C3 r)
noncomputable def h5 (h:Heap) (p q r:Addr):Heap:=((h3 h p q r).push { cls:=.type "tuple", data:=.seq #[.ref h.objs.size,.ref (h.objs.size + 1),.ref (h.objs.size + 2)] }).push { cls:=.type "tuple", data:=.seq #[.none,.none,.none] }
noncomputable def h6 (h:Heap) (p q r:Addr):Heap:=(h5 h p q r).push { cls:=.type "zip", data:=.fields #[.none,.bool false,.bool false,.ref (h.objs.size + 3),.ref (h.objs.size + 4)] }
theorem Kz (p q r:Addr) (xs ys vs:Array Value):Meets (Builtin.«zip.__new__» ⟨[.type "zip", .ref p,.ref q,.ref r],[]⟩) (fun _ R s=>s.heap.IsList p xs/\s.heap.IsList q ys/\s.heap.IsList r vs /\
   R (.ok (.ret (.ref (s.heap.objs.size + 5)))) { s with heap:=h6 s.heap p q r }) :=
 .of_wp fun prog w A R s h=>by
  obtain ⟨hp,g,d,tk,os⟩:=s;obtain ⟨e1,e2,e3,h⟩:=h;have hsub:=sub_zip;have L1:Heap.IsList (Shared.heap ⟨hp,g,d,tk,os⟩) p xs:=e1;have L2:Heap.IsList (Shared.heap ⟨hp.push (C3 p),g,d,tk,os⟩) q ys:=Heap.IsList.push e2 _;have L3:Heap.IsList (Shared.heap ⟨(hp.push (C3 p)).push (C3 q),g,d,tk,os⟩) r vs:=Heap.IsList.push (Heap.IsList.push e3 _) _
  wp_walk using wpAny_pyIter_list L1,wpAny_pyIter_list L2,wpAny_pyIter_list L3
  refine ⟨_,rfl,?_⟩;simp only [size_push];exact h
section
variable {prog:Program}
theorem RX {p q r:Addr} {xs ys vs:Array Value} (e1:h.IsList p xs) (e2:h.IsList q ys) (e3:h.IsList r vs) :
  Z3 (h.objs.size + 5) (h.objs.size + 3) (h.objs.size + 4) h.objs.size (h.objs.size + 1) (h.objs.size + 2) p q r xs ys vs h .none .none .none .none 0 0 0 (h6 h p q r)/\∀ c u,h.get? c=some u->(h6 h p q r).get? c=some u:=by
 have P:∀ {g:Heap} {ob:Obj} {c u},g.get? c=some u->(g.push ob).get? c=some u:=fun e=>get?_push_of_some _ e;have L:∀ {g:Heap} {ob:Obj} {c ws},g.IsList c ws->(g.push ob).IsList c ws:=fun e=>Heap.IsList.push e _;have N:∀ {g:Heap} {ob:Obj} {n:Nat},g.objs.size=n->(g.push ob).objs.size=n + 1:=fun e=>by rw [size_push,e]
 have G:∀ {g:Heap} {ob:Obj} {n:Nat},g.objs.size=n->ob.isFreed=false->(g.push ob).get? n=some ob:=fun e h=>e ▸ get?_push_size _ h;have z3:(h3 h p q r).objs.size=h.objs.size + 3:=N (N (N rfl));have z5:(h5 h p q r).objs.size=h.objs.size + 5:=N (N z3);have kp:∀ c u,h.get? c=some u->(h6 h p q r).get? c=some u:=fun c u e=>P (P (P (P (P (P e)))));have z1:(h.push (C3 p)).objs.size=h.objs.size + 1:=N rfl;have z2:((h.push (C3 p)).push (C3 q)).objs.size=h.objs.size + 2:=N z1;have z4:((h3 h p q r).push { cls:=.type "tuple", data:=.seq #[.ref h.objs.size,.ref (h.objs.size + 1),.ref (h.objs.size + 2)] }).objs.size=h.objs.size + 4:=N z3;refine ⟨⟨G z5 rfl,P (P (G z3 rfl)),P (G z4 rfl),⟨C3 p,P (P (P (P (P (G rfl rfl))))),rfl,rfl⟩,⟨C3 q,P (P (P (P (G z1 rfl)))),rfl,rfl⟩,⟨C3 r,P (P (P (G z2 rfl))),rfl,rfl⟩,L (L (L (L (L (L e1))))),L (L (L (L (L (L e2))))),L (L (L (L (L (L e3))))),fun c u _ _ _ _ _ e=>kp c u e⟩,kp⟩
theorem NA {p q r:Addr} {xs ys vs:Array Value} {Q:Ab} (e1:s.heap.IsList p xs) (e2:s.heap.IsList q ys) (e3:s.heap.IsList r vs) (h:Q (.ref (s.heap.objs.size + 5)) { s with heap:=h6 s.heap p q r }) :
  wpAny (model prog w) A (call (.type "zip") [.ref p,.ref q,.ref r]) Q E s :=
 callType_new PySem.F.called_zip (by decide) (Qb _ _ _) (Qc _ _ _) (fun x=>Qd x _ _ _) PySem.F.entry_zip_new (Kz p q r xs ys vs) ⟨e1,e2,e3,⟨_,(RX e1 e2 e3).1.hz,rfl⟩,h⟩
end
theorem NB {n p q r:Nat} (h1:p < n) (h2:q < n) (h3:r < n):DF (n + 5) (n + 3) (n + 4) n (n + 1) (n + 2) p q r :=
 ⟨Nat.ne_of_lt (by omega),Nat.ne_of_lt (by omega),Nat.ne_of_gt (by omega),Nat.ne_of_lt (by omega),Nat.ne_of_lt (by omega),Nat.ne_of_lt (by omega),Nat.ne_of_lt (by omega),Nat.ne_of_lt (by omega),Nat.ne_of_lt (by omega),Nat.ne_of_gt (by omega),Nat.ne_of_lt (by omega),Nat.ne_of_lt (by omega),Nat.ne_of_lt (by omega),Nat.ne_of_gt (by omega),Nat.ne_of_gt (by omega),Nat.ne_of_lt (by omega),Nat.ne_of_lt (by omega),Nat.ne_of_lt (by omega),Nat.ne_of_lt (by omega),Nat.ne_of_lt (by omega),Nat.ne_of_lt (by omega),Nat.ne_of_lt (by omega),Nat.ne_of_lt (by omega),Nat.ne_of_lt (by omega),Nat.ne_of_lt (by omega),Nat.ne_of_lt (by omega),Nat.ne_of_lt (by omega),Nat.ne_of_lt (by omega),Nat.ne_of_lt (by omega),Nat.ne_of_lt (by omega)⟩
theorem Lo {prog:Program} {z t o:Addr} {f:Value} {Q:Ab} (hz:IsZip s.heap z t o f) (h:Q (.ref z) s):wpAny (model prog w) A (pyIter (.ref z)) Q E s:=wpAny_pyIter_zip hz h
noncomputable def On (K:FG) (p q r:Addr):It:=⟨fun n H=>∃ xs ys vs x y v,SqL K H p xs/\SqL K H q ys/\SqL K H r vs/\xs[n]?=some x/\ys[n]?=some y/\vs[n]?=some v,
 fun n H u H'=>∃ c x y v,H c=none/\u=.ref c/\(∀ xs,SqL K H p xs->xs[n]?=some x)/\(∀ ys,SqL K H q ys->ys[n]?=some y)/\(∀ vs,SqL K H r vs->vs[n]?=some v)/\H'=upd H c (.tup [x,y,v]),
 fun n H=>∃ xs ys vs,SqL K H p xs/\SqL K H q ys/\SqL K H r vs/\(xs.length <= n\/ys.length <= n\/vs.length <= n)⟩
structure ZSt (z t o i j k p q r:Addr) (n:Nat) (h:Heap):Prop where
 hz:IsZip h z t o .none
 ht:Tri h t (.ref i) (.ref j) (.ref k)
 ho:∃ x y v,Tri h o x y v
 hi:h.IsListIter i p n
 hj:h.IsListIter j q n
 hk:h.IsListIter k r n
theorem NC {elts:List Expr} {k0:Nat} (p q r z t o i j k:Addr) (D:DF z t o i j k p q r) :
  IP P w K (.Tuple elts k0 pos) (On K p q r) [z,t,o,i,j,k] z (ZSt z t o i j k p q r) where
 mem:=by simp
 obj:=fun n h st c hc=>by
  obtain ⟨e1,e2,⟨x,y,v,e3⟩,⟨o4,e4,c4,d4⟩,⟨o5,e5,c5,d5⟩,⟨o6,e6,c6,d6⟩⟩:=st;have hc':c=z\/c=t\/c=o\/c=i\/c=j\/c=k:=by simpa using hc
  rcases hc' with rfl | rfl | rfl | rfl | rfl | rfl
  ·exact ⟨_,e1,fun v z=>by cases z⟩
  ·exact ⟨_,e2,fun v z=>by cases z⟩
  ·exact ⟨_,e3,fun v z=>by cases z⟩
  ·exact ⟨o4,e4,fun v z=>by rw [d4] at z; cases z⟩
  ·exact ⟨o5,e5,fun v z=>by rw [d5] at z; cases z⟩
  ·exact ⟨o6,e6,fun v z=>by rw [d6] at z; cases z⟩
 keep:=fun n h h' st kp=>by
  obtain ⟨e1,e2,⟨x,y,v,e3⟩,e4,e5,e6⟩:=st;exact ⟨kp z (by simp) _ e1,kp t (by simp) _ e2,⟨x,y,v,kp o (by simp) _ e3⟩,e4.at fun u g=>kp i (by simp) u g,e5.at fun u g=>kp j (by simp) u g,e6.at fun u g=>kp k (by simp) u g⟩
 item:=by
  intro X hP hw hK hc n aa s σ H E I hf st hg;subst hP hw hK;obtain ⟨xs,ys,vs,x,y,v,hq1,hq2,hq3,hx,hy,hv⟩:=hg;obtain ⟨us1,rv1,p1,_⟩:=I.list hq1;obtain ⟨us2,rv2,p2,_⟩:=I.list hq2;obtain ⟨us3,rv3,p3,_⟩:=I.list hq3;obtain ⟨u1,hu1,ru1⟩:=rv1.get hx;obtain ⟨u2,hu2,ru2⟩:=rv2.get hy;obtain ⟨u3,hu3,ru3⟩:=rv3.get hv;obtain ⟨s1,s2,⟨x0,y0,v0,s3⟩,s4,s5,s6⟩:=st;have Z0:Z3 z t o i j k p q r us1.toArray us2.toArray us3.toArray s.heap .none x0 y0 v0 n n n s.heap:=⟨s1,s2,s3,s4,s5,s6,p1.isList,p2.isList,p3.isList,fun _ _ _ _ _ _ _ e=>e⟩;have hF:∀ c,c ∈ [z,o,i,j,k]->c ∈ [z,t,o,i,j,k]:=fun c h=>by simp at h ⊢; rcases h with z | z | z | z | z <;> simp [z]
  have lts:∀ c,c ∈ [z,t,o,i,j,k]->c < s.heap.objs.size:=fun c h=>by
   have h':c=z\/c=t\/c=o\/c=i\/c=j\/c=k:=by simpa using h
   rcases h' with rfl | rfl | rfl | rfl | rfl | rfl
   ·exact lt_size s1
   ·exact lt_size s2
   ·exact lt_size s3
   ·obtain ⟨o,q,_⟩:=id s4; exact lt_size q
   ·obtain ⟨o,q,_⟩:=id s5; exact lt_size q
   ·obtain ⟨o,q,_⟩:=id s6; exact lt_size q
  refine Ky D Z0 (x:=u1) (y:=u2) (v:=u3) (by simpa using hu1) (by simpa using hu2) (by simpa using hu3) fun h' Z1 hp=>?_
  have kp:∀ c u,c ∉ [z,o,i,j,k]->s.heap.get? c=some u->h'.get? c=some u:=fun c u hc g=>by
   simp at hc;exact Z1.kp c u hc.1 hc.2.1 hc.2.2.1 hc.2.2.2.1 hc.2.2.2.2 g
  have I1:Inv X aa σ H { s with heap:=h',toks:=s.toks }:=by
   refine I.step (H':=H) (g':=s.gens) (d':=s.drawn) (ch:=[z,o,i,j,k]) (fun c hc=>?_) (fun c o _ _ hc q _=>kp c o hc q) (fun c o _ _ hc q _=>⟨o.slots,kp c o hc q⟩)
    (fun _ _ _ _ n=>n) (fun c o hc q=>⟨o,kp c o hc q⟩) (fun _ _ q=>q) (fun _ _ _ q=>q) (fun b ps q=>⟨#[],by rw [q]; simp⟩) (fun m hm=>?_) (fun c u q=>?_) I.bare
   ·obtain ⟨f0,f1,f2,f3,f4,f5⟩:=hf c (hF c hc);exact ⟨f3,f1,f4,f5⟩
   ·obtain ⟨oL,es,ep,hoL,r⟩:=hm;exact ⟨oL,es,ep,kp _ oL (fun q=>(hf _ (hF _ q)).2.1 rfl) hoL,r⟩
   ·have ne1:∀ c v,H c=some v->c ∉ [z,o,i,j,k]:=fun c v q hc=>by rw [(hf c (hF c hc)).1] at q; cases q
    refine (I.hok c u q).stay (fun e v he q'=>kp e v ?_ q') (fun _ q=>q) fun _ _ q=>q;rcases he with z | z
    ·rw [z]; exact ne1 c u q
    ·exact ne1 e _ z
  obtain ⟨n1,n2,n3,n4,n5⟩:=I.newOk (Nat.le_refl s.heap.objs.size);have I2:Inv X aa σ (upd H s.heap.objs.size (.tup [x,y,v])) { s with heap:=h',toks:=s.toks }:=I1.track n1 n2 (.inr n3) n4 n5 ⟨by show 3 <= sizeLine; decide,[u1,u2,u3],.cons ru1 (.cons ru2 (.cons ru3 .nil)),_,hp,rfl,_,rfl⟩;have fn:∀ c,c ∈ [z,t,o,i,j,k]->(upd H s.heap.objs.size (.tup [x,y,v])) c=none:=fun c hc=>by rw [AH (Nat.ne_of_lt (lts c hc))]; exact (hf c hc).1
  obtain ⟨f0,f1,f2,f3,f4,f5⟩:=hf z (by simp);refine ⟨.ref s.heap.objs.size,rfl,wpAny_letOwnedTupleGo_zip Z1.hz fun h'' st'' sb=>?_⟩
  refine ⟨.ref s.heap.objs.size,_,I2.turned (it:=z) (t':=s.toks) (fun b o hb q=>(sb.2 b hb).trans q) (fn z (by simp)) f1 f3 f4 f5,rfl,⟨_,x,y,v,n1,rfl,fun zs hy'=>by rw [I.list_inj hy' hq1]; exact hx,fun zs hy'=>by rw [I.list_inj hy' hq2]; exact hy,fun zs hy'=>by rw [I.list_inj hy' hq3]; exact hv,rfl⟩,
   ⟨st'',sb.extBut _ _ D.tz Z1.ht,⟨_,_,_,sb.extBut _ _ D.oz Z1.ho⟩,Z1.hi.extBut sb.extBut D.iz,Z1.hj.extBut sb.extBut D.jz,Z1.hk.extBut sb.extBut D.kz⟩,fun c hc=>fn c hc⟩
 done:=by
  intro X hP hw hK hc n aa s σ H E I hf st hg;subst hP hw hK;obtain ⟨xs,ys,vs,hq1,hq2,hq3,hx⟩:=hg;obtain ⟨us1,rv1,p1,_⟩:=I.list hq1;obtain ⟨us2,rv2,p2,_⟩:=I.list hq2;obtain ⟨us3,rv3,p3,_⟩:=I.list hq3;obtain ⟨s1,s2,⟨x0,y0,v0,s3⟩,s4,s5,s6⟩:=st;have Z0:Z3 z t o i j k p q r us1.toArray us2.toArray us3.toArray s.heap .none x0 y0 v0 n n n s.heap:=⟨s1,s2,s3,s4,s5,s6,p1.isList,p2.isList,p3.isList,fun _ _ _ _ _ _ _ e=>e⟩;have hl1:=rv1.length;have hl2:=rv2.length;have hl3:=rv3.length;have hF:∀ c,c ∈ [z,o,i,j,k]->c ∈ [z,t,o,i,j,k]:=fun c h=>by simp at h ⊢; rcases h with z | z | z | z | z <;> simp [z]
  refine M9 (I.ok.hd hc) D Z0 (by
   rcases hx with z | z | z
   ·left; simp; omega
   ·right; left; simp; omega
   ·right; right; simp; omega) fun h' keep=>⟨rfl,?_⟩
  have kp:∀ c u,c ∉ [z,o,i,j,k]->s.heap.get? c=some u->h'.get? c=some u:=fun c u hc g=>by
   simp at hc;exact keep c u hc.1 hc.2.1 hc.2.2.1 hc.2.2.2.1 hc.2.2.2.2 g
  refine I.step (H':=H) (g':=s.gens) (d':=s.drawn) (ch:=[z,o,i,j,k]) (fun c hc=>?_) (fun c o _ _ hc q _=>kp c o hc q) (fun c o _ _ hc q _=>⟨o.slots,kp c o hc q⟩)
   (fun _ _ _ _ n=>n) (fun c o hc q=>⟨o,kp c o hc q⟩) (fun _ _ q=>q) (fun _ _ _ q=>q) (fun b ps q=>⟨#[],by rw [q]; simp⟩) (fun m hm=>?_) (fun c u q=>?_) I.bare
  ·obtain ⟨f0,f1,f2,f3,f4,f5⟩:=hf c (hF c hc);exact ⟨f3,f1,f4,f5⟩
  ·obtain ⟨oL,es,ep,hoL,r⟩:=hm;exact ⟨oL,es,ep,kp _ oL (fun q=>(hf _ (hF _ q)).2.1 rfl) hoL,r⟩
  ·have ne1:∀ c v,H c=some v->c ∉ [z,o,i,j,k]:=fun c v q hc=>by rw [(hf c (hF c hc)).1] at q; cases q
   refine (I.hok c u q).stay (fun e v he q'=>kp e v ?_ q') (fun _ q=>q) fun _ _ q=>q;rcases he with z | z
   ·rw [z]; exact ne1 c u q
   ·exact ne1 e _ z
 self:=fun _ _ _ _ _ st h=>Lo st.hz h
def Tb (K:FG) (tl:TA):TI:=fun σ H R=>tl σ H fun vs H1=>∃ p q r,vs=[.ref p,.ref q,.ref r]/\(∃ xs,SqL K H1 p xs)/\(∃ ys,SqL K H1 q ys)/\(∃ vs,SqL K H1 r vs)/\R (On K p q r) H1
theorem Qe {elts:List Expr} {k0:Nat} {p cpos:Pos} {e1 e2 e3:Expr} {tl:TA} (hg:Gl X "zip") (hm:X.mg "zip" = none) (hl:PA X [e1,e2,e3] tl) (hs:starEach [e1,e2,e3] X.env=(false,eval e1 X.env) :: starEach [e2,e3] X.env:=by rfl) (hpl:(backTo cpos (starEach [e2,e3] X.env)).any (·.1)=false:=by rfl) :
  PI X (.Tuple elts k0 pos) (.Call (.Name "zip" p) [e1,e2,e3] [] cpos) (Tb X.K tl):=by
 intro aa s σ H R I h;refine wpAny_Call_Name_kw (Ch (u:=.type "zip") I hg hm (by decide +kernel) ?_);refine PyProof.Rows.callWith_type1 (thn (hl cpos aa s σ H _ I h) fun us s1 ⟨vs,H1,I1,r1,a,b,c,ev,⟨xs,hq1⟩,⟨ys,hq2⟩,⟨ws,hq3⟩,q⟩=>?_) hs hpl;subst ev;cases r1 with
 | cons ru1 r1 =>
  cases r1 with
  | cons ru2 r1 =>
   cases r1 with
   | cons ru3 r1 =>
    cases r1;cases ru1;cases ru2;cases ru3;obtain ⟨us1,rv1,p1,_⟩:=I1.list hq1;obtain ⟨us2,rv2,p2,_⟩:=I1.list hq2;obtain ⟨us3,rv3,p3,_⟩:=I1.list hq3;have a1:a < s1.heap.objs.size:=by obtain ⟨_,e,_⟩:=p1.isList; exact lt_size e
    have a2:b < s1.heap.objs.size:=by obtain ⟨_,e,_⟩:=p2.isList; exact lt_size e
    have a3:c < s1.heap.objs.size:=by obtain ⟨_,e,_⟩:=p3.isList; exact lt_size e
    obtain ⟨Z,keep⟩:=RX p1.isList p2.isList p3.isList;refine NA p1.isList p2.isList p3.isList ?_;refine Lo Z.hz ?_;have I2:Inv X aa σ H1 { s1 with heap:=h6 s1.heap a b c }:=I1.kept (t':=s1.toks) keep;refine ⟨_,[s1.heap.objs.size + 5,s1.heap.objs.size + 3,s1.heap.objs.size + 4,s1.heap.objs.size,s1.heap.objs.size + 1,s1.heap.objs.size + 2],_,_,H1,rfl,I2,NC a b c _ _ _ _ _ _ (NB a1 a2 a3),⟨Z.hz,Z.ht,⟨_,_,_,Z.ho⟩,Z.hi,Z.hj,Z.hk⟩,fun c hc=>?_,q⟩
    have hle:s1.heap.objs.size <= c:=by
     simp only [mem_cons,not_mem_nil,or_false] at hc;rcases hc with z | z | z | z | z | z <;> rw [z] <;> first | exact Nat.le_refl _ | exact Nat.le_add_right _ _
    exact I1.fpOk hle (I1.hok.fresh hle)
theorem ND {b c:Addr} {zs ws:List V} {g:TG} {tt:TT} {ix:List (Option Nat)} {R:List V->Hp->Prop} {H1:Hp} (Pv:Nat->List V->Hp->Prop) (hxz:xs.length=zs.length) (hxw:xs.length=ws.length) (h0:Pv 0 [] H1) (hl:∀ i ys H,i <= xs.length->Pv i ys H->SqL K H a xs/\SqL K H b zs/\SqL K H c ws) (hz:∀ i ys H,Pv i ys H->ys.length <= 1000)
  (hs:∀ i x z w ys H p,xs[i]?=some x->zs[i]?=some z->ws[i]?=some w->Pv i ys H->H p=none->g (.ref p) (Bq ix σ) (upd H p (.tup [x,z,w])) fun σ2 H2=>tt σ2 H2 fun b H3=>if b=true then te σ2 H3 fun y H4=>Pv (i + 1) (ys++[y]) H4 else Pv (i + 1) ys H3) (hd:∀ ys H,Pv xs.length ys H->R ys H) :
  ∃ W:Nat->Nat->List V->Hp->Prop,(∃ m,W 0 m [] H1)/\∀ i m ys H,W i m ys H ->
   ((On K a b c).stop i H/\ys.length <= sizeLine/\R ys H) \/
   ((On K a b c).go i H/\∃ N:List V->Hp->Prop,(∀ ys' H',N ys' H'->ys'.length <= sizeLine/\∃ m',m' < m/\W (i + 1) m' ys' H') /\
    ∀ x H',(On K a b c).yld i H x H'->g x (Bq ix σ) H' fun σ2 H2=>tt σ2 H2 fun b H3=>if b=true then te σ2 H3 fun y H4=>N (ys++[y]) H4 else N ys H3):=by
 refine ⟨fun i m ys H=>m=xs.length - i/\i <= xs.length/\Pv i ys H,⟨_,rfl,Nat.zero_le _,h0⟩,?_⟩;rintro i m ys H ⟨rfl,hi,hp⟩;obtain ⟨q1,q2,q3⟩:=hl i ys H hi hp;by_cases hlt:i < xs.length
 ·have hx:xs[i]?=some xs[i]:=List.getElem?_eq_getElem hlt;have hz':zs[i]?=some (zs[i]'(by omega)):=List.getElem?_eq_getElem (by omega);have hw':ws[i]?=some (ws[i]'(by omega)):=List.getElem?_eq_getElem (by omega);refine .inr ⟨⟨xs,zs,ws,_,_,_,q1,q2,q3,hx,hz',hw'⟩,Pv (i + 1),fun ys' H' q=>⟨Nat.le_of_lt (Ad (hz _ ys' H' q)),xs.length - (i + 1),by omega,rfl,hlt,q⟩,?_⟩;rintro v H' ⟨p,x,y,w,hn,rfl,h1,h2,h3,rfl⟩;exact hs i x y w ys H p (h1 _ q1) (h2 _ q2) (h3 _ q3) hp hn
 ·have e:i=xs.length:=by omega
  subst e;exact .inl ⟨⟨xs,zs,ws,q1,q2,q3,.inl (Nat.le_refl _)⟩,Nat.le_of_lt (Ad (hz _ ys H hp)),hd ys H hp⟩
theorem Fg {b:Addr} {zs:List V} {g:TG} {tb:TS} {D:C4} (Pv:Nat->St->Hp->Prop) (hxz:xs.length=zs.length) (h0:Pv 0 σ H) (hl:∀ i σ H,i <= xs.length->Pv i σ H->SqL K H a xs/\SqL K H b zs)
  (hs:∀ i x z σ H p,xs[i]?=some x->zs[i]?=some z->Pv i σ H->H p=none->g (.ref p) σ (upd H p (.tup [x,z])) fun σ2 H2=>tb { D with nx:=Pv (i + 1),ct:=Pv (i + 1),bk:=D.nx } σ2 H2) (hd:∀ σ H,Pv xs.length σ H->D.nx σ H) :
  ∃ W:Nat->Nat->St->Hp->Prop,(∃ m,W 0 m σ H)/\∀ i m σ H,W i m σ H ->
   ((Itz K a b).stop i H/\D.nx σ H)\/((Itz K a b).go i H/\∃ N:St->Hp->Prop,(∀ σ' H',N σ' H'->∃ m',m' < m/\W (i + 1) m' σ' H')/\∀ x H',(Itz K a b).yld i H x H'->g x σ H' fun σ2 H2=>tb { D with nx:=N,ct:=N,bk:=D.nx } σ2 H2):=by
 refine ⟨fun i m σ H=>m=xs.length - i/\i <= xs.length/\Pv i σ H,⟨_,rfl,Nat.zero_le _,h0⟩,?_⟩;rintro i m σ H ⟨rfl,hi,hp⟩;obtain ⟨q1,q2⟩:=hl i σ H hi hp;by_cases hlt:i < xs.length
 ·have hx:xs[i]?=some xs[i]:=List.getElem?_eq_getElem hlt;have hz':zs[i]?=some (zs[i]'(by omega)):=List.getElem?_eq_getElem (by omega);refine .inr ⟨⟨xs,zs,_,_,q1,q2,hx,hz'⟩,Pv (i + 1),fun σ' H' q=>⟨xs.length - (i + 1),by omega,rfl,hlt,q⟩,?_⟩;rintro v H' ⟨p,x,y,hn,rfl,h1,h2,rfl⟩;exact hs i x y σ H p (h1 _ q1) (h2 _ q2) hp hn
 ·have e:i=xs.length:=by omega
  subst e;exact .inl ⟨⟨xs,zs,q1,q2,.inl (Nat.le_refl _)⟩,hd σ H hp⟩
abbrev g3 (K:FG):TG:=Nv K 3 (Dm (Bv 0) (Dm (Bv 1) (Dm (Bv 2) Nu)))
theorem Qf {tg:Expr} {ixc:List (Option Nat)} (h:PG X tg (g3 K)):PGk X tg (none :: none :: none :: ixc) (g3 K):=by
 intro aa s σ H v u Q I r q;obtain ⟨a,xs,e1,e2,e3,v1,r1,e4,v2,r2,e5,v3,r3,e6,e7,q⟩:=q;refine thn (h aa s _ H v u (fun σ' H'=>(∀ (j:Nat) (v:V),(Bq (none :: none :: none :: ixc) σ)[j]?=some (some v)->σ'[j]?=some (some v))/\Q σ' H') I r ⟨a,xs,e1,e2,e3,v1,r1,e4,v2,r2,e5,v3,r3,e6,e7,fun j w e=>?_,q⟩) fun _ s' ⟨σ',H',I',k,q⟩=>⟨σ',H',I',k,q⟩
 match j,e with
 | 0,e=>cases e
 | 1,e=>cases e
 | 2,e=>cases e
 | j + 3,e=>exact e
section
variable {iter elt:Expr} {ifs:List Expr} {scope:Scope} {px py pz pt:Pos} {wi:TI} {tt:TT} {y z:Str} {kt:Nat}
theorem Oo {i:Nat} {t:Str} {pt' spos:Pos} (hN:X.N.Nodup) (hi':X.N[i]?=some t) (ht':X.env.scope.names.lookup t=some .local) (Nc:List Str) (ixc:List (Option Nat)) (hf:FP X.env.scope scope X.N (x :: y :: z :: Nc) (none :: none :: none :: ixc)=true) (hnd:(x :: y :: z :: Nc).Nodup)
  (hx:scope.names.lookup x=some .local) (hy:scope.names.lookup y=some .local) (hz:scope.names.lookup z=some .local) (hc:X.calm=true) (hi:PI X (.Tuple [.Name x px,.Name y py,.Name z pz] kt pt) iter wi)
  (ht:∀ cl s H C fp pn,PTs (Ak X (x :: y :: z :: Nc) scope cl s H C fp pn) ifs tt) (he:∀ cl s H C fp pn,PE (Ak X (x :: y :: z :: Nc) scope cl s H C fp pn) elt te)
  (hsw:swapsWith (.ListComp elt [⟨.Tuple [.Name x px,.Name y py,.Name z pz] kt pt,iter,ifs,0⟩] scope pos) (some (.Name t pt')) spos.line X.env=pure true:=by rfl) (hs:∀ x,foldedSetIterable iter X.env x=pure x:=by intro _; rfl) :
  PS X (.Assign [.Name t pt'] (.ListComp elt [⟨.Tuple [.Name x px,.Name y py,.Name z pz] kt pt,iter,ifs,0⟩] scope pos) spos) (fun D σ H=>CP wi (g3 X.K) tt te (none :: none :: none :: ixc) (fun ys H'=>∀ p,H' p=none->D.nx (σ.set i (some (.ref p))) (upd H' p (.lst ys))) σ H) :=
 GG hN hi' ht' hsw (CompFits.of hf) hc hi (fun cl s H C fp pn=>Qf (BA (X:=Ak X (x :: y :: z :: Nc) scope cl s H C fp pn) hc (AM (AN (i:=0) hnd rfl (.inl (lookup_relabel_local hx)) (.inr (lookup_relabel_local hx)))
  (AM (AN (i:=1) hnd rfl (.inl (lookup_relabel_local hy)) (.inr (lookup_relabel_local hy))) (AM (AN (i:=2) hnd rfl (.inl (lookup_relabel_local hz)) (.inr (lookup_relabel_local hz))) Aw))))) ht he hs
end
end L2
end
section
namespace MK
open PySem
theorem By (a b:Nat):Builtin.bitAnd (a:Int) (b:Int)=((a &&& b:Nat):Int):=by
 rw [PyProof.Rows.bitAnd_pp (Int.natCast_nonneg _) (Int.natCast_nonneg _)]; simp
theorem B8 (a b:Nat):Builtin.bitOr (a:Int) (b:Int)=((a ||| b:Nat):Int):=by
 have ha:¬ (0:Int) <= Builtin.bitNot (a:Int):=by unfold Builtin.bitNot; omega
 have hb:¬ (0:Int) <= Builtin.bitNot (b:Int):=by unfold Builtin.bitNot; omega
 unfold Builtin.bitOr;rw [PyProof.Rows.bitAnd_nn ha hb];have e:∀ n:Nat,(Builtin.bitNot (Builtin.bitNot (n:Int))).toNat=n:=fun n=>by unfold Builtin.bitNot; omega
 rw [e a,e b];unfold Builtin.bitNot; omega
theorem Dy (a b:Nat):Builtin.bitAnd (a:Int) (Builtin.bitNot (b:Int))=((a - (a &&& b):Nat):Int):=by
 rw [PyProof.Rows.bitAnd_not,By];have:a &&& b <= a:=Nat.and_le_left;omega
noncomputable def Ao (l:List Nat):Nat:=l.foldl (· ||| ·) 0
theorem Ed (k:Nat):∀ (l:List Nat) (a:Nat),(l.foldl (· ||| ·) a).testBit k=(a.testBit k || l.any (·.testBit k))
 | [],a=>by simp
 | x :: r,a=>by rw [foldl_cons,Ed k r,Nat.testBit_or,any_cons,Bool.or_assoc]
theorem Dd (l:List Nat) (k:Nat):(Ao l).testBit k=l.any (·.testBit k):=by
 unfold Ao; rw [Ed]; simp
theorem Gf {l:List Nat} {m:Nat} (h:∀ n ∈ l,n < 2 ^ m):Ao l < 2 ^ m:=by
 have:∀ (l:List Nat) (a:Nat),a < 2 ^ m->(∀ n ∈ l,n < 2 ^ m)->l.foldl (· ||| ·) a < 2 ^ m:=by
  intro l;induction l with
  | nil=>intro a ha _; exact ha
  | cons x r ih=>intro a ha hl; exact ih _ (Nat.or_lt_two_pow ha (hl x mem_cons_self)) fun n hn=>hl n (mem_cons_of_mem _ hn)
 exact this l 0 (Nat.two_pow_pos m) h
theorem Dz (l:List Nat) (n:Nat):Ao (l++[n])=Ao l ||| n:=by unfold Ao; rw [foldl_append]; rfl
noncomputable def BX (n:Nat):Bool:=decide (0 < n) && decide (n &&& (n - 1)=0)
theorem K0 (k:Nat):BX (2 ^ k)=true:=by
 unfold BX;have h0:0 < 2 ^ k:=Nat.two_pow_pos k
 have h1:2 ^ k &&& (2 ^ k - 1)=0:=by
  apply Nat.eq_of_testBit_eq;intro i;rw [Nat.testBit_and,Nat.testBit_two_pow,Nat.testBit_two_pow_sub_one,Nat.zero_testBit];by_cases e:k=i
  ·subst e; simp
  ·simp [e]
 simp [h0,h1]
theorem CQ {n:Nat} (h:BX n=true):∃ k,n=2 ^ k:=by
 unfold BX at h;simp only [Bool.and_eq_true,decide_eq_true_eq] at h;obtain ⟨h0,h1⟩:=h;refine ⟨n.log2,?_⟩;have hlo:2 ^ n.log2 <= n:=Nat.log2_self_le (by omega);have hhi:n < 2 ^ (n.log2 + 1):=Nat.lt_log2_self;rcases Nat.eq_or_lt_of_le hlo with e | hlt
 ·exact e.symm
 ·exfalso
  have b1:n.testBit n.log2=true:=by
   rw [Nat.testBit_eq_decide_div_mod_eq];simp
   have:n / 2 ^ n.log2=1:=by
    apply Nat.div_eq_of_lt_le <;> (try rw [Nat.pow_succ] at hhi) <;> omega
   rw [this]
  have b2:(n - 1).testBit n.log2=true:=by
   rw [Nat.testBit_eq_decide_div_mod_eq];simp
   have:(n - 1) / 2 ^ n.log2=1:=by
    apply Nat.div_eq_of_lt_le <;> (try rw [Nat.pow_succ] at hhi) <;> omega
   rw [this]
  have:(n &&& (n - 1)).testBit n.log2=true:=by rw [Nat.testBit_and,b1,b2]; rfl
  rw [h1,Nat.zero_testBit] at this;cases this
noncomputable def Co (n:Nat):List Nat:=(List.range 42).filter fun k=>n.testBit k
theorem Gg {α:Type} [DecidableEq α] {p:α->Bool}:∀ {l:List α} {a:α},l.Nodup->a ∈ l->(∀ b ∈ l,p b=true ↔ b=a)->l.filter p=[a]
 | [],_,_,h,_=>by cases h
 | b :: r,a,hn,ha,hp=>by
  obtain ⟨n1,n2⟩:=nodup_cons.mp hn;by_cases e:b=a
  ·subst e;have hb:p b=true:=(hp b mem_cons_self).mpr rfl;rw [filter_cons,if_pos hb];congr 1;apply List.filter_eq_nil_iff.mpr;intro c hc hpc;have:=(hp c (mem_cons_of_mem _ hc)).mp hpc;exact n1 (this ▸ hc)
  ·have hb:¬ p b=true:=fun z=>e ((hp b mem_cons_self).mp z);rw [filter_cons,if_neg hb];rcases mem_cons.mp ha with z | z
   ·exact absurd z.symm e
   ·exact Gg n2 z fun c hc=>hp c (mem_cons_of_mem _ hc)
theorem HM {n:Nat} (hn:n < 2 ^ 42):decide ((Co n).length=1)=BX n:=by
 rw [Bool.eq_iff_iff,decide_eq_true_eq];constructor
 ·intro h;obtain ⟨k,hk⟩:∃ k,Co n=[k]:=List.length_eq_one_iff.mp h
  have mem:∀ i,i < 42->(n.testBit i=true ↔ i=k):=fun i hi=>by
   have:i ∈ Co n ↔ i=k:=by rw [hk]; simp
   unfold Co at this;rw [mem_filter] at this;constructor
   ·intro hb; exact this.mp ⟨mem_range.mpr hi,hb⟩
   ·intro e; exact (this.mpr e).2
  have hk42:k < 42:=by
   have:k ∈ Co n:=by rw [hk]; simp
   unfold Co at this;exact mem_range.mp (mem_filter.mp this).1
  have e:n=2 ^ k:=by
   apply Nat.eq_of_testBit_eq;intro i;rw [Nat.testBit_two_pow];by_cases hi:i < 42
   ·rw [Bool.eq_iff_iff,mem i hi,decide_eq_true_eq]; exact eq_comm
   ·have h1:n.testBit i=false:=Nat.testBit_lt_two_pow (Nat.lt_of_lt_of_le hn (Nat.pow_le_pow_right (by decide) (by omega)));rw [h1]; symm; rw [decide_eq_false_iff_not]; omega
  rw [e]; exact K0 k
 ·intro h;obtain ⟨k,rfl⟩:=CQ h;have hk:k < 42:=(Nat.pow_lt_pow_iff_right (by decide)).mp hn
  have:Co (2 ^ k)=[k]:=by
   unfold Co;refine Gg List.nodup_range (mem_range.mpr hk) fun b _=>?_;rw [Nat.testBit_two_pow,decide_eq_true_eq]; exact eq_comm
  rw [this]; rfl
noncomputable def BM (m:Nat):Nat:=2 ^ (Builtin.Int.intBits (m:Int))
theorem Br {m:Nat} (h:0 < m):Builtin.Int.intBits (m:Int)=m.log2 + 1:=by
 unfold Builtin.Int.intBits;have:((m:Int) == 0)=false:=by rw [beq_eq_false_iff_ne]; omega
 rw [this]; simp
theorem Jq {m k:Nat} (h1:m < 2 ^ k) (h2:k=0\/2 ^ (k - 1) <= m):2 ^ k=BM m:=by
 unfold BM;congr 1;rcases Nat.eq_zero_or_pos m with e | hm
 ·subst e
  have:k=0:=by
   rcases h2 with z | z
   ·exact z
   ·have:=Nat.two_pow_pos (k - 1); omega
  rw [this]; rfl
 ·rw [Br hm];rcases h2 with z | z
  ·subst z; simp at h1; omega
  ·have hk:0 < k:=by rcases Nat.eq_zero_or_pos k with e | e
                     ·subst e; simp at h1; omega
                     ·exact e
   have e:m.log2=k - 1:=by
    apply Nat.le_antisymm
    ·have:m.log2 < k:=(Nat.log2_lt (by omega)).mpr h1;omega
    ·exact (Nat.le_log2 (by omega)).mpr z
   omega
theorem Op:∀ {l:List Nat} {a:Nat},(∀ n ∈ l,BX n=true)->l.Pairwise (· < ·)->(∀ n ∈ l,a &&& n=0)->a + l.sum=l.foldl (· ||| ·) a
 | [],a,_,_,_=>by simp
 | n :: r,a,hm,hp,ha=>by
  obtain ⟨p1,p2⟩:=List.pairwise_cons.mp hp;have han:=ha n mem_cons_self
  have e:a ||| n=a + n:=by
   have h:=PyProof.Rows.bitOr_and (a:Int) (n:Int);rw [B8,By,han] at h;omega
  rw [sum_cons,foldl_cons,← Op (a:=a ||| n) (fun m hm'=>hm m (mem_cons_of_mem _ hm')) p2 (fun m hm'=>?_),e]
  ·omega
  ·obtain ⟨i,rfl⟩:=CQ (hm n mem_cons_self);obtain ⟨j,rfl⟩:=CQ (hm m (mem_cons_of_mem _ hm'));have hlt:=p1 _ hm';have haj:=ha _ (mem_cons_of_mem _ hm');apply Nat.eq_of_testBit_eq;intro t;rw [Nat.testBit_and,Nat.testBit_or,Nat.zero_testBit];have h1:(a &&& 2 ^ j).testBit t=false:=by rw [haj]; exact Nat.zero_testBit t
   rw [Nat.testBit_and] at h1;rw [Bool.and_or_distrib_right,h1,Nat.testBit_two_pow,Nat.testBit_two_pow];have:i ≠ j:=fun e=>by subst e; omega
   by_cases e1:i=t
   ·have:¬ j=t:=by omega
    simp [this]
   ·simp [e1]
theorem NE {l:List Nat} (hm:∀ n ∈ l,BX n=true) (hp:l.Pairwise (· < ·)):l.sum=Ao l:=by
 have:=Op (a:=0) hm hp (fun n _=>by simp);unfold Ao;omega
end MK
end
end
variable {P:PySem.Program} {w:PySem.World} {K:FG} {mg:SV} {base:PySem.Heap} {f:PySem.Addr} {fd:PySem.FuncData} {H:L2.Hp} {H':L2.Hp} {due:Aa} {ac:Aa} {C:PySem.Addr} {VC:PySem.Addr} {EC:PySem.Addr}
section
namespace Mk
open PySem L2 MK
noncomputable def top (i:Nat):Stmt:=PySem.Challenge.pw_markworks_k60_whole_packs.main.body.getD i (.Pass ⟨0,0,0,0⟩)
noncomputable abbrev Az:Stmt:=inClass (top 1) 0
noncomputable abbrev Cp:Stmt:=inClass (top 6) 0
noncomputable abbrev DH:Stmt:=top 18
noncomputable abbrev Il:Stmt:=top 19
noncomputable abbrev Gh:Stmt:=top 21
noncomputable abbrev Gi:Stmt:=top 22
noncomputable abbrev E3:Stmt:=top 24
noncomputable abbrev D0:Stmt:=top 25
noncomputable abbrev Cq:Stmt:=top 26
noncomputable abbrev D1:Stmt:=top 27
noncomputable abbrev E4:Stmt:=top 28
noncomputable abbrev DI:Stmt:=top 29
noncomputable abbrev BF:Stmt:=inClass (top 30) 0
noncomputable abbrev E5:Stmt:=inClass (top 30) 1
noncomputable abbrev D3:Stmt:=inClass (top 30) 6
noncomputable abbrev E6:Stmt:=inClass (top 30) 7
noncomputable abbrev Im:Stmt:=inClass (top 30) 8
noncomputable abbrev E7:Stmt:=top 33
noncomputable abbrev Io:Stmt:=top 34
noncomputable abbrev D4:Stmt:=inClass (top 35) 0
noncomputable abbrev Cr:Stmt:=inClass (top 35) 1
noncomputable abbrev D5:Stmt:=inClass (top 35) 2
noncomputable abbrev Gj:Stmt:=inClass (top 35) 5
noncomputable abbrev Lp:Stmt:=top 36
noncomputable abbrev CS:Stmt:=top 40
noncomputable abbrev D6:Stmt:=top 41
noncomputable abbrev De:Stmt:=inClass (top 42) 0
noncomputable abbrev DJ:Stmt:=inClass (top 42) 1
noncomputable abbrev BR:Stmt:=inClass (top 42) 2
noncomputable abbrev DK:Stmt:=inClass (top 42) 3
noncomputable abbrev Bp:Stmt:=inClass (top 42) 4
noncomputable abbrev Gk:Stmt:=inClass (top 42) 5
noncomputable abbrev Gm:Stmt:=top 44
noncomputable abbrev E8:Stmt:=top 45
noncomputable abbrev DL:Stmt:=top 46
noncomputable abbrev D7:Stmt:=top 47
noncomputable abbrev DN:Stmt:=top 48
noncomputable abbrev At:Stmt:=top 49
noncomputable abbrev D8:Stmt:=top 50
noncomputable abbrev Bk:Stmt:=top 51
noncomputable abbrev DP:Stmt:=top 52
noncomputable abbrev Ct:Stmt:=top 53
noncomputable abbrev Gn:Stmt:=top 54
noncomputable abbrev Go:Stmt:=top 55
noncomputable abbrev E9:Stmt:=top 56
noncomputable abbrev Ee:Stmt:=top 57
structure Fn (P:Program) (w:World) (K:FG) (mg:SV) (base:Heap) (x:Str) (k:Nat) (ps:List Str) (sp:Sp):Prop where
 ex:∃ f fd,Ae P w K mg base CX0 k f fd ps sp/\mg x=some (.ref f)/\W.keepIn K (.ref f)=true/\Binds K fd ps []
structure Bl (mg:SV):Prop where
 len:mg "len" = none
 isi:mg "isinstance" = none
 max:mg "max" = none
 min:mg "min" = none
 range:mg "range" = none
 list:mg "list" = none
 tuple:mg "tuple" = none
 sorted:mg "sorted" = none
 sum:mg "sum" = none
 all:mg "all" = none
 enum:mg "enumerate" = none
 int:mg "int" = none
 bool:mg "bool" = none
 str:mg "str" = none
noncomputable def AU (ns:List Nat):List V:=ns.map fun (n:Nat)=>V.int (n:Int)
section
def Df (K:FG):Sp:=fun vs H Q _=>∃ (a:Addr) (ns:List Nat),vs=[.ref a]/\SqL K H a (AU ns)/\Q (.int (Ao ns:Nat)) H
theorem scUnionOf:AK ["numbers", "bits", "number"] ["numbers"] (defScope Gh):=fsc
theorem Lq {ns:List Nat} {i:Nat} {x:V} (h:(AU ns)[i]?=some x):∃ n,ns[i]?=some n/\x=V.int (n:Int):=by
 unfold AU at h;rw [getElem?_map] at h;cases e:ns[i]? with
 | none=>rw [e] at h; cases h
 | some n=>rw [e] at h; exact ⟨n,rfl,(Option.some.inj h).symm⟩
theorem K1 (F:Fun K "union_of" "union_of" Gh f fd):Ae P w K mg base CX0 1 f fd ["numbers"] (Df K):=by
 refine F.m scUnionOf fun vs H Q E h=>?_;obtain ⟨a,ns,rfl,hS,k⟩:=h;refine ⟨rfl,fun ad A outer s hr=>?_⟩
 refine ⟨_,AE (Ag (i:=1) scUnionOf.nd rfl (Or.inl rfl) AG)
  (AE (Bh PassesOwn.never rfl (BJ (pv 0)) (AN (i:=2) scUnionOf.nd rfl (Or.inl rfl))
   (AF (IN (i:=1) scUnionOf.nd rfl (Or.inl rfl) (pv 2) (N1:OpR _ _ _))))
  (AF (AR (pv 1)))),?_⟩
 refine ⟨_,rfl,a,rfl,⟨_,hS⟩,C8 (K:=K) (a:=a) (xs:=AU ns) (fun i σ H2=>∃ v:Option V,σ=[some (.ref a),some (.int (Ao (ns.take i):Nat)),v]/\H2=H) ⟨none,rfl,rfl⟩ (fun i σ H2 _ ⟨_,_,e⟩=>e ▸ hS) ?_ ?_⟩
 ·rintro i x σ H2 hi ⟨v,rfl,rfl⟩;obtain ⟨n,hn,rfl⟩:=Lq hi;refine ⟨_,rfl,_,rfl,_,_,rfl,rfl,?_⟩;refine ⟨some (V.int (n:Int)),?_,rfl⟩;rw [take_add_one,hn,Option.toList_some,Dz];show [some (V.ref a),some (V.int (Builtin.bitOr (Ao (ns.take i):Nat) (n:Nat))),some (V.int (n:Int))]=_;rw [B8]
 ·rintro σ H2 ⟨v,rfl,rfl⟩;refine ⟨_,rfl,?_⟩;have e:(AU ns).length=ns.length:=by unfold AU; rw [AI]
  rw [e,take_length];exact k
end
end Mk
end
section
namespace L2
open PySem
theorem Oq {x:Str} {g:TG} {tt:TT} {te:TE} {ix:List (Option Nat)} {R:List V->Hp->Prop} {σ:St} {H1:Hp} (Pv:Nat->List V->Hp->Prop) (h0:Pv 0 [] H1) (hz:∀ i ys H,Pv i ys H->ys.length <= 1000)
  (hs:∀ (i c:Nat) ys H,x.cps[i]?=some c->Pv i ys H->g (.str ⟨#[c]⟩) (Bq ix σ) H fun σ2 H2=>tt σ2 H2 fun b H3=>if b=true then te σ2 H3 fun y H4=>Pv (i + 1) (ys++[y]) H4 else Pv (i + 1) ys H3) (hd:∀ ys H,Pv x.cps.size ys H->R ys H) :
  ∃ W:Nat->Nat->List V->Hp->Prop,(∃ m,W 0 m [] H1)/\∀ i m ys H,W i m ys H ->
   ((Its x).stop i H/\ys.length <= sizeLine/\R ys H) \/
   ((Its x).go i H/\∃ N:List V->Hp->Prop,(∀ ys' H',N ys' H'->ys'.length <= sizeLine/\∃ m',m' < m/\W (i + 1) m' ys' H') /\
    ∀ v H',(Its x).yld i H v H'->g v (Bq ix σ) H' fun σ2 H2=>tt σ2 H2 fun b H3=>if b=true then te σ2 H3 fun y H4=>N (ys++[y]) H4 else N ys H3):=by
 refine ⟨fun i m ys H=>m=x.cps.size - i/\i <= x.cps.size/\Pv i ys H,⟨_,rfl,Nat.zero_le _,h0⟩,?_⟩;rintro i m ys H ⟨rfl,hi,hp⟩;by_cases hlt:i < x.cps.size
 ·refine .inr ⟨hlt,Pv (i + 1),fun ys' H' q=>⟨Nat.le_of_lt (Ad (hz _ ys' H' q)),x.cps.size - (i + 1),by omega,rfl,hlt,q⟩,?_⟩;rintro v H' ⟨rfl,c,hc,rfl⟩;exact hs i c ys H' hc hp
 ·have e:i=x.cps.size:=by omega
  subst e;exact .inl ⟨Nat.le_refl _,Nat.le_of_lt (Ad (hz _ ys H hp)),hd ys H hp⟩
end L2
namespace Mk
open PySem L2 MK
theorem Ip:bootBuiltins "all" = some (.builtin "all"):=by decide +kernel
theorem D9:bootBuiltins "isinstance" = some (.builtin "isinstance"):=by decide +kernel
theorem NF:bootBuiltins "sorted" = some (.builtin "sorted"):=by decide +kernel
theorem Gp:bootBuiltins "sum" = some (.builtin "sum"):=by decide +kernel
theorem SG:bootBuiltins "min" = some (.builtin "min"):=by decide +kernel
theorem Os:bootBuiltins "max" = some (.builtin "max"):=by decide +kernel
theorem K2:bootBuiltins "str" = some (.type "str"):=by decide +kernel
theorem K3:bootBuiltins "int" = some (.type "int"):=by decide +kernel
theorem Lr:bootBuiltins "bool" = some (.type "bool"):=by decide +kernel
theorem Ef:bootBuiltins "tuple" = some (.type "tuple"):=by decide +kernel
theorem Cu:bootBuiltins "list" = some (.type "list"):=by decide +kernel
theorem AD {H1:Hp} {p:Addr} {o:HO} (s:Same H H1) (hp:H1 p=none):Same H (upd H1 p o):=fun b u e=>by
 have e':=s b u e;rw [AH (AJ e' hp)];exact e'
noncomputable def HN (c:Nat):Bool:=decide (65 <= c) && decide (c <= 90)
noncomputable def HQ (x:Str):Bool:=(decide (1 <= x.length) && decide (x.length <= 6)) && x.cps.toList.all HN
section
theorem BO {X:Cx} {e:Expr} {te:TE} {T:String} {x:Str} {p p2 pos:Pos} (K:FG) (hK:X.K=K) (hg:Gl X "isinstance") (hm:X.mg "isinstance" = none) (hgT:Gl X x) (hmT:X.mg x=none) (hvT:bootBuiltins x=some (.type T)) (he:PE X e te)
  (hn:x ≠ "__name__" := by decide) (hdb:(x == ("__debug__" : Str))=false:=by decide)
  (hs:starEach [e,.Name x p2] X.env=(false,eval e X.env) :: starEach [.Name x p2] X.env:=by rfl) (hpl:(backTo pos (starEach [.Name x p2] X.env)).any (·.1)=false:=by rfl) (hs2:starEach [.Name x p2] X.env=(false,eval (.Name x p2) X.env) :: starEach [] X.env:=by rfl) :
  PE X (.Call (.Name "isinstance" p) [e,.Name x p2] [] pos) (tCB (fun xs H Q=>∃ v T t b,xs=[v,.ty T]/\TyOf K H v t/\W.kitOne K t (.type T)=some b/\Q (.bl b) H) (Ar te (Ar (tC (.ty T)) CN))):=by
 subst hK;exact AV OO hg hm D9 (AA he (AA (LL hgT hmT hvT rfl hn hdb) AC hs2) hs) (by decide) (by decide) hs hpl
theorem Ai {X:Cx} (K:FG) (hK:X.K=K):IxR X (TD K):=hK ▸ P7
theorem Ls {X:Cx} (K:FG) (hK:X.K=K):IxR X (TF K):=hK ▸ Rq
theorem A4 {X:Cx} (K:FG) (hK:X.K=K):BY X (.builtin "len") (fun xs H Q=>∃ p ys,xs=[.ref p]/\(SqL K H p ys\/SqT K H p ys)/\Q (.int ys.length) H):=hK ▸ ER
def Gq:Sp:=fun vs H Q _=>∃ x:Str,vs=[.str x]/\x.cps.all (· < 128)=true/\x.length <= 1000/\∀ H',Same H H'->Q (.bl (HQ x)) H'
theorem Ot:AK ["thing"] ["thing"] (defScope Il):=fsc
theorem Ou (c:Nat):(if (!decide ((⟨#[c]⟩:Str).cps.toList < ("A" : Str).cps.toList))=true then (!decide (("Z" : Str).cps.toList < (⟨#[c]⟩:Str).cps.toList)) else false)=HN c:=by
 have hA:("A" : Str).cps.toList=[65]:=by decide +kernel
 have hZ:("Z" : Str).cps.toList=[90]:=by decide +kernel
 rw [hA,hZ];show (if (!decide ([c] < [65]))=true then !decide ([90] < [c]) else false)=HN c;unfold HN
 have e1:decide ([c] < [65])=decide (c < 65):=by
  rw [Bool.eq_iff_iff,decide_eq_true_eq,decide_eq_true_eq,List.cons_lt_cons_iff];simp
 have e2:decide ([90] < [c])=decide (90 < c):=by
  rw [Bool.eq_iff_iff,decide_eq_true_eq,decide_eq_true_eq,List.cons_lt_cons_iff];simp
 rw [e1,e2];by_cases h1:c < 65 <;> by_cases h2:90 < c <;> simp [h1,h2] <;> omega
theorem NG {t6:Tok} (F:Fun K "is_name" "is_name" Il f fd) (B:Bl mg) (hL:mg "LONGEST_NAME" = some (.int 6 t6)):Ae P w K mg base CX0 1 f fd ["thing"] Gq:=by
 refine F.m Ot fun vs H Q E h=>?_;obtain ⟨x,rfl,ha,hz,k⟩:=h;refine ⟨rfl,fun ad A outer s hr=>?_⟩
 refine ⟨_,AE (Av (PW.pt (CY (A3 (A9 (BO K rfl rfl B.isi rfl B.str K2 (pv 0)))) (Bs (A3 (Ca CZ CZ AG (AV IV rfl B.len PySem.boot_len (AA (pv 0) AC)) (BI (v:=.int 6) rfl hL ⟨t6,rfl⟩))))))
   (AF (AR Nq)) AY)
  (AF (AR (AV (EV rfl) rfl B.all Ip (AA (BU [] [] (by kernel_rfl) (by decide +kernel) (by kernel_rfl) rfl (Ru (pv 0)) (fun _ _ _ _ _ _=>A8) (fun _ _ _ _ _ _=>Fy Hw Hw Af (pv 0) Af)) AC)))),?_⟩
 refine ⟨_,rfl,_,_,_,true,rfl,.str x,rfl,_,rfl,?_⟩;refine An ?_;refine ⟨_,rfl,x,rfl,Nat.le_of_lt (Ad hz),_,_,rfl,rfl,_,rfl,?_⟩;refine Bj (fun h1=>?_) (fun h1=>?_)
 ·have h1':1 <= x.length:=by have:=of_decide_eq_true h1; omega
  refine ⟨_,_,rfl,rfl,_,rfl,?_⟩;refine Bj (fun h2=>?_) (fun h2=>?_)
  ·have h2':¬ x.length <= 6:=by
    intro z;rw [decide_eq_true (show (x.length:Int) <= 6 by omega)] at h2;cases h2
   have e:HQ x=false:=by unfold HQ; simp [h2']
   have:=k H (Same.refl H);rw [e] at this;exact this
  ·have h2':x.length <= 6:=Decidable.byContradiction fun z=>h2 (by rw [decide_eq_false (show ¬ (x.length:Int) <= 6 by omega)]; rfl);refine ⟨_,rfl,x,rfl,ha,Oq (x:=x) (fun i ys H2=>H2=H/\ys=(x.cps.toList.take i).map fun c=>V.bl (HN c)) ⟨rfl,rfl⟩ (fun i ys H2 ⟨_,e⟩=>?_) ?_ ?_⟩
   ·rw [e,AI,length_take];have:x.cps.toList.length=x.length:=by rw [Array.length_toList]; rfl
    omega
   ·rintro i c ys H2 hc ⟨rfl,rfl⟩;refine ⟨_,rfl,_,_,rfl,rfl,_,rfl,?_⟩
    have fin:∀ b,b=HN c->(H2=H2/\(x.cps.toList.take i).map (fun c=>V.bl (HN c))++[V.bl b]=(x.cps.toList.take (i + 1)).map fun c=>V.bl (HN c)):=fun b hb=>by
     refine ⟨rfl,?_⟩;have hc':x.cps.toList[i]?=some c:=by rw [Array.getElem?_toList]; exact hc
     rw [take_add_one,hc',map_append,hb];rfl
    have hu:=Ou c;refine Bj (fun h3=>?_) (fun h3=>?_)
    ·rw [if_pos h3] at hu;exact ⟨_,_,rfl,rfl,fin _ hu⟩
    ·rw [if_neg h3] at hu;exact fin _ hu
   ·rintro ys H2 ⟨rfl,rfl⟩ p hp;have el:x.cps.toList.take x.cps.size=x.cps.toList:=take_of_length_le (by rw [Array.length_toList]; exact Nat.le_refl _);refine ⟨p,x.cps.toList.map HN,rfl,SqL.of (by rw [AB,el,map_map]; rfl),?_⟩
    have e:HQ x=((x.cps.toList.map HN).all id):=by
     unfold HQ;rw [decide_eq_true h1',decide_eq_true h2',all_map];rfl
    rw [← e];exact k _ (AD (Same.refl _) hp)
 ·have h1':¬ 1 <= x.length:=fun z=>h1 (decide_eq_true (by omega));refine ⟨_,rfl,?_⟩;refine BC ?_;have e:HQ x=false:=by unfold HQ; simp [h1']
  have:=k H (Same.refl H);rw [e] at this;exact this
end
inductive Th where
 | non | num (n:Nat) | nms (ns:List Str)
def ThAt (H:Hp) (v:V):Th->Prop
 | .non=>v=.non
 | .num n=>v=.int (n:Int)
 | .nms ns=>∃ a,v=.ref a/\H a=some (.tup (ns.map V.str))
noncomputable def DQ (ns:List Nat):Nat:=ns.foldl max 0
noncomputable def look (due:Aa) (x:Str):Nat:=((due.find? fun p=>decide (p.1=x)).map (·.2)).getD 0
noncomputable def A2 (due:Aa):LK:=due.map fun p=>(Sum.inr p.1,V.int (p.2:Int))
noncomputable def CK (due:Aa):Th->Nat
 | .non=>BM (DQ (due.map (·.2)))
 | .num n=>n
 | .nms ns=>Ao (ns.map (look due))
theorem EB (x:Str):∀ due:Aa,BS (A2 due) (Sum.inr x)=(due.find? fun p=>decide (p.1=x)).map fun p=>V.int (p.2:Int)
 | []=>rfl
 | p :: r=>by
  show BS ((Sum.inr p.1,V.int (p.2:Int)) :: A2 r) (Sum.inr x)=_;by_cases e:p.1=x
  ·rw [DA (p:=(Sum.inr p.1,V.int (p.2:Int))) (by rw [← e]),List.find?_cons_of_pos (by simpa using e)]; rfl
  ·rw [DB (p:=(Sum.inr p.1,V.int (p.2:Int))) (fun z=>e (Sum.inr.inj z)),List.find?_cons_of_neg (by simpa using e)]; exact EB x r
theorem NH {x:Str} (h:x ∈ due.map (·.1)):(due.find? fun p=>decide (p.1=x)).isSome=true:=by
 obtain ⟨p,hp,e⟩:=mem_map.mp h;rw [List.find?_isSome];exact ⟨p,hp,by simpa using e⟩
theorem FR {x:Str} (h:x ∈ due.map (·.1)):BS (A2 due) (Sum.inr x)=some (V.int (look due x:Int)):=by
 rw [EB];unfold look;obtain ⟨p,hp⟩:=Option.isSome_iff_exists.mp (NH h);rw [hp]; rfl
theorem Eg {x:Str} (h:x ∉ due.map (·.1)):BS (A2 due) (Sum.inr x)=none:=by
 rw [EB]
 have:(due.find? fun p=>decide (p.1=x))=none:=by
  rw [List.find?_eq_none];intro p hp e;exact h (mem_map.mpr ⟨p,hp,by simpa using e⟩)
 rw [this]; rfl
theorem Eh {m:Nat}:∀ (l:List Nat) (a:Nat),a < m->(∀ n ∈ l,n < m)->l.foldl max a < m
 | [],a,h,_=>h
 | x :: r,a,h,k=>Eh r (max a x) (by have:=k x mem_cons_self; omega) fun n hn=>k n (mem_cons_of_mem _ hn)
theorem Jr {ns:List Nat} {m:Nat} (h0:0 < m) (h:∀ n ∈ ns,n < m):DQ ns < m:=Eh ns 0 h0 h
theorem Ov (a b:Nat):max (a:Int) (b:Int)=((max a b:Nat):Int):=by omega
theorem Gr:∀ (r:List Nat) (a:Nat),(r.map fun n:Nat=>(n:Int)).foldl max (a:Int)=((r.foldl max a:Nat):Int)
 | [],_=>rfl
 | x :: r,a=>by rw [map_cons,foldl_cons,Ov,Gr r]; rfl
theorem Js {ns:List Nat} (h:ns ≠ []):GS 0 (ns.map fun n:Nat=>(n:Int))=(DQ ns:Nat):=by
 cases ns with
 | nil=>exact absurd rfl h
 | cons a r =>
  show (r.map fun n:Nat=>(n:Int)).foldl max (a:Int)=_;rw [Gr];unfold DQ;rw [foldl_cons];have:max 0 a=a:=by omega
  rw [this]
theorem Gs {m:Nat} (h:m < 2 ^ 20):Builtin.Int.intBits (m:Int) <= 20:=by
 rcases Nat.eq_zero_or_pos m with e | hm
 ·subst e; decide
 ·rw [Br hm];have:m.log2 < 20:=(Nat.log2_lt (by omega)).mpr h;omega
section
def ED (K:FG):Sp:=fun vs H Q _=>∃ (a:Addr) (ns:List Nat),vs=[.ref a]/\SqL K H a (AU ns)/\(∀ n ∈ ns,n < 2 ^ 20)/\Q (.int (BM (DQ ns):Nat)) H
theorem K4:AK ["numbers"] ["numbers"] (defScope E3):=fsc
theorem Cw (ns:List Nat):AU ns=(ns.map fun n:Nat=>(n:Int)).map V.int:=by unfold AU; rw [map_map]; rfl
theorem Jt (F:Fun K "next_mark" "next_mark" E3 f fd) (B:Bl mg):Ae P w K mg base CX0 1 f fd ["numbers"] (ED K):=by
 refine F.m K4 fun vs H Q E h=>?_;obtain ⟨a,ns,rfl,hS,hlt,k⟩:=h;refine ⟨rfl,fun ad A outer s hr=>?_⟩;refine ⟨_,AF (AR (AL Bc AG (OB PySem.F.plainAttrs_int PySem.F.slot_int_bit_length PySem.F.type_int_bit_length EY (Ie rfl rfl B.max (pv 0) AG)))),?_⟩;have hm:=Jr (m:=2 ^ 20) (by decide) hlt
 have fin:∀ m:Int,m=(DQ ns:Nat)->tyV K "int" (.int m) H/\∃ i,V.int m=.int i/\([]:List V)=[]/\∃ i' j,V.int 1=.int i'/\V.int (Builtin.Int.intBits i:Nat)=.int j/\Ro i' j/\Q (.int (i' * 2 ^ j.toNat)) H:=fun m e=>by
  subst e;refine ⟨rfl,_,rfl,rfl,1,_,rfl,rfl,⟨Int.natCast_nonneg _,?_,by decide⟩,?_⟩
  ·have:=Gs hm; omega
  ·have e:(1:Int) * 2 ^ ((Builtin.Int.intBits (DQ ns:Nat):Nat):Int).toNat=((BM (DQ ns):Nat):Int):=by
    unfold BM;rw [Int.one_mul,Int.toNat_natCast];simp
   rw [e];exact k
 refine ⟨_,rfl,a,ns.map (fun n:Nat=>(n:Int)),0,rfl,rfl,by rw [← Cw]; exact hS,fun e=>?_,fun e=>?_⟩
 ·have e':ns=[]:=List.map_eq_nil_iff.mp e;exact fin 0 (by rw [e']; rfl)
 ·have e':ns ≠ []:=fun z=>e (by rw [z]; rfl);exact fin _ (Js e')
def Dg (K:FG):Sp:=fun vs H Q _=>(∃ (x:Str) (d:Addr) (kvs:LK),vs=[.str x,.ref d]/\Rd H d (.dK kvs)/\Q (.bl (BS kvs (Sum.inr x:Key)).isSome) H) \/
 (∃ (x:Str) (t:Addr) (xs:List Str),vs=[.str x,.ref t]/\SqT K H t (xs.map V.str)/\Q (.bl (inV (.str x) (xs.map V.str))) H)
theorem NI:AK ["thing", "names"] ["thing", "names"] (defScope Gi):=fsc
theorem FA:∀ xs:List Str,(xs.map V.str).all EQ=true
 | []=>rfl
 | _ :: r=>FA r
theorem K5 (F:Fun K "is_one_of" "is_one_of" Gi f fd) (B:Bl mg):Ae P w K mg base CX0 1 f fd ["thing", "names"] (Dg K):=by
 refine F.ok NI (fun vs H Q E h=>?_) (fun ad A outer s H vs Q E hr h=>?_)
 ·rcases h with ⟨x,d,kvs,rfl,_⟩ | ⟨x,t,xs,rfl,_⟩ <;> rfl
 ·have hu:=FO hr;rcases h with ⟨x,d,kvs,rfl,hd,k⟩ | ⟨x,t,xs,rfl,ht,k⟩
  ·refine ⟨_,AF (AR (Bg (BO K rfl rfl B.isi rfl B.str K2 (pv 0)) (B6 (Rj (OD hu (pv 0) (pv 1)))))),?_⟩;refine ⟨_,rfl,_,_,_,true,rfl,.str x,rfl,_,rfl,?_⟩;exact ⟨_,rfl,_,rfl,d,_,rfl,.inl ⟨kvs,Sum.inr x,hd,rfl,rfl⟩,k⟩
  ·refine ⟨_,AF (AR (Bg (BO K rfl rfl B.isi rfl B.str K2 (pv 0)) (B6 (CD Ex (pv 0) (pv 1) (by with_unfolding_all rfl))))),?_⟩;refine ⟨_,rfl,_,_,_,true,rfl,.str x,rfl,_,rfl,?_⟩;exact ⟨_,rfl,_,rfl,t,_,rfl,.inr ht,rfl,FA xs,k⟩
def DR:Sp:=fun vs H Q _=>∃ (a d:Addr) (ns:List Str) (kvs:LK),vs=[.ref a,.ref d]/\H a=some (.tup (ns.map V.str))/\ns.length <= 1000/\Rd H d (.dK kvs) /\
 ∀ H',Same H H'->Q (.bl (decide (0 < ns.length) && ns.all fun x=>(BS kvs (Sum.inr x:Key)).isSome)) H'
theorem Ju:AK ["parts", "ahead"] ["parts", "ahead"] (defScope D0):=fsc
theorem Same.rd {a:Addr} {u:HO} (s:Same H H') (h:Rd H a u):Rd H' a u:=by
 rcases h with h | ⟨o,h⟩
 ·exact .inl (s _ _ h)
 ·exact .inr ⟨o,s _ _ h⟩
theorem Iq (F:Fun K "is_names_of" "is_names_of" D0 f fd) (B:Bl mg) (GO:Fn P w K mg base "is_one_of" 1 ["thing", "names"] (Dg K)):Ae P w K mg base CX0 2 f fd ["parts", "ahead"] DR:=by
 obtain ⟨fO,dO,GO,mO,kO,bO⟩:=GO.ex;refine F.m Ju fun vs H Q E h=>?_;obtain ⟨a,d,ns,kvs,rfl,ha,hz,hd,k⟩:=h;refine ⟨rfl,fun ad A outer s hr=>?_⟩;have hu:=FO hr
 refine ⟨_,AF (AR (Bg (CD LU (AV ER rfl B.len PySem.boot_len (AA (pv 0) AC)) AG (AZ _))
  (B6 (AV (EV rfl) rfl B.all Ip (AA (BU ["ahead"] [some 1] (by kernel_rfl) (by decide +kernel) (by kernel_rfl) rfl (Ny (pv 0)) (fun _ _ _ _ _ _=>A8)
   (fun _ _ _ _ _ _=>AO GO hr rfl mO kO bO .nil AQ (AA (pv 0) (AA (pv 1) AC)))) AC))))),?_⟩
 have hl:(ns.map V.str).length=ns.length:=AI _;refine ⟨_,rfl,a,_,rfl,.inr (SqT.of ha),_,_,rfl,rfl,_,rfl,?_⟩;refine Bj (fun h1=>?_) (fun h1=>?_)
 ·have h1':0 < ns.length:=by have:=of_decide_eq_true h1; rw [hl] at this; omega
  refine ⟨_,rfl,a,rfl,⟨_,SqT.of ha⟩,Ja (K:=K) (a:=a) (xs:=ns.map V.str) (fun i ys H2=>H2=H/\ys=(ns.take i).map fun x=>V.bl (BS kvs (Sum.inr x:Key)).isSome) ⟨rfl,rfl⟩ (fun i ys H2 _ ⟨e,_⟩=>e ▸ SqT.of ha) (fun i ys H2 ⟨_,e⟩=>?_) ?_ ?_⟩
  ·rw [e,AI,length_take]; omega
  ·rintro i v ys H2 hi ⟨rfl,rfl⟩;rw [getElem?_map] at hi
   obtain ⟨x,hx,rfl⟩:∃ x,ns[i]?=some x/\v=V.str x:=by
    cases e:ns[i]? with
    | none=>rw [e] at hi; cases hi
    | some x=>rw [e] at hi; exact ⟨x,rfl,(Option.some.inj hi).symm⟩
   refine ⟨_,rfl,_,rfl,.inl ⟨x,d,kvs,rfl,hd,rfl,?_⟩⟩;rw [take_add_one,hx,map_append];rfl
  ·rintro ys H2 ⟨rfl,rfl⟩ p hp;have el:ns.take (ns.map V.str).length=ns:=by rw [hl]; exact take_length
   refine ⟨p,ns.map fun x=>(BS kvs (Sum.inr x:Key)).isSome,rfl,SqL.of (by rw [AB,el,map_map]; rfl),?_⟩
   have e:(decide (0 < ns.length) && ns.all fun x=>(BS kvs (Sum.inr x:Key)).isSome)=(ns.map fun x=>(BS kvs (Sum.inr x:Key)).isSome).all id:=by
    rw [decide_eq_true h1',Bool.true_and,all_map];rfl
   rw [← e];exact k _ (AD (Same.refl _) hp)
 ·have h1':¬ 0 < ns.length:=fun z=>h1 (decide_eq_true (by rw [hl]; omega));have:=k H (Same.refl H);rw [decide_eq_false h1',Bool.false_and] at this;exact this
def Cb:Sp:=fun vs H Q _=>∃ n:Int,vs=[.int n]/\Q (.bl true) H
theorem IE:AK ["thing"] ["thing"] (defScope DH):=fsc
theorem K6 (F:Fun K "is_whole" "is_whole" DH f fd) (B:Bl mg):Ae P w K mg base CX0 1 f fd ["thing"] Cb:=by
 refine F.m IE fun vs H Q E h=>?_;obtain ⟨n,rfl,k⟩:=h;refine ⟨rfl,fun ad A outer s hr=>?_⟩;refine ⟨_,AF (AR (Bg (BO K rfl rfl B.isi rfl B.int K3 (pv 0)) (B6 (Nr (BO K rfl rfl B.isi rfl B.bool Lr (pv 0)))))),?_⟩;refine ⟨_,rfl,_,_,_,true,rfl,.int n,rfl,_,rfl,?_⟩;exact ⟨_,rfl,_,_,_,false,rfl,.int n,(by kernel_rfl),_,rfl,k⟩
structure Ei (due:Aa):Prop where
 len:due.length <= 10
 lt:∀ p ∈ due,p.2 < 2 ^ 20
 nd:(due.map (·.1)).Nodup
 nm:∀ p ∈ due,HQ p.1=true/\p.1.cps.all (· < 128)=true/\p.1.length <= 1000
def Qg (due:Aa):Th->Prop
 | .non=>True
 | .num _=>True
 | .nms ns=>ns ≠ []/\ns.length <= 10/\∀ x ∈ ns,x ∈ due.map (·.1)
def Ir:Sp:=fun vs H Q _=>∃ (tv:V) (th:Th) (d:Addr) (due:Aa),vs=[tv,.ref d]/\ThAt H tv th/\Rd H d (.dK (A2 due))/\Ei due/\Qg due th/\∀ H',Same H H'->Q (.int (CK due th:Nat)) H'
theorem Qh:AK ["thing", "ahead"] ["thing", "ahead"] (defScope Cq):=fsc
theorem Ow (due:Aa):(A2 due).map (·.2)=AU (due.map (·.2)):=by unfold A2 AU; rw [map_map,map_map]; rfl
theorem Ox (F:Fun K "thing_number" "thing_number" Cq f fd) (B:Bl mg) (GN:Fn P w K mg base "next_mark" 1 ["numbers"] (ED K)) (GI:Fn P w K mg base "is_names_of" 2 ["parts", "ahead"] DR)
  (GU:Fn P w K mg base "union_of" 1 ["numbers"] (Df K)) (GW:Fn P w K mg base "is_whole" 1 ["thing"] Cb):Ae P w K mg base CX0 3 f fd ["thing", "ahead"] Ir:=by
 obtain ⟨fN,dN,GN,mN,kN,bN⟩:=GN.ex;obtain ⟨fI,dI,GI,mI,kI,bI⟩:=GI.ex;obtain ⟨fU,dU,GU,mU,kU,bU⟩:=GU.ex;obtain ⟨fW,dW,GW,mW,kW,bW⟩:=GW.ex;refine F.m Qh fun vs H Q E h=>?_;obtain ⟨tv,th,d,due,rfl,hT,hd,DO,TO,k⟩:=h;refine ⟨rfl,fun ad A outer s hr=>?_⟩;have hu:=FO hr;have hr1:Room 1 _:=hr.mono (by decide)
 refine ⟨_,AE (Av (Fu (KM (pv 0))) (AF (AR (AO GN hr1 rfl mN kN bN .nil AQ (AA (B1 (Kl rfl) rfl B.list Cu (AA (OM PySem.F.slot_dict_values PySem.F.type_dict_values Mn (pv 1)) AC)) AC)))) AY)
  (AE (Av (PW.pt (C6 (A9 (BO K rfl rfl B.isi rfl B.tuple Ef (pv 0))) (CA (A9 (AO GI hr rfl mI kI bI .nil AQ (AA (pv 0) (AA (pv 1) AC)))))))
   (AF (AR (AO GU hr1 rfl mU kU bU .nil AQ (AA (BU ["ahead"] [some 1] (by kernel_rfl) (by decide +kernel) (by kernel_rfl) rfl (Ny (pv 0)) (fun _ _ _ _ _ _=>A8) (fun _ _ _ _ _ _=>CJ hu (pv 1) (pv 0) (fun _ _=>rfl))) AC)))) AY)
  (AE (Av (A9 (AO GW hr1 rfl mW kW bW .nil AQ (AA (pv 0) AC))) (AF (AR (pv 0))) AY)
  (AF Am))),?_⟩
 refine ⟨_,rfl,_,rfl,?_⟩;cases th with
 | non =>
  have e:tv=.non:=hT;subst e;refine Bj (fun _=>?_) (fun z=>absurd rfl z);refine ⟨_,rfl,d,rfl,.inl ⟨_,hd⟩,d,_,rfl,rfl,hd,fun p hp=>?_⟩;refine ⟨p,d,_,rfl,AB,Same.rd (AD (Same.refl _) hp) hd,fun l hl=>?_⟩;refine ⟨l,due.map (·.2),rfl,SqL.of (by rw [AB,Ow]),fun n hn=>?_,?_⟩
  ·obtain ⟨q,hq,rfl⟩:=mem_map.mp hn;exact DO.lt q hq
  ·exact k _ (AD (AD (Same.refl _) hp) hl)
 | num n =>
  have e:tv=.int (n:Int):=hT;subst e;refine Bj (fun z=>absurd (of_decide_eq_true z) (by intro q; cases q)) (fun _=>?_);refine ⟨_,rfl,_,_,_,false,rfl,.int _,(by kernel_rfl),_,rfl,?_⟩;refine An ?_;refine ⟨_,rfl,n,rfl,_,rfl,?_⟩;refine BC ?_;exact ⟨_,rfl,k H (Same.refl H)⟩
 | nms ns =>
  obtain ⟨a,rfl,ha⟩:=hT;obtain ⟨aw,hln,hin⟩:=TO;refine Bj (fun z=>absurd (of_decide_eq_true z) (by intro q; cases q)) (fun _=>?_);refine ⟨_,rfl,_,_,_,true,rfl,.tup ha,rfl,_,rfl,?_⟩;have hl:(ns.map V.str).length=ns.length:=AI _;refine ⟨_,rfl,_,rfl,a,d,ns,A2 due,rfl,ha,by omega,hd,fun H1 s1=>⟨_,rfl,?_⟩⟩
  have e1:(decide (0 < ns.length) && ns.all fun x=>(BS (A2 due) (Sum.inr x:Key)).isSome)=true:=by
   rw [Bool.and_eq_true,decide_eq_true_eq,List.all_eq_true];refine ⟨List.length_pos_iff.mpr aw,fun x hx=>?_⟩;rw [FR (hin x hx)];rfl
  rw [e1];refine BC ?_;refine ⟨_,rfl,a,rfl,⟨_,SqT.of (s1 _ _ ha)⟩,Ja (K:=K) (a:=a) (xs:=ns.map V.str) (fun i ys H2=>H2=H1/\ys=AU ((ns.take i).map (look due))) ⟨rfl,rfl⟩ (fun i ys H2 _ ⟨e,_⟩=>e ▸ SqT.of (s1 _ _ ha)) (fun i ys H2 ⟨_,e⟩=>?_) ?_ ?_⟩
  ·rw [e];unfold AU;rw [AI,AI,length_take];omega
  ·rintro i v ys H2 hi ⟨rfl,rfl⟩;rw [getElem?_map] at hi
   obtain ⟨x,hx,rfl⟩:∃ x,ns[i]?=some x/\v=V.str x:=by
    cases e:ns[i]? with
    | none=>rw [e] at hi; cases hi
    | some x=>rw [e] at hi; exact ⟨x,rfl,(Option.some.inj hi).symm⟩
   refine ⟨_,rfl,_,rfl,d,_,rfl,.inl ⟨A2 due,Sum.inr x,Same.rd s1 hd,rfl,(FR (hin x (mem_of_getElem? hx))).symm⟩,rfl,?_⟩;rw [take_add_one,hx,map_append];unfold AU;rw [map_append];rfl
  ·rintro ys H2 ⟨rfl,rfl⟩ p hp;have el:ns.take (ns.map V.str).length=ns:=by rw [hl]; exact take_length
   refine ⟨p,ns.map (look due),rfl,SqL.of (by rw [AB,el]),?_⟩;exact k _ (AD s1 hp)
end
end Mk
end
section
namespace L2
open PySem
theorem Oy {a:Addr} {xs:List V} {g:TG} {tb:TS} {D:C4} {σ:St} (Pv:Nat->St->Hp->Prop) (h0:Pv 0 σ H) (hl:∀ i σ H,i <= xs.length->Pv i σ H->SqL K H a xs)
  (hs:∀ i x σ H p,xs[i]?=some x->Pv i σ H->H p=none->g (.ref p) σ (upd H p (.tup [.int i,x])) fun σ2 H2=>tb { D with nx:=Pv (i + 1),ct:=Pv (i + 1),bk:=D.nx } σ2 H2) (hd:∀ σ H,Pv xs.length σ H->D.nx σ H) :
  ∃ W:Nat->Nat->St->Hp->Prop,(∃ m,W 0 m σ H)/\∀ i m σ H,W i m σ H ->
   ((Ite K a).stop i H/\D.nx σ H)\/((Ite K a).go i H/\∃ N:St->Hp->Prop,(∀ σ' H',N σ' H'->∃ m',m' < m/\W (i + 1) m' σ' H')/\∀ x H',(Ite K a).yld i H x H'->g x σ H' fun σ2 H2=>tb { D with nx:=N,ct:=N,bk:=D.nx } σ2 H2):=by
 refine ⟨fun i m σ H=>m=xs.length - i/\i <= xs.length/\Pv i σ H,⟨_,rfl,Nat.zero_le _,h0⟩,?_⟩;rintro i m σ H ⟨rfl,hi,hp⟩;by_cases hlt:i < xs.length
 ·have hx:xs[i]?=some xs[i]:=List.getElem?_eq_getElem hlt;refine .inr ⟨⟨xs,xs[i],hl i σ H hi hp,hx⟩,Pv (i + 1),fun σ' H' q=>⟨xs.length - (i + 1),by omega,rfl,hlt,q⟩,?_⟩;rintro x H' ⟨p,y,hn,rfl,hy,rfl⟩
  have ex:y=xs[i]:=by
   have:=hy xs (hl i σ H hi hp);rw [hx] at this;exact (Option.some.inj this).symm
  subst ex;exact hs i xs[i] σ H p hx hp hn
 ·have e:i=xs.length:=by omega
  subst e;exact .inl ⟨⟨xs,hl _ σ H hi hp,Nat.le_refl _⟩,hd σ H hp⟩
theorem NJ {a:Addr} {o:Obj} {kvs:LK} {g:TG} {tb:TS} {D:C4} {σ:St} (Pv:Nat->St->Hp->Prop) (h0:Pv 0 σ H) (hl:∀ i σ H,Pv i σ H->H a=some (.frz o (.dK kvs)))
  (hs:∀ i kv σ H p,kvs[i]?=some kv->Pv i σ H->H p=none->g (.ref p) σ (upd H p (.tup [kV kv.1,kv.2])) fun σ2 H2=>tb { D with nx:=Pv (i + 1),ct:=Pv (i + 1),bk:=D.nx } σ2 H2) (hd:∀ σ H,Pv kvs.length σ H->D.nx σ H) :
  ∃ W:Nat->Nat->St->Hp->Prop,(∃ m,W 0 m σ H)/\∀ i m σ H,W i m σ H ->
   ((Iti a o kvs).stop i H/\D.nx σ H)\/((Iti a o kvs).go i H/\∃ N:St->Hp->Prop,(∀ σ' H',N σ' H'->∃ m',m' < m/\W (i + 1) m' σ' H')/\∀ x H',(Iti a o kvs).yld i H x H'->g x σ H' fun σ2 H2=>tb { D with nx:=N,ct:=N,bk:=D.nx } σ2 H2):=by
 refine ⟨fun i m σ H=>m=kvs.length - i/\i <= kvs.length/\Pv i σ H,⟨_,rfl,Nat.zero_le _,h0⟩,?_⟩;rintro i m σ H ⟨rfl,hi,hp⟩;by_cases hlt:i < kvs.length
 ·refine .inr ⟨⟨hl i σ H hp,hlt⟩,Pv (i + 1),fun σ' H' q=>⟨kvs.length - (i + 1),by omega,rfl,hlt,q⟩,?_⟩;rintro x H' ⟨p,kv,hn,rfl,hkv,rfl⟩;exact hs i kv σ H p hkv hp hn
 ·have e:i=kvs.length:=by omega
  subst e;exact .inl ⟨⟨hl _ σ H hp,Nat.le_refl _⟩,hd σ H hp⟩
end L2
namespace Mk
open PySem L2 MK
def Tc (x:Str):Prop:=HQ x=true/\x.cps.all (· < 128)=true/\x.length <= 1000
structure Lu (due:Aa) (r:Str × Th):Prop where
 ahead:Ei due
 few:due.length < 10
 nm:Tc r.1
 new:r.1 ∉ due.map (·.1)
 th:Qg due r.2
 lt:CK due r.2 < 2 ^ 20
noncomputable def dues (rows:List (Str × Th)):Aa:=rows.foldl (fun due r=>due++[(r.1,CK due r.2)]) []
theorem FB (rows:List (Str × Th)) (r:Str × Th):dues (rows++[r])=dues rows++[(r.1,CK (dues rows) r.2)]:=by unfold dues; rw [foldl_append]; rfl
def EE (rows:List (Str × Th)):Prop:=∀ (i:Nat) r,rows[i]?=some r->Lu (dues (rows.take i)) r
def RowAt (H:Hp) (b:Addr) (r:Str × Th):Prop:=∃ tv,H b=some (.tup [.str r.1,tv])/\ThAt H tv r.2
def Oz (H:Hp) (l:Addr) (rows:List (Str × Th)):Prop:=∃ as:List Addr,H l=some (.lst (as.map V.ref))/\Paired (RowAt H) as rows
theorem ThAt.same {v:V} {th:Th} (s:Same H H') (h:ThAt H v th):ThAt H' v th:=by
 cases th with
 | non=>exact h
 | num n=>exact h
 | nms ns=>obtain ⟨a,e,h⟩:=h; exact ⟨a,e,s _ _ h⟩
theorem RowAt.same {b:Addr} {r:Str × Th} (s:Same H H') (h:RowAt H b r):RowAt H' b r:=by
 obtain ⟨tv,e,t⟩:=h;exact ⟨tv,s _ _ e,t.same s⟩
theorem A5 {α β:Type} {F:α->β->Prop}:∀ {xs:List α} {ys:List β} {i:Nat} {x:α},Paired F xs ys->xs[i]?=some x->∃ y,ys[i]?=some y/\F x y
 | _,_,_,_,.nil,e=>by simp at e
 | _,_,0,_,.cons r _,e=>by simp at e; subst e; exact ⟨_,rfl,r⟩
 | _,_,i + 1,x,.cons _ t,e=>by
  obtain ⟨u,h1,h2⟩:=A5 (i:=i) (x:=x) t (by simpa using e);exact ⟨u,by simpa using h1,h2⟩
theorem Gu {H1:Hp} {d:Addr} {o:HO} (s:Same H H1) (hd:H d=none):Same H (upd H1 d o):=fun b u e=>by
 rw [AH (AJ e hd)];exact s b u e
section
def O0:Sp:=fun vs H Q _=>∃ (b d:Addr) (r:Str × Th) (due:Aa),vs=[.ref b,.ref d]/\RowAt H b r/\Rd H d (.dK (A2 due))/\Lu due r/\∀ H',Same H H'->Q (.int (CK due r.2:Nat)) H'
theorem scRow:AK ["row", "ahead", "name", "thing", "number"] ["row", "ahead"] (defScope D1):=fsc
theorem SH {tg:Tok} (F:Fun K "row_number" "row_number" D1 f fd) (B:Bl mg) (hG:mg "GREATEST" = some (.int 1048575 tg)) (GN:Fn P w K mg base "is_name" 1 ["thing"] Gq) (GT:Fn P w K mg base "thing_number" 3 ["thing", "ahead"] Ir) :
  Ae P w K mg base CX0 4 f fd ["row", "ahead"] O0:=by
 obtain ⟨fN,dN,GN,mN,kN,bN⟩:=GN.ex;obtain ⟨fT,dT,GT,mT,kT,bT⟩:=GT.ex;refine F.m scRow fun vs H Q E h=>?_;obtain ⟨b,d,r,due,rfl,⟨tv,hb,hT⟩,hd,RO,k⟩:=h;refine ⟨rfl,fun ad A outer s hr=>?_⟩;have hu:=FO hr;have hr1:Room 1 _:=hr.mono (by decide)
 refine ⟨_,AE (Av (PW.pt (CY (A3 (A9 (BO K rfl rfl B.isi rfl B.tuple Ef (pv 0)))) (Bs (AW EO (AV (A4 K rfl) rfl B.len PySem.boot_len (AA (pv 0) AC)) AG (AZ _))))) (AF Am) AY)
  (AE (Bb (pv 0) (BA rfl (AM (AN (i:=2) scRow.nd rfl (Or.inl rfl)) (AM (AN (i:=3) scRow.nd rfl (Or.inl rfl)) Aw))))
  (AE (Av (PW.pt (CY (A3 (A9 (AO GN hr1 rfl mN kN bN .nil AQ (AA (pv 2) AC)))) (Bs (Fu (OD hu (pv 2) (pv 1)))))) (AF Am) AY)
  (AE (Ag (i:=4) scRow.nd rfl (Or.inl rfl) (AO GT hr rfl mT kT bT .nil AQ (AA (pv 3) (AA (pv 1) AC))))
  (AE (Av (PW.pt (CY (Fu (KM (pv 4))) (Bs (A3 (Ca CZ CZ AG (pv 4) (BI (v:=.int 1048575) rfl hG ⟨tg,rfl⟩)))))) (AF Am) AY)
  (AF (AR (pv 4))))))),?_⟩
 refine ⟨_,rfl,_,_,_,true,rfl,.tup hb,rfl,_,rfl,?_⟩;refine An ?_;refine ⟨_,rfl,b,_,rfl,.inr (SqT.of hb),rfl,_,rfl,?_⟩;refine Le rfl ?_;refine ⟨_,rfl,b,_,rfl,SqT.of hb,rfl,_,_,rfl,_,_,rfl,rfl,?_⟩;refine ⟨_,rfl,r.1,rfl,RO.nm.2.1,RO.nm.2.2,fun H1 s1=>⟨_,rfl,?_⟩⟩;rw [RO.nm.1];refine An ?_;refine ⟨_,rfl,_,rfl,d,_,rfl,.inl ⟨A2 due,Sum.inr r.1,Same.rd s1 hd,rfl,(Eg RO.new).symm⟩,_,rfl,?_⟩;refine An ?_;refine ⟨_,rfl,_,rfl,tv,r.2,d,due,rfl,hT.same s1,Same.rd s1 hd,RO.ahead,RO.th,fun H2 s2=>?_⟩;refine ⟨_,rfl,_,rfl,?_⟩;refine Bj (fun z=>absurd (of_decide_eq_true z) (by intro q; cases q)) (fun _=>?_);refine ⟨_,rfl,_,_,rfl,rfl,_,rfl,?_⟩;refine Bj (fun _=>?_) (fun z=>absurd (decide_eq_true (Int.natCast_nonneg _)) z);refine ⟨_,_,rfl,rfl,_,rfl,?_⟩;have hlt:=RO.lt;refine Le (show ((CK due r.2:Nat):Int) <= 1048575 by omega) ?_;exact ⟨_,rfl,k _ (s1.trans s2)⟩
def EG:Sp:=fun vs H Q _=>∃ (l:Addr) (rows:List (Str × Th)),vs=[.ref l]/\Oz H l rows/\0 < rows.length/\rows.length <= 10/\EE rows /\
 ∀ d H',Same H H'->H d=none->H' d=some (.dK (A2 (dues rows)))->Q (.ref d) H'
theorem scNumbered:AK ["rows", "numbers", "at", "row", "number"] ["rows"] (defScope E4):=fsc
theorem Qi {x:Str} {n:Nat} (h:x ∉ due.map (·.1)):CO (A2 due) (Sum.inr x:Key) (V.int (n:Int))=A2 (due++[(x,n)]):=by
 rw [JU _ (Eg h)];unfold A2;rw [map_append];rfl
theorem IF (due:Aa):(A2 due).length=due.length:=AI _
theorem Bd:∀ rows:List (Str × Th),(dues rows).length=rows.length:=fun rows=>by
 have:∀ (l:List (Str × Th)) (a:Aa),(l.foldl (fun due r=>due++[(r.1,CK due r.2)]) a).length=a.length + l.length:=by
  intro l;induction l with
  | nil=>intro a; rfl
  | cons x r ih=>intro a; rw [foldl_cons,ih,length_append,length_cons,length_cons,length_nil]; omega
 have e:=this rows [];rw [length_nil] at e;unfold dues;omega
theorem Jv {tm:Tok} (F:Fun K "numbered" "numbered" E4 f fd) (B:Bl mg) (hM:mg "MOST_ROWS" = some (.int 10 tm)) (GR:Fn P w K mg base "row_number" 4 ["row", "ahead"] O0):Ae P w K mg base CX0 5 f fd ["rows"] EG:=by
 obtain ⟨fR,dR,GR,mR,kR,bR⟩:=GR.ex;refine F.m scNumbered fun vs H Q E h=>?_;obtain ⟨l,rows,rfl,⟨as,hl,hP⟩,h0,h10,RO,k⟩:=h;refine ⟨rfl,fun ad A outer s hr=>?_⟩;have hu:=FO hr;have az:as.length=rows.length:=hP.length
 refine ⟨_,AE (Av (PW.pt (CY (A3 (A9 (BO K rfl rfl B.isi rfl B.list Cu (pv 0)))) (Bs (A3 (Ca CZ CZ AG (AV (A4 K rfl) rfl B.len PySem.boot_len (AA (pv 0) AC)) (BI (v:=.int 10) rfl hM ⟨tm,rfl⟩)))))) (AF Am) AY)
  (AE (Ag (i:=1) scNumbered.nd rfl (Or.inl rfl) F7)
  (AE (Bh PassesOwn.never rfl (QJ rfl B.enum (AA (pv 0) AC)) (BA rfl (AM (AN (i:=2) scNumbered.nd rfl (Or.inl rfl)) (AM (AN (i:=3) scNumbered.nd rfl (Or.inl rfl)) Aw)))
   (AE (Ag (i:=4) scNumbered.nd rfl (Or.inl rfl) (AO GR hr rfl mR kR bR .nil AQ (AA (pv 3) (AA (pv 1) AC))))
   (AE (Av (Fu (KM (pv 4))) (AF Am) AY)
   (AF (Ld hu (pv 1) (BD (Ls K rfl) (pv 3) AG (fun _ _=>rfl)) (pv 4) rfl)))))
  (AF (AR (pv 1))))),?_⟩
 refine ⟨_,rfl,_,_,_,true,rfl,.lst hl,rfl,_,rfl,?_⟩;refine An ?_;have hll:(as.map V.ref).length=rows.length:=by rw [AI,az]
 refine ⟨_,rfl,l,_,rfl,.inl (SqL.of hl),_,_,rfl,rfl,_,rfl,?_⟩;refine Bj (fun _=>?_) (fun z=>absurd (decide_eq_true (by rw [hll]; omega)) z);refine ⟨_,_,rfl,rfl,_,rfl,?_⟩;refine Le (show (((as.map V.ref).length:Nat):Int) <= 10 by rw [hll]; omega) ?_;intro d hdn
 refine ⟨_,rfl,l,rfl,⟨_,SqL.of (AD (Same.refl _) hdn _ _ hl)⟩,Oy (K:=K) (a:=l) (xs:=as.map V.ref) (fun i σ H2=>∃ v1 v2 v3:Option V,σ=[some (.ref l),some (.ref d),v1,v2,v3]/\Same H H2/\H2 d=some (.dK (A2 (dues (rows.take i)))))
  ⟨none,none,none,rfl,AD (Same.refl _) hdn,AB⟩ (fun i σ H2 _ ⟨_,_,_,_,s2,_⟩=>SqL.of (s2 _ _ hl)) ?_ ?_⟩
 ·rintro i y σ H2 p hi ⟨v1,v2,v3,rfl,s2,hd2⟩ hp;rw [getElem?_map] at hi
  obtain ⟨b,hb,rfl⟩:∃ b,as[i]?=some b/\y=V.ref b:=by
   cases e:as[i]? with
   | none=>rw [e] at hi; cases hi
   | some x=>rw [e] at hi; exact ⟨x,rfl,(Option.some.inj hi).symm⟩
  obtain ⟨r,hr',hra⟩:=A5 hP hb;have R1:=RO i r hr';have s3:Same H (upd H2 p (.tup [.int i,.ref b])):=AD s2 hp;have hd3:(upd H2 p (.tup [.int i,.ref b])) d=some (.dK (A2 (dues (rows.take i)))):=by rw [AH (AJ hd2 hp)]; exact hd2
  refine ⟨p,_,rfl,SqT.of AB,rfl,_,_,rfl,_,_,rfl,rfl,?_⟩;refine ⟨_,rfl,_,rfl,b,d,r,dues (rows.take i),rfl,hra.same s3,.inl hd3,R1,fun H4 s4=>?_⟩;refine ⟨_,rfl,_,rfl,?_⟩;refine Bj (fun z=>absurd (of_decide_eq_true z) (by intro q; cases q)) (fun _=>?_);obtain ⟨tv,ai,_⟩:=hra.same (s3.trans s4);refine ⟨_,rfl,_,rfl,_,rfl,b,_,0,.str r.1,rfl,rfl,SqT.of ai,rfl,d,_,rfl,DPut.k (k:=Sum.inr r.1) (s4 _ _ hd3) (Ad (by rw [IF,Bd,length_take]; omega)),?_⟩;refine ⟨_,_,_,rfl,Gu (s3.trans s4) hdn,?_⟩;rw [AB,Qi R1.new,take_add_one,hr',Option.toList_some,FB]
 ·rintro σ H2 ⟨v1,v2,v3,rfl,s2,hd2⟩;rw [hll,take_length] at hd2;exact ⟨_,rfl,k d H2 s2 hdn hd2⟩
end
noncomputable def Ah (due:Aa):List (Nat × Str):=due.foldl (fun fs p=>if (fs.map (·.1)).contains p.2 then fs else fs++[(p.2,p.1)]) []
noncomputable def Bu (fs:List (Nat × Str)):LK:=fs.map fun q=>(Sum.inl (q.1:Int),V.str q.2)
noncomputable def Jw (fs:List (Nat × Str)) (n:Nat):Str:=((fs.find? fun q=>decide (q.1=n)).map (·.2)).getD (Str.ofString "")
theorem CL (due:Aa) (p:Str × Nat):Ah (due++[p])=if ((Ah due).map (·.1)).contains p.2 then Ah due else Ah due++[(p.2,p.1)]:=by unfold Ah; rw [foldl_append]; rfl
theorem FC (n:Nat):∀ fs:List (Nat × Str),BS (Bu fs) (Sum.inl (n:Int):Key)=(fs.find? fun q=>decide (q.1=n)).map fun q=>V.str q.2
 | []=>rfl
 | q :: r=>by
  show BS ((Sum.inl (q.1:Int),V.str q.2) :: Bu r) (Sum.inl (n:Int))=_;by_cases e:q.1=n
  ·rw [DA (p:=(Sum.inl (q.1:Int),V.str q.2)) (by rw [← e]),List.find?_cons_of_pos (by simpa using e)]; rfl
  ·rw [DB (p:=(Sum.inl (q.1:Int),V.str q.2)) (fun z=>e (by have:=Sum.inl.inj z; omega)),List.find?_cons_of_neg (by simpa using e)]; exact FC n r
theorem K7 {fs:List (Nat × Str)} {n:Nat} (h:n ∈ fs.map (·.1)):(fs.find? fun q=>decide (q.1=n)).isSome=true:=by
 obtain ⟨q,hq,e⟩:=mem_map.mp h;rw [List.find?_isSome];exact ⟨q,hq,by simpa using e⟩
theorem Gv {fs:List (Nat × Str)} {n:Nat} (h:n ∈ fs.map (·.1)):BS (Bu fs) (Sum.inl (n:Int):Key)=some (V.str (Jw fs n)):=by
 rw [FC];unfold Jw;obtain ⟨q,hq⟩:=Option.isSome_iff_exists.mp (K7 h);rw [hq]; rfl
theorem FD {fs:List (Nat × Str)} {n:Nat} (h:n ∉ fs.map (·.1)):BS (Bu fs) (Sum.inl (n:Int):Key)=none:=by
 rw [FC]
 have:(fs.find? fun q=>decide (q.1=n))=none:=by
  rw [List.find?_eq_none];intro q hq e;exact h (mem_map.mpr ⟨q,hq,by simpa using e⟩)
 rw [this]; rfl
theorem Jx {fs:List (Nat × Str)} {n:Nat} {x:Str} (h:n ∉ fs.map (·.1)):CO (Bu fs) (Sum.inl (n:Int):Key) (V.str x)=Bu (fs++[(n,x)]):=by
 rw [JU _ (FD h)];unfold Bu;rw [map_append];rfl
theorem Cy (due:Aa):(Ah due).length <= due.length:=by
 have:∀ (l:Aa) (a:List (Nat × Str)),(l.foldl (fun fs p=>if (fs.map (·.1)).contains p.2 then fs else fs++[(p.2,p.1)]) a).length <= a.length + l.length:=by
  intro l;induction l with
  | nil=>intro a; exact Nat.le_refl _
  | cons x r ih =>
   intro a;rw [foldl_cons];refine Nat.le_trans (ih _) ?_;split
   ·rw [length_cons]; omega
   ·rw [length_append,length_cons,length_cons,length_nil]; omega
 have e:=this due [];rw [length_nil] at e;unfold Ah;omega
theorem DS (due:Aa):∀ (a:List (Nat × Str)),(a.map (·.1)).Nodup->(∀ n ∈ a.map (·.1),n ∈ (due.foldl (fun fs p=>if (fs.map (·.1)).contains p.2 then fs else fs++[(p.2,p.1)]) a).map (·.1)) /\
  ((due.foldl (fun fs p=>if (fs.map (·.1)).contains p.2 then fs else fs++[(p.2,p.1)]) a).map (·.1)).Nodup/\(∀ p ∈ due,p.2 ∈ (due.foldl (fun fs p=>if (fs.map (·.1)).contains p.2 then fs else fs++[(p.2,p.1)]) a).map (·.1)) /\
  (∀ q ∈ due.foldl (fun fs p=>if (fs.map (·.1)).contains p.2 then fs else fs++[(p.2,p.1)]) a,q ∈ a\/(q.2,q.1) ∈ due):=by
 induction due with
 | nil=>intro a ha; exact ⟨fun n hn=>hn,ha,fun p hp=>(nomatch hp),fun q hq=>.inl hq⟩
 | cons p r ih =>
  intro a ha;rw [foldl_cons];by_cases hc:(a.map (·.1)).contains p.2=true
  ·rw [if_pos hc];obtain ⟨i1,i2,i3,i4⟩:=ih a ha;refine ⟨i1,i2,fun q hq=>?_,fun q hq=>?_⟩
   ·rcases mem_cons.mp hq with rfl | hq
    ·exact i1 _ (by simpa using hc)
    ·exact i3 q hq
   ·rcases i4 q hq with z | z
    ·exact .inl z
    ·exact .inr (mem_cons_of_mem _ z)
  ·rw [if_neg hc];have hnot:p.2 ∉ a.map (·.1):=fun z=>hc (by simpa using z);obtain ⟨i1,i2,i3,i4⟩:=ih (a++[(p.2,p.1)]) (by rw [map_append]; exact Lf ha hnot);refine ⟨fun n hn=>i1 n (by rw [map_append]; exact mem_append_left _ hn),i2,fun q hq=>?_,fun q hq=>?_⟩
   ·rcases mem_cons.mp hq with rfl | hq
    ·exact i1 _ (by rw [map_append]; exact mem_append_right _ (by simp))
    ·exact i3 q hq
   ·rcases i4 q hq with z | z
    ·rcases mem_append.mp z with z | z
     ·exact .inl z
     ·have:q=(p.2,p.1):=by simpa using z
      subst this;exact .inr mem_cons_self
    ·exact .inr (mem_cons_of_mem _ z)
theorem NK (due:Aa):((Ah due).map (·.1)).Nodup:=(DS due [] nodup_nil).2.1
theorem NM {p:Str × Nat} (h:p ∈ due):p.2 ∈ (Ah due).map (·.1):=(DS due [] nodup_nil).2.2.1 p h
theorem IG {q:Nat × Str} (h:q ∈ Ah due):(q.2,q.1) ∈ due:=by
 rcases (DS due [] nodup_nil).2.2.2 q h with z | z
 ·cases z
 ·exact z
section
def Gw:Sp:=fun vs H Q _=>∃ (d:Addr) (o:Obj) (due:Aa),vs=[.ref d]/\H d=some (.frz o (.dK (A2 due)))/\due.length <= 100/\∀ e H',Same H H'->H e=none->H' e=some (.dK (Bu (Ah due)))->Q (.ref e) H'
theorem scFirsts:AK ["numbers", "firsts", "name", "number"] ["numbers"] (defScope DI):=fsc
theorem O1 {i:Nat} {kv:Key × V} (h:(A2 due)[i]?=some kv):∃ p,due[i]?=some p/\kv=(Sum.inr p.1,V.int (p.2:Int)):=by
 unfold A2 at h;rw [getElem?_map] at h;cases e:due[i]? with
 | none=>rw [e] at h; cases h
 | some p=>rw [e] at h; exact ⟨p,rfl,(Option.some.inj h).symm⟩
theorem NN (F:Fun K "first_names" "first_names" DI f fd):Ae P w K mg base CX0 1 f fd ["numbers"] Gw:=by
 refine F.m scFirsts fun vs H Q E h=>?_;obtain ⟨d,o,due,rfl,hd,hz,k⟩:=h;refine ⟨rfl,fun ad A outer s hr=>?_⟩
 refine ⟨_,AE (Ag (i:=1) scFirsts.nd rfl (Or.inl rfl) F7)
  (AE (Bh PassesOwn.never rfl (OH (pv 0)) (BA rfl (AM (AN (i:=2) scFirsts.nd rfl (Or.inl rfl)) (AM (AN (i:=3) scFirsts.nd rfl (Or.inl rfl)) Aw)))
   (AF (Bx (FN PySem.F.plainAttrs_dict PySem.F.slot_dict_setdefault PySem.F.type_dict_setdefault HK (pv 1) (AA (pv 3) (AA (pv 2) AC))))))
  (AF (AR (pv 1)))),?_⟩
 intro e he
 refine ⟨_,rfl,d,o,A2 due,rfl,AD (Same.refl _) he _ _ hd,NJ (a:=d) (o:=o) (kvs:=A2 due) (fun i σ H2=>∃ v1 v2:Option V,σ=[some (.ref d),some (.ref e),v1,v2]/\Same H H2/\H2 e=some (.dK (Bu (Ah (due.take i)))))
  ⟨none,none,rfl,AD (Same.refl _) he,AB⟩ (fun i σ H2 ⟨_,_,_,s2,_⟩=>s2 _ _ hd) ?_ ?_⟩
 ·rintro i kv σ H2 p hkv ⟨v1,v2,rfl,s2,he2⟩ hp;obtain ⟨pr,hpr,rfl⟩:=O1 hkv;have s3:Same H (upd H2 p (.tup [.str pr.1,.int (pr.2:Int)])):=AD s2 hp;have he3:(upd H2 p (.tup [.str pr.1,.int (pr.2:Int)])) e=some (.dK (Bu (Ah (due.take i)))):=by rw [AH (AJ he2 hp)]; exact he2
  have et:due.take (i + 1)=due.take i++[pr]:=by rw [take_add_one,hpr]; rfl
  have hle:(Bu (Ah (due.take i))).length <= 100:=by
   unfold Bu;rw [AI];have:=Cy (due.take i);rw [length_take] at this;omega
  refine ⟨p,_,rfl,SqT.of AB,rfl,_,_,rfl,_,_,rfl,rfl,?_⟩;refine ⟨_,rfl,.inr (.inr (.inl ⟨rfl,.inl ⟨_,he3⟩⟩)),_,rfl,_,rfl,e,_,Sum.inl (pr.2:Int),.str pr.1,rfl,rfl,he3,Ad (by omega),fun w' hw=>?_,fun hn=>?_⟩
  ·refine ⟨_,_,rfl,s3,?_⟩;have z:pr.2 ∈ (Ah (due.take i)).map (·.1):=Decidable.byContradiction fun z=>by rw [FD z] at hw; cases hw
   rw [et,CL,if_pos (by simpa using z)];exact he3
  ·have z:pr.2 ∉ (Ah (due.take i)).map (·.1):=fun z=>by rw [Gv z] at hn; cases hn
   refine ⟨_,_,rfl,Gu s3 he,?_⟩;rw [AB,et,CL,if_neg (by simpa using z),Jx z]
 ·rintro σ H2 ⟨v1,v2,rfl,s2,he2⟩;rw [IF,take_length] at he2;exact ⟨_,rfl,k e H2 s2 he he2⟩
end
theorem n12:¬ (("numbers" : Str) = "firsts"):=by decide +kernel
theorem n13:¬ (("numbers" : Str) = "rule"):=by decide +kernel
theorem n23:¬ (("firsts" : Str) = "rule"):=by decide +kernel
noncomputable def FX (d1 d2:Addr) (r:Str):List (Str × V):=BP "rule" (.str r) (BP "firsts" (.ref d2) (BP "numbers" (.ref d1) []))
theorem O2 (d1 d2:Addr) (r:Str):(FX d1 d2 r).lookup ("numbers" : Str)=some (.ref d1):=by
 unfold FX;rw [Ac,if_neg n13,Ac,if_neg n12,Ac,if_pos rfl]
theorem O3 (d1 d2:Addr) (r:Str):(FX d1 d2 r).lookup ("firsts" : Str)=some (.ref d2):=by
 unfold FX;rw [Ac,if_neg n23,Ac,if_pos rfl]
theorem FE (d1 d2:Addr) (r:Str):(FX d1 d2 r).lookup ("rule" : Str)=some (.str r):=by
 unfold FX;rw [Ac,if_pos rfl]
theorem Bz (d1 d2:Addr) (r:Str) {m:Str} (h1:¬ m = "rule" := by decide +kernel) (h2:¬ m = "firsts" := by decide +kernel) (h3:¬ m = "numbers" := by decide +kernel):(FX d1 d2 r).lookup m=none:=by
 unfold FX;rw [Ac,if_neg h1,Ac,if_neg h2,Ac,if_neg h3];rfl
theorem Qj (d1:Addr):(BP "numbers" (V.ref d1) []).lookup ("numbers" : Str)=some (.ref d1):=by rw [Ac,if_pos rfl]
structure KindAt (C:Addr) (H:Hp) (p:Addr) (due:Aa) (r:Str):Prop where
 ex:∃ dx d1 o1 d2 o2,H p=some (.ins C dx (FX d1 d2 r))/\H d1=some (.frz o1 (.dK (A2 due)))/\H d2=some (.frz o2 (.dK (Bu (Ah due))))
theorem KindAt.same {p:Addr} {r:Str} (s:Same H H') (h:KindAt C H p due r):KindAt C H' p due r:=by
 obtain ⟨dx,d1,o1,d2,o2,a,b,c⟩:=h.ex;exact ⟨⟨dx,d1,o1,d2,o2,s _ _ a,s _ _ b,s _ _ c⟩⟩
structure Ej (K:FG) (C:Addr):Prop where
 cl:Cls K C
 nN:NoAttr K C "numbers"
 nF:NoAttr K C "firsts"
 nR:NoAttr K C "rule"
noncomputable def ruleNames:List Str:=["bar", "drop", "keep", "leave"]
section
def O4 (C:Addr):Sp:=fun vs H Q _=>∃ (p dx l:Addr) (rows:List (Str × Th)) (r:Str),vs=[.ref p,.ref l,.str r]/\H p=some (.ins C dx [])/\Oz H l rows/\0 < rows.length/\rows.length <= 10/\EE rows/\r ∈ ruleNames /\
 ∀ H',(∀ b o,H b=some o->b ≠ p->H' b=some o)->KindAt C H' p (dues rows) r->Q .non H'
theorem SI:AK ["self", "rows", "rest"] ["self", "rows", "rest"] (defScope BF):=fsc
theorem O5 {r:Str} (h:r ∈ ruleNames):inV (.str r) (ruleNames.map V.str)=true:=by
 unfold inV;rw [any_map,any_eq_true];exact ⟨r,h,by show (r == r)=true; simp⟩
theorem Qk {aR:Addr} (F:Fun K "__init__" "Kind.__init__" BF f fd) (B:Bl mg) (T:Ej K C) (hR:mg "RULES" = some (.ref aR)) (hRT:∀ H:Hp,SqT K H aR (ruleNames.map V.str))
  (GN:Fn P w K mg base "numbered" 5 ["rows"] EG) (GF:Fn P w K mg base "first_names" 1 ["numbers"] Gw) (GO:Fn P w K mg base "is_one_of" 1 ["thing", "names"] (Dg K)):Ae P w K mg base CX0 6 f fd ["self", "rows", "rest"] (O4 C):=by
 obtain ⟨fN,dN,GN,mN,kN,bN⟩:=GN.ex;obtain ⟨fF,dF,GF,mF,kF,bF⟩:=GF.ex;obtain ⟨fO,dO,GO,mO,kO,bO⟩:=GO.ex;refine F.m SI fun vs H Q E h=>?_;obtain ⟨p,dx,l,rows,r,rfl,hp,RA,h0,h10,RO,ao,k⟩:=h;refine ⟨rfl,fun ad A outer s hr=>?_⟩;have hr1:Room 1 _:=hr.mono (by decide)
 refine ⟨_,AE (Ev (pv 0) (AO GN hr rfl mN kN bN .nil AQ (AA (pv 1) AC)) rfl)
  (GJ (AE (Av (A3 (A9 (AO GO hr1 rfl mO kO bO .nil AQ (AA (pv 2) (AA (BI (v:=.ref aR) rfl hR rfl) AC))))) (AF Am) AY)
  (AE (Ev (pv 0) (AO GF hr1 rfl mF kF bF .nil AQ (AA (BG (pv 0) rfl) AC)) rfl)
  (GJ (AF (Ev (pv 0) (pv 2) rfl)))))),?_⟩
 refine ⟨_,rfl,l,rows,rfl,RA,h0,h10,RO,fun d1 H1 s1 hd1n hd1=>?_⟩;have npd:p ≠ d1:=AJ hp hd1n;refine ⟨_,rfl,p,C,dx,[],rfl,s1 _ _ hp,T.cl,T.nN,(by show 0 < 1000; decide),?_⟩;refine ⟨d1,A2 (dues rows),by rw [AH (Ne.symm npd)]; exact hd1,fun o1=>?_⟩;refine ⟨_,rfl,.inr ⟨r,aR,ruleNames,rfl,hRT _,_,rfl,?_⟩⟩;rw [O5 ao];refine An ?_;have ak:∀ o,(upd (upd H1 p (.ins C dx (BP "numbers" (.ref d1) []))) d1 o) p=some (.ins C dx (BP "numbers" (.ref d1) [])):=fun o=>by rw [AH npd,AB]
 refine ⟨_,rfl,p,C,dx,_,_,rfl,ak _,T.cl,T.nN,Qj d1,d1,o1,dues rows,rfl,AB,by rw [Bd]; omega,fun d2 H2 s2 hd2n hd2=>?_⟩;have npd2:p ≠ d2:=AJ (ak _) hd2n;have hp3:=s2 _ _ (ak _);refine ⟨_,rfl,p,C,dx,_,rfl,hp3,T.cl,T.nF,(by show 1 < 1000; decide),?_⟩;refine ⟨d2,Bu (Ah (dues rows)),by rw [AH (Ne.symm npd2)]; exact hd2,fun o2=>?_⟩;have hp4:∀ o,(upd (upd H2 p (.ins C dx (BP "firsts" (.ref d2) (BP "numbers" (.ref d1) [])))) d2 o) p=some (.ins C dx (BP "firsts" (.ref d2) (BP "numbers" (.ref d1) []))):=fun o=>by rw [AH npd2,AB]
 refine ⟨_,rfl,_,rfl,p,C,dx,_,rfl,hp4 _,T.cl,T.nR,Nat.lt_of_le_of_lt (CG _ _ _) (by show 2 < 1000; decide),?_⟩;have nd12:d1 ≠ d2:=AJ (AB (H:=upd H1 p (.ins C dx (BP "numbers" (.ref d1) []))) (o:=.frz o1 (.dK (A2 (dues rows))))) hd2n;refine k _ (fun b o e hb=>?_) ⟨⟨dx,d1,o1,d2,o2,AB,?_,?_⟩⟩
 ·rw [AH hb,AH,AH hb]
  ·refine s2 _ _ ?_;rw [AH (AJ e hd1n),AH hb];exact s1 _ _ e
  ·intro z;subst z
   have:(upd (upd H1 p (.ins C dx (BP "numbers" (.ref d1) []))) d1 (.frz o1 (.dK (A2 (dues rows))))) b=some o:=by
    rw [AH (AJ e hd1n),AH hb];exact s1 _ _ e
   rw [hd2n] at this;cases this
 ·rw [AH (Ne.symm npd),AH nd12,AH (Ne.symm npd)];exact s2 _ _ AB
 ·rw [AH (Ne.symm npd2),AB]
end
structure Mt (P:Program) (w:World) (K:FG) (mg:SV) (base:Heap) (C:Addr) (m:Str) (k:Nat) (ps:List Str) (sp:Sp):Prop where
 ex:∃ f fd,Ae P w K mg base CX0 k f fd ps sp/\IR K C m f/\Binds K fd ps []
noncomputable def DT (due:Aa):List (V × V):=due.map fun p=>(V.str p.1,V.int (p.2:Int))
noncomputable def BK (due:Aa):List Nat:=((Ah due).map (·.1)).mergeSort fun a b=>decide (a <= b)
noncomputable def A6 (due:Aa):List Nat:=(BK due).filter BX
noncomputable def Lv (due:Aa):List (V × V):=(A6 due).map fun n=>(V.str (Jw (Ah due) n),V.int (n:Int))
theorem Cz (due:Aa):(BK due).Perm ((Ah due).map (·.1)):=List.mergeSort_perm _ _
theorem Ek (due:Aa):(BK due).Pairwise (· <= ·):=by
 have:=List.pairwise_mergeSort (le:=fun a b:Nat=>decide (a <= b)) (fun a b c h1 h2=>by simp at h1 h2 ⊢; omega) (fun a b=>by simp; omega) ((Ah due).map (·.1));exact this.imp fun h=>by simpa using h
theorem O6 {ns:List Int} (hp:ns.Perm ((Bu (Ah due)).map fun kv=>match kv.1 with | Sum.inl i=>i | Sum.inr _=>0)) (hs:ns.Pairwise (· <= ·)):ns=(BK due).map fun n:Nat=>(n:Int):=by
 refine List.Perm.eq_of_pairwise (le:=(· <= ·)) (fun a b _ _ h1 h2=>Int.le_antisymm h1 h2) hs ?_ ?_
 ·rw [List.pairwise_map];exact (Ek due).imp fun h=>by omega
 ·have e:((Bu (Ah due)).map fun kv=>match kv.1 with | Sum.inl i=>i | Sum.inr _=>0)=((Ah due).map (·.1)).map fun n:Nat=>(n:Int):=by
   unfold Bu;rw [map_map,map_map];rfl
  rw [e] at hp;exact hp.trans ((Cz due).symm.map _)
theorem mem_keysS {n:Nat}:n ∈ BK due ↔ n ∈ (Ah due).map (·.1):=(Cz due).mem_iff
theorem IH (due:Aa):(BK due).length <= due.length:=by
 rw [(Cz due).length_eq,AI];exact Cy due
section
def K8 (C:Addr):Sp:=fun vs H Q _=>∃ (p:Addr) (due:Aa) (r:Str),vs=[.ref p]/\KindAt C H p due r/\∀ l as H',Same H H'->H' l=some (.lst (as.map V.ref))->TupsAt H' as (DT due)->Q (.ref l) H'
theorem SJ:AK ["self"] ["self"] (defScope E5):=fsc
theorem Ql (due:Aa):(A2 due).map (fun kv=>(kV kv.1,kv.2))=DT due:=by unfold A2 DT; rw [map_map]; rfl
theorem Qm (F:Fun K "rows" "Kind.rows" E5 f fd) (B:Bl mg) (T:Ej K C):Ae P w K mg base CX0 1 f fd ["self"] (K8 C):=by
 refine F.m SJ fun vs H Q E h=>?_;obtain ⟨p,due,r,rfl,KA,k⟩:=h;refine ⟨rfl,fun ad A outer s hr=>?_⟩;obtain ⟨dx,d1,o1,d2,o2,hp,h1,h2⟩:=KA.ex;refine ⟨_,AF (AR (B1 (Km rfl) rfl B.list Cu (AA (OM PySem.F.slot_dict_items PySem.F.type_dict_items ON (BG (pv 0) rfl)) AC))),?_⟩;refine ⟨_,rfl,p,C,dx,_,_,rfl,hp,T.cl,T.nN,O2 _ _ _,d1,rfl,.inl ⟨_,.inr ⟨o1,h1⟩⟩,d1,_,rfl,rfl,.inr ⟨o1,h1⟩,fun v hv=>?_⟩;have s1:Same H (upd H v (Lg d1 v)):=AD (Same.refl _) hv;refine ⟨v,d1,_,rfl,AB,Same.rd s1 (.inr ⟨o1,h1⟩),fun l as H' s2 _ hl ht=>?_⟩;rw [Ql] at ht;exact k l as H' (s1.trans s2) hl ht
def Dh (C:Addr):Sp:=fun vs H Q _=>∃ (p:Addr) (due:Aa) (r:Str),vs=[.ref p]/\KindAt C H p due r/\∀ H',Same H H'->Q (.int (Ao ((Ah due).map (·.1)):Nat)) H'
theorem Qn:AK ["self"] ["self"] (defScope D3):=fsc
theorem O7 (F:Fun K "known" "Kind.known" D3 f fd) (B:Bl mg) (T:Ej K C) (GU:Fn P w K mg base "union_of" 1 ["numbers"] (Df K)):Ae P w K mg base CX0 2 f fd ["self"] (Dh C):=by
 obtain ⟨fU,dU,GU,mU,kU,bU⟩:=GU.ex;refine F.m Qn fun vs H Q E h=>?_;obtain ⟨p,due,r,rfl,KA,k⟩:=h;refine ⟨rfl,fun ad A outer s hr=>?_⟩;obtain ⟨dx,d1,o1,d2,o2,hp,h1,h2⟩:=KA.ex;refine ⟨_,AF (AR (AO GU hr rfl mU kU bU .nil AQ (AA (B1 (Kk rfl) rfl B.list Cu (AA (BG (pv 0) rfl) AC)) AC))),?_⟩;refine ⟨_,rfl,p,C,dx,_,_,rfl,hp,T.cl,T.nF,O3 _ _ _,d2,_,rfl,.inr ⟨o2,h2⟩,fun l hl=>?_⟩;refine ⟨l,(Ah due).map (·.1),rfl,SqL.of (by rw [AB]; unfold Bu AU; rw [map_map,map_map]; rfl),k _ (AD (Same.refl _) hl)⟩
theorem NO {as:List Addr} {ps:List (V × V)} {b:Addr} {p:V × V} (s:Same H H') (h:TupsAt H as ps) (hb:H' b=some (.tup [p.1,p.2])):TupsAt H' (as++[b]) (ps++[p]):=Paired.snoc (TupsAt.same s h) hb
end
theorem Jy {as:List Addr} {ps:List (V × V)} {i:Nat} {b:Addr} (h:TupsAt H as ps) (e:as[i]?=some b):∃ p,ps[i]?=some p/\H b=some (.tup [p.1,p.2]):=A5 h e
section
theorem KindAt.ins {p:Addr} {r:Str} (h:KindAt C H p due r):∃ dx d1 d2,H p=some (.ins C dx (FX d1 d2 r)):=by
 obtain ⟨dx,d1,o1,d2,o2,a,_⟩:=h.ex;exact ⟨dx,d1,d2,a⟩
theorem NP (due:Aa):(Lv due).length=(A6 due).length:=AI _
end
theorem Lw (h:∀ p ∈ due,p.2 < 2 ^ 20):∀ n ∈ (Ah due).map (·.1),n < 2 ^ 20:=fun n hn=>by
 obtain ⟨q,hq,rfl⟩:=mem_map.mp hn;exact h _ (IG hq)
theorem O8 (h:∀ p ∈ due,p.2 < 2 ^ 20):∀ n ∈ A6 due,n < 2 ^ 20:=fun n hn=>Lw h n (mem_keysS.mp (mem_filter.mp hn).1)
theorem El {x:Int} {n:Nat} (h0:0 <= x) (h:x < 2 ^ n):Builtin.Int.intBits x <= n:=by
 obtain ⟨m,rfl⟩:=Int.eq_ofNat_of_zero_le h0;have hm:m < 2 ^ n:=by exact_mod_cast h
 rcases Nat.eq_zero_or_pos m with e | hp
 ·subst e; exact Nat.zero_le _
 ·rw [Br hp];exact (Nat.log2_lt (by omega)).mpr hm
theorem K9 {xs:List V} {i:Int} (h0:0 <= i) (h1:i < xs.length):∃ v,atI xs i=some v/\xs[i.toNat]?=some v:=by
 have hlt:i.toNat < xs.length:=by omega
 refine ⟨xs[i.toNat],?_,List.getElem?_eq_getElem hlt⟩;unfold atI ixN;rw [if_pos h0,if_pos h1];exact List.getElem?_eq_getElem hlt
structure SameX (d:Addr) (H H':Hp):Prop where
 old:∀ b o,H b=some o->b ≠ d->H' b=some o
 dice:∃ a b:Int,H' d=some (.lst [.int a,.int b])
theorem SameX.step {d:Addr} {H1 H2:Hp} (x:SameX d H H1) (s:Same H1 H2):SameX d H H2 :=
 ⟨fun b o e hb=>s _ _ (x.old b o e hb),by obtain ⟨a,b,e⟩:=x.dice; exact ⟨a,b,s _ _ e⟩⟩
theorem SameX.upd {d:Addr} {H1:Hp} {a b:Int} (x:SameX d H H1):SameX d H (upd H1 d (.lst [.int a,.int b])) :=
 ⟨fun c o e hc=>by rw [AH hc]; exact x.old c o e hc,⟨a,b,AB⟩⟩
theorem SameX.trans {d:Addr} {H1 H2:Hp} (x:SameX d H H1) (y:SameX d H1 H2):SameX d H H2:=⟨fun b o e hb=>y.old _ _ (x.old b o e hb) hb,y.dice⟩
section
def LA (K:FG):Sp:=fun vs H Q _=>∃ (a:Addr) (ns:List Int) (k:Int),vs=[.ref a,.int k]/\SqL K H a (ns.map V.int)/\ns.length <= 63/\0 <= k/\∀ (v:Int) H',Same H H'->Q (.int v) H'
theorem SK:AK ["_law_script", "_law_k"] ["_law_script", "_law_k"] (defScope Gm):=fsc
theorem Qo (F:Fun K "_law_cell" "_law_cell" Gm f fd) (B:Bl mg):Ae P w K mg base CX0 1 f fd ["_law_script", "_law_k"] (LA K):=by
 refine F.m SK fun vs H Q E h=>?_;obtain ⟨a,ns,kk,rfl,hS,h63,hk,k⟩:=h;refine ⟨rfl,fun ad A outer s hr=>?_⟩;have hu:=hr.units
 refine ⟨_,AE (Av (AW (Rw K rfl hu) (pv 0) (BB AC) (AZ _)) (AF (AR (AL Fx (pv 1) AG))) AY)
  (AF (AR (AL Bi (BD (Ai K rfl) (pv 0) (AL Ck (pv 1) (AV (A4 K rfl) rfl B.len PySem.boot_len (AA (pv 0) AC))) (fun _ _=>rfl))
   (AL Fx (AL FZ (pv 1) (AV (A4 K rfl) rfl B.len PySem.boot_len (AA (pv 0) AC))) AG)))),?_⟩
 refine ⟨_,rfl,Nat.zero_le _,fun p hp=>?_⟩;have s1:Same H (upd H p (.lst [])):=AD (Same.refl _) hp;refine ⟨a,p,ns,[],rfl,rfl,s1.seq hS,SqL.of AB,_,rfl,?_⟩;refine Bj (fun h0=>?_) (fun h0=>?_)
 ·exact ⟨_,rfl,_,_,rfl,rfl,.inr ⟨by decide,by decide⟩,k _ _ s1⟩
 ·have aw:ns ≠ []:=fun z=>h0 (decide_eq_true z);have b8:0 < ns.length:=List.length_pos_iff.mpr aw;have hl:(ns.map V.int).length=ns.length:=AI _;have hm0:0 <= kk % ((ns.map V.int).length:Int):=Int.emod_nonneg _ (by rw [hl]; omega);have hm1:kk % ((ns.map V.int).length:Int) < ((ns.map V.int).length:Nat):=Int.emod_lt_of_pos _ (by rw [hl]; omega);obtain ⟨v,hv,hv2⟩:=K9 (xs:=ns.map V.int) hm0 hm1
  obtain ⟨n,rfl⟩:∃ n,v=V.int n:=by
   rw [getElem?_map] at hv2;cases e:ns[(kk % ((ns.map V.int).length:Int)).toNat]? with
   | none=>rw [e] at hv2; cases hv2
   | some n=>rw [e] at hv2; exact ⟨n,(Option.some.inj hv2).symm⟩
  refine ⟨_,rfl,_,rfl,_,rfl,a,_,rfl,.inl (s1.seq hS),_,_,rfl,rfl,(by rw [hl]; omega),a,_,_,_,rfl,rfl,s1.seq hS,hv,?_⟩;exact ⟨_,rfl,_,rfl,a,_,rfl,.inl (s1.seq hS),_,_,rfl,rfl,⟨by rw [hl]; omega,by rw [hl]; omega⟩,_,_,rfl,rfl,.inr ⟨by decide,by decide⟩,_,_,rfl,rfl,k _ _ s1⟩
def Fh:Sp:=fun vs H Q _=>∃ (c k:Int),vs=[.int c,.int k]/\∀ r:Int,0 <= r->Q (.int r) H
theorem scDrawn:AK ["_law_cell_here", "_law_k", "_law_more"] ["_law_cell_here", "_law_k"] (defScope E8):=fsc
theorem O9 (F:Fun K "_law_drawn" "_law_drawn" E8 f fd):Ae P w K mg base CX0 1 f fd ["_law_cell_here", "_law_k"] Fh:=by
 refine F.m scDrawn fun vs H Q E h=>?_;obtain ⟨c,kk,rfl,k⟩:=h;refine ⟨rfl,fun ad A outer s hr=>?_⟩
 refine ⟨_,AE (Ag (i:=2) scDrawn.nd rfl (Or.inl rfl) (AL Ck (AL Bi (AL Fx (pv 0) AG) (AL Fx (AL Bi (pv 1) AG) AG)) AG))
  (AE (Ag (i:=2) scDrawn.nd rfl (Or.inl rfl) (AL Ck (AL Ig (pv 2) (pv 2)) AG))
  (AE (Ag (i:=2) scDrawn.nd rfl (Or.inl rfl) (AL Ig (AL Ig (AL Bi (AL Ck (pv 2) AG) AG) (AL Bi (AL Jb (pv 2) AG) AG)) (pv 2)))
  (AF (AR (AL Ck (pv 2) AG))))),?_⟩
 refine ⟨_,rfl,_,_,rfl,rfl,.inr ⟨by decide,by decide⟩,_,rfl,_,_,rfl,rfl,_,_,rfl,rfl,.inr ⟨by decide,by decide⟩,_,_,rfl,rfl,_,_,rfl,rfl,(by show (0:Int) < _; decide),?_⟩;generalize ha:(c * 6364136223846793005 + (kk + 1) * 1442695040888963407) % 340282366920938463463374607431768211507=m1
 have h1:0 <= m1/\m1 < 2 ^ 130:=by
  rw [← ha];exact ⟨Int.emod_nonneg _ (by decide),Int.lt_trans (Int.emod_lt_of_pos _ (by decide)) (by decide)⟩
 have b1:Builtin.Int.intBits m1 <= 2 ^ 20:=Nat.le_trans (El h1.1 h1.2) (by decide);subst ha;refine ⟨_,rfl,_,rfl,_,_,rfl,rfl,⟨b1,b1⟩,_,_,rfl,rfl,(by show (0:Int) < _; decide),?_⟩;generalize hb:(c * 6364136223846793005 + (kk + 1) * 1442695040888963407) % 340282366920938463463374607431768211507 * ((c * 6364136223846793005 + (kk + 1) * 1442695040888963407) % 340282366920938463463374607431768211507) % 340282366920938463463374607431768211297=m2
 have h2:0 <= m2/\m2 < 2 ^ 130:=by
  rw [← hb];exact ⟨Int.emod_nonneg _ (by decide),Int.lt_trans (Int.emod_lt_of_pos _ (by decide)) (by decide)⟩
 have b2:Builtin.Int.intBits m2 <= 2 ^ 20:=Nat.le_trans (El h2.1 h2.2) (by decide)
 have p1:0 <= m2 % 18446744073709551557 + 1/\m2 % 18446744073709551557 + 1 < 2 ^ 65:=by
  have:=Int.emod_nonneg m2 (show (18446744073709551557:Int) ≠ 0 by decide);have:=Int.emod_lt_of_pos m2 (show (0:Int) < 18446744073709551557 by decide);omega
 have p2:0 <= m2 / 18446744073709551557 + 1/\m2 / 18446744073709551557 + 1 < 2 ^ 131:=by
  have h3:=Int.ediv_nonneg h2.1 (show (0:Int) <= 18446744073709551557 by decide);have h4:=Int.ediv_le_self (18446744073709551557) h2.1;omega
 have p3:0 <= (m2 % 18446744073709551557 + 1) * (m2 / 18446744073709551557 + 1):=Int.mul_nonneg p1.1 p2.1
 have p4:(m2 % 18446744073709551557 + 1) * (m2 / 18446744073709551557 + 1) < 2 ^ 196:=by
  have:=Int.mul_lt_mul' (Int.le_of_lt p1.2) p2.2 p2.1 (show (0:Int) < 2 ^ 65 by decide);exact Int.lt_of_lt_of_le this (by decide)
 have c1:Builtin.Int.intBits (m2 % 18446744073709551557 + 1) <= 2 ^ 20:=Nat.le_trans (El p1.1 p1.2) (by decide);have c2:Builtin.Int.intBits (m2 / 18446744073709551557 + 1) <= 2 ^ 20:=Nat.le_trans (El p2.1 p2.2) (by decide);have c3:Builtin.Int.intBits ((m2 % 18446744073709551557 + 1) * (m2 / 18446744073709551557 + 1)) <= 2 ^ 20:=Nat.le_trans (El p3 p4) (by decide);subst hb;refine ⟨_,rfl,_,_,rfl,rfl,(by show (0:Int) < _; decide),_,_,rfl,rfl,_,rfl,_,_,rfl,rfl,⟨by decide,PyProof.noPylong_of_log2 (by decide +kernel)⟩,_,_,rfl,rfl,_,_,rfl,rfl,⟨c1,c2⟩,?_⟩;refine ⟨_,rfl,_,_,rfl,rfl,⟨c3,b2⟩,?_⟩;exact ⟨_,rfl,_,_,rfl,rfl,(by show (0:Int) < _; decide),k _ (Int.emod_nonneg _ (by decide))⟩
def Gx:Sp:=fun vs H Q _=>∃ (d:Addr) (a b m:Int),vs=[.ref d,.int m]/\H d=some (.lst [.int a,.int b])/\0 < m/\m < 1073741824/\∀ r a' b':Int,0 <= r->r < m->Q (.int r) (upd H d (.lst [.int a',.int b']))
theorem scRoll:AK ["_law_dice", "_law_many", "_law_told_here"] ["_law_dice", "_law_many"] (defScope DL):=fsc
theorem Qp (F:Fun K "_law_roll" "_law_roll" DL f fd) (GD:Fn P w K mg base "_law_drawn" 1 ["_law_cell_here", "_law_k"] Fh):Ae P w K mg base CX0 2 f fd ["_law_dice", "_law_many"] Gx:=by
 obtain ⟨fD,dD,GD,mD,kD,bD⟩:=GD.ex;refine F.m scRoll fun vs H Q E h=>?_;obtain ⟨d,a,b,m,rfl,hd,m0,m1,k⟩:=h;refine ⟨rfl,fun ad A outer s hr=>?_⟩
 refine ⟨_,AE (Av (AW JQ (BD (Ai K rfl) (pv 0) AG (fun _ _=>rfl)) (AL IQ AG AG) (AZ _))
   (AE (Ag (i:=2) scRoll.nd rfl (Or.inl rfl) (AL Ck (BD (Ai K rfl) (pv 0) AG (fun _ _=>rfl)) (pv 1)))
   (AE (Bb (AL FZ (BD (Ai K rfl) (pv 0) AG (fun _ _=>rfl)) (pv 1)) (Fv (pv 0) AG C9))
   (AF (AR (pv 2))))) AY)
  (AE (Bb (AL Bi (BD (Ai K rfl) (pv 0) AG (fun _ _=>rfl)) AG) (Fv (pv 0) AG C9))
  (AF (AR (AL Ck (AL FZ (AO GD hr rfl mD kD bD .nil AQ (AA (BD (Ai K rfl) (pv 0) AG (fun _ _=>rfl)) (AA (BD (Ai K rfl) (pv 0) AG (fun _ _=>rfl)) AC))) AG) (pv 1))))),?_⟩
 refine ⟨_,rfl,d,_,0,.int a,rfl,rfl,SqL.of hd,A1 (j:=0) rfl,_,_,rfl,rfl,⟨by decide,by decide,by decide⟩,_,_,rfl,rfl,_,rfl,?_⟩;refine Bj (fun _=>?_) (fun _=>?_)
 ·refine ⟨_,rfl,d,_,0,.int a,rfl,rfl,SqL.of hd,A1 (j:=0) rfl,_,rfl,_,_,rfl,rfl,m0,?_⟩;refine ⟨_,rfl,d,_,0,.int a,rfl,rfl,SqL.of hd,A1 (j:=0) rfl,_,rfl,_,_,rfl,rfl,⟨m0,m1⟩,_,rfl,d,_,0,0,rfl,rfl,hd,rfl,?_⟩;exact ⟨_,rfl,k _ (a / m) b (Int.emod_nonneg _ (by omega)) (Int.emod_lt_of_pos _ m0)⟩
 ·refine ⟨_,rfl,d,_,1,.int b,rfl,rfl,SqL.of hd,A1 (j:=1) rfl,_,_,rfl,rfl,_,rfl,d,_,1,1,rfl,rfl,hd,rfl,?_⟩;have hd2:(upd H d (.lst ([V.int a,V.int b].set 1 (V.int (b + 1))))) d=some (.lst [.int a,.int (b + 1)]):=AB;refine ⟨_,rfl,d,_,0,.int a,rfl,rfl,SqL.of hd2,A1 (j:=0) rfl,_,rfl,d,_,1,.int (b + 1),rfl,rfl,SqL.of hd2,A1 (j:=1) rfl,_,_,rfl,fun r hr0=>?_⟩;refine ⟨_,_,rfl,rfl,⟨by decide,by decide⟩,_,rfl,_,_,rfl,rfl,m0,?_⟩;exact k _ a (b + 1) (Int.emod_nonneg _ (by omega)) (Int.emod_lt_of_pos _ m0)
end
theorem Em (n k:Nat):decide (V.int (Builtin.bitAnd ((n:Int) / 2 ^ ((0:Int) + (k:Int)).toNat) 1)=V.int 1)=n.testBit k:=by
 have e0:((0:Int) + (k:Int)).toNat=k:=by omega
 have e1:(n:Int) / 2 ^ k=((n / 2 ^ k:Nat):Int):=by push_cast; rfl
 have e2:Builtin.bitAnd ((n / 2 ^ k:Nat):Int) 1=((n / 2 ^ k % 2:Nat):Int):=by
  have:=By (n / 2 ^ k) 1;rw [Nat.and_one_is_mod] at this;exact this
 rw [e0,e1,e2,Nat.testBit_eq_decide_div_mod_eq];refine decide_eq_decide.mpr ⟨fun h=>?_,fun h=>?_⟩
 ·have:=V.int.inj h;omega
 ·rw [h]; rfl
section
def Gy (K:FG):Sp:=fun vs H Q _=>∃ (a:Addr) (ns:List Int),vs=[.ref a,.int 4]/\SqL K H a (ns.map V.int)/\ns.length <= 63 /\
 ∀ (l:Addr) (as:List Addr) H',Same H H'->H' l=some (.lst (as.map V.ref))->as.Nodup->l ∉ as->as.length <= 4->(∀ b ∈ as,H b=none/\∃ x y:Int,H' b=some (.lst [.int x,.int y]))->Q (.ref l) H'
theorem PB:AK ["_law_script", "_law_most"] ["_law_script", "_law_most"] (defScope D7):=fsc
theorem NQ (F:Fun K "_law_rounds" "_law_rounds" D7 f fd) (B:Bl mg) (GC:Fn P w K mg base "_law_cell" 1 ["_law_script", "_law_k"] (LA K)):Ae P w K mg base CX0 2 f fd ["_law_script", "_law_most"] (Gy K):=by
 obtain ⟨fC,dC,GC,mC,kC,bC⟩:=GC.ex;refine F.m PB fun vs H Q E h=>?_;obtain ⟨a,ns,rfl,hS,h63,k⟩:=h;refine ⟨rfl,fun ad A outer s hr=>?_⟩
 refine ⟨_,AF (AR (BU ["_law_script"] [some 0] (by kernel_rfl) (by decide +kernel) (by kernel_rfl) rfl
  (B0 rfl B.range (AA (AV (Hh rfl) rfl B.max Os (AA AG (AA (AV (Ma rfl) rfl B.min SG (AA (pv 1) (AA (AV (A4 K rfl) rfl B.len PySem.boot_len (AA (pv 0) AC)) AC))) AC))) AC))
  (fun _ _ _ _ _ _=>A8)
  (fun _ _ _ _ _ _=>BB (AA (AO GC hr rfl mC kC bC .nil AQ (AA (pv 1) (AA (pv 0) AC))) (AA AG AC))))),?_⟩
 have hl:(ns.map V.int).length=ns.length:=AI _;refine ⟨_,rfl,_,rfl,a,_,rfl,.inl hS,_,_,rfl,_,_,rfl,_,rfl,?_,?_,?_⟩
 ·split <;> split <;> omega
 ·split <;> split <;> omega
 ·generalize hn:(if (if (((ns.map V.int).length:Nat):Int) < 4 then (((ns.map V.int).length:Nat):Int) else 4) > 1 then (if (((ns.map V.int).length:Nat):Int) < 4 then (((ns.map V.int).length:Nat):Int) else 4) else 1).toNat=n
  have n5:n <= 4:=by
   rw [← hn];split <;> split <;> omega
  refine Cn (lo:=0) (n:=n) (fun i ys H2=>∃ as:List Addr,ys=as.map V.ref/\as.length=i/\i <= 4/\Same H H2/\as.Nodup/\∀ b ∈ as,H b=none/\∃ x y:Int,H2 b=some (.lst [.int x,.int y])) ⟨[],rfl,rfl,by decide,Same.refl _,nodup_nil,fun b hb=>nomatch hb⟩ ?_ ?_ ?_
  ·rintro i ys H2 ⟨as,rfl,e,h5,_⟩;rw [AI]; omega
  ·rintro i ys H2 hi ⟨as,rfl,e,h5,s2,nd,hb⟩;refine ⟨_,rfl,_,rfl,a,ns,_,rfl,s2.seq hS,h63,by omega,fun v H3 s3=>⟨sl2,fun p hp=>?_⟩⟩;refine ⟨as++[p],by rw [map_append]; rfl,by rw [length_append,e]; rfl,by omega,AD (s2.trans s3) hp,?_,fun b hb'=>?_⟩
   ·refine List.nodup_append.mpr ⟨nd,nodup_cons.mpr ⟨not_mem_nil,nodup_nil⟩,?_⟩;intro x hx y hy;rw [mem_singleton] at hy;subst hy;obtain ⟨_,x1,y1,e1⟩:=hb x hx;exact AJ (s3 _ _ e1) hp
   ·rcases mem_append.mp hb' with z | z
    ·obtain ⟨h0,x1,y1,e1⟩:=hb b z;exact ⟨h0,x1,y1,AD s3 hp _ _ e1⟩
    ·rw [mem_singleton] at z;subst z;refine ⟨?_,v,0,AB⟩;cases e:H b with
     | none=>rfl
     | some o =>
      have:=s3 _ _ (s2 _ _ e);rw [this] at hp;cases hp
  ·rintro ys H2 ⟨as,rfl,e,h5,s2,nd,hb⟩ l hl;refine k l as _ (AD s2 hl) AB nd ?_ (by omega) fun b hb'=>?_
   ·intro z;obtain ⟨_,x,y,e1⟩:=hb l z;rw [e1] at hl; cases hl
   ·obtain ⟨h0,x,y,e1⟩:=hb b hb';exact ⟨h0,x,y,AD (Same.refl _) hl _ _ e1⟩
def Gz:Sp:=fun vs H Q _=>∃ n:Nat,vs=[.int (n:Int)]/\∀ l ys H',Same H H'->H' l=some (.lst ys)->ys.length=(Co n).length->Q (.ref l) H'
theorem PD:AK ["_law_number"] ["_law_number"] (defScope D8):=fsc
theorem NR (F:Fun K "_law_bits_of" "_law_bits_of" D8 f fd) (B:Bl mg):Ae P w K mg base CX0 1 f fd ["_law_number"] Gz:=by
 refine F.m PD fun vs H Q E h=>?_;obtain ⟨n,rfl,k⟩:=h;refine ⟨rfl,fun ad A outer s hr=>?_⟩
 refine ⟨_,AF (AR (BU ["_law_number"] [some 0] (by kernel_rfl) (by decide +kernel) (by kernel_rfl) rfl (B0 rfl B.range (AA AG AC))
  (fun _ _ _ _ _ _=>Fc (AW CB (AL B7 (AL KQ (pv 1) (pv 0)) AG) AG (AZ _)))
  (fun _ _ _ _ _ _=>AL Bc AG (pv 0)))),?_⟩
 refine ⟨42,rfl,by decide,by decide,?_⟩;refine Cn (lo:=0) (n:=42) (fun i ys H2=>ys.length=((List.range i).filter fun k=>n.testBit k).length/\i <= 42/\H2=H) ⟨rfl,by decide,rfl⟩ ?_ ?_ ?_
 ·rintro i ys H2 ⟨e,hi,_⟩;rw [e];have:=length_filter_le (fun k=>n.testBit k) (List.range i);rw [List.length_range] at this;omega
 ·rintro i ys H2 hi ⟨e,_,rfl⟩;refine ⟨_,rfl,_,rfl,_,_,rfl,rfl,(by omega),_,_,rfl,rfl,?_⟩;refine ⟨rfl,_,rfl,?_⟩
  have er:((List.range (i + 1)).filter fun k=>n.testBit k).length=((List.range i).filter fun k=>n.testBit k).length + (if n.testBit i then 1 else 0):=by
   rw [List.range_succ,List.filter_append,length_append,filter_cons,List.filter_nil];split <;> rfl
  refine Bj (fun h=>?_) (fun h=>?_)
  ·have hb:n.testBit i=true:=by rw [← Em]; exact h
   refine ⟨_,rfl,_,_,rfl,rfl,⟨by omega,by first | decide | omega,by first | decide | omega⟩,?_,by omega,rfl⟩;rw [er,hb,length_append,e]; rfl
  ·have hb:n.testBit i=false:=by rw [← Em]; exact Bool.eq_false_iff.mpr h
   refine ⟨?_,by omega,rfl⟩;rw [er,hb,e]; rfl
 ·rintro ys H2 ⟨e,_,rfl⟩ l hl;exact k l ys _ (AD (Same.refl _) hl) AB e
end
end Mk
end
section
namespace L2
open PySem
def UG (t u:TS):TS:=fun D σ H=>∃ G:St->Hp->Prop,(∀ R:St->Hp->Prop,(∀ σ H,G σ H->R σ H)->t { D with nx:=R } σ H)/\∀ σ H,G σ H->u D σ H
theorem Au {X:Cx} {st:Stmt} {rest:List Stmt} {t u:TS} (h1:PS X st t) (h2:PSs X rest u):PSs X (st :: rest) (UG t u):=fun aa s σ H D I ⟨_,a,b⟩=>AE h1 h2 aa s σ H D I (a (u D) b)
end L2
namespace Mk
open PySem L2 MK
def SameT (H H':Hp):Prop:=∀ b xs,H b=some (.tup xs)->H' b=some (.tup xs)
theorem SameT.of (s:Same H H'):SameT H H':=fun b xs e=>s _ _ e
theorem SameT.upd {d:Addr} {xs ys:List V} (h:H d=some (.lst xs)):SameT H (upd H d (.lst ys)):=fun b zs e=>by
 rw [AH (fun z=>by subst z; rw [h] at e; cases e)]; exact e
theorem SameT.trans {H1 H2:Hp} (x:SameT H H1) (y:SameT H1 H2):SameT H H2:=fun b xs e=>y _ _ (x _ _ e)
theorem TupsAt.sameT {as:List Addr} {ps:List (V × V)} (s:SameT H H') (h:TupsAt H as ps):TupsAt H' as ps:=Paired.mapP h fun _ _ e=>s _ _ e
theorem ThAt.sameT {v:V} {th:Th} (s:SameT H H') (h:ThAt H v th):ThAt H' v th:=by
 cases th with
 | non=>exact h
 | num n=>exact h
 | nms ns=>obtain ⟨a,e,h⟩:=h; exact ⟨a,e,s _ _ h⟩
theorem RowAt.sameT {b:Addr} {r:Str × Th} (s:SameT H H') (h:RowAt H b r):RowAt H' b r:=by
 obtain ⟨tv,e,t⟩:=h;exact ⟨tv,s _ _ e,t.sameT s⟩
theorem Bm {as:List Addr} {rows:List (Str × Th)} (s:SameT H H') (h:Paired (RowAt H) as rows):Paired (RowAt H') as rows:=Paired.mapP h fun _ _ e=>e.sameT s
noncomputable def EH (due:Aa):List PyData:=due.map fun p=>.tuple [.str p.1,.int (p.2:Int)]
theorem PF {b:Addr} {x:Str} {n:Int} (h:H b=some (.tup [.str x,.int n])):Bt K H (.tuple [.str x,.int n]) (.ref b):=by
 rw [Bt];refine ⟨b,_,rfl,SqT.of h,?_⟩;rw [A7];refine ⟨_,_,rfl,by rw [Bt],?_⟩;rw [A7];refine ⟨_,_,rfl,by rw [Bt],?_⟩;rw [A7]
theorem En:∀ {due:Aa} {bs:List Addr},TupsAt H bs (DT due)->A7 K H (EH due) (bs.map V.ref)
 | [],bs,h=>by
  have:bs=[]:=List.eq_nil_of_length_eq_zero (by rw [h.length]; rfl);subst this;show A7 K H [] [];rw [A7]
 | p :: r,[],h=>by have:=h.length; simp [DT] at this
 | p :: r,b :: bs,h=>by
  have hh:H b=some (.tup [.str p.1,.int (p.2:Int)])/\TupsAt H bs (DT r):=by
   cases h with
   | cons h1 h2=>exact ⟨h1,h2⟩
  show A7 K H (.tuple [.str p.1,.int (p.2:Int)] :: EH r) (V.ref b :: bs.map V.ref);rw [A7];exact ⟨_,_,rfl,PF hh.1,En hh.2⟩
theorem DU:∀ xs:List Nat,A7 K H (xs.map fun n:Nat=>PyData.int (n:Int)) (AU xs)
 | []=>by show A7 K H [] []; rw [A7]
 | x :: r=>by
  show A7 K H (.int x :: r.map fun n:Nat=>PyData.int (n:Int)) (V.int x :: AU r);rw [A7];exact ⟨_,_,rfl,by rw [Bt],DU r⟩
theorem BV {l:Addr} {ds:List PyData} {xs:List V} (h:H l=some (.lst xs)) (d:A7 K H ds xs):Bt K H (.list ds) (.ref l):=by
 rw [Bt];exact ⟨l,xs,rfl,SqL.of h,d⟩
theorem Iu:A7 K H [] []:=by rw [A7]
theorem Lx (ds:List PyData):PyData.eqv (.list ds) (.list [])=ds.isEmpty:=by
 cases ds with
 | nil=>rfl
 | cons a r=>simp [PyData.eqv,PyData.eqvAll]
theorem G0 {x:Str} (h:x.cps.all (· < 128)=true):PyData.strOk x=true:=by
 unfold PyData.strOk;simp only [Array.all_eq_true,decide_eq_true_eq] at h ⊢;intro i hi;have:=h i hi;simp;omega
theorem LB {ds:List PyData} (h:∀ d ∈ ds,d.canLay0=true):PyData.canLayAll0 ds=true:=by
 induction ds with
 | nil=>rfl
 | cons a r ih=>rw [PyData.canLayAll0,h a mem_cons_self,ih fun d hd=>h d (mem_cons_of_mem _ hd)]; rfl
theorem SM {ds:List PyData} {k:Nat} (h:∀ d ∈ ds,d.depth <= k):PyData.depthAll ds <= k:=by
 induction ds with
 | nil=>rw [PyData.depthAll]; exact Nat.zero_le _
 | cons a r ih=>rw [PyData.depthAll]; exact Nat.max_le.mpr ⟨h a mem_cons_self,ih fun d hd=>h d (mem_cons_of_mem _ hd)⟩
theorem DV {ds:List PyData} (h:∀ d ∈ ds,d.canLay0=true/\d.depth <= 60):SeqAt.shaped (.list ds)=true:=by
 unfold SeqAt.shaped;rw [Bool.and_eq_true,decide_eq_true_eq];refine ⟨by rw [PyData.canLay0]; exact LB fun d hd=>(h d hd).1,?_⟩;rw [PyData.depth];have:=SM (k:=60) fun d hd=>(h d hd).2;omega
theorem PJ {x:Str} {n:Int} (h:x.cps.all (· < 128)=true):(PyData.tuple [.str x,.int n]).canLay0=true/\(PyData.tuple [.str x,.int n]).depth <= 60:=by
 refine ⟨?_,?_⟩
 ·rw [PyData.canLay0];refine LB fun d hd=>?_;simp only [mem_cons,not_mem_nil,or_false] at hd;rcases hd with rfl | rfl
  ·rw [PyData.canLay0]; exact G0 h
  ·rw [PyData.canLay0]
 ·simp only [PyData.depth,PyData.depthAll];omega
theorem DW (h:∀ p ∈ due,p.1.cps.all (· < 128)=true):SeqAt.shaped (.list (EH due))=true:=DV fun d hd=>by
 obtain ⟨p,hp,rfl⟩:=mem_map.mp hd;exact PJ (h p hp)
theorem CM (xs:List Nat):SeqAt.shaped (.list (xs.map fun n:Nat=>PyData.int (n:Int)))=true:=DV fun d hd=>by
 obtain ⟨x,hx,rfl⟩:=mem_map.mp hd;exact ⟨by rw [PyData.canLay0],by simp [PyData.depth]⟩
theorem G1:SeqAt.shaped (.list [])=true:=by decide +kernel
noncomputable def uni (due:Aa) (ns:List Str):Nat:=Ao (due.map fun p=>if inV (.str p.1) (ns.map V.str) then p.2 else 0)
theorem Iv (x:Str) (ns:List Str):inV (.str x) (ns.map V.str)=ns.any (· == x):=by
 unfold inV;rw [any_map];rfl
theorem G2 {p:Str × Nat} (nd:(due.map (·.1)).Nodup) (h:p ∈ due):look due p.1=p.2:=by
 induction due with
 | nil=>cases h
 | cons q r ih =>
  rw [map_cons,nodup_cons] at nd;unfold look;by_cases e:q.1=p.1
  ·rw [List.find?_cons_of_pos (by simpa using e)];rcases mem_cons.mp h with z | z
   ·subst z; rfl
   ·exact absurd (mem_map.mpr ⟨p,z,e.symm⟩) nd.1
  ·rw [List.find?_cons_of_neg (by simpa using e)];rcases mem_cons.mp h with z | z
   ·subst z; exact absurd rfl e
   ·exact ih nd.2 z
theorem SN {ns:List Str} (nd:(due.map (·.1)).Nodup) (hs:∀ x ∈ ns,x ∈ due.map (·.1)):uni due ns=Ao (ns.map (look due)):=by
 refine Nat.eq_of_testBit_eq fun k=>?_;unfold uni;rw [Dd,Dd,any_map,any_map,Bool.eq_iff_iff,any_eq_true,any_eq_true];constructor
 ·rintro ⟨p,hp,hb⟩;simp only [Function.comp] at hb;by_cases hi:inV (.str p.1) (ns.map V.str)=true
  ·rw [if_pos hi] at hb;rw [Iv,any_eq_true] at hi;obtain ⟨x,hx,e⟩:=hi;have e':x=p.1:=by simpa using e
   subst e';exact ⟨p.1,hx,by simp only [Function.comp]; rw [G2 nd hp]; exact hb⟩
  ·rw [if_neg hi,Nat.zero_testBit] at hb;cases hb
 ·rintro ⟨x,hx,hb⟩;obtain ⟨p,hp,rfl⟩:=mem_map.mp (hs x hx);refine ⟨p,hp,?_⟩;simp only [Function.comp] at hb ⊢;rw [G2 nd hp] at hb;rw [if_pos (by rw [Iv,any_eq_true]; exact ⟨p.1,hx,by simp⟩)];exact hb
theorem Jz {rows:List (Str × Th)} {r:Str × Th} (h:EE rows) (hr:Lu (dues rows) r):EE (rows++[r]):=by
 intro i q e;rcases Nat.lt_trichotomy i rows.length with z | z | z
 ·rw [getElem?_append_left z] at e;rw [List.take_append_of_le_length (Nat.le_of_lt z)];exact h i q e
 ·subst z;rw [getElem?_append_right (Nat.le_refl _),Nat.sub_self] at e;have:r=q:=by simpa using e
  subst this;rw [List.take_append_of_le_length (Nat.le_refl _),take_length];exact hr
 ·rw [List.getElem?_eq_none (by rw [length_append,length_singleton]; omega)] at e;cases e
theorem J0 {rows:List (Str × Th)} (h:EE rows) (h10:rows.length <= 10):Ei (dues rows):=by
 have key:∀ n,n <= rows.length->Ei (dues (rows.take n)):=by
  intro n;induction n with
  | zero=>intro _; rw [take_zero]; exact ⟨by decide,(fun p hp=>nomatch hp),nodup_nil,(fun p hp=>nomatch hp)⟩
  | succ n ih =>
   intro hn;have D:=ih (by omega);have hq:rows[n]?=some rows[n]:=List.getElem?_eq_getElem (by omega);have R:=h n _ hq;rw [take_add_one,hq,Option.toList_some,FB];refine ⟨?_,fun p hp=>?_,?_,fun p hp=>?_⟩
   ·rw [length_append,length_singleton]; have:=R.few; omega
   ·rcases mem_append.mp hp with z | z
    ·exact D.lt p z
    ·rw [mem_singleton] at z; subst z; exact R.lt
   ·rw [map_append];refine List.nodup_append.mpr ⟨D.nd,nodup_cons.mpr ⟨not_mem_nil,nodup_nil⟩,?_⟩;intro x hx y hy;have ey:y=(rows[n]).1:=by simpa using hy
    subst ey;exact fun z=>R.new (z ▸ hx)
   ·rcases mem_append.mp hp with z | z
    ·exact D.nm p z
    ·rw [mem_singleton] at z; subst z; exact R.nm
 have:=key rows.length (Nat.le_refl _);rw [take_length] at this;exact this
theorem SO {A B:TT} {σ:St} {Q:Bool->Hp->Prop} (p q:Bool) (hA:∀ Q':Bool->Hp->Prop,Q' p H->A σ H Q') (hB:∀ Q':Bool->Hp->Prop,Q' q H->B σ H Q') (h:Q (p || q) H):tOr A B σ H Q:=by
 refine hA _ ?_;cases p with
 | true=>exact BC h
 | false=>exact An (hB _ h)
theorem Qq {A B:TT} {σ:St} {Q:Bool->Hp->Prop} (p q:Bool) (hA:∀ Q':Bool->Hp->Prop,Q' p H->A σ H Q') (hB:∀ Q':Bool->Hp->Prop,(∀ H',Same H H'->Q' q H')->B σ H Q') (h:∀ H',Same H H'->Q (p && q) H'):Sr A B σ H Q:=by
 refine hA _ ?_;cases p with
 | true=>exact BC (hB _ h)
 | false=>exact An (h _ (Same.refl _))
theorem II {p:Addr} (s:Same H H') (h:H' p=none):H p=none:=by
 cases e:H p with
 | none=>rfl
 | some o=>rw [s _ _ e] at h; cases h
theorem CT {X:Cx} {x:Str} {j} {p:Pos} {es:List Expr} {t:TA} (h:PA X es t):PA X (.Constant (.str x) j p :: es) (Ar (tC (.str x)) t):=AA Af h
theorem NS {X:Cx} {x0 x1 x2 x3 x4 x5 x6 x7 x8 x9:Str} {j0} {j1} {j2} {j3} {j4} {j5} {j6} {j7} {j8} {j9} {p0 p1 p2 p3 p4 p5 p6 p7 p8 p9:Pos}:PA X [.Constant (.str x0) j0 p0,.Constant (.str x1) j1 p1,.Constant (.str x2) j2 p2,.Constant (.str x3) j3 p3,.Constant (.str x4) j4 p4,.Constant (.str x5) j5 p5,.Constant (.str x6) j6 p6,.Constant (.str x7) j7 p7,.Constant (.str x8) j8 p8,.Constant (.str x9) j9 p9] (Ar (tC (.str x0)) (Ar (tC (.str x1)) (Ar (tC (.str x2)) (Ar (tC (.str x3)) (Ar (tC (.str x4)) (Ar (tC (.str x5)) (Ar (tC (.str x6)) (Ar (tC (.str x7)) (Ar (tC (.str x8)) (Ar (tC (.str x9)) (CN))))))))))):=CT (CT (CT (CT (CT (CT (CT (CT (CT (CT (AC))))))))))
theorem Di {bs:List Addr} {i:Nat} {v:V} (h:TupsAt H bs (DT due)) (e:(bs.map V.ref)[i]?=some v):∃ b p,v=.ref b/\bs[i]?=some b/\due[i]?=some p/\H b=some (.tup [.str p.1,.int (p.2:Int)]):=by
 rw [getElem?_map] at e
 obtain ⟨b,hb,rfl⟩:∃ b,bs[i]?=some b/\v=V.ref b:=by
  cases q:bs[i]? with
  | none=>rw [q] at e; cases e
  | some x=>rw [q] at e; exact ⟨x,rfl,(Option.some.inj e).symm⟩
 obtain ⟨pq,hpq,ai⟩:=Jy h hb;unfold DT at hpq;rw [getElem?_map] at hpq
 obtain ⟨pr,hpr,rfl⟩:∃ q,due[i]?=some q/\pq=(V.str q.1,V.int (q.2:Int)):=by
  cases q:due[i]? with
  | none=>rw [q] at hpq; cases hpq
  | some x=>rw [q] at hpq; exact ⟨x,rfl,(Option.some.inj hpq).symm⟩
 exact ⟨b,pr,rfl,hb,hpr,ai⟩
noncomputable def wordsL:List Str:=["A", "B", "CD", "EFG", "H", "IJKLMN", "O", "P", "Q", "R"]
theorem PM:∀ x ∈ wordsL,Tc x:=by
 have:∀ x ∈ wordsL,(HQ x && x.cps.all (· < 128) && decide (x.length <= 1000))=true:=by decide +kernel
 intro x hx;have:=this x hx;simp only [Bool.and_eq_true,decide_eq_true_eq] at this;exact ⟨this.1.1,this.1.2,this.2⟩
theorem NT:∀ i:Fin 10,(wordsL[i.1]?.map fun x=>decide (x ∈ wordsL.take i.1))=some false:=by decide +kernel
structure LW (d w f u:Addr) (H0 H:Hp) (rows:List (Str × Th)):Prop where
 old:∀ b o,H0 b=some o->b ≠ d->H b=some o
 dice:∃ a b:Int,H d=some (.lst [.int a,.int b])
 words:H w=some (.lst (wordsL.map V.str))
 found:∃ as:List Addr,H f=some (.lst (as.map V.ref))/\Paired (RowAt H) as rows
 due:∃ bs:List Addr,H u=some (.lst (bs.map V.ref))/\TupsAt H bs (DT (dues rows))
structure Ap (d w f u:Addr) (H0:Hp):Prop where
 wd:w ≠ d
 fd:f ≠ d
 ud:u ≠ d
 wf:w ≠ f
 wu:w ≠ u
 fu:f ≠ u
 nf:H0 f=none
 nu:H0 u=none
section
variable {d w u:Addr} {H0:Hp} {rows:List (Str × Th)}
theorem LW.same (h:LW d w f u H0 H rows) (s:Same H H'):LW d w f u H0 H' rows:=by
 obtain ⟨a,b,e⟩:=h.dice;obtain ⟨as,e1,p1⟩:=h.found;obtain ⟨bs,e2,p2⟩:=h.due;exact ⟨fun c o ec hc=>s _ _ (h.old c o ec hc),⟨a,b,s _ _ e⟩,s _ _ h.words,⟨as,s _ _ e1,Bm (SameT.of s) p1⟩,⟨bs,s _ _ e2,TupsAt.sameT (SameT.of s) p2⟩⟩
theorem LW.roll (A:Ap d w f u H0) (h:LW d w f u H0 H rows) (a' b':Int):LW d w f u H0 (upd H d (.lst [.int a',.int b'])) rows:=by
 obtain ⟨a,b,e⟩:=h.dice;obtain ⟨as,e1,p1⟩:=h.found;obtain ⟨bs,e2,p2⟩:=h.due;have t:SameT H (upd H d (.lst [.int a',.int b'])):=SameT.upd e;exact ⟨fun c o ec hc=>by rw [AH hc]; exact h.old c o ec hc,⟨a',b',AB⟩,by rw [AH A.wd]; exact h.words,⟨as,by rw [AH A.fd]; exact e1,Bm t p1⟩,⟨bs,by rw [AH A.ud]; exact e2,TupsAt.sameT t p2⟩⟩
end
theorem Cc {rows:List (Str × Th)} {bs:List Addr} (h:TupsAt H bs (DT (dues rows))):bs.length=rows.length:=by
 rw [h.length]; unfold DT; rw [AI,Bd]
theorem J1 (rows:List (Str × Th)):(dues rows).map (·.1)=rows.map (·.1):=by
 have:∀ (l:List (Str × Th)) (a:Aa),((l.foldl (fun due r=>due++[(r.1,CK due r.2)]) a).map (·.1))=a.map (·.1)++l.map (·.1):=by
  intro l;induction l with
  | nil=>intro a; simp
  | cons x r ih=>intro a; rw [foldl_cons,ih,map_append]; simp
 have e:=this rows [];unfold dues;rw [e]; rfl
noncomputable def UH:St->Nat
 | [_,_,_,_,_,_,_,_,_,some (.int i),_,_]=>(2 ^ 22 - i).toNat
 | _=>0
section
def Ix:Sp:=fun vs H Q _=>∃ (d:Addr) (a b M:Int),vs=[.ref d,.int M]/\1 <= M/\M <= 10/\H d=some (.lst [.int a,.int b]) /\
 ∀ (q f u:Addr) (as bs:List Addr) (rows:List (Str × Th)) H',SameX d H H'->H' q=some (.tup [.ref f,.ref u])->H f=none->H u=none->H' f=some (.lst (as.map V.ref))->Paired (RowAt H') as rows->H' u=some (.lst (bs.map V.ref))->TupsAt H' bs (DT (dues rows)) ->
  0 < rows.length->(rows.length:Int) <= M->EE rows->(∀ x ∈ rows.map (·.1),x ∈ wordsL)->Q (.ref q) H'
noncomputable abbrev SQ:List Str:=["_law_dice", "_law_most", "_law_words", "_law_found", "_law_due", "_law_at", "_law_high", "_law_kind", "_law_thing", "_law_number", "_law_name", "_law_more"]
@[irreducible] noncomputable def LD:Expr:=match defBody Bk with | .Assign _ (.Tuple (e :: _) _ _) _ :: _=>e | _=>.Constant .none 0 ⟨0,0,0,0⟩
noncomputable abbrev Qr:Stmt:=match defBody Bk with | .Assign t (.Tuple (_ :: r) k p) q :: _=>.Assign t (.Tuple (LD :: r) k p) q | _=>.Pass ⟨0,0,0,0⟩
noncomputable abbrev SR:List Stmt:=(defBody Bk).drop 1
theorem SS:defBody Bk=Qr :: SR:=by kernel_rfl
theorem NU {X:Cx}:PE X LD (S8 (Ar (tC (.str "A")) (Ar (tC (.str "B")) (Ar (tC (.str "CD")) (Ar (tC (.str "EFG")) (Ar (tC (.str "H")) (Ar (tC (.str "IJKLMN")) (Ar (tC (.str "O")) (Ar (tC (.str "P")) (Ar (tC (.str "Q")) (Ar (tC (.str "R")) (CN)))))))))))):=by
 unfold LD;exact BB NS
theorem scLines:AK SQ ["_law_dice", "_law_most"] (defScope Bk):=fsc
theorem PN {f0:Addr} (F:Fun K "_law_lines" "_law_lines" Bk f0 fd) (B:Bl mg) (GR:Fn P w K mg base "_law_roll" 2 ["_law_dice", "_law_many"] Gx):Ae P w K mg base CX0 3 f0 fd ["_law_dice", "_law_most"] Ix:=by
 obtain ⟨fR,dR,GR,mR,kR,bR⟩:=GR.ex;refine F.m scLines fun vs H Q E h=>?_;obtain ⟨d,a,b,M,rfl,M1,M10,hd,k⟩:=h;refine ⟨rfl,fun ad A outer s hr=>?_⟩;have hu64:=hr.units;have nd:=scLines.nd;rw [SS]
 refine ⟨_,AE (Bb (hs:=by kernel_rfl) (hw:=by kernel_rfl) (BW (AA (hs:=by kernel_rfl) NU (AA (BB AC) (AA (BB AC) AC))))
   (BA rfl (AM (AN (i:=2) scLines.nd rfl (Or.inl rfl)) (AM (AN (i:=3) scLines.nd rfl (Or.inl rfl)) (AM (AN (i:=4) scLines.nd rfl (Or.inr rfl)) Aw)))))
  (AE (Bh PassesOwn.never rfl (B0 rfl B.range (AA (AL Bi AG (AO GR hr rfl mR kR bR .nil AQ (AA (pv 0) (AA (pv 1) AC)))) AC)) (AN (i:=5) scLines.nd rfl (Or.inl rfl))
   (Au (Ag (i:=6) scLines.nd rfl (Or.inl rfl) (Ie rfl rfl B.max (GH [] [] (by kernel_rfl) (by decide +kernel) (by kernel_rfl) (by kernel_rfl) rfl (BJ (pv 4)) (fun _ _ _ _ _ _=>A8) (fun _ _ _ _ _ _=>pv 1)) AG))
   (AE (Ag (i:=7) scLines.nd rfl (Or.inl rfl) (AO GR hr rfl mR kR bR .nil AQ (AA (pv 0) (AA AG AC))))
   (AE (Bb (hs:=by kernel_rfl) (hw:=by kernel_rfl) (BW (AA Ri (AA AG AC))) (BA rfl (AM (AN (i:=8) scLines.nd rfl (Or.inl rfl)) (AM (AN (i:=9) scLines.nd rfl (Or.inl rfl)) Aw))))
   (Au (Nx PassesOwn.never (AW CZ (pv 9) (pv 6) (AZ _)) (AF (Ag (i:=9) scLines.nd rfl (Or.inl rfl) (AL Fx (pv 9) AG))))
   (Au (Av (PW.pt (CY (AW CB (pv 7) AG (AZ _)) (Bs (AW JQ (pv 9) (AL IQ AG AG) (AZ _)))))
     (AE (Ag (i:=8) scLines.nd rfl (Or.inl rfl) (BD (Ai K rfl) (BB (AA (AL Bc AG (AO GR hr rfl mR kR bR .nil AQ (AA (pv 0) (AA AG AC)))) (AA (AO GR hr rfl mR kR bR .nil AQ (AA (pv 0) (AA AG AC)))
      (AA (AL Bc AG (AO GR hr rfl mR kR bR .nil AQ (AA (pv 0) (AA AG AC)))) (AA AG AC))))) (AO GR hr rfl mR kR bR .nil AQ (AA (pv 0) (AA AG AC))) (fun _ _=>rfl)))
     (AF (Ag (i:=9) scLines.nd rfl (Or.inl rfl) (pv 8)))) AY)
   (Au (Av (PW.pt (C6 (AW LU (pv 7) AG (AZ _)) (CA (AW (GY K rfl hu64) (pv 4) (BB AC) (AZ _)))))
     (AE (Ag (i:=8) scLines.nd rfl (Or.inl rfl) (B1 HI rfl B.tuple Ef (AA (BU ["_law_due", "_law_dice"] [some 4,some 0] (by kernel_rfl) (by decide +kernel) (by kernel_rfl) rfl (B0 rfl B.range (AA (AL Bi AG (AO GR hr rfl mR kR bR .nil AQ (AA (pv 0) (AA AG AC)))) AC)) (fun _ _ _ _ _ _=>A8)
      (fun _ _ _ _ _ _=>BD (Ls K rfl) (BD (Ai K rfl) (pv 1) (AO GR hr rfl mR kR bR .nil AQ (AA (pv 2) (AA (AV (A4 K rfl) rfl B.len PySem.boot_len (AA (pv 1) AC)) AC))) (fun _ _=>rfl)) AG (fun _ _=>rfl))) AC)))
     (AE (Ag (i:=9) scLines.nd rfl (Or.inl rfl) AG)
     (AF (Bh PassesOwn.never rfl (BJ (pv 4)) (BA rfl (AM (AN (i:=10) scLines.nd rfl (Or.inl rfl)) (AM (AN (i:=11) scLines.nd rfl (Or.inl rfl)) Aw)))
      (AF (Ag (i:=9) scLines.nd rfl (Or.inl rfl) (AL HY (pv 9) (C7 (AW Ex (pv 10) (pv 8) rfl) (pv 11) AG)))))))) AY)
   (AE (Bx (FN PySem.F.plainAttrs_list PySem.F.slot_list_append PySem.F.type_list_append B2 (pv 3) (AA (BW (AA (BD (Ai K rfl) (pv 2) (pv 5) (fun _ _=>rfl)) (AA (pv 8) AC))) AC)))
   (AF (Bx (FN PySem.F.plainAttrs_list PySem.F.slot_list_append PySem.F.type_list_append B2 (pv 4) (AA (BW (AA (BD (Ai K rfl) (pv 2) (pv 5) (fun _ _=>rfl)) (AA (pv 9) AC))) AC))))))))))))
  (AF (AR (BW (AA (pv 3) (AA (pv 4) AC)))))),?_⟩
 refine ⟨(by show 10 <= sizeLine; decide),fun pw hpw=>⟨Nat.zero_le _,fun pf hpf=>⟨Nat.zero_le _,fun pu hpu=>⟨sl3,fun q0 hq0=>?_⟩⟩⟩⟩;refine ⟨q0,_,rfl,SqT.of AB,rfl,_,_,rfl,_,_,rfl,_,_,rfl,rfl,?_⟩;have dw:pw ≠ d:=Ne.symm (AJ hd hpw);have s1:Same H (upd H pw (.lst (wordsL.map V.str))):=AD (Same.refl _) hpw;have s2:Same (upd H pw (.lst (wordsL.map V.str))) (upd (upd H pw (.lst (wordsL.map V.str))) pf (.lst [])):=AD (Same.refl _) hpf;have s3:Same (upd (upd H pw (.lst (wordsL.map V.str))) pf (.lst [])) (upd (upd (upd H pw (.lst (wordsL.map V.str))) pf (.lst [])) pu (.lst [])):=AD (Same.refl _) hpu;have s4:=AD (Same.refl _) hq0 (o:=HO.tup [.ref pw,.ref pf,.ref pu]);have nf0:H pf=none:=II s1 hpf;have nu0:H pu=none:=II (s1.trans s2) hpu;have AP:Ap d pw pf pu H:=⟨dw,Ne.symm (AJ hd nf0),Ne.symm (AJ hd nu0),AJ AB hpf,AJ (s2 _ _ AB) hpu,AJ AB hpu,nf0,nu0⟩;have L0:LW d pw pf pu H _ []:=⟨fun b o e _=>s4 _ _ (s3 _ _ (s2 _ _ (s1 _ _ e))),⟨a,b,s4 _ _ (s3 _ _ (s2 _ _ (s1 _ _ hd)))⟩,s4 _ _ (s3 _ _ (s2 _ _ AB)),⟨[],s4 _ _ (s3 _ _ AB),.nil⟩,⟨[],s4 _ _ AB,.nil⟩⟩;obtain ⟨a1,b1,hd1⟩:=L0.dice;refine ⟨_,rfl,_,rfl,d,a1,b1,M,rfl,hd1,by omega,by omega,fun r a' b' h0 h1=>?_⟩;refine ⟨_,_,rfl,rfl,_,rfl,by omega,by omega,?_⟩
 refine HX (lo:=0) (n:=(1 + r).toNat) (fun i σ H2=>∃ (v5 v6 v7 v8 v9 v10 v11:Option V) (rows:List (Str × Th)),σ=[some (.ref d),some (.int M),some (.ref pw),some (.ref pf),some (.ref pu),v5,v6,v7,v8,v9,v10,v11]/\rows.length=i/\EE rows/\rows.map (·.1)=wordsL.take i/\LW d pw pf pu H H2 rows)
  ⟨none,none,none,none,none,none,none,[],rfl,rfl,(fun i r e=>by simp at e),rfl,L0.roll AP a' b'⟩ ?_ ?_
 ·rintro i σ H2 hi ⟨v5,v6,v7,v8,v9,v10,v11,rows,rfl,az,RO,ci,L⟩;have hi10:i < 10:=by omega
  have DO:Ei (dues rows):=J0 RO (by omega);generalize br:DQ ((dues rows).map (·.2))=ba
  have hh20:ba < 2 ^ 20:=by
   rw [← br];exact Jr (by decide) fun n hn=>by obtain ⟨p,hp,rfl⟩:=mem_map.mp hn; exact DO.lt p hp
  refine ⟨fun σ H3=>σ=[some (.ref d),some (.int M),some (.ref pw),some (.ref pf),some (.ref pu),some (.int (0 + (i:Int))),some (.int (ba:Int)),v7,v8,v9,v10,v11]/\LW d pw pf pu H H3 rows,fun R hR=>?_,?_⟩
  ·obtain ⟨bs,hu,am⟩:=L.due;have hbl:=Cc am;refine ⟨_,rfl,pu,rfl,⟨_,SqL.of hu⟩,BE (K:=K) (a:=pu) (xs:=bs.map V.ref) (fun j ys H3=>ys=AU (((dues rows).take j).map (·.2))/\H3=H2) ⟨by rfl,rfl⟩ (fun j ys H3 _ ⟨_,e⟩=>e ▸ SqL.of hu) (fun j ys H3 ⟨e,_⟩=>?_) ?_ ?_⟩
   ·rw [e]; unfold AU; rw [AI,AI,length_take,Bd]; omega
   ·rintro j v ys H3 hj ⟨rfl,rfl⟩;obtain ⟨bb,p,rfl,hb1,aj,ai⟩:=Di am hj;refine ⟨bb,_,rfl,SqT.of ai,rfl,_,_,rfl,_,_,rfl,rfl,?_⟩;refine ⟨_,rfl,?_,rfl⟩;rw [take_add_one,aj,Option.toList_some,map_append];unfold AU;rw [map_append];rfl
   ·rintro ys H3 ⟨rfl,rfl⟩ p hp;have sp:=AD (Same.refl _) hp (o:=HO.lst (AU (((dues rows).take (bs.map V.ref).length).map (·.2))));have el:(dues rows).take (bs.map V.ref).length=dues rows:=by rw [AI,hbl,← Bd,take_length]
    refine ⟨p,((dues rows).map (·.2)).map (fun n:Nat=>(n:Int)),0,rfl,rfl,SqL.of (by rw [AB,el,Cw]),fun e=>?_,fun e=>?_⟩
    ·refine hR _ _ ⟨?_,L.same sp⟩;have:(dues rows).map (·.2)=[]:=List.map_eq_nil_iff.mp e;rw [this] at br;subst br;rfl
    ·refine hR _ _ ⟨?_,L.same sp⟩;have aw:(dues rows).map (·.2) ≠ []:=fun z=>e (by rw [z]; rfl);rw [Js aw,br];rfl
  ·rintro σ H3 ⟨rfl,L3⟩;obtain ⟨a3,b3,hd3⟩:=L3.dice;refine ⟨_,rfl,d,a3,b3,8,rfl,hd3,by decide,by decide,fun kd a4 b4 kd0 kd1=>?_⟩;have L4:=L3.roll AP a4 b4;refine ⟨sl2,fun q hq=>⟨q,_,rfl,SqT.of AB,rfl,_,_,rfl,_,_,rfl,rfl,?_⟩⟩;have L5:=L4.same (AD (Same.refl _) hq (o:=HO.tup [V.non,V.int 1]));refine ⟨fun σ H6=>σ=[some (.ref d),some (.int M),some (.ref pw),some (.ref pf),some (.ref pu),some (.int (0 + (i:Int))),some (.int (ba:Int)),some (.int kd),some .non,some (.int (BM ba:Nat)),v10,v11]/\LW d pw pf pu H H6 rows,fun R hR=>?_,?_⟩
   ·refine N0 (fun σ H6=>LW d pw pf pu H H6 rows/\∃ j:Nat,j <= 20/\σ=[some (.ref d),some (.int M),some (.ref pw),some (.ref pf),some (.ref pu),some (.int (0 + (i:Int))),some (.int (ba:Int)),some (.int kd),some .non,some (.int ((2 ^ j:Nat):Int)),v10,v11]/\(j=0\/2 ^ (j - 1) <= ba)) (fun σ _=>UH σ) ⟨L5,0,by omega,rfl,.inl rfl⟩ ?_ ?_
    ·rintro σ H6 ⟨L6,j,hj,rfl,hjj⟩;refine ⟨_,rfl,_,rfl,_,_,rfl,rfl,_,rfl,?_⟩;refine Bj (fun hle=>?_) (fun hle=>?_)
     ·have hle':2 ^ j <= ba:=by have:=of_decide_eq_true hle; exact_mod_cast this
      have hj20:j < 20:=(Nat.pow_lt_pow_iff_right (by decide)).mp (Nat.lt_of_le_of_lt hle' hh20);refine ⟨_,rfl,_,_,rfl,rfl,.inr ⟨by decide,by decide⟩,?_⟩;have e2:(((2 ^ j:Nat):Int) * 2)=((2 ^ (j + 1):Nat):Int):=by rw [Nat.pow_succ]; omega
      refine ⟨⟨L6,j + 1,by omega,?_,.inr hle'⟩,?_⟩
      ·show [some (V.ref d),some (V.int M),some (V.ref pw),some (V.ref pf),some (V.ref pu),some (V.int (0 + (i:Int))),some (V.int (ba:Int)),some (V.int kd),some V.non,some (V.int (((2 ^ j:Nat):Int) * 2)),v10,v11]=_;rw [e2]
      ·show (2 ^ 22 - (((2 ^ j:Nat):Int) * 2)).toNat < (2 ^ 22 - ((2 ^ j:Nat):Int)).toNat;have h1:0 < 2 ^ j:=Nat.two_pow_pos j;have h2:2 ^ j <= 2 ^ 20:=Nat.pow_le_pow_right (by decide) hj;omega
     ·have hgt:ba < 2 ^ j:=by
       have:¬ ((2 ^ j:Nat):Int) <= (ba:Int):=fun z=>hle (decide_eq_true z);omega
      refine hR _ _ ⟨?_,L6⟩;rw [Jq hgt hjj]
    ·rintro σ H6 Q1 Q2 hQ ⟨v,e1,v2,e2,i,j,a,b,c,ec,q⟩;exact ⟨v,e1,v2,e2,i,j,a,b,c,ec,hQ _ _ q⟩
   ·rintro σ H6 ⟨rfl,L6⟩;have hsig:∀ (tv nv w10 w11:V),True:=fun _ _ _ _=>trivial;refine ⟨fun σ H7=>∃ (tv:V) (th:Th) (w10 w11:Option V),σ=[some (.ref d),some (.int M),some (.ref pw),some (.ref pf),some (.ref pu),some (.int (0 + (i:Int))),some (.int (ba:Int)),some (.int kd),some tv,some (.int (CK (dues rows) th:Nat)),w10,w11]/\LW d pw pf pu H H7 rows/\ThAt H7 tv th/\Qg (dues rows) th/\CK (dues rows) th < 2 ^ 20,fun R hR=>?_,?_⟩
    ·refine SO (decide (V.int kd=V.int 5)) (decide ((2:Int) ^ (20:Int).toNat <= (BM ba:Nat))) (fun Q' h=>⟨_,rfl,rfl,_,rfl,h⟩) (fun Q' h=>⟨_,rfl,_,_,rfl,rfl,⟨by decide,by decide,by decide⟩,_,_,rfl,rfl,_,rfl,h⟩) ?_;refine Bj (fun _=>?_) (fun hc=>?_)
     ·obtain ⟨x1,y1,e1⟩:=L6.dice;refine ⟨_,rfl,d,x1,y1,8,rfl,e1,by decide,by decide,fun r1 a1 b1 r10 r11=>?_⟩;have M1:=L6.roll AP a1 b1;refine ⟨_,_,rfl,rfl,⟨r10,by omega,by decide⟩,?_⟩;obtain ⟨x2,y2,e2⟩:=M1.dice;refine ⟨_,rfl,d,x2,y2,64,rfl,e2,by decide,by decide,fun r2 a2 b2 r20 r21=>?_⟩;have M2:=M1.roll AP a2 b2;obtain ⟨x3,y3,e3⟩:=M2.dice;refine ⟨_,rfl,d,x3,y3,20,rfl,e3,by decide,by decide,fun r3 a3 b3 r30 r31=>?_⟩;have M3:=M2.roll AP a3 b3;refine ⟨_,_,rfl,rfl,⟨r30,by omega,by decide⟩,?_⟩;refine ⟨sl4,fun p hp=>?_⟩;have M4:=M3.same (AD (Same.refl _) hp (o:=HO.lst [V.int (1 * 2 ^ r1.toNat),V.int r2,V.int (1 * 2 ^ r3.toNat),V.int 0]));obtain ⟨x4,y4,e4⟩:=M4.dice;have npd:p ≠ d:=Ne.symm (AJ AB hp);refine ⟨_,rfl,d,x4,y4,4,rfl,e4,by decide,by decide,fun r4 a4 b4 r40 r41=>?_⟩;have M5:=M4.roll AP a4 b4;obtain ⟨v,hv,hv2⟩:=K9 (xs:=[V.int (1 * 2 ^ r1.toNat),V.int r2,V.int (1 * 2 ^ r3.toNat),V.int 0]) r40 (by show r4 < 4; exact r41)
      have hin:∃ n:Nat,v=.int (n:Int)/\n < 2 ^ 20:=by
       have:=mem_of_getElem? hv2;simp only [mem_cons,not_mem_nil,or_false] at this;rcases this with z | z | z | z
       ·refine ⟨2 ^ r1.toNat,by rw [z]; simp,?_⟩;exact (Nat.pow_lt_pow_iff_right (by decide)).mpr (by omega)
       ·exact ⟨r2.toNat,by rw [z,Int.toNat_of_nonneg r20],by omega⟩
       ·refine ⟨2 ^ r3.toNat,by rw [z]; simp,?_⟩;exact (Nat.pow_lt_pow_iff_right (by decide)).mpr (by omega)
       ·exact ⟨0,z,by decide⟩
      obtain ⟨n,rfl,hn⟩:=hin;refine ⟨p,_,r4,_,rfl,rfl,SqL.of (by rw [AH npd]; exact AB),hv,?_⟩;exact ⟨_,rfl,hR _ _ ⟨.int (n:Int),.num n,v10,v11,rfl,M5,rfl,trivial,hn⟩⟩
     ·refine hR _ _ ⟨.non,.non,v10,v11,?_,L6,rfl,trivial,?_⟩
      ·show _=[some (V.ref d),some (V.int M),some (V.ref pw),some (V.ref pf),some (V.ref pu),some (V.int (0 + (i:Int))),some (V.int (ba:Int)),some (V.int kd),some V.non,some (V.int ((BM (DQ ((dues rows).map (·.2))):Nat):Int)),v10,v11];rw [br]
      ·show BM (DQ ((dues rows).map (·.2))) < 2 ^ 20;rw [br];have h2:¬ ((2:Int) ^ (20:Int).toNat <= (BM ba:Nat)):=fun z=>hc (by rw [decide_eq_true z,Bool.or_true]);have h3:((2:Int) ^ (20:Int).toNat)=1048576:=by decide
       omega
    ·rintro σ H7 ⟨tv,th,w10,w11,rfl,L7,hT,hTO,hlt⟩;obtain ⟨bs,hu,am⟩:=L7.due;have hbl:=Cc am;refine ⟨fun σ H8=>∃ (tv:V) (th:Th) (w10 w11:Option V),σ=[some (.ref d),some (.int M),some (.ref pw),some (.ref pf),some (.ref pu),some (.int (0 + (i:Int))),some (.int (ba:Int)),some (.int kd),some tv,some (.int (CK (dues rows) th:Nat)),w10,w11]/\LW d pw pf pu H H8 rows/\ThAt H8 tv th/\Qg (dues rows) th/\CK (dues rows) th < 2 ^ 20,fun R hR=>?_,?_⟩
     ·refine Qq (decide ((5:Int) < kd)) (!(EH (dues rows)).isEmpty) (fun Q' h=>⟨_,rfl,_,_,rfl,rfl,_,rfl,h⟩) (fun Q' h=>⟨_,rfl,Nat.zero_le _,fun p hp=>?_⟩) (fun H8 s8=>?_)
      ·have sp:=AD (Same.refl _) hp (o:=HO.lst []);refine ⟨.list (EH (dues rows)),.list [],BV (sp _ _ hu) (En (TupsAt.sameT (SameT.of sp) am)),BV AB Iu,DW fun p hp=>(DO.nm p hp).2.1,G1,_,rfl,?_⟩;rw [Lx];exact h _ sp
      ·refine Bj (fun hc=>?_) (fun hc=>?_)
       ·have aw:0 < bs.length:=by
         rw [Bool.and_eq_true] at hc;have h2:=hc.2;rw [hbl,← Bd];cases hz:dues rows with
         | nil=>rw [hz] at h2; cases h2
         | cons x r=>simp
        have L8:=L7.same s8;obtain ⟨x1,y1,e1⟩:=L8.dice;refine ⟨_,rfl,d,x1,y1,3,rfl,e1,by decide,by decide,fun r1 a1 b1 r10 r11=>?_⟩;have M1:=L8.roll AP a1 b1;refine ⟨_,_,rfl,rfl,_,rfl,by omega,by omega,?_⟩;refine Cn (lo:=0) (n:=(1 + r1).toNat) (fun j ys H9=>∃ ns:List Str,ys=ns.map V.str/\ns.length=j/\j <= 3/\(∀ x ∈ ns,x ∈ (dues rows).map (·.1))/\LW d pw pf pu H H9 rows) ⟨[],rfl,rfl,by decide,(fun x hx=>nomatch hx),M1⟩ ?_ ?_ ?_
        ·rintro j ys H9 ⟨ns,rfl,e,h3,_⟩;rw [AI]; omega
        ·rintro j ys H9 hj ⟨ns,rfl,e,h3,hin,L9⟩;obtain ⟨x2,y2,e2⟩:=L9.dice;obtain ⟨cs,hu9,ay⟩:=L9.due;have ag:=Cc ay;have aq:(cs.map V.ref).length=bs.length:=by rw [AI,ag,hbl]
         refine ⟨_,rfl,_,rfl,_,rfl,pu,_,rfl,.inl (SqL.of hu9),d,x2,y2,_,rfl,e2,by rw [aq]; omega,by rw [aq]; omega,fun r2 a2 b2 r20 r21=>?_⟩;have M2:=L9.roll AP a2 b2;have hu10:(upd H9 d (.lst [.int a2,.int b2])) pu=some (.lst (cs.map V.ref)):=by rw [AH AP.ud]; exact hu9
         have hcs2:TupsAt (upd H9 d (.lst [.int a2,.int b2])) cs (DT (dues rows)):=TupsAt.sameT (SameT.upd e2) ay;obtain ⟨v,hv,hv2⟩:=K9 (xs:=cs.map V.ref) r20 (by exact r21);obtain ⟨bb,p,rfl,_,aj,ai⟩:=Di hcs2 hv2;refine ⟨pu,_,r2,_,rfl,rfl,SqL.of hu10,hv,bb,_,0,.str p.1,rfl,rfl,SqT.of ai,rfl,?_⟩;refine ⟨ns++[p.1],by rw [map_append]; rfl,by rw [length_append,e]; rfl,by omega,fun x hx=>?_,M2⟩;rcases mem_append.mp hx with z | z
         ·exact hin x z
         ·rw [mem_singleton] at z;subst z;exact mem_map.mpr ⟨p,mem_of_getElem? aj,rfl⟩
        ·rintro ys H9 ⟨ns,rfl,e,h3,hin,L9⟩ l hl;have L10:=L9.same (AD (Same.refl _) hl (o:=HO.lst (ns.map V.str)));refine ⟨l,_,rfl,.inl ⟨SqL.of AB,fun t ht=>?_⟩⟩;have L11:=L10.same (AD (Same.refl _) ht (o:=HO.tup (ns.map V.str)));obtain ⟨cs,hu11,ay⟩:=L11.due;have ag:=Cc ay;refine ⟨_,rfl,pu,rfl,⟨_,SqL.of hu11⟩,C8 (K:=K) (a:=pu) (xs:=cs.map V.ref) (fun j σ H12=>H12=upd (upd H9 l (.lst (ns.map V.str))) t (.tup (ns.map V.str))/\∃ w10 w11:Option V,σ=[some (.ref d),some (.int M),some (.ref pw),some (.ref pf),some (.ref pu),some (.int (0 + (i:Int))),some (.int (ba:Int)),some (.int kd),some (.ref t),some (.int (uni ((dues rows).take j) ns:Nat)),w10,w11]) ⟨rfl,w10,w11,rfl⟩ (fun j σ H12 _ ⟨e,_⟩=>e ▸ SqL.of hu11) ?_ ?_⟩
         ·rintro j v σ H12 hj ⟨rfl,w10,w11,rfl⟩;obtain ⟨bb,p,rfl,_,aj,ai⟩:=Di ay hj;refine ⟨bb,_,rfl,SqT.of ai,rfl,_,_,rfl,_,_,rfl,rfl,?_⟩;refine ⟨_,rfl,_,rfl,_,rfl,t,_,rfl,.inr (SqT.of AB),rfl,?_,_,rfl,?_⟩
          ·rw [all_map];exact List.all_eq_true.mpr fun _ _=>rfl
          ·have eu:uni ((dues rows).take (j + 1)) ns=uni ((dues rows).take j) ns ||| (if inV (.str p.1) (ns.map V.str) then p.2 else 0):=by
            unfold uni;rw [take_add_one,aj,Option.toList_some,map_append];exact Dz _ _
           refine Bj (fun hc2=>?_) (fun hc2=>?_)
           ·refine ⟨_,rfl,_,_,rfl,rfl,rfl,some (.str p.1),some (.int (p.2:Int)),?_⟩;have hc3:inV (.str p.1) (ns.map V.str)=true:=hc2;rw [hc3,if_pos rfl] at eu;rw [eu,← B8];rfl
           ·refine ⟨_,_,rfl,rfl,rfl,some (.str p.1),some (.int (p.2:Int)),?_⟩;have hc3:inV (.str p.1) (ns.map V.str)=false:=Bool.eq_false_iff.mpr hc2;rw [hc3,if_neg Bool.false_ne_true] at eu;rw [eu,← B8];rfl
         ·rintro σ H12 ⟨rfl,w10,w11,rfl⟩;have el:(dues rows).take (cs.map V.ref).length=dues rows:=by rw [AI,ag,← Bd,take_length]
          have en:CK (dues rows) (.nms ns)=uni (dues rows) ns:=(SN DO.nd hin).symm;have eL:ns.length=(1 + r1).toNat:=e;refine hR _ _ ⟨.ref t,.nms ns,w10,w11,by rw [el,en],L11,⟨t,rfl,AB⟩,⟨?_,by omega,hin⟩,?_⟩
          ·intro z; subst z; simp at eL; omega
          ·show Ao (ns.map (look (dues rows))) < 2 ^ 20;refine Gf fun n hn=>?_;obtain ⟨x,hx,rfl⟩:=mem_map.mp hn;obtain ⟨p,hp,rfl⟩:=mem_map.mp (hin x hx);rw [G2 DO.nd hp];exact DO.lt p hp
       ·exact hR _ _ ⟨tv,th,w10,w11,rfl,L7.same s8,hT.same s8,hTO,hlt⟩
     ·rintro σ H8 ⟨tv,th,w10,w11,rfl,L8,hT,hTO,hlt⟩;obtain ⟨as,hf,hP⟩:=L8.found;have ar:as.length=rows.length:=hP.length;have hw:wordsL[i]?=some wordsL[i]:=List.getElem?_eq_getElem hi10;generalize ap:wordsL[i]=wd at hw
      have hat:atI (wordsL.map V.str) (0 + (i:Int))=some (.str wd):=by
       have:(0:Int) + (i:Int)=((i:Nat):Int):=by omega
       rw [this];exact A1 (by rw [getElem?_map,hw]; rfl)
      refine ⟨_,rfl,.inl ⟨rfl,_,SqL.of hf⟩,_,rfl,_,rfl,pw,_,_,.str wd,rfl,rfl,SqL.of L8.words,hat,_,rfl,sl2,fun p hp=>?_⟩;have sp:=AD (Same.refl _) hp (o:=HO.tup [V.str wd,tv]);have hz1:(as.map V.ref).length < sizeLine:=Ad (by rw [AI]; omega);refine ⟨pf,_,.ref p,rfl,rfl,sp _ _ hf,hz1,?_⟩;have t1:SameT (upd H8 p (.tup [V.str wd,tv])) (upd (upd H8 p (.tup [V.str wd,tv])) pf (.lst (as.map V.ref++[.ref p]))):=SameT.upd (sp _ _ hf);obtain ⟨bs,hu,am⟩:=L8.due;have hbl:=Cc am;have hu1:(upd (upd H8 p (.tup [V.str wd,tv])) pf (.lst (as.map V.ref++[.ref p]))) pu=some (.lst (bs.map V.ref)):=by rw [AH (Ne.symm AP.fu)]; exact sp _ _ hu
      have hw1:(upd (upd H8 p (.tup [V.str wd,tv])) pf (.lst (as.map V.ref++[.ref p]))) pw=some (.lst (wordsL.map V.str)):=by rw [AH AP.wf]; exact sp _ _ L8.words
      refine ⟨_,rfl,.inl ⟨rfl,_,SqL.of hu1⟩,_,rfl,_,rfl,pw,_,_,.str wd,rfl,rfl,SqL.of hw1,hat,_,rfl,sl2,fun q hq=>?_⟩;have sq:=AD (Same.refl _) hq (o:=HO.tup [V.str wd,V.int ((CK (dues rows) th:Nat):Int)]);have hz2:(bs.map V.ref).length < sizeLine:=Ad (by rw [AI]; omega);refine ⟨pu,_,.ref q,rfl,rfl,sq _ _ hu1,hz2,?_⟩;have t2:=SameT.upd (sq _ _ hu1) (ys:=bs.map V.ref++[.ref q]);have tall:=((SameT.of sp).trans t1).trans ((SameT.of sq).trans t2);obtain ⟨x,y,ed⟩:=L8.dice;have RR:Lu (dues rows) (wd,th):=⟨DO,by rw [Bd]; omega,PM wd (mem_of_getElem? hw),?_,hTO,hlt⟩;refine ⟨_,_,_,_,_,_,_,rows++[(wd,th)],rfl,by rw [length_append,az]; rfl,Jz RO RR,?_,?_⟩
      ·rw [map_append,ci,take_add_one,hw,Option.toList_some]; rfl
      ·refine ⟨fun c o ec hc=>?_,⟨x,y,?_⟩,?_,⟨as++[p],?_,?_⟩,⟨bs++[q],?_,?_⟩⟩
       ·have n1:c ≠ pu:=AJ ec AP.nu;have n2:c ≠ pf:=AJ ec AP.nf;rw [AH n1];refine sq _ _ ?_;rw [AH n2];exact sp _ _ (L8.old c o ec hc)
       ·rw [AH (Ne.symm AP.ud)];refine sq _ _ ?_;rw [AH (Ne.symm AP.fd)];exact sp _ _ ed
       ·rw [AH AP.wu];exact sq _ _ hw1
       ·rw [AH AP.fu];refine sq _ _ ?_;rw [AB,map_append]; rfl
       ·refine Paired.snoc (Bm tall hP) ?_;exact ⟨tv,t2 _ _ (sq _ _ (t1 _ _ AB)),hT.sameT tall⟩
       ·rw [AB,map_append]; rfl
       ·rw [FB];unfold DT;rw [map_append];exact Paired.snoc (TupsAt.sameT tall am) (t2 _ _ AB)
      ·rw [J1,ci];intro z;have key:=NT ⟨i,hi10⟩;rw [hw] at key;have:=Option.some.inj key;exact of_decide_eq_false this z
 ·rintro σ H2 ⟨v5,v6,v7,v8,v9,v10,v11,rows,rfl,az,RO,ci,L⟩;obtain ⟨as,hf,hP⟩:=L.found;obtain ⟨bs,hu,am⟩:=L.due;refine ⟨_,rfl,_,rfl,sl2,fun q hq=>?_⟩;have sq:=AD (Same.refl _) hq (o:=HO.tup [V.ref pf,V.ref pu]);refine k q pf pu as bs rows _ ⟨fun c o e hc=>sq _ _ (L.old c o e hc),?_⟩ AB nf0 nu0 (sq _ _ hf) (Bm (SameT.of sq) hP) (sq _ _ hu) (TupsAt.sameT (SameT.of sq) am) (by omega) (by omega) RO (fun x hx=>List.mem_of_mem_take (ci ▸ hx));obtain ⟨x,y,e⟩:=L.dice;exact ⟨x,y,sq _ _ e⟩
end
end Mk
end
section
namespace L2
open PySem
theorem Dj {X:Cx} (K:FG) (hK:X.K=K):BY X (.builtin "isinstance") (fun xs H Q=>∃ v C t b,xs=[v,.ref C]/\TyOf K H v t/\W.kitOne K t (.ref C)=some b/\Q (.bl b) H):=by
 subst hK;intro aa s σ H xs us Q I r h;obtain ⟨v,C,t,b,rfl,ty,hk,q⟩:=h;obtain ⟨u,uT,rfl,ru,ruT⟩:=F0 r;cases ruT;exact Hk I ru ty hk fun tk=>⟨.bl b,H,I.tok tk,rfl,q⟩
end L2
namespace Mk
open PySem L2 MK
structure KIsi (K:FG) (C:Addr):Prop where
 cl:Cls K C
 ha:W.findIn K (.ref C) "__class__" = some (some (.builtin "object.__class__"))
 hn:W.specialIn K (.builtin "object.__class__") "__get__" = some (some (.builtin "getset_descriptor.__get__"))
 ht:W.takesIn K (.builtin "object.__class__")=some true
 hm:W.mroIn K C (.type "object")=some true
 nl:W.kitOne K (.type "list") (.ref C)=some false
theorem KIsi.ty {a dx:Addr} {fs:List (Str × V)} (k:KIsi K C) (e:H a=some (.ins C dx fs)):TyOf K H (.ref a) (.ref C):=.ins e k.cl k.ha k.hn k.ht k.hm
theorem Cd (K:FG) (C:Addr):W.kitOne K (.ref C) (.ref C)=some true:=by
 unfold W.kitOne;rw [if_pos (by simp)]
section
def FF (C:Addr):Sp:=fun vs H Q _=>∃ (p:Addr) (due:Aa) (r:Str),vs=[.ref p]/\KindAt C H p due r/\Q (.str r) H
theorem SU:AK ["self"] ["self"] (defScope E6):=fsc
theorem Qs (F:Fun K "rest" "Kind.rest" E6 f fd) (T:Ej K C):Ae P w K mg base CX0 1 f fd ["self"] (FF C):=by
 refine F.m SU fun vs H Q E h=>?_;obtain ⟨p,due,r,rfl,KA,k⟩:=h;refine ⟨rfl,fun ad A outer s hr=>?_⟩;obtain ⟨dx,d1,o1,d2,o2,hp,h1,h2⟩:=KA.ex;refine ⟨_,AF (AR (BG (pv 0) rfl)),?_⟩;exact ⟨_,rfl,p,C,dx,_,_,rfl,hp,T.cl,T.nR,FE _ _ _,k⟩
theorem PP {p q:Str × Nat}:PyData.eqv (.tuple [.str p.1,.int (p.2:Int)]) (.tuple [.str q.1,.int (q.2:Int)])=decide (p=q):=by
 rw [Bool.eq_iff_iff];simp only [PyData.eqv,PyData.eqvAll,Bool.and_true,Bool.and_eq_true,decide_eq_true_eq,beq_iff_eq];constructor
 ·rintro ⟨a,b⟩;exact Prod.ext a (by exact_mod_cast b)
 ·rintro rfl;exact ⟨rfl,rfl⟩
theorem J3:∀ (a b:Aa),PyData.eqv (.list (EH a)) (.list (EH b))=decide (a=b)
 | [],[]=>by simp [EH,PyData.eqv,PyData.eqvAll]
 | [],q :: r=>by simp [EH,PyData.eqv,PyData.eqvAll]
 | p :: r,[]=>by simp [EH,PyData.eqv,PyData.eqvAll]
 | p :: r,q :: s=>by
  have ih:=J3 r s
  have h:PyData.eqv (.list (EH (p :: r))) (.list (EH (q :: s)))=(PyData.eqv (.tuple [.str p.1,.int (p.2:Int)]) (.tuple [.str q.1,.int (q.2:Int)]) && PyData.eqv (.list (EH r)) (.list (EH s))):=by
   simp only [EH,map_cons,PyData.eqv,PyData.eqvAll]
  rw [h,PP,ih,Bool.eq_iff_iff];simp
def Asc (due:Aa):Prop:=∀ p ∈ due,p.1.cps.all (· < 128)=true
def Ly (C:Addr):Sp:=fun vs H Q _=>∃ (a b:Addr) (due:Aa) (r:Str),vs=[.ref a,.ref b]/\KindAt C H a due r/\Asc due /\
 ((∃ xs,H b=some (.lst xs)/\∀ H',Same H H'->Q (.bl false) H')\/∃ (due':Aa) (r':Str),KindAt C H b due' r'/\Asc due'/\∀ H',Same H H'->Q (.bl (decide (due=due'/\r=r'))) H')
theorem UI:AK ["self", "other"] ["self", "other"] (defScope Im):=fsc
theorem SW (F:Fun K "__eq__" "Kind.__eq__" Im f fd) (B:Bl mg) (T:Ej K C) (KI:KIsi K C) (mC:mg "Kind" = some (.ref C)) (GR:Mt P w K mg base C "rows" 1 ["self"] (K8 C)):Ae P w K mg base CX0 2 f fd ["self", "other"] (Ly C):=by
 obtain ⟨fR,dR,GR,mR,bR⟩:=GR.ex;refine F.m UI fun vs H Q E h=>?_;obtain ⟨a,b,due,r,rfl,KA,h1,h⟩:=h;refine ⟨rfl,fun ad A outer s hr=>?_⟩;have hu64:=hr.units
 refine ⟨_,AF (AR (Bg (AV (Dj K rfl) rfl B.isi D9 (AA (pv 1) (AA (BI (v:=.ref C) rfl mC rfl) AC)))
  (Bg (CD (Rv K rfl hu64) (As (pv 0) T.cl mR GR hr bR .nil AQ) (As (pv 1) T.cl mR GR hr bR .nil AQ) (AZ _))
   (B6 (CD CB (BG (pv 0) rfl) (BG (pv 1) rfl) (AZ _)))))),?_⟩
 obtain ⟨dx,d1,d2,hp⟩:=KA.ins;rcases h with ⟨xs,hb,k⟩ | ⟨due',r',KB,h2,k⟩
 ·refine ⟨_,rfl,_,C,_,false,rfl,.lst hb,KI.nl,_,rfl,?_⟩;exact An (k _ (Same.refl _))
 ·obtain ⟨dy,e1,e2,hq⟩:=KB.ins;refine ⟨_,rfl,_,C,_,true,rfl,KI.ty hq,Cd K C,_,rfl,?_⟩;refine BC ?_;refine ⟨_,rfl,a,dx,_,rfl,hp,(Bz _ _ _),a,due,r,rfl,KA,fun l as H1 s1 hl ht=>?_⟩;refine ⟨_,rfl,b,dy,_,rfl,s1 _ _ hq,(Bz _ _ _),b,due',r',rfl,KB.same s1,fun l2 as2 H2 s2 hl2 ht2=>?_⟩;refine ⟨_,_,BV (s2 _ _ hl) (En (TupsAt.same s2 ht)),BV hl2 (En ht2),DW h1,DW h2,_,rfl,?_⟩;rw [J3];have s12:=s1.trans s2;refine Bj (fun e=>?_) (fun e=>?_)
  ·have e':due=due':=of_decide_eq_true e;refine ⟨_,rfl,a,C,dx,_,_,rfl,s12 _ _ hp,T.cl,T.nR,FE _ _ _,_,rfl,b,C,dy,_,_,rfl,s12 _ _ hq,T.cl,T.nR,FE _ _ _,rfl,?_⟩;have:=k _ s12;have ev:decide (V.str r=V.str r')=decide (due=due'/\r=r'):=decide_eq_decide.mpr ⟨fun z=>⟨e',V.str.inj z⟩,fun z=>by rw [z.2]⟩;rw [ev];exact this
  ·have:=k _ s12;rw [decide_eq_false (fun z=>e (decide_eq_true z.1))] at this;exact this
end
noncomputable def NV (due:Aa) (e m:Addr):LK:=[(Sum.inr "known", V.int (Ao (due.map (·.2)):Nat)),(Sum.inr "firsts", V.ref e),(Sum.inr "marks", V.ref m),(Sum.inr "bits", V.int (Ao (A6 due):Nat))]
theorem SY (a b c d:V):Ey [] [((Sum.inr "known" : Key),a),(Sum.inr "firsts", b),(Sum.inr "marks", c),(Sum.inr "bits", d)]=[((Sum.inr "known" : Key),a),(Sum.inr "firsts", b),(Sum.inr "marks", c),(Sum.inr "bits", d)]:=by kernel_rfl
theorem B4 (due:Aa) (e m:Addr):BS (NV due e m) (Sum.inr "known")=some (V.int (Ao (due.map (·.2)):Nat)):=by kernel_rfl
theorem NW (due:Aa):(A6 due).Pairwise (· < ·):=by
 have h1:=Ek due;have h2:(BK due).Nodup:=(Cz due).nodup_iff.mpr (NK due);have h3:(BK due).Pairwise (· < ·):=List.Pairwise.imp₂ (fun a b h n=>Nat.lt_of_le_of_ne h n) h1 h2;exact h3.filter _
theorem IJ (due:Aa):((A6 due).map fun n:Nat=>(n:Int)).sum=((Ao (A6 due):Nat):Int):=by
 have hs:(A6 due).sum=Ao (A6 due):=NE (fun n hn=>(mem_filter.mp hn).2) (NW due);rw [← hs];clear hs;generalize A6 due=l;induction l with
 | nil=>rfl
 | cons a r ih=>rw [map_cons,sum_cons,sum_cons,ih]; push_cast; rfl
theorem G3 (due:Aa):Ao ((Ah due).map (·.1))=Ao (due.map (·.2)):=by
 refine Nat.eq_of_testBit_eq fun k=>?_;rw [Dd,Dd,Bool.eq_iff_iff,any_eq_true,any_eq_true];constructor
 ·rintro ⟨n,hn,hb⟩;obtain ⟨q,hq,rfl⟩:=mem_map.mp hn;exact ⟨q.1,mem_map.mpr ⟨_,IG hq,rfl⟩,hb⟩
 ·rintro ⟨n,hn,hb⟩;obtain ⟨p,hp,rfl⟩:=mem_map.mp hn;exact ⟨p.2,NM hp,hb⟩
section
def Iy:Sp:=fun vs H Q _=>∃ (u:Addr) (bs:List Addr) (due:Aa),vs=[.ref u]/\H u=some (.lst (bs.map V.ref))/\TupsAt H bs (DT due)/\due.length <= 10/\(∀ p ∈ due,p.2 < 2 ^ 20) /\
 ∀ t e m ms H',Same H H'->H' t=some (.dK (NV due e m))->H' e=some (.dK (Bu (Ah due)))->H' m=some (.lst (ms.map V.ref))->TupsAt H' ms (Lv due)->Q (.ref t) H'
noncomputable abbrev SZ:List Str:=["_law_due", "_law_known", "_law_firsts", "_law_name", "_law_number", "_law_marks"]
theorem scTable:AK SZ ["_law_due"] (defScope DP):=fsc
theorem PQ (F:Fun K "_law_table_of" "_law_table_of" DP f fd) (B:Bl mg) (GB:Fn P w K mg base "_law_bits_of" 1 ["_law_number"] Gz):Ae P w K mg base CX0 2 f fd ["_law_due"] Iy:=by
 obtain ⟨fB,dB,GB,mB,kB,bB⟩:=GB.ex;refine F.m scTable fun vs H Q E h=>?_;obtain ⟨u,bs,due,rfl,hu0,am,h10,hlt,k⟩:=h;refine ⟨rfl,fun ad A outer s hr=>?_⟩;have hu:=FO hr
 refine ⟨_,AE (Bb (hs:=by kernel_rfl) (hw:=by kernel_rfl) (BW (AA AG (AA F7 AC))) (BA rfl (AM (AN (i:=1) scTable.nd rfl (Or.inl rfl)) (AM (AN (i:=2) scTable.nd rfl (Or.inr rfl)) Aw))))
  (AE (Bh PassesOwn.never rfl (BJ (pv 0)) (BA rfl (AM (AN (i:=3) scTable.nd rfl (Or.inl rfl)) (AM (AN (i:=4) scTable.nd rfl (Or.inl rfl)) Aw)))
   (AE (Ag (i:=1) scTable.nd rfl (Or.inl rfl) (AL HY (pv 1) (pv 4)))
   (AF (Av (Fu (Mf hu (pv 4) (pv 2))) (AF (Ld hu (pv 2) (pv 4) (pv 3) rfl)) AY))))
  (AE (ET (i:=5) scTable.nd rfl (by kernel_rfl) ["_law_firsts"] [some 2] (by kernel_rfl) (by decide +kernel) (by kernel_rfl) rfl (BJ (AV (IZ rfl) rfl B.sorted NF (AA (pv 2) AC)))
   (fun _ _ _ _ _ _=>Fc (AW CB (AV (A4 K rfl) rfl B.len PySem.boot_len (AA (AO GB hr rfl mB kB bB .nil AQ (AA (pv 0) AC)) AC)) AG (AZ _)))
   (fun _ _ _ _ _ _=>BW (AA (CJ hu (pv 1) (pv 0) (fun _ _=>rfl)) (AA (pv 0) AC))))
  (AF (AR (QE (ES Af (pv 1) (ES Af (pv 2) (ES Af (pv 5) (ES Af (AV (EW rfl) rfl B.sum Gp (AA (GH [] [] (by kernel_rfl) (by decide +kernel) (by kernel_rfl) (by kernel_rfl) rfl (BJ (pv 5)) (fun _ _ _ _ _ _=>A8) (fun _ _ _ _ _ _=>pv 1)) AC)) QD)))) rfl rfl (by simp) (by decide)))))),?_⟩
 refine fun e he=>⟨sl2,fun q hq=>⟨q,_,rfl,SqT.of AB,rfl,_,_,rfl,_,_,rfl,rfl,?_⟩⟩;have s1:=AD (AD (Same.refl _) he (o:=HO.dK [])) hq (o:=HO.tup [V.int 0,V.ref e]);have hbl:bs.length=due.length:=by rw [am.length]; unfold DT; rw [AI]
 refine ⟨_,rfl,u,rfl,⟨_,SqL.of (s1 _ _ hu0)⟩,C8 (K:=K) (a:=u) (xs:=bs.map V.ref) (fun i σ H2=>∃ v3 v4:Option V,σ=[some (.ref u),some (.int (Ao ((due.take i).map (·.2)):Nat)),some (.ref e),v3,v4,none]/\Same H H2/\H2 e=some (.dK (Bu (Ah (due.take i)))))
  ⟨none,none,rfl,s1,AD (Same.refl _) hq _ _ AB⟩ (fun i σ H2 _ ⟨_,_,_,s2,_⟩=>SqL.of (s2 _ _ hu0)) ?_ ?_⟩
 ·rintro i v σ H2 hi ⟨v3,v4,rfl,s2,he2⟩;obtain ⟨bb,p,rfl,_,aj,ai⟩:=Di (TupsAt.same s2 am) hi;have et:due.take (i + 1)=due.take i++[p]:=by rw [take_add_one,aj]; rfl
  have ek:(((Ao ((due.take (i + 1)).map (·.2)):Nat)):Int)=Builtin.bitOr ((Ao ((due.take i).map (·.2)):Nat):Int) (p.2:Int):=by
   rw [et,map_append,B8];exact congrArg _ (Dz _ _)
  have hle:(Bu (Ah (due.take i))).length <= 100:=by
   unfold Bu;rw [AI];have:=Cy (due.take i);rw [length_take] at this;omega
  refine ⟨bb,_,rfl,SqT.of ai,rfl,_,_,rfl,_,_,rfl,rfl,?_⟩;refine ⟨_,rfl,_,rfl,_,_,rfl,rfl,?_⟩;by_cases z:p.2 ∈ (Ah (due.take i)).map (·.1)
  ·refine ⟨_,rfl,_,rfl,e,_,rfl,.inl ⟨_,Sum.inl (p.2:Int),.inl he2,rfl,(Gv z).symm⟩,_,rfl,?_⟩;refine An ⟨_,_,by rw [ek]; rfl,s2,?_⟩;rw [et,CL,if_pos (by simpa using z)];exact he2
  ·refine ⟨_,rfl,_,rfl,e,_,rfl,.inl ⟨_,Sum.inl (p.2:Int),.inl he2,rfl,(FD z).symm⟩,_,rfl,?_⟩;refine BC ⟨_,rfl,_,rfl,_,rfl,e,_,rfl,DPut.k (k:=Sum.inl (p.2:Int)) he2 (Ad (by omega)),?_⟩;refine ⟨_,_,by rw [ek]; rfl,Gu s2 he,?_⟩;rw [AB,et,CL,if_neg (by simpa using z),Jx z]
 ·rintro σ H2 ⟨v3,v4,rfl,s2,he2⟩;have e1:due.take (bs.map V.ref).length=due:=by rw [AI,hbl,take_length]
  rw [e1] at he2 ⊢;have hle:(Bu (Ah due)).length <= due.length:=by unfold Bu; rw [AI]; exact Cy due
  refine ⟨_,rfl,e,_,rfl,.inl he2,by omega,fun kv hkv=>?_,fun l ns hl hperm hsort=>?_⟩
  ·unfold Bu at hkv;obtain ⟨q,_,rfl⟩:=mem_map.mp hkv;exact ⟨_,rfl⟩
  ·have en:=O6 hperm hsort;subst en;have s3:=AD (Same.refl _) hl (o:=HO.lst (((BK due).map fun n:Nat=>(n:Int)).map V.int));have exs:((BK due).map fun n:Nat=>(n:Int)).map V.int=AU (BK due):=(Cw _).symm
   refine ⟨l,rfl,⟨_,SqL.of AB⟩,BE (K:=K) (a:=l) (xs:=AU (BK due))
    (fun i ys H3=>∃ as,ys=as.map V.ref/\Same H2 H3/\H3 l=some (.lst (AU (BK due)))/\TupsAt H3 as ((((BK due).take i).filter BX).map fun n=>(V.str (Jw (Ah due) n),V.int (n:Int)))) ⟨[],rfl,s3,by rw [AB,exs],.nil⟩
    (fun i ys H3 _ ⟨_,_,_,e,_⟩=>SqL.of e) (fun i ys H3 ⟨as,e,_,_,t⟩=>?_) ?_ ?_⟩
   ·have:=t.length;rw [e,AI,this,AI];have h3:(((BK due).take i).filter BX).length <= ((BK due).take i).length:=length_filter_le _ _;rw [length_take] at h3;have:=IH due;omega
   ·rintro i v ys H3 hi ⟨as,rfl,s4,hl3,ht⟩;obtain ⟨n,hn,rfl⟩:=Lq hi;have bt:n ∈ (Ah due).map (·.1):=mem_keysS.mp (mem_of_getElem? hn);have hn42:n < 2 ^ 42:=Nat.lt_trans (Lw hlt n bt) (by decide);have et:((BK due).take (i + 1)).filter BX=((BK due).take i).filter BX++(if BX n then [n] else []):=PySem.take_succ_filter BX _ i n hn;refine ⟨_,rfl,n,rfl,fun l2 zs H4 s5 hl4 hz=>⟨l2,_,rfl,.inl (SqL.of hl4),rfl,_,rfl,?_⟩⟩
    have eb:decide (V.int ((zs.length:Nat):Int)=V.int 1)=BX n:=by
     rw [← HM hn42,hz];refine decide_eq_decide.mpr ⟨fun h=>?_,fun h=>by rw [h]; rfl⟩;have:=V.int.inj h;omega
    rw [eb];have hl5:=s5 _ _ hl3;refine Bj (fun hm=>?_) (fun hm=>?_)
    ·refine ⟨_,rfl,_,rfl,e,_,rfl,.inl ⟨_,Sum.inl (n:Int),.inl (s5 _ _ (s4 _ _ he2)),rfl,(Gv bt).symm⟩,_,rfl,sl2,fun b hb=>?_⟩;refine ⟨as++[b],by rw [map_append]; rfl,AD (s4.trans s5) hb,by rw [AH (AJ hl5 hb)]; exact hl5,?_⟩;rw [et,hm,if_pos rfl,map_append];exact NO (AD s5 hb) ht AB
    ·refine ⟨as,rfl,s4.trans s5,hl5,?_⟩;rw [et,if_neg hm,append_nil];exact TupsAt.same s5 ht
   ·rintro ys H3 ⟨as,rfl,s4,_,ht⟩ m hm
    have el:(BK due).take (AU (BK due)).length=BK due:=by
     have:(AU (BK due)).length=(BK due).length:=by unfold AU; rw [AI]
     rw [this]; exact take_length
    rw [el] at ht;have ht':TupsAt H3 as (Lv due):=ht;have s5:=AD (Same.refl _) hm (o:=HO.lst (as.map V.ref));have ar:as.length=(A6 due).length:=by rw [ht'.length]; exact NP due
    refine fun t ht0=>⟨_,rfl,_,rfl,_,rfl,?_⟩;have s6:=AD (Same.refl _) ht0 (o:=HO.dK []);have htm:=TupsAt.same (s5.trans s6) ht';have hm6:=s6 _ _ (AB (H:=H3) (a:=m) (o:=HO.lst (as.map V.ref)));refine ⟨_,rfl,m,rfl,⟨_,SqL.of hm6⟩,BE (K:=K) (a:=m) (xs:=as.map V.ref) (fun j ys H7=>ys=AU ((A6 due).take j)/\H7=upd (upd H3 m (.lst (as.map V.ref))) t (.dK [])) ⟨by rfl,rfl⟩ (fun j ys H7 _ ⟨_,e⟩=>e ▸ SqL.of hm6) (fun j ys H7 ⟨e,_⟩=>?_) ?_ ?_⟩
    ·rw [e]; unfold AU; rw [AI,length_take];have h3:(A6 due).length <= (BK due).length:=length_filter_le _ _;have:=IH due;omega
    ·rintro j v ys H7 hj ⟨rfl,rfl⟩;rw [getElem?_map] at hj
     obtain ⟨b,hb,rfl⟩:∃ b,as[j]?=some b/\v=V.ref b:=by
      cases q:as[j]? with
      | none=>rw [q] at hj; cases hj
      | some x=>rw [q] at hj; exact ⟨x,rfl,(Option.some.inj hj).symm⟩
     obtain ⟨pq,hpq,ai⟩:=Jy htm hb;unfold Lv at hpq;rw [getElem?_map] at hpq
     obtain ⟨n,hn,rfl⟩:∃ n,(A6 due)[j]?=some n/\pq=(V.str (Jw (Ah due) n),V.int (n:Int)):=by
      cases q:(A6 due)[j]? with
      | none=>rw [q] at hpq; cases hpq
      | some x=>rw [q] at hpq; exact ⟨x,rfl,(Option.some.inj hpq).symm⟩
     refine ⟨b,_,rfl,SqT.of ai,rfl,_,_,rfl,_,_,rfl,rfl,?_⟩;refine ⟨_,rfl,?_,rfl⟩;rw [take_add_one,hn,Option.toList_some];unfold AU;rw [map_append];rfl
    ·rintro ys H7 ⟨rfl,rfl⟩ l2 hl2;have el2:(A6 due).take (as.map V.ref).length=A6 due:=by rw [AI,ar,take_length]
     rw [el2];have s7:=AD (Same.refl _) hl2 (o:=HO.lst (AU (A6 due)));refine ⟨l2,(A6 due).map fun n:Nat=>(n:Int),rfl,SqL.of (by rw [AB,Cw]),fun n hn=>?_,?_,?_⟩
     ·obtain ⟨x,_,rfl⟩:=mem_map.mp hn;exact Int.natCast_nonneg _
     ·rw [IJ];have:=Gf (O8 hlt);omega
     ·rw [IJ];refine ⟨s7 _ _ AB,[((Sum.inr "known" : Key),V.int (Ao (due.map (·.2)):Nat)),(Sum.inr "firsts", .ref e),(Sum.inr "marks", .ref m),(Sum.inr "bits", V.int (Ao (A6 due):Nat))],rfl,(by show 4 <= 15; decide),?_⟩;rw [SY];have nt:∀ b o,H3 b=some o->b ≠ t:=fun b o ebo=>AJ (s5 _ _ ebo) ht0
      have sAll:Same (upd H3 m (.lst (as.map V.ref))) (upd (upd (upd (upd H3 m (.lst (as.map V.ref))) t (.dK [])) l2 (.lst (AU (A6 due)))) t (.dK (NV due e m))):=fun b o ebo=>by
       rw [AH (AJ ebo ht0)];exact s7 _ _ (s6 _ _ ebo)
      refine k t e m as _ ?_ AB ?_ (sAll _ _ AB) (TupsAt.same (s5.trans sAll) ht')
      ·intro b o ebo;exact sAll _ _ (s5 _ _ (s4 _ _ (s2 _ _ ebo)))
      ·exact sAll _ _ (s5 _ _ (s4 _ _ he2))
end
theorem DX:∀ {ds:List PyData},(∀ d ∈ ds,PyData.eqv d d=true)->PyData.eqvAll ds ds=true
 | [],_=>by rw [PyData.eqvAll]
 | d :: r,h=>by
  rw [PyData.eqvAll,h d mem_cons_self,DX fun x hx=>h x (mem_cons_of_mem _ hx)];rfl
theorem HR {ds:List PyData} (h:∀ d ∈ ds,PyData.eqv d d=true):PyData.eqv (.list ds) (.list ds)=true:=by
 rw [PyData.eqv]; exact DX h
theorem Iz {ds:List PyData} (h:∀ d ∈ ds,PyData.eqv d d=true):PyData.eqv (.tuple ds) (.tuple ds)=true:=by
 rw [PyData.eqv]; exact DX h
theorem Eo (x:Str):PyData.eqv (.str x) (.str x)=true:=by simp [PyData.eqv]
theorem Ep (n:Int):PyData.eqv (.int n) (.int n)=true:=by simp [PyData.eqv]
theorem Dr (xs:List Nat):PyData.eqv (.list (xs.map fun n:Nat=>PyData.int (n:Int))) (.list (xs.map fun n:Nat=>PyData.int (n:Int)))=true:=HR fun d hd=>by
 obtain ⟨n,_,rfl⟩:=mem_map.mp hd;exact Ep _
theorem UJ:¬ (("own_kind" : Str) = "bits"):=by decide +kernel
noncomputable def G4 (kp:Addr) (n:Nat):List (Str × V):=BP "bits" (.int (n:Int)) (BP "own_kind" (.ref kp) [])
theorem I0 (kp:Addr) (n:Nat):(G4 kp n).lookup ("own_kind" : Str)=some (.ref kp):=by
 unfold G4;rw [Ac,if_neg UJ,Ac,if_pos rfl]
theorem JA (kp:Addr) (n:Nat):(G4 kp n).lookup ("bits" : Str)=some (.int (n:Int)):=by
 unfold G4;rw [Ac,if_pos rfl]
theorem Lz (kp:Addr) (n:Nat) {m:Str} (h1:¬ m = "bits") (h2:¬ m = "own_kind"):(G4 kp n).lookup m=none:=by
 unfold G4;rw [Ac,if_neg h1,Ac,if_neg h2];rfl
def ValAt (VC:Addr) (H:Hp) (p kp:Addr) (n:Nat):Prop:=∃ dx,H p=some (.ins VC dx (G4 kp n))
theorem ValAt.same {p kp:Addr} {n:Nat} (s:Same H H') (h:ValAt VC H p kp n):ValAt VC H' p kp n:=by
 obtain ⟨dx,h⟩:=h;exact ⟨dx,s _ _ h⟩
structure JB (K:FG) (VC:Addr):Prop where
 cl:Cls K VC
 nK:NoAttr K VC "own_kind"
 nB:NoAttr K VC "bits"
noncomputable def kn (due:Aa):Nat:=Ao (due.map (·.2))
section
def EI:Sp:=fun vs H Q _=>∃ n:Nat,vs=[.int (n:Int)]/\n < 2 ^ 40/\Q (.bl true) H
theorem LF:AK ["thing"] ["thing"] (defScope E7):=fsc
theorem J4 {tL:Tok} (F:Fun K "is_number" "is_number" E7 f fd) (hL:mg "LIMIT" = some (.int 1099511627776 tL)) (GW:Fn P w K mg base "is_whole" 1 ["thing"] Cb):Ae P w K mg base CX0 2 f fd ["thing"] EI:=by
 obtain ⟨fW,dW,GW,mW,kW,bW⟩:=GW.ex;refine F.m LF fun vs H Q E h=>?_;obtain ⟨n,rfl,hn,k⟩:=h;refine ⟨rfl,fun ad A outer s hr=>?_⟩;refine ⟨_,AF (AR (Bg (AO GW hr rfl mW kW bW .nil AQ (AA (pv 0) AC)) (B6 (Fy CZ HZ AG (pv 0) (BI (v:=.int 1099511627776) rfl hL ⟨tL,rfl⟩))))),?_⟩;refine ⟨_,rfl,(n:Int),rfl,_,rfl,?_⟩;refine BC ?_;refine ⟨_,rfl,_,_,rfl,rfl,_,rfl,?_⟩;rw [decide_eq_true (show (0:Int) <= (n:Int) by omega)];refine BC ?_;refine ⟨_,_,rfl,rfl,?_⟩;show Q (V.bl (decide ((n:Int) < 1099511627776))) H
 rw [decide_eq_true (show (n:Int) < 1099511627776 by have:(2:Nat) ^ 40=1099511627776:=by decide
                                                     omega)]
 exact k
def Er (C:Addr):Sp:=fun vs H Q _=>∃ (kp:Addr) (due:Aa) (r:Str) (n:Nat),vs=[.ref kp,.int (n:Int)]/\KindAt C H kp due r/\∀ H',Same H H'->Q (.int ((n - (n &&& kn due):Nat):Int)) H'
theorem PR:AK ["kind", "number"] ["kind", "number"] (defScope Io):=fsc
theorem NX (F:Fun K "rest_of" "rest_of" Io f fd) (T:Ej K C) (GK:Mt P w K mg base C "known" 2 ["self"] (Dh C)):Ae P w K mg base CX0 3 f fd ["kind", "number"] (Er C):=by
 obtain ⟨fK,dK,GK,mK,bK⟩:=GK.ex;refine F.m PR fun vs H Q E h=>?_;obtain ⟨kp,due,r,n,rfl,KA,k⟩:=h;refine ⟨rfl,fun ad A outer s hr=>?_⟩;obtain ⟨dx,d1,d2,hp⟩:=KA.ins;refine ⟨_,AF (AR (AL B7 (pv 1) (JP KR (As (pv 0) T.cl mK GK hr bK .nil AQ)))),?_⟩;refine ⟨_,rfl,_,rfl,kp,dx,_,rfl,hp,(Bz _ _ _),kp,due,r,rfl,KA,fun H1 s1=>?_⟩;refine ⟨_,rfl,_,_,rfl,rfl,?_⟩;show Q (V.int (Builtin.bitAnd (n:Int) (Builtin.bitNot ((Ao ((Ah due).map (·.1)):Nat):Int)))) H1;rw [Dy,G3];exact k H1 s1
def Fi (C VC:Addr):Sp:=fun vs H Q _=>∃ (p dx kp:Addr) (due:Aa) (r:Str) (n:Nat),vs=[.ref p,.ref kp,.int (n:Int)]/\H p=some (.ins VC dx [])/\KindAt C H kp due r/\n < 2 ^ 40/\(r = "keep" \/ n - (n &&& kn due)=0) /\
 ∀ H',(∀ b o,H b=some o->b ≠ p->H' b=some o)->ValAt VC H' p kp n->Q .non H'
theorem Qt:AK ["self", "kind", "number"] ["self", "kind", "number"] (defScope D4):=fsc
theorem J5 (F:Fun K "__init__" "Value.__init__" D4 f fd) (T:Ej K C) (VT:JB K VC)
  (GN:Fn P w K mg base "is_number" 2 ["thing"] EI) (GR:Fn P w K mg base "rest_of" 3 ["kind", "number"] (Er C)) (GRe:Mt P w K mg base C "rest" 1 ["self"] (FF C)):Ae P w K mg base CX0 4 f fd ["self", "kind", "number"] (Fi C VC):=by
 obtain ⟨fN,dN,GN,mN,kN,bN⟩:=GN.ex;obtain ⟨fR,dR,GR,mR,kR,bR⟩:=GR.ex;obtain ⟨fE,dE,GE,mE,bE⟩:=GRe.ex;refine F.m Qt fun vs H Q E h=>?_;obtain ⟨p,dx,kp,due,r,n,rfl,hp,KA,hn,hrest,k⟩:=h;refine ⟨rfl,fun ad A outer s hr=>?_⟩;have hr1:Room 1 _:=hr.mono (by decide);have hr2:Room 2 _:=hr.mono (by decide);obtain ⟨dxk,d1,d2,hpk⟩:=KA.ins
 refine ⟨_,AE (Av (A3 (A9 (AO GN hr2 rfl mN kN bN .nil AQ (AA (pv 2) AC)))) (AF Am) AY)
  (Au (Av (PW.pt (C6 (AW EO (As (pv 1) T.cl mE GE hr1 bE .nil AQ) Af (AZ _)) (CA (AW EO (AO GR hr rfl mR kR bR .nil AQ (AA (pv 1) (AA (pv 2) AC))) AG (AZ _))))) (AF Am) AY)
  (AE (Ev (pv 0) (pv 1) rfl) (AF (Ev (pv 0) (pv 2) rfl)))),?_⟩
 refine ⟨_,rfl,n,rfl,hn,_,rfl,?_⟩;refine An ?_;refine ⟨fun σ H1=>σ=[some (.ref p),some (.ref kp),some (.int (n:Int))]/\Same H H1,fun R hR=>?_,?_⟩
 ·refine ⟨_,rfl,kp,dxk,_,rfl,hpk,(Bz _ _ _),kp,due,r,rfl,KA,rfl,_,rfl,?_⟩;by_cases hk:r = "keep"
  ·rw [decide_eq_true (show V.str r=V.str "keep" by rw [hk])];exact An (An (hR _ _ ⟨rfl,Same.refl _⟩))
  ·rw [decide_eq_false (show ¬ V.str r=V.str "keep" from fun z=>hk (V.str.inj z))];refine BC ?_;refine ⟨_,rfl,_,rfl,kp,due,r,n,rfl,KA,fun H1 s1=>⟨rfl,_,rfl,?_⟩⟩;have h0:=hrest.resolve_left hk;rw [h0];exact An (hR _ _ ⟨rfl,s1⟩)
 ·rintro σ H1 ⟨rfl,s1⟩;refine ⟨_,rfl,_,rfl,p,VC,dx,[],rfl,s1 _ _ hp,VT.cl,VT.nK,(by show 0 < 1000; decide),?_⟩;refine ⟨_,rfl,_,rfl,p,VC,dx,_,rfl,AB,VT.cl,VT.nB,Nat.lt_of_le_of_lt (CG _ _ _) (by show 1 < 1000; decide),?_⟩;refine k _ (fun b o e hb=>?_) ⟨dx,AB⟩;rw [AH hb,AH hb];exact s1 _ _ e
def Ce (VC:Addr):Sp:=fun vs H Q _=>∃ (p kp:Addr) (n:Nat),vs=[.ref p]/\ValAt VC H p kp n/\Q (.int (n:Int)) H
theorem NY:AK ["self"] ["self"] (defScope Cr):=fsc
theorem LG (F:Fun K "number" "Value.number" Cr f fd) (VT:JB K VC):Ae P w K mg base CX0 1 f fd ["self"] (Ce VC):=by
 refine F.m NY fun vs H Q E h=>?_;obtain ⟨p,kp,n,rfl,⟨dx,hp⟩,k⟩:=h;refine ⟨rfl,fun ad A outer s hr=>?_⟩;refine ⟨_,AF (AR (BG (pv 0) rfl)),?_⟩;exact ⟨_,rfl,p,VC,dx,_,_,rfl,hp,VT.cl,VT.nB,JA _ _,k⟩
def JC (VC:Addr):Sp:=fun vs H Q _=>∃ (p kp:Addr) (n:Nat),vs=[.ref p]/\ValAt VC H p kp n/\Q (.ref kp) H
theorem Qu:AK ["self"] ["self"] (defScope D5):=fsc
theorem PU (F:Fun K "kind" "Value.kind" D5 f fd) (VT:JB K VC):Ae P w K mg base CX0 1 f fd ["self"] (JC VC):=by
 refine F.m Qu fun vs H Q E h=>?_;obtain ⟨p,kp,n,rfl,⟨dx,hp⟩,k⟩:=h;refine ⟨rfl,fun ad A outer s hr=>?_⟩;refine ⟨_,AF (AR (BG (pv 0) rfl)),?_⟩;exact ⟨_,rfl,p,VC,dx,_,_,rfl,hp,VT.cl,VT.nK,I0 _ _,k⟩
def PV (C VC:Addr):Sp:=fun vs H Q _=>∃ (a:Addr) (v:V) (ka:Addr) (na:Nat) (due:Aa) (r:Str),vs=[.ref a,v]/\ValAt VC H a ka na/\KindAt C H ka due r/\Asc due /\
 ((∃ i,v=.int i/\Q (.bl false) H)\/∃ (b kb:Addr) (nb:Nat) (due':Aa) (r':Str),v=.ref b/\ValAt VC H b kb nb/\KindAt C H kb due' r'/\Asc due'/\∀ H',Same H H'->Q (.bl (decide ((due=due'/\r=r')/\na=nb))) H')
theorem Td:AK ["self", "other"] ["self", "other"] (defScope Gj):=fsc
theorem Sa (F:Fun K "__eq__" "Value.__eq__" Gj f fd) (B:Bl mg) (T:Ej K C) (VT:JB K VC) (VI:KIsi K VC) (hI:W.kitOne K (.type "int") (.ref VC)=some false) (mV:mg "Value" = some (.ref VC))
  (GE:Mt P w K mg base C "__eq__" 2 ["self", "other"] (Ly C)):Ae P w K mg base CX0 3 f fd ["self", "other"] (PV C VC):=by
 obtain ⟨fE,dE,GE,mE,bE⟩:=GE.ex;refine F.m Td fun vs H Q E h=>?_;obtain ⟨a,v,ka,na,due,r,rfl,⟨dx,hp⟩,KA,h1,h⟩:=h;refine ⟨rfl,fun ad A outer s hr=>?_⟩
 refine ⟨_,AF (AR (Bg (AV (Dj K rfl) rfl B.isi D9 (AA (pv 1) (AA (BI (v:=.ref VC) rfl mV rfl) AC)))
  (Bg (CD (Jc GE hr bE mE) (BG (pv 0) rfl) (BG (pv 1) rfl) (AZ _))
   (B6 (CD CB (BG (pv 0) rfl) (BG (pv 1) rfl) (AZ _)))))),?_⟩
 rcases h with ⟨i,rfl,k⟩ | ⟨b,kb,nb,due',r',rfl,⟨dy,hq⟩,KB,h2,k⟩
 ·refine ⟨_,rfl,_,VC,_,false,rfl,.int i,hI,_,rfl,?_⟩;exact An k
 ·refine ⟨_,rfl,_,VC,_,true,rfl,VI.ty hq,Cd K VC,_,rfl,?_⟩;refine BC ?_;obtain ⟨dka,d1,d2,hka⟩:=KA.ins;obtain ⟨dkb,e1,e2,hkb⟩:=KB.ins;refine ⟨_,rfl,a,VC,dx,_,_,rfl,hp,VT.cl,VT.nK,I0 _ _,_,rfl,b,VC,dy,_,_,rfl,hq,VT.cl,VT.nK,I0 _ _,?_⟩;refine ⟨ka,dka,_,kb,rfl,rfl,hka,.inl ⟨_,_,hkb⟩,ka,kb,due,r,rfl,KA,h1,.inr ⟨due',r',KB,h2,fun H1 s1=>⟨_,rfl,_,rfl,?_⟩⟩⟩;refine Bj (fun e=>?_) (fun e=>?_)
  ·have e':=of_decide_eq_true e;refine ⟨_,rfl,a,VC,dx,_,_,rfl,s1 _ _ hp,VT.cl,VT.nB,JA _ _,_,rfl,b,VC,dy,_,_,rfl,s1 _ _ hq,VT.cl,VT.nB,JA _ _,rfl,?_⟩;have ev:decide (V.int (na:Int)=V.int (nb:Int))=decide ((due=due'/\r=r')/\na=nb):=decide_eq_decide.mpr ⟨fun z=>⟨e',by have:=V.int.inj z; omega⟩,fun z=>by rw [z.2]⟩;rw [ev];exact k _ s1
  ·have:=k _ s1;rw [decide_eq_false (fun z=>e (decide_eq_true z.1))] at this;exact this
structure PX (P:Program) (w:World) (K:FG) (mg:SV) (base:Heap) (C VC:Addr):Prop where
 VT:JB K VC
 cls:mg "Value" = some (.ref VC)
 make:∃ f fd,Mk K VC f/\Ae P w K mg base CX0 4 f fd ["self", "kind", "number"] (Fi C VC)/\Binds K fd ["self", "kind", "number"] []
 eq:∃ f fd,Ae P w K mg base CX0 3 f fd ["self", "other"] (PV C VC)/\IR K VC "__eq__" f/\Binds K fd ["self", "other"] []
 isi:KIsi K VC
 ne:W.findIn K (.ref VC) "__ne__" = some (some (.builtin "object.__ne__"))
 ni:W.subIn K (.type "int") (.ref VC)=some false
theorem DY {D kp dx:Addr} (hkp:H kp=none) (ax:H dx=none) (aw:dx ≠ kp):Same H (upd (upd H dx (.own kp)) kp (.ins D dx [])):=by
 refine AD (AD (Same.refl _) ax) ?_;rw [AH (Ne.symm aw)];exact hkp
theorem B5 {Hc:Hp} {kp:Addr} (sN:Same H H') (hkp:H kp=none) (sc:∀ b o,H' b=some o->b ≠ kp->Hc b=some o):Same H Hc:=fun b o e=>sc b o (sN _ _ e) (AJ e hkp)
theorem MA (h:∀ p ∈ due,p.2 < 2 ^ 20):kn due < 2 ^ 20:=by
 unfold kn;exact Gf fun n hn=>by obtain ⟨p,hp,rfl⟩:=mem_map.mp hn; exact h p hp
theorem Sb (x y:Nat):(x ||| y) + (x &&& y)=x + y:=by
 have h:=PyProof.Rows.bitOr_and (x:Int) (y:Int);rw [B8,By] at h;omega
theorem J6 (a b:Nat):a - (a &&& b)=a ^^^ (a &&& b):=by
 have h1:(a ^^^ (a &&& b)) ||| (a &&& b)=a:=by
  refine Nat.eq_of_testBit_eq fun k=>?_;simp only [Nat.testBit_and,Nat.testBit_xor,Nat.testBit_or];cases a.testBit k <;> cases b.testBit k <;> rfl
 have h2:(a ^^^ (a &&& b)) &&& (a &&& b)=0:=by
  refine Nat.eq_of_testBit_eq fun k=>?_;simp only [Nat.testBit_and,Nat.testBit_xor,Nat.zero_testBit];cases a.testBit k <;> cases b.testBit k <;> rfl
 have h3:=Sb (a ^^^ (a &&& b)) (a &&& b);rw [h1,h2] at h3;omega
theorem Qw (a b:Nat):(a - (a &&& b)) - ((a - (a &&& b)) &&& a)=0:=by
 have h:(a - (a &&& b)) &&& a=a - (a &&& b):=by
  have e:a - (a &&& b)=a ^^^ (a &&& b):=J6 a b;rw [e];refine Nat.eq_of_testBit_eq fun k=>?_;simp only [Nat.testBit_and,Nat.testBit_xor];cases a.testBit k <;> cases b.testBit k <;> rfl
 omega
end
section
variable {CU:Addr}
def Cf (K:FG):Sp:=fun vs H Q _=>∃ (e C:Addr) (dx:Option Addr) (x:Str),vs=[.ref e,.str x]/\Ay K C=true/\H e=some (EZ e C dx)/\Q .non H
theorem NZ:AK ["self", "words"] ["self", "words"] (defScope Az):=fsc
theorem G5 (F:FunD K "__init__" "MarkError.__init__" Az f fd) (hV:mg "ValueError" = none):Ae P w K mg base CX0 1 f fd ["self", "words"] (Cf K):=by
 refine F.ok NZ (fun vs H Q E h=>?_) (fun ad A outer s H vs Q E hr h=>?_)
 ·obtain ⟨e,C,dx,x,rfl,_⟩:=h;rfl
 ·obtain ⟨e,C,dx,x,rfl,hC,he,k⟩:=h;refine ⟨_,AF (Bx (OW rfl hV (AA (pv 0) (AA (pv 1) AC)))),?_⟩;exact ⟨_,rfl,_,rfl,e,C,dx,[.str x],rfl,(by show 1 <= 1000; decide),hC,he,k⟩
structure RY (P:Program) (w:World) (K:FG) (mg:SV) (base:Heap) (x:Str) (CU:Addr):Prop where
 cls:mg x=some (.ref CU)
 make:∃ f fd,MkX K CU f/\Ae P w K mg base CX0 1 f fd ["self", "words"] (Cf K)/\Binds K fd ["self", "words"] []
def Uq (H:Hp) (E:XK) (CU:Addr):Prop:=∀ e H',Same H H'->H e=none->H' e=some (E1 e CU none)->E (.ref CU) none H'
theorem none_of {x:Addr} (s:Same H H') (h:H' x=none):H x=none:=by
 cases e:H x with
 | none=>rfl
 | some u=>rw [s _ _ e] at h; cases h
theorem G6 {te:XK->TE} {σ:St} {H1:Hp} {E:XK} {D:C4} {x:Str} (hC:Ay K CU=true) (s1:Same H H1) (h:Uq H E CU):Ii CU (Ih CU (Cf K) [] E0 (Ar (tC (.str x)) CN)) E D σ H1:=by
 refine ⟨(by show 1 <= 1000; decide),fun a ha=>?_⟩;refine ⟨a,CU,none,x,rfl,hC,AB,rfl,a,none,rfl,AB,?_⟩;refine h a _ (s1.trans ?_) (none_of s1 ha) AB;rw [Pt];exact AD (Same.refl _) ha
end
noncomputable def wds:List Str:=["BadRows", "BadRest", "BadText", "Unled", "BadRule", "BadName", "BadNumber", "Unlike", "BadPairs", "Never", "Nothing"]
noncomputable def wd (j:Nat):Str:=wds.getD j ""
noncomputable def flg (j:Nat):List Bool:=(List.range 11).map fun i=>decide (i=j)
noncomputable def b1 (b:Bool):Int:=if b then 1 else 0
theorem MB:∀ j,j < 11->((flg j).map b1).sum=1:=by decide +kernel
theorem Sc:∀ j,j < 11->(flg j)[j]?=some true/\∀ m,m < j->(flg j)[m]?=some false:=by decide +kernel
theorem Sd:∀ j:Nat,j < 11->atI (wds.map V.str) (j:Int)=some (V.str (wd j)):=by decide +kernel
structure Na (mg:SV) (ec:Nat->Addr):Prop where
 e0:mg "BadRows" = some (.ref (ec 0))
 e1:mg "BadRest" = some (.ref (ec 1))
 e2:mg "BadText" = some (.ref (ec 2))
 e3:mg "Unled" = some (.ref (ec 3))
 e4:mg "BadRule" = some (.ref (ec 4))
 e5:mg "BadName" = some (.ref (ec 5))
 e6:mg "BadNumber" = some (.ref (ec 6))
 e7:mg "Unlike" = some (.ref (ec 7))
 e8:mg "BadPairs" = some (.ref (ec 8))
 e9:mg "Never" = some (.ref (ec 9))
 e10:mg "Nothing" = some (.ref (ec 10))
 ev:mg "ValueError" = none
structure MC (K:FG) (ec:Nat->Addr) (C:Addr) (j:Nat):Prop where
 hj:j < 11
 kx:QS K C
 kit:∀ i,i < 11->W.kitOne K (.ref C) (.ref (ec i))=some (decide (i=j))
 val:W.kitOne K (.ref C) (.type "ValueError")=some true
section
variable {ec:Nat->Addr}
theorem Be {X:Cx} {a:Expr} {te:TE} {e c:Addr} {oe:Obj} {x:Str} {p p2 pos:Pos} (K:FG) (hK:X.K=K) (pX:ExcP X e oe C) (k:QS K C) (hg:Gl X "isinstance") (hm:X.mg "isinstance" = none) (hgT:Gl X x) (hmT:X.mg x=some (.ref c)) (he:PE X a te)
  (hdb:(x == ("__debug__" : Str))=false:=by decide)
  (hs:starEach [a,.Name x p2] X.env=(false,eval a X.env) :: starEach [.Name x p2] X.env:=by rfl) (hpl:(backTo pos (starEach [.Name x p2] X.env)).any (·.1)=false:=by rfl) (hs2:starEach [.Name x p2] X.env=(false,eval (.Name x p2) X.env) :: starEach [] X.env:=by rfl) :
  PE X (.Call (.Name "isinstance" p) [a,.Name x p2] [] pos) (tCB (fun xs H Q=>∃ v c b,xs=[.ref e,v]/\((∃ D,v=.ref D/\c=.ref D)\/∃ T,v=.ty T/\c=.type T)/\(oe.dict=none\/∃ d u,oe.dict=some d/\H d=some u)/\W.kitOne K (.ref C) c=some b/\Q (.bl b) H) (Ar te (Ar (tC (.ref c)) CN))):=by
 subst hK;exact AV (IB pX k) hg hm D9 (AA he (AA (BI (v:=.ref c) hgT hmT rfl hdb) AC hs2) hs) (by decide) (by decide) hs hpl
def C0 (K:FG) (ec:Nat->Addr):SpS:=fun e oe vs H Q=>vs=[.ref e]/\∃ (C:Addr) (j:Nat) (fs:Array Value),oe.cls=.ref C/\oe.data=.fields fs/\fs[2]?=some .none/\(oe.dict=none\/∃ d u,oe.dict=some d/\H d=some u)/\MC K ec C j /\
 ∀ p H',Same H H'->H' p=some (.tup [.str "refused", .str (wd j)])->Q (.ref p) H'
theorem scWord:AK ["_law_e", "_law_flags", "_law_words"] ["_law_e"] (defScope DN):=fsc
theorem Qx (F:Fun K "_law_word" "_law_word" DN f fd) (B:Bl mg) (M:Na mg ec):Ll P w K mg base 1 f fd ["_law_e"] (C0 K ec):=by
 refine F.okS scWord (fun e oe vs H Q h=>?_) (fun ad A outer s H vs Q e oe hh hr h=>?_)
 ·obtain ⟨rfl,_⟩:=h;rfl
 ·obtain ⟨rfl,C,j,fs,hc,hf,h2,hd,EA,k⟩:=h;have hj:=EA.hj
  have hdS:∀ H',Same H H'->(oe.dict=none\/∃ d u,oe.dict=some d/\H' d=some u):=fun H' s=>by
   rcases hd with z | ⟨d,u,z,y⟩
   ·exact .inl z
   ·exact .inr ⟨d,u,z,s _ _ y⟩
  have kt:=EA.kit;have pX:ExcP (Gd P w K mg base ["_law_e", "_law_flags", "_law_words"] "_law_word" (defScope DN) f ad A outer s H e oe) e oe C:=⟨mem_cons_self,hc,⟨fs,hf⟩⟩;have rd:Rdy (Gd P w K mg base ["_law_e", "_law_flags", "_law_words"] "_law_word" (defScope DN) f ad A outer s H e oe):=QP hh hf h2
  refine ⟨_,AE (Ag (i:=1) scWord.nd rfl (Or.inl rfl) (BB (AA (Be K rfl pX EA.kx rfl B.isi rfl M.e0 (pv 0)) (AA (Be K rfl pX EA.kx rfl B.isi rfl M.e1 (pv 0)) (AA (Be K rfl pX EA.kx rfl B.isi rfl M.e2 (pv 0)) (AA (Be K rfl pX EA.kx rfl B.isi rfl M.e3 (pv 0)) AC))))))
   (AE (Ag (i:=1) scWord.nd rfl (Or.inl rfl) (AL F3 (pv 1) (BB (AA (Be K rfl pX EA.kx rfl B.isi rfl M.e4 (pv 0)) (AA (Be K rfl pX EA.kx rfl B.isi rfl M.e5 (pv 0)) (AA (Be K rfl pX EA.kx rfl B.isi rfl M.e6 (pv 0)) AC))))))
   (AE (Ag (i:=1) scWord.nd rfl (Or.inl rfl) (AL F3 (pv 1) (BB (AA (Be K rfl pX EA.kx rfl B.isi rfl M.e7 (pv 0)) AC))))
   (AE (Ag (i:=1) scWord.nd rfl (Or.inl rfl) (AL F3 (pv 1) (BB (AA (Be K rfl pX EA.kx rfl B.isi rfl M.e8 (pv 0)) (AA (Be K rfl pX EA.kx rfl B.isi rfl M.e9 (pv 0)) (AA (Be K rfl pX EA.kx rfl B.isi rfl M.e10 (pv 0)) AC))))))
   (AE (Ag (i:=2) scWord.nd rfl (Or.inl rfl) (BB (AA Af (AA Af (AA Af (AA Af (AA Af (AA Af (AA Af AC)))))))))
   (AE (Ag (i:=2) scWord.nd rfl (Or.inl rfl) (AL F3 (pv 2) (BB (AA Af (AA Af AC)))))
   (AE (Av (PW.pt (CY (AW EO (AV (Hv rd) rfl B.sum Gp (AA (Mm [] [] (by kernel_rfl) (by decide +kernel) (by kernel_rfl) rd (OK (pv 1)) (fun _ _ _ _ _ _=>A8) (fun _ _ _ _ _ _=>B1 Mb rfl B.int K3 (AA (pv 0) AC))) AC)) AG (AZ _))
     (Bs (A3 (A9 (AV (IB pX EA.kx) rfl B.isi D9 (AA (pv 0) (AA (LL (v:=.ty "ValueError") rfl M.ev Lk rfl) AC)))))))) (AF Am) AY)
   (AF (AR (BW (AA Af (AA (BD (Ai K rfl) (AL F3 (pv 2) (BB (AA Af (AA Af AC)))) (FN PySem.F.plainAttrs_list PySem.F.slot_list_index PySem.F.type_list_index M0 (pv 1) (AA Nq AC)) (fun _ _=>rfl)) AC))))))))))),?_⟩
  refine ⟨_,rfl,_,_,_,rfl,.inl ⟨_,rfl,rfl⟩,hdS _ (Same.refl _),kt 0 (by decide),_,rfl,_,_,_,rfl,.inl ⟨_,rfl,rfl⟩,hdS _ (Same.refl _),kt 1 (by decide),_,rfl,_,_,_,rfl,.inl ⟨_,rfl,rfl⟩,hdS _ (Same.refl _),kt 2 (by decide),_,rfl,_,_,_,rfl,.inl ⟨_,rfl,rfl⟩,hdS _ (Same.refl _),kt 3 (by decide),sl4,fun l1 h1=>?_⟩;have s1:=AD (Same.refl H) h1 (o:=.lst [V.bl (decide (0=j)),V.bl (decide (1=j)),V.bl (decide (2=j)),V.bl (decide (3=j))]);have a1:=AB (H:=H) (a:=l1) (o:=.lst [V.bl (decide (0=j)),V.bl (decide (1=j)),V.bl (decide (2=j)),V.bl (decide (3=j))]);generalize upd H l1 (.lst [V.bl (decide (0=j)),V.bl (decide (1=j)),V.bl (decide (2=j)),V.bl (decide (3=j))])=H1 at s1 a1 ⊢;refine ⟨_,rfl,_,rfl,_,_,_,rfl,.inl ⟨_,rfl,rfl⟩,hdS _ s1,kt 4 (by decide),_,rfl,_,_,_,rfl,.inl ⟨_,rfl,rfl⟩,hdS _ s1,kt 5 (by decide),_,rfl,_,_,_,rfl,.inl ⟨_,rfl,rfl⟩,hdS _ s1,kt 6 (by decide),sl3,fun l2 h2'=>?_⟩;refine ⟨l1,l2,_,_,rfl,rfl,(AD (Same.refl H1) h2') _ _ a1,AB,(by show 4 + 3 <= sizeLine; decide),fun l3 h3=>?_⟩;have s3:=s1.trans (AD (AD (Same.refl H1) h2' (o:=.lst [V.bl (decide (4=j)),V.bl (decide (5=j)),V.bl (decide (6=j))])) h3 (o:=.lst ([V.bl (decide (0=j)),V.bl (decide (1=j)),V.bl (decide (2=j)),V.bl (decide (3=j))]++[V.bl (decide (4=j)),V.bl (decide (5=j)),V.bl (decide (6=j))])));generalize e3:upd (upd H1 l2 (.lst [V.bl (decide (4=j)),V.bl (decide (5=j)),V.bl (decide (6=j))])) l3 (.lst ([V.bl (decide (0=j)),V.bl (decide (1=j)),V.bl (decide (2=j)),V.bl (decide (3=j))]++[V.bl (decide (4=j)),V.bl (decide (5=j)),V.bl (decide (6=j))]))=H3 at s3 ⊢;have a3:H3 l3=some (.lst ([V.bl (decide (0=j)),V.bl (decide (1=j)),V.bl (decide (2=j)),V.bl (decide (3=j))]++[V.bl (decide (4=j)),V.bl (decide (5=j)),V.bl (decide (6=j))])):=by rw [← e3,AB]
  refine ⟨_,rfl,_,rfl,_,_,_,rfl,.inl ⟨_,rfl,rfl⟩,hdS _ s3,kt 7 (by decide),sl1,fun l4 h4=>?_⟩;refine ⟨l3,l4,_,_,rfl,rfl,(AD (Same.refl H3) h4) _ _ a3,AB,(by show 7 + 1 <= sizeLine; decide),fun l5 h5=>?_⟩;have s5:=s3.trans (AD (AD (Same.refl H3) h4 (o:=.lst [V.bl (decide (7=j))])) h5 (o:=.lst (([V.bl (decide (0=j)),V.bl (decide (1=j)),V.bl (decide (2=j)),V.bl (decide (3=j))]++[V.bl (decide (4=j)),V.bl (decide (5=j)),V.bl (decide (6=j))])++[V.bl (decide (7=j))])));generalize e5:upd (upd H3 l4 (.lst [V.bl (decide (7=j))])) l5 (.lst (([V.bl (decide (0=j)),V.bl (decide (1=j)),V.bl (decide (2=j)),V.bl (decide (3=j))]++[V.bl (decide (4=j)),V.bl (decide (5=j)),V.bl (decide (6=j))])++[V.bl (decide (7=j))]))=H5 at s5 ⊢;have a5:H5 l5=some (.lst (([V.bl (decide (0=j)),V.bl (decide (1=j)),V.bl (decide (2=j)),V.bl (decide (3=j))]++[V.bl (decide (4=j)),V.bl (decide (5=j)),V.bl (decide (6=j))])++[V.bl (decide (7=j))])):=by rw [← e5,AB]
  refine ⟨_,rfl,_,rfl,_,_,_,rfl,.inl ⟨_,rfl,rfl⟩,hdS _ s5,kt 8 (by decide),_,rfl,_,_,_,rfl,.inl ⟨_,rfl,rfl⟩,hdS _ s5,kt 9 (by decide),_,rfl,_,_,_,rfl,.inl ⟨_,rfl,rfl⟩,hdS _ s5,kt 10 (by decide),sl3,fun l6 h6=>?_⟩;refine ⟨l5,l6,_,_,rfl,rfl,(AD (Same.refl H5) h6) _ _ a5,AB,(by show 8 + 3 <= sizeLine; decide),fun l7 h7=>?_⟩;have s7:=s5.trans (AD (AD (Same.refl H5) h6 (o:=.lst [V.bl (decide (8=j)),V.bl (decide (9=j)),V.bl (decide (10=j))])) h7 (o:=.lst ((([V.bl (decide (0=j)),V.bl (decide (1=j)),V.bl (decide (2=j)),V.bl (decide (3=j))]++[V.bl (decide (4=j)),V.bl (decide (5=j)),V.bl (decide (6=j))])++[V.bl (decide (7=j))])++[V.bl (decide (8=j)),V.bl (decide (9=j)),V.bl (decide (10=j))])));generalize e7:upd (upd H5 l6 (.lst [V.bl (decide (8=j)),V.bl (decide (9=j)),V.bl (decide (10=j))])) l7 (.lst ((([V.bl (decide (0=j)),V.bl (decide (1=j)),V.bl (decide (2=j)),V.bl (decide (3=j))]++[V.bl (decide (4=j)),V.bl (decide (5=j)),V.bl (decide (6=j))])++[V.bl (decide (7=j))])++[V.bl (decide (8=j)),V.bl (decide (9=j)),V.bl (decide (10=j))]))=H7 at s7 ⊢;have a7:H7 l7=some (.lst ((flg j).map V.bl)):=by rw [← e7]; exact AB
  refine ⟨sl7,fun l8 h8=>?_⟩;refine ⟨_,rfl,sl2,fun l9 h9=>?_⟩;refine ⟨l8,l9,_,_,rfl,rfl,(AD (Same.refl _) h9) _ _ AB,AB,(by show 7 + 2 <= sizeLine; decide),fun l10 h10=>?_⟩;have s10:=AD (AD (AD (Same.refl H7) h8 (o:=.lst [V.str "BadRows", V.str "BadRest", V.str "BadText", V.str "Unled", V.str "BadRule", V.str "BadName", V.str "BadNumber"])) h9 (o:=.lst [V.str "Unlike", V.str "BadPairs"])) h10 (o:=.lst ([V.str "BadRows", V.str "BadRest", V.str "BadText", V.str "Unled", V.str "BadRule", V.str "BadName", V.str "BadNumber"]++[V.str "Unlike", V.str "BadPairs"]));generalize e10:upd (upd (upd H7 l8 (.lst [V.str "BadRows", V.str "BadRest", V.str "BadText", V.str "Unled", V.str "BadRule", V.str "BadName", V.str "BadNumber"])) l9 (.lst [V.str "Unlike", V.str "BadPairs"])) l10 (.lst ([V.str "BadRows", V.str "BadRest", V.str "BadText", V.str "Unled", V.str "BadRule", V.str "BadName", V.str "BadNumber"]++[V.str "Unlike", V.str "BadPairs"]))=H10 at s10 ⊢;have a10:H10 l10=some (.lst ([V.str "BadRows", V.str "BadRest", V.str "BadText", V.str "Unled", V.str "BadRule", V.str "BadName", V.str "BadNumber"]++[V.str "Unlike", V.str "BadPairs"])):=by rw [← e10]; exact AB
  have b7:=s10 _ _ a7;refine ⟨_,rfl,l7,rfl,⟨_,SqL.of b7⟩,BE (K:=K) (a:=l7) (xs:=(flg j).map V.bl) (fun i ys H2=>ys=((flg j).take i).map (fun b=>V.int (b1 b))/\H2=H10) ⟨rfl,rfl⟩ (fun i ys H2 _ ⟨_,e⟩=>e ▸ SqL.of b7) (fun i ys H2 ⟨e,_⟩=>?_) ?_ ?_⟩
  ·rw [e,AI,length_take];have:(flg j).length=11:=rfl;omega
  ·rintro i v ys H2 hi ⟨rfl,rfl⟩;rw [getElem?_map] at hi;obtain ⟨b,hb,rfl⟩:=Option.map_eq_some_iff.mp hi;refine ⟨_,rfl,.inr ⟨b,rfl,?_,rfl⟩⟩;rw [take_add_one,hb,Option.toList_some,map_append];rfl
  ·rintro ys H2 ⟨rfl,rfl⟩ p hp;have el:(flg j).take ((flg j).map V.bl).length=flg j:=by rw [AI]; exact take_length
   rw [el];have em:(flg j).map (fun b=>V.int (b1 b))=((flg j).map b1).map V.int:=by rw [map_map]; rfl
   rw [em];have s11:=AD (Same.refl H2) hp (o:=.lst (((flg j).map b1).map V.int));refine ⟨p,(flg j).map b1,rfl,SqL.of AB,fun n hn=>?_,(by rw [MB j hj]; decide),rfl,_,rfl,?_⟩
   ·obtain ⟨b,_,rfl⟩:=mem_map.mp hn;unfold b1;split <;> decide
   rw [MB j hj];refine An ?_;refine ⟨_,rfl,_,_,true,rfl,.inr ⟨_,rfl,rfl⟩,hdS _ (s7.trans (s10.trans s11)),EA.val,_,rfl,?_⟩;refine An ?_;refine ⟨_,rfl,sl2,fun l11 h11=>?_⟩;have s12:=AD s11 h11 (o:=.lst [V.str "Never", V.str "Nothing"]);refine ⟨l10,l11,_,_,rfl,rfl,s12 _ _ a10,AB,(by show 9 + 2 <= sizeLine; decide),fun l12 h12=>?_⟩;have s13:=AD s12 h12 (o:=.lst (([V.str "BadRows", V.str "BadRest", V.str "BadText", V.str "Unled", V.str "BadRule", V.str "BadName", V.str "BadNumber"]++[V.str "Unlike", V.str "BadPairs"])++[V.str "Never", V.str "Nothing"]));have c7:=s13 _ _ b7;obtain ⟨f1,f2⟩:=Sc j hj;refine ⟨_,rfl,.inl ⟨rfl,_,SqL.of c7⟩,l7,flg j,j,rfl,rfl,c7,f1,f2,l12,_,(j:Int),_,rfl,rfl,SqL.of AB,Sd j hj,sl2,fun q hq=>?_⟩;exact k q _ (s7.trans (s10.trans (AD s13 hq))) AB
end
structure PY (K:FG) (ec:Nat->Addr) (cM C:Addr) (j:Nat):Prop where
 ea:MC K ec C j
 cx:Ay K C=true
 n0:(C5 K C).contains (.ref (ec 0))=false
 n1:(C5 K C).contains (.ref (ec 1))=false
 n2:(C5 K C).contains (.ref (ec 2))=false
 n3:(C5 K C).contains (.ref (ec 3))=false
 m:(C5 K C).contains (.ref cM)=true
noncomputable def HS (j:Nat):Str:=(["at", "bits", "at", "name"]:List Str).getD j ""
structure MD (K:FG) (ec:Nat->Addr) (C:Addr) (j:Nat):Prop where
 ea:MC K ec C j
 cx:Ay K C=true
 j4:j < 4
 no:∀ i,i < j->(C5 K C).contains (.ref (ec i))=false
 m:(C5 K C).contains (.ref (ec j))=true
 g:Ta K C (HS j)
structure PZ (K:FG) (mg:SV) (ec:Nat->Addr) (cM:Addr):Prop where
 m:mg "MarkError" = some (.ref cM)
 xm:Ay K cM=true
 x0:Ay K (ec 0)=true
 x1:Ay K (ec 1)=true
 x2:Ay K (ec 2)=true
 x3:Ay K (ec 3)=true
structure FnS (P:Program) (w:World) (K:FG) (mg:SV) (base:Heap) (x:Str) (k:Nat) (ps:List Str) (sp:SpS):Prop where
 ex:∃ f fd,Ll P w K mg base k f fd ps sp/\mg x=some (.ref f)/\W.keepIn K (.ref f)=true/\Binds K fd ps []
def Pa (K:FG) (ec:Nat->Addr) (cM C:Addr) (dx:Option Addr) (e:Addr):TS:=fun D σ H=>σ.length=2 /\
 ((∃ j,PY K ec cM C j/\dx=none/\∀ p H',Same H H'->H' p=some (.tup [.str "refused", .str (wd j)])->D.rt (.ref p) H') \/
  ∃ j d v,MD K ec C j/\dx=some d/\H d=some (.xd [(HS j,v)])/\∀ p H',Same H H'->H' p=some (.tup [.str "refused", .str (wd j),v])->D.rt (.ref p) H')
def MF (K:FG) (ec:Nat->Addr) (cM:Addr) (Q:VK):XK:=fun Cv dx H2=>∃ C,Cv=.ref C/\∀ e,H2 e=some (E1 e C dx) ->
 ((∃ j,PY K ec cM C j/\dx=none/\∀ p H',Same (del H2 e) H'->H' p=some (.tup [.str "refused", .str (wd j)])->Q (.ref p) H') \/
  ∃ j d v,MD K ec C j/\dx=some d/\(del H2 e) d=some (.xd [(HS j,v)])/\∀ p H',Same (del H2 e) H'->H' p=some (.tup [.str "refused", .str (wd j),v])->Q (.ref p) H')
theorem scTold:AK ["_law_deed", "_law_e"] ["_law_deed"] (defScope At):=fsc
section
variable {ec:Nat->Addr} {cM:Addr}
theorem Pb {X:Cx} (K:FG) (hK:X.K=K):OpR X (binaryOp .Add) (La K):=hK ▸ P5
theorem Qy {k:Nat} {lf c':Addr} (F:Fun K "_law_told" "_law_told" At f fd) (M:Na mg ec) (EX:PZ K mg ec cM) (GW:FnS P w K mg base "_law_word" 1 ["_law_e"] (C0 K ec))
  {A:Around} {outer:List Env} {s:Shared} {H:Hp} {args:Args} {Nl:List Str} {scope:Scope} {cl:List (Str × Addr)} {σl:St} {name qual:Str} {params:Arguments} {body:Expr} {pm ctv:Value} {tl:XK->TE} {Q:VK}
  (hr:Room (k + 2) A) (e0:Env0 P w K mg base A outer s H) (hb:BindsTo s fd args ((["_law_deed"]:List Str).zip [Value.ref lf])) (C:Ge Nl scope cl σl H s.heap) (hfs:∀ x c,cl.lookup x=some c->c ∉ frs outer)
  (h1:H lf=some (FnO lf (W.kla_obj name qual params body scope cl pm c' ctv))) (h2:H c'=some (Eb c' qual))
  (bj:bindArgs (W.kla_fn name qual params body scope cl pm (.ref c') ctv) ⟨[],[]⟩=pure [])
  (hco:scope.isCoroutine=false) (bq:scope.isGenerator=false) (hk:scope.kind=.function) (bf:∀ x ∈ scope.names,x.2 ≠ .cell)
  (cy:∀ (A':Around) (outer':List Env) (s':Shared) (H':Hp) (E:XK),Room k (A'.deeper (W.envX qual scope s'.heap.objs.size lf (.ref c') cl))->PE (Dq P w K mg base Nl qual scope lf (.ref c') cl A' outer' s' H' E) body (tl E))
  (h:tl (MF K ec cM Q) σl H Q):codeAny (model P w) A (.call (.ref f) args) (CR CX0 outer P w H s Q E0) s:=by
 obtain ⟨fW,dW,GW,mW,kW,bW⟩:=GW.ex;refine F.at (N:=["_law_deed", "_law_e"]) scTold (vs:=[.ref lf]) rfl (k:=k + 1) hr e0 hb (.cons rfl .nil) fun ad hr1=>?_;have own:=SA (CX:=CX0) (P:=P) (w:=w) (K:=K) (mg:=mg) (base:=base) (N:=["_law_deed", "_law_e"]) (qual := "_law_told") (scope:=defScope At) (f:=f) (cd:=ad) (A:=A) (outer:=outer) (s:=s) (H:=H) (E:=E0)
 have hrm:∀ e:Addr,RoomS 1 ((A.deeper (PyProof.Rows.envOfC "_law_told" (defScope At) s.heap.objs.size f ad)).mark (some (.ref e))):=fun e=>by
  have q:=hr1.mono (show 1 <= k + 1 by omega);exact ⟨q.dp,q.un⟩
 refine ⟨_,AF (SD (tb:=fun E=>Nt (Jn 0 lf c' qual (W.kla_obj name qual params body scope cl pm c' ctv) σl (tl E))) (th:=Pa K ec cM) own (fun P0 xe E hx=>?_) (fun CC dx=>?_)),?_⟩
 ·exact AF (AR (Kw (X:=Ea (BH CX0 P w K mg base ["_law_deed", "_law_e"] "_law_told" (defScope At) f ad A outer s H E0) P0 xe) (i:=0) (k:=k + 1) rfl (Or.inl rfl) hr1 C hfs rfl hx bj hco bq hk bf (fun s' H'=>cy _ _ s' H' E (hr1.deeper _))))
 ·intro aa s1 σ H1 D e oe T oT c I h;obtain ⟨hl,⟨j,EP,rfl,kq⟩ | ⟨j,d,v,EF,rfl,hxd,kq⟩⟩:=h
  ·refine (?hp:PH (BH CX0 P w K mg base ["_law_deed", "_law_e"] "_law_told" (defScope At) f ad A outer s H E0) CC none _ (fun e=>Lm 1 (fun D σ H=>σ[1]?=some (some (.ref e))/\∀ p H',Same H H'->H' p=some (.tup [.str "refused", .str (wd j)])->D.rt (.ref p) H') e)) aa s1 σ H1 D e oe T oT c I ?_
   ·refine Bo (Dn:=ec 0) EP.cx EX.x0 rfl M.e0 EP.n0 ?_;refine Bo (Dn:=ec 1) EP.cx EX.x1 rfl M.e1 EP.n1 ?_;refine Bo (Dn:=ec 2) EP.cx EX.x2 rfl M.e2 EP.n2 ?_;refine Bo (Dn:=ec 3) EP.cx EX.x3 rfl M.e3 EP.n3 ?_;refine Ln (Dn:=cM) (i:=1) (tb:=fun (e:Addr) (D:C4) (σ:St) (H:Hp)=>σ[1]?=some (some (V.ref e))/\∀ p H',Same H H'->H' p=some (.tup [.str "refused", .str (wd j)])->D.rt (.ref p) H') scTold.nd rfl rfl EP.cx EX.xm rfl EX.m EP.m (fun e oe T oT c=>?_);refine fun aa s2 σ2 H2 D2 I2 h2=>?_;obtain ⟨fs,hd,hf1,hf2⟩:=c.fld;refine (?hb2:PSs (BL (BH CX0 P w K mg base ["_law_deed", "_law_e"] "_law_told" (defScope At) f ad A outer s H E0) e oe T oT) _ (Nt (Ik (C0 K ec) e oe (Ar (Ft 1) CN)))) aa s2 σ2 H2 D2 I2 ⟨_,h2.1,rfl,CC,j,fs,c.cls,hd,hf2,.inl c.dict,EP.ea,h2.2⟩;exact AF (AR (Jm (X:=BL (BH CX0 P w K mg base ["_law_deed", "_law_e"] "_law_told" (defScope At) f ad A outer s H E0) e oe T oT) (e:=e) (oe:=oe) GW (hrm e) rfl (by simp [BL]) rfl mW kW bW (AA (pv 1) AC)))
   ·exact ⟨by rw [List.getElem?_set_self (by omega)],kq⟩
  ·have hj4:=EF.j4;refine (?hq:PH (BH CX0 P w K mg base ["_law_deed", "_law_e"] "_law_told" (defScope At) f ad A outer s H E0) CC (some d) _ (fun e=>Lm 1 (fun D σ H=>σ[1]?=some (some (.ref e))/\H d=some (.xd [(HS j,v)])/\∀ p H',Same H H'->H' p=some (.tup [.str "refused", .str (wd j),v])->D.rt (.ref p) H') e)) aa s1 σ H1 D e oe T oT c I ?_
   ·have take:∀ {x:Str} {b₀:Stmt} {np pos:Pos} {hs:List ExceptHandler} (Dn:Addr),Ay K Dn=true->(hg:Gl (BH CX0 P w K mg base ["_law_deed", "_law_e"] "_law_told" (defScope At) f ad A outer s H E0) x)->mg x=some (.ref Dn)->(C5 K CC).contains (.ref Dn)=true->(x == ("__debug__" : Str))=false ->
      (∀ e oe T oT,Cgt CC (some d) e oe T oT->PSs (BL (BH CX0 P w K mg base ["_law_deed", "_law_e"] "_law_told" (defScope At) f ad A outer s H E0) e oe T oT) [b₀] (Nt (tOp (La K) (Ik (C0 K ec) e oe (Ar (Ft 1) CN)) (Rp (Ar (Oh e oe (HS j) (Ft 1)) CN))))) ->
      PH (BH CX0 P w K mg base ["_law_deed", "_law_e"] "_law_told" (defScope At) f ad A outer s H E0) CC (some d) (.ExceptHandler (some (.Name x np)) (some "_law_e") [b₀] pos :: hs) (fun e=>Lm 1 (fun D σ H=>σ[1]?=some (some (.ref e))/\H d=some (.xd [(HS j,v)])/\∀ p H',Same H H'->H' p=some (.tup [.str "refused", .str (wd j),v])->D.rt (.ref p) H') e):=fun {x b₀ np pos hs} Dn hD hg hm hc hdb hbod =>
     Ln (Dn:=Dn) (i:=1) (tb:=fun (e:Addr) (D:C4) (σ:St) (H:Hp)=>σ[1]?=some (some (V.ref e))/\H d=some (.xd [(HS j,v)])/\∀ p H',Same H H'->H' p=some (.tup [.str "refused", .str (wd j),v])->D.rt (.ref p) H') scTold.nd rfl rfl EF.cx hD hg hm hc (fun e oe T oT c=>by
      refine fun aa s2 σ2 H2 D2 I2 h2=>?_;obtain ⟨fs,hd,hf1,hf2⟩:=c.fld;obtain ⟨g1,g2,g3⟩:=h2;refine hbod e oe T oT c aa s2 σ2 H2 D2 I2 ⟨_,g1,rfl,CC,j,fs,c.cls,hd,hf2,.inr ⟨d,_,c.dict,g2⟩,EF.ea,fun p H' sp hp=>?_⟩;refine ⟨_,g1,d,_,v,rfl,c.dict,sp _ _ g2,(by simp),sl1,fun q hq=>?_⟩;have sq:=AD (Same.refl H') hq (o:=.tup [v]);refine ⟨p,q,_,_,rfl,rfl,SqT.of (sq _ _ hp),SqT.of AB,(by simp),(by show 2 + 1 <= sizeLine; decide),(fun z=>nomatch z),fun _ r hr=>?_⟩
      exact g3 r _ (sp.trans (AD sq hr)) AB) hdb
    have pX:∀ e oe T oT,Cgt CC (some d) e oe T oT->ExcP (BL (BH CX0 P w K mg base ["_law_deed", "_law_e"] "_law_told" (defScope At) f ad A outer s H E0) e oe T oT) e oe CC:=fun e oe T oT c=>by
     obtain ⟨fs,hd,_⟩:=c.fld;exact ⟨by simp [BL],c.cls,⟨fs,hd⟩⟩
    have bod:∀ {fl:Str} {p1 p2 p3 p4 p5 p6 p7:Pos} {kt:Nat},HS j=fl->∀ e oe T oT,Cgt CC (some d) e oe T oT->PSs (BL (BH CX0 P w K mg base ["_law_deed", "_law_e"] "_law_told" (defScope At) f ad A outer s H E0) e oe T oT) [.Return (some (.BinOp (.Call (.Name "_law_word" p1) [.Name "_law_e" p2] [] p3) .Add (.Tuple [.Attribute (.Name "_law_e" p4) fl p5] kt p6) p7)) p7] (Nt (tOp (La K) (Ik (C0 K ec) e oe (Ar (Ft 1) CN)) (Rp (Ar (Oh e oe (HS j) (Ft 1)) CN)))):=fun af e oe T oT c=>by
     subst af;exact AF (AR (AL (Pb K rfl) (Jm (X:=BL (BH CX0 P w K mg base ["_law_deed", "_law_e"] "_law_told" (defScope At) f ad A outer s H E0) e oe T oT) (e:=e) (oe:=oe) GW (hrm e) rfl (by simp [BL]) rfl mW kW bW (AA (pv 1) AC)) (BW (AA (Qa (pX e oe T oT c) EF.g (pv 1) rfl) AC))))
    rcases (show j=0\/j=1\/j=2\/j=3 by omega) with z | z | z | z
    ·subst z;exact take (ec 0) EX.x0 rfl M.e0 EF.m (by decide) (bod rfl)
    ·subst z;refine Bo (Dn:=ec 0) EF.cx EX.x0 rfl M.e0 (EF.no 0 (by decide)) ?_;exact take (ec 1) EX.x1 rfl M.e1 EF.m (by decide) (bod rfl)
    ·subst z;refine Bo (Dn:=ec 0) EF.cx EX.x0 rfl M.e0 (EF.no 0 (by decide)) ?_;refine Bo (Dn:=ec 1) EF.cx EX.x1 rfl M.e1 (EF.no 1 (by decide)) ?_;exact take (ec 2) EX.x2 rfl M.e2 EF.m (by decide) (bod rfl)
    ·subst z;refine Bo (Dn:=ec 0) EF.cx EX.x0 rfl M.e0 (EF.no 0 (by decide)) ?_;refine Bo (Dn:=ec 1) EF.cx EX.x1 rfl M.e1 (EF.no 1 (by decide)) ?_;refine Bo (Dn:=ec 2) EF.cx EX.x2 rfl M.e2 (EF.no 2 (by decide)) ?_;exact take (ec 3) EX.x3 rfl M.e3 EF.m (by decide) (bod rfl)
   ·exact ⟨by rw [List.getElem?_set_self (by omega)],hxd,kq⟩
 ·refine ⟨rfl,h1,h2,?_⟩
  have e:QR (BH CX0 P w K mg base ["_law_deed", "_law_e"] "_law_told" (defScope At) f ad A outer s H E0).N.length (Pa K ec cM) { nx:=fun _ H'=>Q .non H',rt:=Q }=MF K ec cM Q:=by
   funext Cv dx H2;unfold QR MF Pa;simp [BH]
  rw [← e] at h;exact h
end
end Mk
end
section
namespace L2
open PySem PySem.Spec PyProof.Rows
noncomputable def Qz (ix:List Nat) (σ:St):St:=ix.map fun j=>(σ[j]?).getD none
structure LamN (X:Cx) (Nl:List Str) (ix:List Nat) (scope:Scope) (clos:List (Str × Addr)):Prop where
 len:ix.length=Nl.length
 nm:∀ (i:Nat) (x:Str),Nl[i]?=some x->∃ j:Nat,ix[i]?=some j/\X.N[j]?=some x/\X.env.scope.names.lookup x=some .cell/\scope.names.lookup x=some .free
 cl:∀ x c,clos.lookup x=some c->X.env.cells.lookup x=some c
 has:∀ x,(scope.names.lookup x=some .cell\/scope.names.lookup x=some .free)->∃ c,clos.lookup x=some c
 fn:∀ x,X.fn x=true
section
variable {X:Cx} {aa:LO} {σ:St} {s:Shared} {Nl:List Str} {ix:List Nat} {scope:Scope} {clos:List (Str × Addr)}
theorem LamN.cells (L:LamN X Nl ix scope clos) (I:Inv X aa σ H s):Ge Nl scope clos (Qz ix σ) H s.heap:=by
 refine ⟨fun x y c h1 h2=>I.ok.inj x y c (L.cl x c h1) (L.cl y c h2),L.has,fun x c h=>⟨I.cell x c (L.cl x c h),I.freeC x c (L.cl x c h)⟩,fun i x v h1 h2=>?_,?_⟩
 ·obtain ⟨j,hj,hN,hk,hf⟩:=L.nm i x h1;refine ⟨hf,?_⟩;unfold Qz at h2;rw [getElem?_map,hj] at h2
  have hv:σ[j]?=some (some v):=by
   simp only [Option.map_some,Option.some.injEq] at h2;cases e:σ[j]? with
   | none=>rw [e] at h2; cases h2
   | some o=>rw [e] at h2; simp only [Option.getD_some] at h2; rw [h2]
  obtain ⟨m,_,hl⟩:=I.loc;obtain ⟨u,r,l⟩:=hl j x v hN hv (.inr (.inl hk));rcases l with ⟨l,_⟩ | ⟨_,c,e,z⟩
  ·rw [show X.env.kindOf x=X.env.scope.names.lookup x from rfl,hk] at l; cases l
  ·obtain ⟨c2,e2⟩:=L.has x (.inr hf);have e3:=L.cl x c2 e2;rw [e] at e3;cases e3;exact ⟨u,c,r,e2,z⟩
 ·unfold Qz; rw [AI]; exact L.len
theorem LamN.far (L:LamN X Nl ix scope clos) (I:Inv X aa σ H s):∀ x c,clos.lookup x=some c->c ∉ frs X.stack:=fun x c h z=>by
 have hc:=L.cl x c h;rcases mem_cons.mp (I.stkSub c z) with z | z
 ·exact I.cne x c hc z
 ·obtain ⟨_,o,ho,_⟩:=I.ok.funs.mem z;exact absurd (Nat.lt_of_lt_of_le (lt_size ho) (I.ok.cab x c (L.fn x) hc)) (Nat.lt_irrefl _)
end
end L2
namespace Mk
open PySem L2 MK
section
variable {X:Cx} {ec:Nat->Addr} {cM c P0:Addr} {ls:List Pos} {lpos:Pos}
def RZ (K:FG) (ec:Nat->Addr) (cM P0:Addr) (qual:Str) (ls:List Pos) (ix:List Nat) (tl:XK->TE):TE:=fun σ H Q=>TabOk H P0 qual ls/\∀ H',Jo P0 H H'->TabOk H' P0 qual ls->tl (MF K ec cM Q) (Qz ix σ) H' Q
theorem Q0 {k:Nat} (F:Fun X.K "_law_told" "_law_told" At f fd) (M:Na X.mg ec) (EX:PZ X.K X.mg ec cM) (GW:FnS X.prog X.w X.K X.mg X.base "_law_word" 1 ["_law_e"] (C0 X.K ec))
  (hr:Room (k + 2) X.A) (hg:Gl X "_law_told") (hm:X.mg "_law_told" = some (.ref f)) (hkp:W.keepIn X.K (.ref f)=true) (hB:Binds X.K fd ["_law_deed"] [])
  {Nl:List Str} {ix:List Nat} {scope:Scope} {clos:List (Str × Addr)} {params:Arguments} {body:Expr} {tl:XK->TE} {p pos:Pos}
  (L:QU X c P0) (hls:lpos ∈ ls) (aw:∀ q ∈ ls,q=lpos\/(q.line == lpos.line && q.col == lpos.col)=false) (ag:closureFor scope X.env=pure clos) (cv:defaultsOf params X.env=([],[])) (LN:LamN X Nl ix scope clos)
  (bj:∀ pm c' ctv,bindArgs (W.kla_fn "<lambda>" (X.env.qual ++ "<lambda>") params body scope clos pm (.ref c') ctv) ⟨[],[]⟩=pure [])
  (hco:scope.isCoroutine=false) (bq:scope.isGenerator=false) (hk:scope.kind=.function) (bf:∀ x ∈ scope.names,x.2 ≠ .cell)
  (cy:∀ (lf c':Addr) (A':Around) (outer':List Env) (s':Shared) (H':Hp) (E:XK),Room k (A'.deeper (W.envX (X.env.qual ++ "<lambda>") scope s'.heap.objs.size lf (.ref c') clos))->PE (Dq X.prog X.w X.K X.mg X.base Nl (X.env.qual ++ "<lambda>") scope lf (.ref c') clos A' outer' s' H' E) body (tl E))
  (he:starEach [.Lambda params body scope lpos] X.env=(false,eval (.Lambda params body scope lpos) X.env) :: starEach [] X.env:=by rfl) (hpl:(backTo pos (starEach [] X.env)).any (·.1)=false:=by rfl) :
  PE X (.Call (.Name "_law_told" p) [.Lambda params body scope lpos] [] pos) (RZ X.K ec cM P0 (X.env.qual ++ "<lambda>") ls ix tl):=by
 intro aa s σ H Q I ⟨hT,h⟩;refine wpAny_Call_Name_kw (Bn I hg hm ?_ (by decide));have ha:PA X [.Lambda params body scope lpos] (Ar (TX P0 (X.env.qual ++ "<lambda>") ls (fun c' ctv=>W.kla_obj "<lambda>" (X.env.qual ++ "<lambda>") params body scope clos ((X.mg "__name__").getD .none) c' ctv)) CN):=AA (SE L hls aw ag cv) AC he;refine W.callWith_K (h₀:=X.base) I.ok.mod.kin hkp (thn (ha pos aa s σ H (fun vs H1=>∃ lf c' ctv,vs=[.ref lf]/\Jo P0 H H1/\TabOk H1 P0 (X.env.qual ++ "<lambda>") ls/\H1 lf=some (FnO lf (W.kla_obj "<lambda>" (X.env.qual ++ "<lambda>") params body scope clos ((X.mg "__name__").getD .none) c' ctv))/\H1 c'=some (Eb c' (X.env.qual ++ "<lambda>"))) I ⟨hT,fun lf c' ctv H' _ hs ht h1 h2=>⟨lf,c',ctv,rfl,hs,ht,h1,h2⟩⟩) fun us s1 ⟨vs,H1,I1,r,lf,c',ctv,ev,hs,ht,h1,h2⟩=>⟨I1.kIn,?_⟩) he hpl;subst ev;obtain ⟨u,eu,ru⟩:=Bw r;subst eu;obtain rfl:u=Value.ref lf:=ru;have bb:=hB s1 [.ref lf] I1.kIn rfl;rw [append_nil] at bb;refine wpAny_call (codeAny_mono (Qy (k:=k) F M EX GW hr I1.env0 bb (LN.cells I1) (LN.far I1) h1 h2 (bj _ _ _) hco bq hk bf (cy lf c') (h H1 hs ht)) fun r s' hq=>?_);cases r with
 | error e=>exact False.elim hq
 | ok fl =>
  cases fl with
  | ret u=>exact I1.after hq
  | next=>exact False.elim hq
  | brk=>exact False.elim hq
  | cont=>exact False.elim hq
end
section
variable {cM cR:Addr}
structure Te (P:Program) (w:World) (K:FG) (mg:SV) (base:Heap) (cM:Addr):Prop where
 cls:mg "MarkError" = some (.ref cM)
 ga:W.specialIn K (.ref cM) "__getattribute__" = some (some (.builtin "type.__getattribute__"))
 rd:W.readsIn K cM (.type "type")=true
 fn:∃ f fd,W.findCls K (.ref cM) (.type "type") "__init__" = some (.val (.ref f))/\Ae P w K mg base CX0 1 f fd ["self", "words"] (Cf K)/\W.keepIn K (.ref f)=true/\Binds K fd ["self", "words"] []
def EJ (K:FG) (cM:Addr):Sp:=fun vs H Q _=>∃ (e C:Addr) (n:Int),vs=[.ref e,.int n]/\n.natAbs.log2 < 1920/\Ay K C=true/\H e=some (EZ e C none)/\Og K C cM "bits" /\
 ∀ d,H d=none->d ≠ e->Q .non (upd (upd H e (EZ e C (some d))) d (.xd [("bits", .int n)]))
theorem LH:AK ["self", "bits"] ["self", "bits"] (defScope Cp):=fsc
theorem J7 (F:Fun K "__init__" "BadRest.__init__" Cp f fd) (ME:Te P w K mg base cM):Ae P w K mg base CX0 2 f fd ["self", "bits"] (EJ K cM):=by
 obtain ⟨fI,dI,hf,GI,kI,bI⟩:=ME.fn;have mM:=ME.cls;refine F.m LH fun vs H Q E h=>?_;obtain ⟨e,C,n,rfl,hn,hC,he,S,k⟩:=h;refine ⟨rfl,fun ad A outer s hr=>?_⟩;refine ⟨_,AE (Bx (Kx rfl mM ME.ga ME.rd hf GI hr kI bI .nil AQ (AA (pv 0) (AA (QZ (by decide +kernel) (pv 1)) AC)))) (AF (QY (M:=cM) (pv 0) (pv 1) rfl)),?_⟩;refine ⟨_,rfl,_,rfl,.inl ⟨n,rfl,hn⟩,fun z=>⟨e,C,none,z,rfl,hC,he,?_⟩⟩;exact ⟨_,rfl,_,rfl,e,C,rfl,he,S,k⟩
def UqR (H:Hp) (E:XK) (cR:Addr) (n:Int):Prop:=∀ e d H',Same H H'->H e=none->H d=none->d ≠ e->H' e=some (E1 e cR (some d))->H' d=some (.xd [("bits", .int n)])->E (.ref cR) (some d) H'
structure Pc (P:Program) (w:World) (K:FG) (mg:SV) (base:Heap) (cM cR:Addr):Prop where
 cls:mg "BadRest" = some (.ref cR)
 make:∃ f fd,MkX K cR f/\Ae P w K mg base CX0 2 f fd ["self", "bits"] (EJ K cM)/\Binds K fd ["self", "bits"] []
 st:Og K cR cM "bits"
theorem Nb {σ:St} {H1:Hp} {E:XK} {D:C4} {n:Int} {te:TE} (hC:Ay K cR=true) (S:Og K cR cM "bits") (hn:n.natAbs.log2 < 1920) (s1:Same H H1) (h:UqR H E cR n) (ht:te σ H1=fun Q=>Q (.int n) H1) :
  Ii cR (Ih cR (EJ K cM) [] E0 (Ar te CN)) E D σ H1:=by
 show te σ H1 _;rw [ht];refine ⟨(by show 1 <= 1000; decide),fun a ha=>?_⟩;refine ⟨a,cR,n,rfl,hn,hC,AB,S,fun d hd aw=>⟨rfl,a,some d,rfl,?_,?_⟩⟩
 ·rw [AH (Ne.symm aw),AB]
 ·have hd1:H1 d=none:=by rw [AH aw] at hd; exact hd
  refine h a d _ (fun b u e=>?_) (none_of s1 ha) (none_of s1 hd1) aw AB ?_
  ·have e1:=s1 _ _ e;have nb:b ≠ a:=AJ e1 ha;have nd:b ≠ d:=AJ e1 hd1;rw [AH nb,AH nd,AH nb,AH nb];exact e1
  ·rw [AH aw,AB]
end
noncomputable def plain (i:Int):Nat:=if 0 <= i then i.toNat else (-i - 1).toNat
noncomputable def AS (due:Aa) (i:Int):Nat:=plain i - (plain i &&& kn due)
theorem FH (i:Int):(plain i:Int)=if 0 <= i then i else -i - 1:=by
 unfold plain;split <;> omega
theorem Pd {i:Int} (h1:-1099511627776 <= i) (h2:i < 1099511627776):plain i < 2 ^ 40:=by
 have e:(2:Nat) ^ 40=1099511627776:=by decide
 unfold plain;split <;> omega
theorem G7 (x m:Nat):(x &&& m) - ((x &&& m) &&& m)=0:=by
 have h:(x &&& m) &&& m=x &&& m:=by
  refine Nat.eq_of_testBit_eq fun k=>?_;simp only [Nat.testBit_and];cases x.testBit k <;> cases m.testBit k <;> rfl
 omega
theorem Nd {n:Nat} (h:n < 2 ^ 40):((n:Int)).natAbs.log2 < 1920:=by
 rw [Int.natAbs_natCast];rcases Nat.eq_zero_or_pos n with z | z
 ·subst z; decide
 ·have:=(Nat.log2_lt (by omega)).mpr h;omega
section
variable {cM cR:Addr}
def Pe (C VC cR:Addr):Sp:=fun vs H Q E=>∃ (kp:Addr) (due:Aa) (r:Str) (i:Int),vs=[.ref kp,.int i]/\KindAt C H kp due r/\kn due < 2 ^ 20/\-1099511627776 <= i/\i < 1099511627776 /\
 ((AS due i ≠ 0/\r = "bar" /\ UqR H E cR (AS due i:Nat)) \/
  (¬ (AS due i ≠ 0/\r = "bar")/\i < 0/\∀ q H',Same H H'->ValAt VC H' q kp (kn due - (kn due &&& plain i))->Q (.ref q) H') \/
  (¬ (AS due i ≠ 0/\r = "bar")/\0 <= i/\AS due i ≠ 0/\r = "leave" /\ ∀ H',Same H H'->Q (.int i) H') \/
  (¬ (AS due i ≠ 0/\r = "bar")/\0 <= i/\¬ (AS due i ≠ 0/\r = "leave")/\∀ q H',Same H H'->ValAt VC H' q kp (if r = "keep" then plain i else plain i - AS due i)->Q (.ref q) H'))
theorem scMade:AK ["kind", "number", "bits", "rest"] ["kind", "number"] (defScope Lp):=fsc
theorem Q3 {tL:Tok} (F:Fun K "made" "made" Lp f fd) (hL:mg "LIMIT" = some (.int 1099511627776 tL)) (T:Ej K C) (VO:PX P w K mg base C VC) (RO:Pc P w K mg base cM cR)
  (GW:Fn P w K mg base "is_whole" 1 ["thing"] Cb) (GR:Fn P w K mg base "rest_of" 3 ["kind", "number"] (Er C)) (GRe:Mt P w K mg base C "rest" 1 ["self"] (FF C)) (GK:Mt P w K mg base C "known" 2 ["self"] (Dh C)) :
  Ae P w K mg base (CXr P w) 6 f fd ["kind", "number"] (Pe C VC cR):=by
 obtain ⟨fW,dW,GW,mW,kW,bW⟩:=GW.ex;obtain ⟨fR,dR,GR,mR,kR,bR⟩:=GR.ex;obtain ⟨fE,dE,GE,mE,bE⟩:=GRe.ex;obtain ⟨fK,dK,GK,mK,bK⟩:=GK.ex;obtain ⟨fI,dI,MI,GI,bI⟩:=VO.make;obtain ⟨fX,dX,MX,GX,bX⟩:=RO.make;have mV:=VO.cls;have mB:=RO.cls;refine F.n scMade fun vs H Q E h=>?_;obtain ⟨kp,due,r,i,rfl,KA,hk20,hi1,hi2,h⟩:=h;refine ⟨rfl,fun ad A outer s hr=>?_⟩;have hr1:Room 1 _:=hr.mono (by decide);have hr2:Room 2 _:=hr.mono (by decide);have hr3:Room 3 _:=hr.mono (by decide);have rz:=Lj (P:=P) (w:=w) (K:=K) (mg:=mg) (base:=base) (N:=["kind", "number", "bits", "rest"]) (qual := "made") (scope:=defScope Lp) (f:=f) (cd:=ad) (A:=A) (outer:=outer) (s:=s) (H:=H) (E:=E);obtain ⟨dxk,d1,d2,hpk⟩:=KA.ins
 refine ⟨_,AE (Av (PW.pt (CY (A3 (A9 (AO GW hr1 rfl mW kW bW .nil AQ (AA (pv 1) AC)))) (Bs (A3 (Ca CZ HZ (JP N2 (BI (v:=.int 1099511627776) rfl hL ⟨tL,rfl⟩)) (pv 1) (BI (v:=.int 1099511627776) rfl hL ⟨tL,rfl⟩)))))) (AF Am) AY)
  (Au (Ag (i:=2) scMade.nd rfl (Or.inl rfl) (C7 (AW JQ (pv 1) AG (AZ _)) (pv 1) (AL Cj (JP N2 (pv 1)) AG)))
  (AE (Ag (i:=3) scMade.nd rfl (Or.inl rfl) (AO GR hr3 rfl mR kR bR .nil AQ (AA (pv 0) (AA (pv 2) AC))))
  (Au (Av (PW.pt (C6 (AW EO (pv 3) AG (AZ _)) (CA (AW CB (As (pv 0) T.cl mE GE hr1 bE .nil AQ) Af (AZ _))))) (AF (Gc rz rfl MX.cls (Gb MX GX hr3 rfl mB bX .nil AQ (AA (pv 3) AC)))) AY)
  (AE (Av (AW HZ (pv 1) AG (AZ _)) (AF (AR (Fa MI GI hr rfl mV bI .nil AQ (AA (pv 0) (AA (AL B7 (As (pv 0) T.cl mK GK hr2 bK .nil AQ) (JP KR (pv 2))) AC))))) AY)
  (Au (Av (PW.pt (C6 (AW EO (pv 3) AG (AZ _)) (CA (AW CB (As (pv 0) T.cl mE GE hr1 bE .nil AQ) Af (AZ _))))) (AF (AR (pv 1))) AY)
  (AF (AR (Fa MI GI hr rfl mV bI .nil AQ (AA (pv 0) (AA (C7 (AW CB (As (pv 0) T.cl mE GE hr1 bE .nil AQ) Af (AZ _)) (pv 2) (AL Cj (pv 2) (pv 3))) AC)))))))))),?_⟩
 have noR:(FX d1 d2 r).lookup ("rest" : Str)=none:=(Bz _ _ _);have noK:(FX d1 d2 r).lookup ("known" : Str)=none:=(Bz _ _ _);refine ⟨_,rfl,i,rfl,_,rfl,?_⟩;refine An ?_;refine ⟨_,rfl,_,rfl,_,_,rfl,rfl,_,rfl,?_⟩;rw [decide_eq_true (show -1099511627776 <= i from hi1)];refine BC ?_;refine ⟨_,_,rfl,rfl,_,rfl,?_⟩;rw [decide_eq_true (show i < 1099511627776 from hi2)];refine An ?_;refine ⟨fun σ H1=>σ=[some (.ref kp),some (.int i),some (.int (plain i:Nat)),none]/\H1=H,fun R hR=>?_,?_⟩
 ·refine ⟨_,rfl,_,_,rfl,rfl,_,rfl,?_⟩;have e:=FH i;refine Bj (fun hc=>?_) (fun hc=>?_)
  ·have h0:0 <= i:=of_decide_eq_true hc;rw [if_pos h0] at e;refine ⟨_,rfl,hR _ _ ⟨?_,rfl⟩⟩;rw [e];rfl
  ·have h0:¬ 0 <= i:=fun z=>hc (decide_eq_true z);rw [if_neg h0] at e;refine ⟨_,rfl,_,rfl,_,_,rfl,rfl,hR _ _ ⟨?_,rfl⟩⟩;rw [e];rfl
 rintro σ H0 ⟨rfl,rfl⟩;refine ⟨_,rfl,_,rfl,kp,due,r,plain i,rfl,KA,fun H1 s1=>?_⟩;have hb40:=Pd hi1 hi2;have hs40:AS due i < 2 ^ 40:=Nat.lt_of_le_of_lt (Nat.sub_le _ _) hb40;have KA1:=KA.same s1;have ce:=s1 _ _ hpk;have eS:∀ n:Nat,decide (V.int (n:Int)=V.int 0)=decide (n=0):=fun n=>decide_eq_decide.mpr ⟨fun z=>by have:=V.int.inj z; omega,fun z=>by rw [z]; rfl⟩;refine ⟨fun σ H2=>¬ (AS due i ≠ 0/\r = "bar")/\σ=[some (.ref kp),some (.int i),some (.int (plain i:Nat)),some (.int (AS due i:Nat))]/\H2=H1,fun R hR=>?_,?_⟩
 ·refine ⟨_,rfl,rfl,_,rfl,?_⟩;show if (!decide (V.int ((AS due i:Nat):Int)=V.int 0))=true then _ else _
  rw [eS];by_cases hz:AS due i=0
  ·rw [decide_eq_true hz];exact An (An (hR _ _ ⟨fun z=>z.1 hz,rfl,rfl⟩))
  ·rw [decide_eq_false hz];refine BC ?_;refine ⟨_,rfl,kp,dxk,_,rfl,ce,noR,kp,due,r,rfl,KA1,rfl,_,rfl,?_⟩;by_cases bc:r = "bar"
   ·rw [decide_eq_true (show V.str r=V.str "bar" by rw [bc])];refine BC ?_;rcases h with ⟨_,_,hU⟩ | ⟨hn,_⟩ | ⟨hn,_⟩ | ⟨hn,_⟩
    ·exact Nb (te:=Ft 3) MX.cls RO.st (Nd hs40) s1 hU (by funext Q'; exact propext ⟨fun ⟨v,e,q⟩=>by cases e; exact q,fun q=>⟨_,rfl,q⟩⟩)
    ·exact absurd ⟨hz,bc⟩ hn
    ·exact absurd ⟨hz,bc⟩ hn
    ·exact absurd ⟨hz,bc⟩ hn
   ·rw [decide_eq_false (show ¬ V.str r=V.str "bar" from fun z=>bc (V.str.inj z))];exact An (hR _ _ ⟨fun z=>bc z.2,rfl,rfl⟩)
 rintro σ H2 ⟨hnb,rfl,rfl⟩;refine ⟨_,rfl,_,_,rfl,rfl,_,rfl,?_⟩;rcases h with ⟨z1,z2,_⟩ | ⟨_,c8,k⟩ | ⟨_,hnn,hs0,hlv,k⟩ | ⟨_,hnn,hnl,k⟩
 ·exact absurd ⟨z1,z2⟩ hnb
 ·rw [decide_eq_true (show i < 0 from c8)];refine BC ?_;refine ⟨_,rfl,_,rfl,kp,dxk,_,rfl,ce,noK,kp,due,r,rfl,KA1,fun H3 s3=>⟨_,rfl,_,rfl,_,_,rfl,rfl,?_⟩⟩;intro q dq hq hdq aw;have sN:=DY (D:=VC) hq hdq aw;have eb:Builtin.bitAnd ((Ao ((Ah due).map (·.1)):Nat):Int) (Builtin.bitNot (plain i:Int))=((kn due - (kn due &&& plain i):Nat):Int):=by rw [Dy,G3]; rfl
  refine ⟨q,dq,kp,due,r,kn due - (kn due &&& plain i),?_,AB,((KA1.same s3).same sN),?_,.inr (Qw _ _),fun H4 s4 hV=>⟨rfl,k q H4 ((s1.trans s3).trans (B5 sN hq s4)) hV⟩⟩
  ·show [V.ref q,V.ref kp,V.int (Builtin.bitAnd ((Ao ((Ah due).map (·.1)):Nat):Int) (Builtin.bitNot (plain i:Int)))]=_;rw [eb]
  ·have h1:kn due - (kn due &&& plain i) <= kn due:=Nat.sub_le _ _;have h2:(2:Nat) ^ 20 < 2 ^ 40:=by decide
   omega
 ·rw [decide_eq_false (show ¬ i < 0 by omega)];refine An ?_;refine ⟨fun _ _=>False,fun R hR=>?_,fun _ _ z=>z.elim⟩;refine ⟨_,rfl,rfl,_,rfl,?_⟩;show if (!decide (V.int ((AS due i:Nat):Int)=V.int 0))=true then _ else _
  rw [eS,decide_eq_false hs0];refine BC ?_;refine ⟨_,rfl,kp,dxk,_,rfl,ce,noR,kp,due,r,rfl,KA1,rfl,_,rfl,?_⟩;rw [decide_eq_true (show V.str r=V.str "leave" by rw [hlv])];exact BC ⟨_,rfl,k _ s1⟩
 ·rw [decide_eq_false (show ¬ i < 0 by omega)];refine An ?_;refine ⟨fun σ H3=>σ=[some (.ref kp),some (.int i),some (.int (plain i:Nat)),some (.int (AS due i:Nat))]/\H3=H2,fun R hR=>?_,?_⟩
  ·refine ⟨_,rfl,rfl,_,rfl,?_⟩;show if (!decide (V.int ((AS due i:Nat):Int)=V.int 0))=true then _ else _
   rw [eS];by_cases hz:AS due i=0
   ·rw [decide_eq_true hz];exact An (An (hR _ _ ⟨rfl,rfl⟩))
   ·rw [decide_eq_false hz];refine BC ?_;refine ⟨_,rfl,kp,dxk,_,rfl,ce,noR,kp,due,r,rfl,KA1,rfl,_,rfl,?_⟩;rw [decide_eq_false (show ¬ V.str r=V.str "leave" from fun z=>hnl ⟨hz,V.str.inj z⟩)];exact An (hR _ _ ⟨rfl,rfl⟩)
  rintro σ H3 ⟨rfl,rfl⟩;refine ⟨_,rfl,_,rfl,kp,dxk,_,rfl,ce,noR,kp,due,r,rfl,KA1,rfl,_,rfl,?_⟩
  have fin:∀ n:Nat,n=(if r = "keep" then plain i else plain i - AS due i)->n < 2 ^ 40->(r = "keep" \/ n - (n &&& kn due)=0)->∀ q dq,H3 q=none->H3 dq=none->dq ≠ q->Fi C VC [.ref q,.ref kp,.int (n:Int)] (upd (upd H3 dq (.own q)) q (.ins VC dq [])) (fun v H4=>v=.non/\Q (.ref q) H4) E0:=fun n en hn hk q dq hq hdq aw=>by
   have sN:=DY (D:=VC) hq hdq aw;exact ⟨q,dq,kp,due,r,n,rfl,AB,KA1.same sN,hn,hk,fun H4 s4 hV=>⟨rfl,k q H4 (s1.trans (B5 sN hq s4)) (en ▸ hV)⟩⟩
  by_cases bh:r = "keep"
  ·rw [decide_eq_true (show V.str r=V.str "keep" by rw [bh])];refine BC ⟨_,rfl,?_⟩;exact fin (plain i) (by rw [if_pos bh]) hb40 (.inl bh)
  ·rw [decide_eq_false (show ¬ V.str r=V.str "keep" from fun z=>bh (V.str.inj z))];refine An ⟨_,rfl,_,rfl,_,_,rfl,rfl,?_⟩;have hle:AS due i <= plain i:=Nat.sub_le _ _;have es:((plain i:Nat):Int) - ((AS due i:Nat):Int)=((plain i - AS due i:Nat):Int):=by omega
   have ek:plain i - AS due i=plain i &&& kn due:=by
    unfold AS;have:=Nat.and_le_left (n:=plain i) (m:=kn due);omega
   intro q dq hq hdq aw;have:=fin (plain i - AS due i) (by rw [if_neg bh]) (by omega) (.inr (by rw [ek]; exact G7 _ _)) q dq hq hdq aw;rw [← es] at this;exact this
end
section
def EK:Sp:=fun vs H Q _=>∃ (d:Addr) (a b:Int) (m:Nat) (r:Str),vs=[.ref d,.int (m:Int),.str r]/\H d=some (.lst [.int a,.int b]) /\
 ∀ (n:Nat) H',n < 2 ^ 40->(r = "keep" \/ n - (n &&& m)=0)->SameX d H H'->Q (.int (n:Int)) H'
theorem scNumberIn:AK ["_law_dice", "_law_known", "_law_way", "_law_number"] ["_law_dice", "_law_known", "_law_way"] (defScope Ct):=fsc
theorem Cg {d:Addr} {x y x' y':Int} (h:H d=some (.lst [.int x,.int y])):SameX d H (upd H d (.lst [.int x',.int y'])):=⟨fun b o e hb=>by rw [AH hb]; exact e,⟨x',y',AB⟩⟩
theorem J8 (F:Fun K "_law_number_in" "_law_number_in" Ct f fd) (GR:Fn P w K mg base "_law_roll" 2 ["_law_dice", "_law_many"] Gx):Ae P w K mg base CX0 3 f fd ["_law_dice", "_law_known", "_law_way"] EK:=by
 obtain ⟨fR,dR,GR,mR,kR,bR⟩:=GR.ex;refine F.m scNumberIn fun vs H Q E h=>?_;obtain ⟨d,a,b,m,r,rfl,hd,k⟩:=h;refine ⟨rfl,fun ad A outer s hr=>?_⟩
 refine ⟨_,AE (Ag (i:=3) scNumberIn.nd rfl (Or.inl rfl) (AL B7 (AO GR hr rfl mR kR bR .nil AQ (AA (pv 0) (AA (AL IQ AG AG) AC))) (pv 1)))
  (Au (Av (PW.pt (C6 (AW CB (pv 2) Af (AZ _)) (CA (AW CB (AO GR hr rfl mR kR bR .nil AQ (AA (pv 0) (AA AG AC))) AG (AZ _)))))
    (AF (Ag (i:=3) scNumberIn.nd rfl (Or.inl rfl) (AL HY (pv 3) (AO GR hr rfl mR kR bR .nil AQ (AA (pv 0) (AA AG AC)))))) AY)
  (AF (AR (pv 3)))),?_⟩
 refine ⟨_,rfl,_,_,rfl,rfl,⟨by decide,by decide,by decide⟩,d,a,b,_,rfl,hd,by decide,by decide,fun x a1 b1 hx0 hx1=>?_⟩;refine ⟨_,rfl,_,_,rfl,rfl,?_⟩;obtain ⟨x,rfl⟩:∃ x':Nat,x=(x':Int):=⟨x.toNat,by omega⟩
 have hx1':x < 2 ^ 21:=by
  have:(x:Int) < 2 ^ (21:Int).toNat:=hx1;have e:(2:Int) ^ (21:Int).toNat=2097152:=by decide
  rw [e] at this;have e2:(2:Nat) ^ 21=2097152:=by decide
  omega
 have s1:SameX d H (upd H d (.lst [.int a1,.int b1])):=Cg hd;have ea:(fun i j=>V.int (Builtin.bitAnd i j)) (x:Int) (m:Int)=V.int ((x &&& m:Nat):Int):=congrArg V.int (By _ _);rw [ea];have hle:x &&& m <= x:=Nat.and_le_left;refine ⟨fun σ H1=>∃ n:Nat,σ=[some (.ref d),some (.int (m:Int)),some (.str r),some (.int (n:Int))]/\n < 2 ^ 40/\(r = "keep" \/ n - (n &&& m)=0)/\SameX d H H1,fun R hR=>?_,?_⟩
 ·have g1:x &&& m < 2 ^ 40:=by
   have:(2:Nat) ^ 21 < 2 ^ 40:=by decide
   omega
  have stop:∀ H1,SameX d H H1->R [some (.ref d),some (.int (m:Int)),some (.str r),some (.int ((x &&& m:Nat):Int))] H1:=fun H1 sx=>hR _ _ ⟨_,rfl,g1,.inr (G7 x m),sx⟩;refine ⟨_,rfl,rfl,_,rfl,?_⟩;by_cases hk:r = "keep"
  ·rw [decide_eq_true (show V.str r=V.str "keep" by rw [hk])];refine BC ?_;refine ⟨_,rfl,d,a1,b1,3,rfl,AB,by decide,by decide,fun y a2 b2 hy0 hy1=>?_⟩;have s2:=s1.trans (Cg (x':=a2) (y':=b2) AB);refine ⟨rfl,_,rfl,?_⟩;refine Bj (fun hc=>?_) (fun hc=>stop _ s2);refine ⟨_,rfl,_,rfl,d,a2,b2,256,rfl,AB,by decide,by decide,fun z a3 b3 hz0 hz1=>?_⟩;obtain ⟨z,rfl⟩:∃ z':Nat,z=(z':Int):=⟨z.toNat,by omega⟩;refine ⟨_,_,rfl,rfl,?_⟩;have eo:(fun i j=>V.int (Builtin.bitOr i j)) ((x &&& m:Nat):Int) (z:Int)=V.int (((x &&& m) ||| z:Nat):Int):=congrArg V.int (B8 _ _);refine hR _ _ ⟨(x &&& m) ||| z,?_,?_,.inl hk,s2.trans (Cg AB)⟩
   ·show [some (V.ref d),some (V.int (m:Int)),some (V.str r),some ((fun i j=>V.int (Builtin.bitOr i j)) ((x &&& m:Nat):Int) (z:Int))]=_;rw [eo]
   ·refine Nat.or_lt_two_pow g1 ?_;have:(256:Nat) < 2 ^ 40:=by decide
    omega
  ·rw [decide_eq_false (show ¬ V.str r=V.str "keep" from fun z=>hk (V.str.inj z))];exact An (An (stop _ s1))
 ·rintro σ H1 ⟨n,rfl,h1,h2,sx⟩;exact ⟨_,rfl,k n H1 h1 h2 sx⟩
def JD:Sp:=fun vs H Q _=>∃ (t e m:Addr) (due:Aa) (r:Str) (i:Int),vs=[.ref t,.str r,.int i]/\H t=some (.dK (NV due e m)) /\
 ((AS due i ≠ 0/\r = "bar" /\ ∀ p,H p=none->Q (.ref p) (upd H p (.tup [.str "refused", .str "BadRest", .int (AS due i:Nat)]))) \/
  (¬ (AS due i ≠ 0/\r = "bar")/\i < 0/\Q (.int (kn due - (kn due &&& plain i):Nat)) H) \/
  (¬ (AS due i ≠ 0/\r = "bar")/\0 <= i/\AS due i ≠ 0/\r = "leave" /\ ∀ p,H p=none->Q (.ref p) (upd H p (.tup [.str "left", .int i]))) \/
  (¬ (AS due i ≠ 0/\r = "bar")/\0 <= i/\¬ (AS due i ≠ 0/\r = "leave")/\Q (.int ((if r = "keep" then plain i else plain i - AS due i:Nat):Int)) H))
theorem scLMade:AK ["_law_table", "_law_way", "_law_number", "_law_plain", "_law_strange"] ["_law_table", "_law_way", "_law_number"] (defScope Gn):=fsc
theorem Pf (F:Fun K "_law_made" "_law_made" Gn f fd):Ae P w K mg base CX0 1 f fd ["_law_table", "_law_way", "_law_number"] JD:=by
 refine F.m scLMade fun vs H Q E h=>?_;obtain ⟨t,e,m,due,r,i,rfl,ht,h⟩:=h;refine ⟨rfl,fun ad A outer s hr=>?_⟩;have hu:=FO hr
 refine ⟨_,Au (Ag (i:=3) scLMade.nd rfl (Or.inl rfl) (C7 (AW JQ (pv 2) AG (AZ _)) (pv 2) (AL Cj (AL Cj AG (pv 2)) AG)))
  (AE (Ag (i:=4) scLMade.nd rfl (Or.inl rfl) (AL Cj (pv 3) (AL B7 (pv 3) (CJ hu (pv 0) Af (fun _ _=>rfl)))))
  (Au (Av (PW.pt (C6 (AW LU (pv 4) AG (AZ _)) (CA (AW CB (pv 1) Af (AZ _))))) (AF (AR (BW (AA Af (AA Af (AA (pv 4) AC)))))) AY)
  (AE (Av (AW HZ (pv 2) AG (AZ _)) (AF (AR (AL Cj (CJ hu (pv 0) Af (fun _ _=>rfl)) (AL B7 (CJ hu (pv 0) Af (fun _ _=>rfl)) (pv 3))))) AY)
  (Au (Av (PW.pt (C6 (AW LU (pv 4) AG (AZ _)) (CA (AW CB (pv 1) Af (AZ _))))) (AF (AR (BW (AA Af (AA (pv 2) AC))))) AY)
  (AF (AR (C7 (AW CB (pv 1) Af (AZ _)) (pv 2) (AL B7 (pv 2) (CJ hu (pv 0) Af (fun _ _=>rfl)))))))))),?_⟩
 refine ⟨fun σ H1=>σ=[some (.ref t),some (.str r),some (.int i),some (.int (plain i:Nat)),none]/\H1=H,fun R hR=>?_,?_⟩
 ·refine ⟨_,rfl,_,_,rfl,rfl,_,rfl,?_⟩;have e:=FH i;refine Bj (fun hc=>?_) (fun hc=>?_)
  ·have h0:0 <= i:=of_decide_eq_true hc;rw [if_pos h0] at e;refine ⟨_,rfl,hR _ _ ⟨?_,rfl⟩⟩;rw [e];rfl
  ·have h0:¬ 0 <= i:=fun z=>hc (decide_eq_true z);rw [if_neg h0] at e;refine ⟨_,rfl,_,_,rfl,rfl,_,_,rfl,rfl,hR _ _ ⟨?_,rfl⟩⟩;rw [e];show _=[some (V.ref t),some (V.str r),some (V.int i),some (V.int (-i - 1)),none];have:(0:Int) - i - 1=-i - 1:=by omega
   rw [← this];rfl
 rintro σ H0 ⟨rfl,rfl⟩;have kd:∀ x:V,x=V.ref t->True:=fun _ _=>trivial;refine ⟨_,rfl,_,rfl,_,rfl,t,_,rfl,.inl ⟨_,Sum.inr "known", .inl ht,rfl,(B4 _ _ _).symm⟩,_,_,rfl,rfl,_,_,rfl,rfl,?_⟩
 have es:(fun i j=>V.int (i - j)) ((plain i:Nat):Int) (Builtin.bitAnd ((plain i:Nat):Int) ((Ao (due.map (·.2)):Nat):Int))=V.int ((AS due i:Nat):Int):=by
  show V.int (((plain i:Nat):Int) - Builtin.bitAnd ((plain i:Nat):Int) ((Ao (due.map (·.2)):Nat):Int))=_;rw [By];have:=Nat.and_le_left (n:=plain i) (m:=kn due);unfold AS;congr 1;show ((plain i:Nat):Int) - ((plain i &&& kn due:Nat):Int)=_;omega
 have eG:∀ n:Nat,decide ((0:Int) < (n:Int))=!decide (n=0):=fun n=>by
  by_cases z:n=0
  ·subst z; rfl
  ·rw [decide_eq_true (show (0:Int) < (n:Int) by omega),decide_eq_false z]; rfl
 refine ⟨fun σ H2=>¬ (AS due i ≠ 0/\r = "bar")/\σ=[some (.ref t),some (.str r),some (.int i),some (.int (plain i:Nat)),some (.int (AS due i:Nat))]/\H2=H0,fun R hR=>?_,?_⟩
 ·refine ⟨_,congrArg (fun z=>some (some z)) es,_,_,rfl,rfl,_,rfl,?_⟩;rw [eG];by_cases hz:AS due i=0
  ·rw [decide_eq_true hz];refine An (An (hR _ _ ⟨fun z=>z.1 hz,?_,rfl⟩));rw [← es];rfl
  ·rw [decide_eq_false hz];refine BC ?_;refine ⟨_,rfl,rfl,_,rfl,?_⟩;by_cases bc:r = "bar"
   ·rw [decide_eq_true (show V.str r=V.str "bar" by rw [bc])];refine BC ?_;rcases h with ⟨_,_,k⟩ | ⟨hn,_⟩ | ⟨hn,_⟩ | ⟨hn,_⟩
    ·exact ⟨_,congrArg (fun z=>some (some z)) es,sl3,k⟩
    ·exact absurd ⟨hz,bc⟩ hn
    ·exact absurd ⟨hz,bc⟩ hn
    ·exact absurd ⟨hz,bc⟩ hn
   ·rw [decide_eq_false (show ¬ V.str r=V.str "bar" from fun z=>bc (V.str.inj z))];refine An (hR _ _ ⟨fun z=>bc z.2,?_,rfl⟩);rw [← es];rfl
 rintro σ H2 ⟨hnb,rfl,rfl⟩;refine ⟨_,rfl,_,_,rfl,rfl,_,rfl,?_⟩;rcases h with ⟨z1,z2,_⟩ | ⟨_,c8,k⟩ | ⟨_,hnn,hs0,hlv,k⟩ | ⟨_,hnn,hnl,k⟩
 ·exact absurd ⟨z1,z2⟩ hnb
 ·rw [decide_eq_true (show i < 0 from c8)];refine BC ?_;refine ⟨_,rfl,t,_,rfl,.inl ⟨_,Sum.inr "known", .inl ht,rfl,(B4 _ _ _).symm⟩,_,rfl,t,_,rfl,.inl ⟨_,Sum.inr "known", .inl ht,rfl,(B4 _ _ _).symm⟩,_,rfl,_,_,rfl,rfl,_,_,rfl,rfl,?_⟩
  have ek:(fun i j=>V.int (i - j)) ((Ao (due.map (·.2)):Nat):Int) (Builtin.bitAnd ((Ao (due.map (·.2)):Nat):Int) ((plain i:Nat):Int))=V.int ((kn due - (kn due &&& plain i):Nat):Int):=by
   show V.int (((Ao (due.map (·.2)):Nat):Int) - Builtin.bitAnd ((Ao (due.map (·.2)):Nat):Int) ((plain i:Nat):Int))=_;rw [By];have:=Nat.and_le_left (n:=kn due) (m:=plain i);congr 1;show ((kn due:Nat):Int) - ((kn due &&& plain i:Nat):Int)=_;omega
  rw [← ek] at k;exact k
 ·rw [decide_eq_false (show ¬ i < 0 by omega)];refine An ?_;refine ⟨fun _ _=>False,fun R hR=>?_,fun _ _ z=>z.elim⟩;refine ⟨_,rfl,_,_,rfl,rfl,_,rfl,?_⟩;rw [eG,decide_eq_false hs0];refine BC ?_;refine ⟨_,rfl,rfl,_,rfl,?_⟩;rw [decide_eq_true (show V.str r=V.str "leave" by rw [hlv])];exact BC ⟨_,rfl,sl2,k⟩
 ·rw [decide_eq_false (show ¬ i < 0 by omega)];refine An ?_;refine ⟨fun σ H3=>σ=[some (.ref t),some (.str r),some (.int i),some (.int (plain i:Nat)),some (.int (AS due i:Nat))]/\H3=H2,fun R hR=>?_,?_⟩
  ·refine ⟨_,rfl,_,_,rfl,rfl,_,rfl,?_⟩;rw [eG];by_cases hz:AS due i=0
   ·rw [decide_eq_true hz];exact An (An (hR _ _ ⟨rfl,rfl⟩))
   ·rw [decide_eq_false hz];refine BC ?_;refine ⟨_,rfl,rfl,_,rfl,?_⟩;rw [decide_eq_false (show ¬ V.str r=V.str "leave" from fun z=>hnl ⟨hz,V.str.inj z⟩)];exact An (hR _ _ ⟨rfl,rfl⟩)
  rintro σ H3 ⟨rfl,rfl⟩;have ep:=FH i;rw [if_pos hnn] at ep;refine ⟨_,rfl,rfl,_,rfl,?_⟩;by_cases bh:r = "keep"
  ·rw [decide_eq_true (show V.str r=V.str "keep" by rw [bh])];rw [if_pos bh,ep] at k;exact BC ⟨_,rfl,k⟩
  ·rw [decide_eq_false (show ¬ V.str r=V.str "keep" from fun z=>bh (V.str.inj z))];refine An ⟨_,rfl,_,rfl,t,_,rfl,.inl ⟨_,Sum.inr "known", .inl ht,rfl,(B4 _ _ _).symm⟩,_,_,rfl,rfl,?_⟩
   have ek:(fun i j=>V.int (Builtin.bitAnd i j)) i ((Ao (due.map (·.2)):Nat):Int)=V.int ((plain i - AS due i:Nat):Int):=by
    show V.int (Builtin.bitAnd i ((Ao (due.map (·.2)):Nat):Int))=_;have ei:Builtin.bitAnd i ((Ao (due.map (·.2)):Nat):Int)=Builtin.bitAnd ((plain i:Nat):Int) ((Ao (due.map (·.2)):Nat):Int):=by rw [ep]
    rw [ei,By];have:=Nat.and_le_left (n:=plain i) (m:=kn due);unfold AS;congr 1;show ((plain i &&& kn due:Nat):Int)=_;omega
   rw [if_neg bh,← ek] at k;exact k
end
end Mk
end
section
namespace L2
open PySem
theorem J9 {a b:Addr} {xs zs:List V} {g:TG} {tt:TT} {te:TE} {ix:List (Option Nat)} {R:List V->Hp->Prop} {σ:St} {H1:Hp} (Pv:Nat->List V->Hp->Prop) (hxz:xs.length=zs.length) (h0:Pv 0 [] H1) (hl:∀ i ys H,i <= xs.length->Pv i ys H->SqL K H a xs/\SqL K H b zs) (hz:∀ i ys H,Pv i ys H->ys.length <= 1000)
  (hs:∀ i x z ys H p,xs[i]?=some x->zs[i]?=some z->Pv i ys H->H p=none->g (.ref p) (Bq ix σ) (upd H p (.tup [x,z])) fun σ2 H2=>tt σ2 H2 fun b H3=>if b=true then te σ2 H3 fun y H4=>Pv (i + 1) (ys++[y]) H4 else Pv (i + 1) ys H3) (hd:∀ ys H,Pv xs.length ys H->R ys H) :
  ∃ W:Nat->Nat->List V->Hp->Prop,(∃ m,W 0 m [] H1)/\∀ i m ys H,W i m ys H ->
   ((Itz K a b).stop i H/\ys.length <= sizeLine/\R ys H) \/
   ((Itz K a b).go i H/\∃ N:List V->Hp->Prop,(∀ ys' H',N ys' H'->ys'.length <= sizeLine/\∃ m',m' < m/\W (i + 1) m' ys' H') /\
    ∀ x H',(Itz K a b).yld i H x H'->g x (Bq ix σ) H' fun σ2 H2=>tt σ2 H2 fun b H3=>if b=true then te σ2 H3 fun y H4=>N (ys++[y]) H4 else N ys H3):=by
 refine ⟨fun i m ys H=>m=xs.length - i/\i <= xs.length/\Pv i ys H,⟨_,rfl,Nat.zero_le _,h0⟩,?_⟩;rintro i m ys H ⟨rfl,hi,hp⟩;obtain ⟨q1,q2⟩:=hl i ys H hi hp;by_cases hlt:i < xs.length
 ·have hx:xs[i]?=some xs[i]:=List.getElem?_eq_getElem hlt;have hz':zs[i]?=some (zs[i]'(by omega)):=List.getElem?_eq_getElem (by omega);refine .inr ⟨⟨xs,zs,_,_,q1,q2,hx,hz'⟩,Pv (i + 1),fun ys' H' q=>⟨Nat.le_of_lt (Ad (hz _ ys' H' q)),xs.length - (i + 1),by omega,rfl,hlt,q⟩,?_⟩;rintro v H' ⟨p,x,y,hn,rfl,h1,h2,rfl⟩;exact hs i x y ys H p (h1 _ q1) (h2 _ q2) hp hn
 ·have e:i=xs.length:=by omega
  subst e;exact .inl ⟨⟨xs,zs,q1,q2,.inl (Nat.le_refl _)⟩,Nat.le_of_lt (Ad (hz _ ys H hp)),hd ys H hp⟩
end L2
namespace Mk
open PySem L2 MK
def NoIs (K:FG) (T:Value) (H:Hp) (v:V):Prop:=(∃ t,(∀ H,TyOf K H v t)/\W.kitOne K t T=some false)\/∃ a xs,v=.ref a/\H a=some (.tup xs)/\W.kitOne K (.type "tuple") T=some false
theorem NoIs.ty {T:Value} {v:V} (h:NoIs K T H v):∃ t,TyOf K H v t/\W.kitOne K t T=some false:=by
 rcases h with ⟨t,h,k⟩ | ⟨a,xs,rfl,h,k⟩
 ·exact ⟨t,h H,k⟩
 ·exact ⟨_,.tup h,k⟩
def UK (K:FG) (H:Hp) (v:V):Prop:=v=.bl true\/NoIs K (.type "int") H v
noncomputable def packRules:List Str:=["bar", "drop"]
structure JE (K:FG) (PC:Addr):Prop where
 cl:Cls K PC
 nK:NoAttr K PC "kinds"
def PackAt (PC:Addr) (H:Hp) (p l:Addr):Prop:=∃ dx,H p=some (.ins PC dx (BP "kinds" (.ref l) []))
theorem PackAt.same {PC:Addr} {p l:Addr} (s:Same H H') (h:PackAt PC H p l):PackAt PC H' p l:=by
 obtain ⟨dx,h⟩:=h;exact ⟨dx,s _ _ h⟩
theorem FI (l:Addr):(BP "kinds" (V.ref l) []).lookup ("kinds" : Str)=some (.ref l):=by rw [Ac,if_pos rfl]
theorem DZ (l:Addr) {m:Str} (h:¬ m = "kinds" := by decide +kernel):(BP "kinds" (V.ref l) []).lookup m=none:=by rw [Ac,if_neg h]; rfl
section
variable {PC cU cL cN:Addr}
def Es (K:FG):Sp:=fun vs H Q _=>(∃ i:Int,vs=[.int i]/\Q (.bl true) H)\/∃ v,vs=[v]/\UK K H v/\Q (.bl false) H
theorem Nf (F:Fun K "is_whole" "is_whole" DH f fd) (B:Bl mg):Ae P w K mg base CX0 1 f fd ["thing"] (Es K):=by
 refine F.ok IE (fun vs H Q E h=>?_) (fun ad A outer s H vs Q E hr h=>?_)
 ·rcases h with ⟨i,rfl,_⟩ | ⟨v,rfl,_⟩ <;> rfl
 ·refine ⟨_,AF (AR (Bg (BO K rfl rfl B.isi rfl B.int K3 (pv 0)) (B6 (Nr (BO K rfl rfl B.isi rfl B.bool Lr (pv 0)))))),?_⟩;rcases h with ⟨n,rfl,k⟩ | ⟨v,rfl,hv,k⟩
  ·refine ⟨_,rfl,_,_,_,true,rfl,.int n,rfl,_,rfl,?_⟩;exact ⟨_,rfl,_,_,_,false,rfl,.int n,(by kernel_rfl),_,rfl,k⟩
  ·rcases hv with rfl | hv
   ·refine ⟨_,rfl,_,_,_,true,rfl,.bl true,(by kernel_rfl),_,rfl,?_⟩;exact ⟨_,rfl,_,_,_,true,rfl,.bl true,rfl,_,rfl,k⟩
   ·obtain ⟨t,ht,hk⟩:=hv.ty;exact ⟨_,rfl,_,_,_,false,rfl,ht,hk,_,rfl,An k⟩
def Se (K:FG) (C:Addr) (H:Hp) (z:V) (b:Bool):Prop:=(∃ p due r,z=.ref p/\KindAt C H p due r/\b=inV (.str r) (packRules.map V.str))\/(NoIs K (.ref C) H z/\b=false)
def Sf (K:FG) (C:Addr):Sp:=fun vs H Q _=>∃ z b,vs=[z]/\Se K C H z b/\Q (.bl b) H
theorem UL:AK ["thing"] ["thing"] (defScope CS):=fsc
theorem Tf {aP:Addr} (F:Fun K "is_packed_kind" "is_packed_kind" CS f fd) (B:Bl mg) (T:Ej K C) (KI:KIsi K C) (mC:mg "Kind" = some (.ref C)) (hP:mg "PACKED_RULES" = some (.ref aP)) (hPT:∀ H:Hp,SqT K H aP (packRules.map V.str))
  (GRe:Mt P w K mg base C "rest" 1 ["self"] (FF C)):Ae P w K mg base CX0 2 f fd ["thing"] (Sf K C):=by
 obtain ⟨fE,dE,GE,mE,bE⟩:=GRe.ex;refine F.m UL fun vs H Q E h=>?_;obtain ⟨z,b,rfl,hz,k⟩:=h;refine ⟨rfl,fun ad A outer s hr=>?_⟩
 refine ⟨_,AF (AR (Bg (AV (Dj K rfl) rfl B.isi D9 (AA (pv 0) (AA (BI (v:=.ref C) rfl mC rfl) AC)))
  (B6 (CD Ex (As (pv 0) T.cl mE GE hr bE .nil AQ) (BI (v:=.ref aP) rfl hP rfl) (by with_unfolding_all rfl))))),?_⟩
 rcases hz with ⟨p,due,r,rfl,KA,rfl⟩ | ⟨hz,rfl⟩
 ·obtain ⟨dx,d1,d2,hp⟩:=KA.ins;refine ⟨_,rfl,_,C,_,true,rfl,KI.ty hp,Cd K C,_,rfl,BC ?_⟩;exact ⟨_,rfl,p,dx,_,rfl,hp,(Bz _ _ _),p,due,r,rfl,KA,aP,_,rfl,.inr (hPT _),rfl,FA _,k⟩
 ·obtain ⟨t,ht,hk⟩:=hz.ty;exact ⟨_,rfl,_,C,_,false,rfl,ht,hk,_,rfl,An k⟩
def UM (K:FG) (C VC:Addr) (H:Hp) (z:V) (kb:Addr) (b:Bool):Prop:=(NoIs K (.ref VC) H z/\b=false)\/∃ p ka n due r due' r',z=.ref p/\ValAt VC H p ka n/\KindAt C H ka due r/\Asc due/\KindAt C H kb due' r'/\Asc due'/\b=decide (due=due'/\r=r')
def Q4 (K:FG) (C VC:Addr):Sp:=fun vs H Q _=>∃ z kb b,vs=[z,.ref kb]/\UM K C VC H z kb b/\∀ H',Same H H'->Q (.bl b) H'
theorem UN:AK ["thing", "kind"] ["thing", "kind"] (defScope D6):=fsc
theorem Tg (F:Fun K "is_value_of" "is_value_of" D6 f fd) (B:Bl mg) (VT:JB K VC) (VI:KIsi K VC) (mV:mg "Value" = some (.ref VC)) (GVK:Mt P w K mg base VC "kind" 1 ["self"] (JC VC)) (GE:Mt P w K mg base C "__eq__" 2 ["self", "other"] (Ly C)) :
  Ae P w K mg base CX0 3 f fd ["thing", "kind"] (Q4 K C VC):=by
 obtain ⟨fE,dE,GE,mE,bE⟩:=GE.ex;obtain ⟨fK,dK,GK,mK,bK⟩:=GVK.ex;refine F.m UN fun vs H Q E h=>?_;obtain ⟨z,kb,b,rfl,hz,k⟩:=h;refine ⟨rfl,fun ad A outer s hr=>?_⟩;have hr1:Room 1 _:=hr.mono (by decide)
 refine ⟨_,AF (AR (Bg (AV (Dj K rfl) rfl B.isi D9 (AA (pv 0) (AA (BI (v:=.ref VC) rfl mV rfl) AC)))
  (B6 (CD (Jc GE hr bE mE) (As (pv 0) VT.cl mK GK hr1 bK .nil AQ) (pv 1) (AZ _))))),?_⟩
 rcases hz with ⟨hz,rfl⟩ | ⟨p,ka,n,due,r,due',r',rfl,hV,KA,a1,KB,a2,rfl⟩
 ·obtain ⟨t,ht,hk⟩:=hz.ty;exact ⟨_,rfl,_,VC,_,false,rfl,ht,hk,_,rfl,An (k _ (Same.refl _))⟩
 ·obtain ⟨dxp,hp⟩:=id hV;obtain ⟨dka,d1,d2,hka⟩:=KA.ins;obtain ⟨dkb,e1,e2,hkb⟩:=KB.ins;refine ⟨_,rfl,_,VC,_,true,rfl,VI.ty hp,Cd K VC,_,rfl,BC ?_⟩;refine ⟨_,rfl,p,dxp,_,rfl,hp,Lz _ _ (by decide +kernel) (by decide +kernel),p,ka,n,rfl,hV,_,rfl,?_⟩;exact ⟨ka,dka,_,kb,rfl,rfl,hka,.inl ⟨_,_,hkb⟩,ka,kb,due,r,rfl,KA,a1,.inr ⟨due',r',KB,a2,fun H1 s1=>⟨_,rfl,k _ s1⟩⟩⟩
def MH (K:FG) (C PC cU:Addr):Sp:=fun vs H Q E=>∃ (p dx:Addr) (v:V),vs=[.ref p,v]/\H p=some (.ins PC dx []) /\
 (((NoIs K (.type "list") H v\/∃ l xs,v=.ref l/\H l=some (.lst xs)/\(xs.length=0\/6 < xs.length))/\Uq H E cU) \/
  ∃ (l:Addr) (xs:List V) (bs:List Bool),v=.ref l/\H l=some (.lst xs)/\0 < xs.length/\xs.length <= 6/\Paired (Se K C H) xs bs /\
  ((bs.all id=false/\Uq H E cU)\/(bs.all id=true/\∀ l' H',(∀ b o,H b=some o->b ≠ p->H' b=some o)->PackAt PC H' p l'->H' l'=some (.lst xs)->Q .non H')))
theorem Q5:AK ["self", "kinds"] ["self", "kinds"] (defScope De):=fsc
theorem Pg {tM:Tok} (F:Fun K "__init__" "Pack.__init__" De f fd) (B:Bl mg) (PT:JE K PC) (hM:mg "MOST_KINDS" = some (.int 6 tM)) (EU:RY P w K mg base "BadRule" cU) (GP:Fn P w K mg base "is_packed_kind" 2 ["thing"] (Sf K C)) :
  Ae P w K mg base (CXr P w) 3 f fd ["self", "kinds"] (MH K C PC cU):=by
 obtain ⟨fP,dP,GP,mP,kP,bP⟩:=GP.ex;obtain ⟨fX,dX,MX,GX,bX⟩:=EU.make;have mX:=EU.cls;refine F.n Q5 fun vs H Q E h=>?_;obtain ⟨p,dx,v,rfl,hp,h⟩:=h;refine ⟨rfl,fun ad A outer s hr=>?_⟩;have rz:=Lj (P:=P) (w:=w) (K:=K) (mg:=mg) (base:=base) (N:=["self", "kinds"]) (qual := "Pack.__init__") (scope:=defScope De) (f:=f) (cd:=ad) (A:=A) (outer:=outer) (s:=s) (H:=H) (E:=E)
 refine ⟨_,AE (Av (PW.pt (CY (A3 (A9 (BO K rfl rfl B.isi rfl B.list Cu (pv 1)))) (Bs (A3 (Ca CZ CZ AG (AV (A4 K rfl) rfl B.len PySem.boot_len (AA (pv 1) AC)) (BI (v:=.int 6) rfl hM ⟨tM,rfl⟩)))))) (AF (Gc rz rfl MX.cls (Gb MX GX hr rfl mX bX .nil AQ (AA Af AC)))) AY)
  (AE (Av (A3 (A9 (AV (EV rfl) rfl B.all Ip (AA (BU [] [] (by kernel_rfl) (by decide +kernel) (by kernel_rfl) rfl (BJ (pv 1)) (fun _ _ _ _ _ _=>A8) (fun _ _ _ _ _ _=>AO GP hr rfl mP kP bP .nil AQ (AA (pv 0) AC))) AC)))) (AF (Gc rz rfl MX.cls (Gb MX GX hr rfl mX bX .nil AQ (AA Af AC)))) AY)
  (AF (Ev (pv 0) (B1 IW rfl B.list Cu (AA (pv 1) AC)) rfl))),?_⟩
 rcases h with ⟨hv,hU⟩ | ⟨l,xs,bs,rfl,hl,h0,h6,am,h⟩
 ·have go:∀ {σ:St} {D:C4} {x:Str},Ii cU (Ih cU (Cf K) [] E0 (Ar (tC (.str x)) CN)) E D σ H:=fun {σ D x}=>G6 (te:=fun _=>tC (.str "")) MX.cls (Same.refl _) hU;rcases hv with hv | ⟨l,xs,rfl,hl,hn⟩
  ·obtain ⟨t,ht,hk⟩:=hv.ty;exact ⟨_,rfl,_,_,_,false,rfl,ht,hk,_,rfl,BC (BC go)⟩
  ·refine ⟨_,rfl,_,_,_,true,rfl,.lst hl,rfl,_,rfl,An ?_⟩;refine ⟨_,rfl,l,xs,rfl,.inl (SqL.of hl),_,_,rfl,rfl,_,rfl,?_⟩;by_cases h1:(1:Int) <= (xs.length:Int)
   ·rw [decide_eq_true h1];refine BC ⟨_,_,rfl,rfl,_,rfl,?_⟩;rw [decide_eq_false (show ¬ (xs.length:Int) <= 6 by omega)];exact BC go
   ·rw [decide_eq_false h1];exact An ⟨_,rfl,BC go⟩
 ·refine ⟨_,rfl,_,_,_,true,rfl,.lst hl,rfl,_,rfl,An ?_⟩;refine ⟨_,rfl,l,xs,rfl,.inl (SqL.of hl),_,_,rfl,rfl,_,rfl,?_⟩;refine Bj (fun _=>?_) (fun z=>absurd (decide_eq_true (by omega)) z);refine ⟨_,_,rfl,rfl,_,rfl,?_⟩;refine Le (show ((xs.length:Nat):Int) <= 6 by omega) ?_;have az:xs.length=bs.length:=am.length;refine ⟨_,rfl,l,rfl,⟨_,SqL.of hl⟩,BE (K:=K) (a:=l) (xs:=xs) (fun i ys H2=>H2=H/\ys=(bs.take i).map V.bl) ⟨rfl,rfl⟩ (fun i ys H2 _ ⟨e,_⟩=>e ▸ SqL.of hl) (fun i ys H2 ⟨_,e⟩=>by rw [e,AI,length_take]; omega) ?_ ?_⟩
  ·rintro i z ys H2 hi ⟨rfl,rfl⟩;obtain ⟨b,hb,hz⟩:=A5 am hi;refine ⟨_,rfl,z,b,rfl,hz,rfl,?_⟩;rw [take_add_one,hb,map_append];rfl
  ·rintro ys H2 ⟨rfl,rfl⟩ q hq;have sq:=AD (Same.refl _) hq (o:=HO.lst ((bs.take xs.length).map V.bl));refine ⟨q,bs.take xs.length,rfl,SqL.of AB,_,rfl,?_⟩;rw [show bs.take xs.length=bs from take_of_length_le (by omega)] at sq ⊢;rcases h with ⟨hb,hU⟩ | ⟨hb,k⟩
   ·rw [hb];exact BC (G6 (te:=fun _=>tC (.str "")) MX.cls sq hU)
   ·rw [hb];refine An ⟨_,rfl,l,xs,rfl,.inl (SqL.of (sq _ _ hl)),fun l' hl'=>?_⟩;have s2:=AD (Same.refl _) hl' (o:=HO.lst xs);have npl:p ≠ l':=AJ (sq _ _ hp) hl';refine ⟨_,rfl,p,PC,dx,[],rfl,s2 _ _ (sq _ _ hp),PT.cl,PT.nK,(by show 0 < 1000; decide),?_⟩;refine k l' _ (fun b o e hb=>?_) ⟨dx,AB⟩ ?_
    ·rw [AH hb];exact s2 _ _ (sq _ _ e)
    ·rw [AH (Ne.symm npl),AB]
end
noncomputable def AX (due:Aa):Nat:=if Builtin.Int.intBits ((kn due:Nat):Int) > 1 then Builtin.Int.intBits ((kn due:Nat):Int) else 1
noncomputable def Ba (dues:List (Aa)):Nat:=(dues.map AX).sum
theorem Dk (h:kn due < 2 ^ 20):AX due <= 20:=by
 have:=Gs h;unfold AX;split <;> omega
theorem Sg {l:List Nat} (h:∀ n ∈ l,n <= 20):l.sum <= 20 * l.length:=by
 induction l with
 | nil=>simp
 | cons a r ih =>
  have h1:=h a (mem_cons_self ..);have h2:=ih fun n hn=>h n (mem_cons_of_mem _ hn);rw [sum_cons,length_cons];omega
structure PkOk (C PC:Addr) (H:Hp) (p l:Addr) (ks:List Addr) (dues:List (Aa)):Prop where
 at_:PackAt PC H p l
 hl:H l=some (.lst (ks.map V.ref))
 hk:Paired (fun k due=>∃ r,KindAt C H k due r/\Asc due/\kn due < 2 ^ 20) ks dues
 le:ks.length <= 6
theorem PkOk.same {PC:Addr} {p l:Addr} {ks:List Addr} {dues:List (Aa)} (s:Same H H') (h:PkOk C PC H p l ks dues):PkOk C PC H' p l ks dues :=
 ⟨h.at_.same s,s _ _ h.hl,Paired.imp' (fun _ _ ⟨r,a,b,c⟩=>⟨r,a.same s,b,c⟩) h.hk,h.le⟩
theorem PkOk.size {PC:Addr} {p l:Addr} {ks:List Addr} {dues:List (Aa)} (h:PkOk C PC H p l ks dues):Ba dues <= 120:=by
 have az:ks.length=dues.length:=h.hk.length
 have h2:∀ n ∈ dues.map AX,n <= 20:=fun n hn=>by
  obtain ⟨due,hd,rfl⟩:=mem_map.mp hn;obtain ⟨i,hi⟩:=getElem?_of_mem hd;have hlt:i < dues.length:=(List.getElem?_eq_some_iff.mp hi).1;obtain ⟨d',e,r,_,_,h3⟩:=A5 h.hk (List.getElem?_eq_getElem (show i < ks.length by omega));rw [hi] at e;cases e;exact Dk h3
 have:=Sg h2;have hle:=h.le;unfold Ba;rw [AI] at this;omega
theorem JF (l:List Nat):(l.map fun n:Nat=>(n:Int)).sum=((l.sum:Nat):Int):=by
 induction l with
 | nil=>rfl
 | cons a r ih=>rw [map_cons,sum_cons,ih,sum_cons]; omega
section
variable {PC cU cL cN:Addr}
def B9 (C PC:Addr):Sp:=fun vs H Q _=>∃ (p l:Addr) (ks:List Addr) (dues:List (Aa)),vs=[.ref p]/\PkOk C PC H p l ks dues/\∀ l2 H',Same H H'->H' l2=some (.lst (AU (dues.map AX)))->Q (.ref l2) H'
theorem Ph:AK ["self"] ["self"] (defScope DJ):=fsc
theorem Ng (F:Fun K "widths" "Pack.widths" DJ f fd) (B:Bl mg) (T:Ej K C) (PT:JE K PC) (GK:Mt P w K mg base C "known" 2 ["self"] (Dh C)):Ae P w K mg base CX0 3 f fd ["self"] (B9 C PC):=by
 obtain ⟨fK,dK,GK,mK,bK⟩:=GK.ex;refine F.m Ph fun vs H Q E h=>?_;obtain ⟨p,l,ks,dues,rfl,PK,k⟩:=h;refine ⟨rfl,fun ad A outer s hr=>?_⟩;obtain ⟨dx,hp⟩:=PK.at_;have az:ks.length=dues.length:=PK.hk.length;have hle:=PK.le;refine ⟨_,AF (AR (BU (te:=tCB (fun xs H Q=>∃ i j,xs=[.int i,.int j]/\Q (.int (if j > i then j else i)) H) (Ar (tC (.int 1)) (Ar (TJ K "int" (fun x xs H Q=>∃ i,x=.int i/\xs=[]/\Q (.int (Builtin.Int.intBits i)) H) (LX C "known" (Dh C) [] E0 (Ft 0) CN)) CN))) [] [] (by kernel_rfl) (by decide +kernel) (by kernel_rfl) rfl (BJ (BG (pv 0) rfl)) (fun _ _ _ _ _ _=>A8) ?elt)),?_⟩
 case elt =>
  intro cl s H C fp aa;refine AV (Hh ?_) ?_ B.max Os (AA AG (AA (OB PySem.F.plainAttrs_int PySem.F.slot_int_bit_length PySem.F.type_int_bit_length EY (As (pv 0) T.cl mK GK hr bK .nil AQ)) AC))
  ·rfl
  ·rfl
 refine ⟨_,rfl,p,PC,dx,_,_,rfl,hp,PT.cl,PT.nK,FI l,l,rfl,⟨_,SqL.of PK.hl⟩,BE (K:=K) (a:=l) (xs:=ks.map V.ref) (fun i ys H2=>Same H H2/\ys=AU ((dues.map AX).take i)) ⟨Same.refl _,rfl⟩ (fun i ys H2 _ ⟨s2,_⟩=>SqL.of (s2 _ _ PK.hl)) (fun i ys H2 ⟨_,e⟩=>by rw [e]; unfold AU; rw [AI,length_take,AI]; omega) ?_ ?_⟩
 ·rintro i v ys H2 hi ⟨s2,rfl⟩;rw [getElem?_map] at hi
  obtain ⟨kk,hkk,rfl⟩:∃ b,ks[i]?=some b/\v=V.ref b:=by
   cases q:ks[i]? with
   | none=>rw [q] at hi; cases hi
   | some x=>rw [q] at hi; exact ⟨x,rfl,(Option.some.inj hi).symm⟩
  obtain ⟨due,bd,r,KA,_,_⟩:=A5 PK.hk hkk;have KA2:=KA.same s2;obtain ⟨dxk,d1,d2,hpk⟩:=KA2.ins;refine ⟨_,rfl,kk,dxk,_,rfl,hpk,(Bz _ _ _),kk,due,r,rfl,KA2,fun H3 s3=>⟨rfl,_,rfl,rfl,_,_,rfl,s2.trans s3,?_⟩⟩;rw [take_add_one,getElem?_map,bd];unfold AU;rw [map_append,G3];show _++[V.int _]=_++[V.int ((AX due:Nat):Int)];congr 3;unfold AX kn;split
  ·rw [if_pos (by omega)]
  ·rw [if_neg (by omega)];rfl
 ·rintro ys H2 ⟨s2,rfl⟩ q hq;refine k q _ (AD s2 hq) ?_;rw [AB,AI,show (dues.map AX).take ks.length=dues.map AX from take_of_length_le (by rw [AI]; omega)]
theorem Ti:AK ["self", "thing"] ["self", "thing"] (defScope BR):=fsc
theorem scUnp:AK ["self", "number", "values", "left", "kind", "width"] ["self", "number"] (defScope Bp):=fsc
noncomputable abbrev UO:List Str:=["self", "number", "at", "value", "widths", "low", "place"]
theorem scPut:AK UO ["self", "number", "at", "value"] (defScope Gk):=fsc
noncomputable abbrev Q6:List Str:=["self", "values", "number", "low", "value", "width"]
theorem scPacked:AK Q6 ["self", "values"] (defScope DK):=fsc
end
noncomputable def gV3 (vs zs:List V):List V:=match vs,zs with | [a,b],[c]=>[a,b,c] | _,_=>[]
noncomputable def gU3 (us ws:List Value):List Value:=match us,ws with | [a,b],[c]=>[a,b,c] | _,_=>[]
structure Pi (P:Program) (w:World) (K:FG) (mg:SV) (base:Heap) (C:Addr):Prop where
 T:Ej K C
 cls:mg "Kind" = some (.ref C)
 make:∃ f fd,Mk K C f/\Ae P w K mg base CX0 6 f fd ["self", "rows", "rest"] (O4 C) /\
  (∃ g,KZ K fd ["self", "rows", "rest"] ["rest"] g gV3)/\∃ ds,Binds K fd ["self", "rows", "rest"] ds/\Vals [.str "bar"] ds
theorem Fj:∀ (r:List Int) (a:Int),a <= r.foldl max a/\(∀ x ∈ r,x <= r.foldl max a)/\(∀ m,a <= m->(∀ x ∈ r,x <= m)->r.foldl max a <= m)
 | [],a=>⟨Int.le_refl _,(fun x hx=>by cases hx),fun m h _=>h⟩
 | b :: r,a=>by
  obtain ⟨h1,h2,h3⟩:=Fj r (max a b);refine ⟨?_,fun x hx=>?_,fun m hm hx=>?_⟩
  ·exact Int.le_trans (Int.le_max_left a b) h1
  ·rcases mem_cons.mp hx with z | z
   ·subst z;exact Int.le_trans (Int.le_max_right a x) h1
   ·exact h2 x z
  ·refine h3 m (Int.max_le.mpr ⟨hm,hx b (mem_cons_self ..)⟩) fun x h=>hx x (mem_cons_of_mem _ h)
theorem Q7 {ms:List Int} (x:Int) (h:x ∈ ms):x <= GS 0 ms:=by
 cases ms with
 | nil=>cases h
 | cons a r =>
  show x <= r.foldl max a;rcases mem_cons.mp h with z | z
  ·subst z; exact (Fj r x).1
  ·exact (Fj r a).2.1 x z
theorem Q8 {ms:List Int} {m:Int} (h0:0 <= m) (h:∀ x ∈ ms,x <= m):GS 0 ms <= m:=by
 cases ms with
 | nil=>exact h0
 | cons a r=>exact (Fj r a).2.2 m (h a (mem_cons_self ..)) fun x hx=>h x (mem_cons_of_mem _ hx)
section
theorem Q9:AK ["_law_known"] ["_law_known"] (defScope E9):=fsc
def KeepL (H H':Hp):Prop:=∀ b o,H b=some o->(∀ xs,o ≠ .lst xs)->H' b=some o
theorem KindAt.keepL {p:Addr} {r:Str} (s:KeepL H H') (h:KindAt C H p due r):KindAt C H' p due r:=by
 obtain ⟨dx,d1,o1,d2,o2,a,b,c⟩:=h.ex;exact ⟨⟨dx,d1,o1,d2,o2,s _ _ a (fun _ z=>nomatch z),s _ _ b (fun _ z=>nomatch z),s _ _ c (fun _ z=>nomatch z)⟩⟩
theorem KeepL.same (s:Same H H'):KeepL H H':=fun b o e _=>s b o e
theorem KeepL.sameX {d:Addr} {xs:List V} (hd:H d=some (.lst xs)) (s:SameX d H H'):KeepL H H':=fun b o e h=>s.old b o e fun z=>by subst z; rw [hd] at e; cases e; exact h _ rfl
theorem KeepL.upd {l:Addr} {xs:List V} {o:HO} (h:H l=some (.lst xs)):KeepL H (upd H l o):=fun b u e hn=>by
 rw [AH (fun z=>by subst z; rw [h] at e; cases e; exact hn _ rfl)];exact e
theorem KeepL.trans {H1 H2:Hp} (a:KeepL H H1) (b:KeepL H1 H2):KeepL H H2:=fun c o e h=>b c o (a c o e h) h
def LItem (C:Addr) (H:Hp) (x:Addr × Addr × Aa):Prop:=(∃ r,KindAt C H x.1 x.2.2 r/\r ∈ packRules/\Ei x.2.2)/\(∃ e m,H x.2.1=some (.dK (NV x.2.2 e m)))/\∀ y ∈ x.2.2.map (·.1),y ∈ wordsL
theorem LItem.keepL {x:Addr × Addr × Aa} (s:KeepL H H') (h:LItem C H x):LItem C H' x:=by
 obtain ⟨⟨r,k,a,b⟩,⟨e,m,t⟩,w⟩:=h;exact ⟨⟨r,k.keepL s,a,b⟩,⟨e,m,s _ _ t (fun _ z=>nomatch z)⟩,w⟩
def JG (C:Addr):Sp:=fun vs H Q _=>∃ (d:Addr) (a b:Int),vs=[.ref d]/\H d=some (.lst [.int a,.int b]) /\
 ∀ (q kl tl:Addr) (its:List (Addr × Addr × Aa)) H',SameX d H H'->H' q=some (.tup [.ref kl,.ref tl])->H' kl=some (.lst (its.map fun x=>V.ref x.1))->H' tl=some (.lst (its.map fun x=>V.ref x.2.1))->0 < its.length->its.length <= 6->(∀ x ∈ its,LItem C H' x)->Q (.ref q) H'
noncomputable abbrev Sh:List Str:=["_law_dice", "_law_kinds", "_law_tables", "_law_turn", "_law_rows", "_law_due"]
theorem scPackL:AK Sh ["_law_dice"] (defScope Go):=fsc
theorem Pj (F:Fun K "_law_pack" "_law_pack" Go f fd) (B:Bl mg) (KO:Pi P w K mg base C) (GR:Fn P w K mg base "_law_roll" 2 ["_law_dice", "_law_many"] Gx) (GL:Fn P w K mg base "_law_lines" 3 ["_law_dice", "_law_most"] Ix) (GT:Fn P w K mg base "_law_table_of" 2 ["_law_due"] Iy) :
  Ae P w K mg base CX0 8 f fd ["_law_dice"] (JG C):=by
 obtain ⟨fR,dR,GR,mR,kR,bR⟩:=GR.ex;obtain ⟨fL,dL,GL,mL,kL,bL⟩:=GL.ex;obtain ⟨fT,dT,GT,mT,kT,bT⟩:=GT.ex;obtain ⟨fI,dI,MI,GI,⟨gI,kbI⟩,ds,bI,vI⟩:=KO.make;have mC:=KO.cls;refine F.m scPackL fun vs H Q E h=>?_;obtain ⟨d,a,b,rfl,hd,k⟩:=h;refine ⟨rfl,fun ad A outer s hr=>?_⟩;have hr2:Room 2 _:=hr.mono (by decide);have hr3:Room 3 _:=hr.mono (by decide)
 refine ⟨_,AE (IM (i:=1) (j:=2) rfl scPackL.nd rfl rfl (by decide) rfl rfl (AA (BB AC) (AA (BB AC) AC)) (by kernel_rfl))
  (AE (Bh PassesOwn.never rfl (B0 rfl B.range (AA (AL Bi AG (AO GR hr2 rfl mR kR bR .nil AQ (AA (pv 0) (AA AG AC)))) AC)) (AN (i:=3) scPackL.nd rfl (Or.inl rfl))
   (AE (Bb (AO GL hr3 rfl mL kL bL .nil AQ (AA (pv 0) (AA AG AC))) (BA rfl (AM (AN (i:=4) scPackL.nd rfl (Or.inl rfl)) (AM (AN (i:=5) scPackL.nd rfl (Or.inl rfl)) Aw))))
   (AE (Bx (FN PySem.F.plainAttrs_list PySem.F.slot_list_append PySem.F.type_list_append B2 (pv 1) (AA (OQ MI GI hr rfl mC kbI (AA (pv 4) AC) (LY (BD (Ai K rfl) (BB (AA Af (AA Af AC))) (AO GR hr2 rfl mR kR bR .nil AQ (AA (pv 0) (AA AG AC))) (fun _ _=>rfl)) N7)) AC)))
   (AF (Bx (FN PySem.F.plainAttrs_list PySem.F.slot_list_append PySem.F.type_list_append B2 (pv 2) (AA (AO GT hr2 rfl mT kT bT .nil AQ (AA (pv 5) AC)) AC)))))))
  (AF (AR (BW (AA (pv 1) (AA (pv 2) AC)))))),?_⟩
 refine ⟨Nat.zero_le _,fun kl hkl=>⟨Nat.zero_le _,fun tl htl=>⟨_,_,rfl,?_⟩⟩⟩;have s1:=AD (Same.refl _) hkl (o:=HO.lst []);have s2:=AD (Same.refl _) htl (o:=HO.lst []);have hkd:kl ≠ d:=Ne.symm (AJ hd hkl)
 have htl0:H tl=none:=by
  cases e:H tl with
  | none=>rfl
  | some o=>rw [s1 _ _ e] at htl; cases htl
 have htd:tl ≠ d:=Ne.symm (AJ hd htl0);have hkt:kl ≠ tl:=AJ (AB (H:=H) (a:=kl) (o:=HO.lst [])) htl;have e1:=s2 _ _ (AB (H:=H) (a:=kl) (o:=HO.lst []));have e2:=AB (H:=upd H kl (.lst [])) (a:=tl) (o:=HO.lst []);have sA:=s1.trans s2;have hd1:=sA _ _ hd;generalize upd (upd H kl (.lst [])) tl (.lst [])=H1 at e1 e2 sA hd1 ⊢;clear s1 s2;refine ⟨_,rfl,d,a,b,6,rfl,hd1,by decide,by decide,fun r a' b' hr0 hr6=>?_⟩;obtain ⟨m,rfl⟩:=Int.eq_ofNat_of_zero_le hr0
 refine ⟨_,_,rfl,rfl,_,rfl,by omega,by omega,HX (lo:=0) (n:=(1 + (m:Int)).toNat) (fun i σ H2=>∃ (its:List (Addr × Addr × Aa)) (x3 x4 x5:Option V),σ=[some (.ref d),some (.ref kl),some (.ref tl),x3,x4,x5]/\its.length=i/\i <= 6/\SameX d H H2/\H2 kl=some (.lst (its.map fun x=>V.ref x.1))/\H2 tl=some (.lst (its.map fun x=>V.ref x.2.1))/\∀ x ∈ its,LItem C H2 x)
  ⟨[],none,none,none,rfl,rfl,by decide,⟨fun b o e hb=>by rw [AH hb]; exact sA _ _ e,_,_,AB⟩,by rw [AH hkd]; exact e1,by rw [AH htd]; exact e2,(fun x hx=>by cases hx)⟩ ?_ ?_⟩
 ·rintro i σ H2 hi ⟨its,x3,x4,x5,rfl,hil,hi6,SX,hk2,ht2,hit⟩;obtain ⟨x,y,hd2⟩:=SX.dice;refine ⟨_,rfl,d,x,y,4,rfl,by decide,by decide,hd2,fun q f u fs bs rows Ha sX hq hfn hun hf hP hu1 am r0 r8 RO ap=>?_⟩;refine ⟨q,_,rfl,SqT.of hq,rfl,_,_,rfl,_,_,rfl,rfl,?_⟩;have SXa:=SX.trans sX;have hka:=sX.old _ _ hk2 hkd;have hta:=sX.old _ _ ht2 htd;have hita:∀ x ∈ its,LItem C Ha x:=fun x hx=>(hit x hx).keepL (KeepL.sameX hd2 sX);obtain ⟨x1,y1,hda⟩:=SXa.dice;have r10':rows.length <= 10:=by omega
  have DO:Ei (dues rows):=J0 RO r10';have fk:f ≠ kl:=fun z=>by rw [z,hk2] at hfn; cases hfn
  have uk:u ≠ kl:=fun z=>by rw [z,hk2] at hun; cases hun
  have fd:f ≠ d:=fun z=>by rw [z,hd2] at hfn; cases hfn
  have ud:u ≠ d:=fun z=>by rw [z,hd2] at hun; cases hun
  refine ⟨_,rfl,.inl ⟨rfl,_,SqL.of hka⟩,_,rfl,sl2,fun w1 hw1=>?_⟩;have sw:=AD (Same.refl _) hw1 (o:=HO.lst [V.str "bar", V.str "drop"]);have hdw:=sw _ _ hda;have hww:=AB (H:=Ha) (a:=w1) (o:=HO.lst [V.str "bar", V.str "drop"]);have wd':w1 ≠ d:=Ne.symm (AJ hda hw1);generalize hHb:upd Ha w1 (.lst [V.str "bar", V.str "drop"])=Hb at sw hdw hww ⊢;refine ⟨_,rfl,d,x1,y1,2,rfl,hdw,by decide,by decide,fun rr c1 c2 hrr0 hrr2=>?_⟩;have hww2:(upd Hb d (.lst [.int c1,.int c2])) w1=some (.lst [V.str "bar", V.str "drop"]):=by rw [AH wd']; exact hww
  obtain ⟨rs,hrs,hat⟩:∃ rs ∈ packRules,atI [V.str "bar", V.str "drop"] rr=some (.str rs):=by
   have:rr=0\/rr=1:=by omega
   rcases this with z | z
   ·subst z; exact ⟨"bar", by simp [packRules],rfl⟩
   ·subst z; exact ⟨"drop", by simp [packRules],rfl⟩
  refine ⟨w1,_,rr,.str rs,rfl,rfl,SqL.of hww2,hat,?_⟩;intro kp dx hkp ax aw;have kpl:=KeepL.trans (KeepL.same sw) (KeepL.upd (o:=HO.lst [V.int c1,V.int c2]) hdw);have sN:=DY (D:=C) hkp ax aw;have SXb:SameX d H (upd Hb d (.lst [.int c1,.int c2])):=SXa.trans ((show SameX d Ha Hb from ⟨fun b o e _=>sw _ _ e,_,_,hdw⟩).upd);have hfb:(upd Hb d (.lst [.int c1,.int c2])) f=some (.lst (fs.map V.ref)):=by rw [AH fd]; exact sw _ _ hf
  have al:(upd Hb d (.lst [.int c1,.int c2])) u=some (.lst (bs.map V.ref)):=by rw [AH ud]; exact sw _ _ hu1
  have hkb:(upd Hb d (.lst [.int c1,.int c2])) kl=some (.lst (its.map fun x=>V.ref x.1)):=by rw [AH hkd]; exact sw _ _ hka
  have au:(upd Hb d (.lst [.int c1,.int c2])) tl=some (.lst (its.map fun x=>V.ref x.2.1)):=by rw [AH htd]; exact sw _ _ hta
  have hPb:Paired (RowAt (upd Hb d (.lst [.int c1,.int c2]))) fs rows:=Bm (fun b xs e=>kpl _ _ e (fun _ z=>nomatch z)) hP;have hbsb:TupsAt (upd Hb d (.lst [.int c1,.int c2])) bs (DT (dues rows)):=TupsAt.sameT (fun b xs e=>kpl _ _ e (fun _ z=>nomatch z)) am;have hitb:∀ x ∈ its,LItem C (upd Hb d (.lst [.int c1,.int c2])) x:=fun x hx=>(hita x hx).keepL kpl;generalize upd Hb d (.lst [.int c1,.int c2])=Hc at hkp ax sN SXb hfb al hkb au hPb hbsb hitb ⊢;refine ⟨kp,dx,f,rows,rs,rfl,AB,⟨fs,sN _ _ hfb,Bm (SameT.of sN) hPb⟩,r0,r10',RO,by simp only [packRules,mem_cons,not_mem_nil,or_false] at hrs; rcases hrs with z | z <;> rw [z] <;> simp [ruleNames],fun He sc KA=>⟨rfl,?_⟩⟩;have sE:=B5 sN hkp sc;have hke:=sE _ _ hkb;refine ⟨kl,_,_,rfl,rfl,hke,Ad (by rw [AI]; omega),?_⟩;have kpu:=KeepL.upd (o:=HO.lst ((its.map fun x=>V.ref x.1)++[V.ref kp])) hke;have tk:tl ≠ kl:=Ne.symm hkt;have kd0:H kl=none:=hkl;generalize hHf:upd He kl (.lst ((its.map fun x=>V.ref x.1)++[V.ref kp]))=Hf at kpu ⊢;have hkf:Hf kl=some (.lst ((its.map fun x=>V.ref x.1)++[V.ref kp])):=by rw [← hHf,AB]
  have htf:Hf tl=some (.lst (its.map fun x=>V.ref x.2.1)):=by rw [← hHf,AH tk]; exact sE _ _ au
  have huf:Hf u=some (.lst (bs.map V.ref)):=by rw [← hHf,AH uk]; exact sE _ _ al
  have SXf:SameX d H Hf:=by
   have:=SXb.step sE;refine ⟨fun b o e hb=>?_,?_⟩
   ·rw [← hHf,AH (AJ e kd0)];exact this.old b o e hb
   ·obtain ⟨z1,z2,z3⟩:=this.dice;exact ⟨z1,z2,by rw [← hHf,AH (Ne.symm hkd)]; exact z3⟩
  refine ⟨_,rfl,.inl ⟨rfl,_,SqL.of htf⟩,_,rfl,u,bs,dues rows,rfl,huf,TupsAt.sameT (fun b xs e=>kpu _ _ (sE _ _ e) (fun _ z=>nomatch z)) hbsb,by rw [Bd]; omega,DO.lt,fun t e' m' ms Hg sg ht he hm av=>?_⟩;have htg:=sg _ _ htf;refine ⟨tl,_,_,rfl,rfl,htg,Ad (by rw [AI]; omega),?_⟩;have kpv:=KeepL.upd (o:=HO.lst ((its.map fun x=>V.ref x.2.1)++[V.ref t])) htg;have kAll:=((KeepL.same sE).trans kpu).trans ((KeepL.same sg).trans kpv);refine ⟨its++[(kp,t,dues rows)],_,_,_,rfl,by rw [length_append,hil]; rfl,by omega,⟨fun b o e hb=>?_,?_⟩,?_,?_,fun x hx=>?_⟩
  ·rw [AH (AJ e htl0)];exact sg _ _ (SXf.old b o e hb)
  ·obtain ⟨z1,z2,z3⟩:=SXf.dice;exact ⟨z1,z2,by rw [AH (Ne.symm htd)]; exact sg _ _ z3⟩
  ·rw [AH hkt,sg _ _ hkf,map_append];rfl
  ·rw [AB,map_append];rfl
  ·rcases mem_append.mp hx with z | z
   ·exact (hitb x z).keepL kAll
   ·rw [mem_singleton] at z;subst z;exact ⟨⟨rs,KA.keepL (kpu.trans ((KeepL.same sg).trans kpv)),hrs,DO⟩,⟨e',m',kpv _ _ ht (fun _ z=>nomatch z)⟩,fun y hy=>ap y (J1 rows ▸ hy)⟩
 ·rintro σ H2 ⟨its,x3,x4,x5,rfl,hil,hi6,SX,hk2,ht2,hit⟩;refine ⟨_,rfl,_,rfl,sl2,fun q hq=>?_⟩;have sq:=AD (Same.refl _) hq (o:=HO.tup [V.ref kl,V.ref tl]);exact k q kl tl its _ (SX.step sq) AB (sq _ _ hk2) (sq _ _ ht2) (by omega) (by omega) fun x hx=>(hit x hx).keepL (KeepL.same sq)
end
end Mk
end
section
namespace MK
noncomputable def Aj:List (Nat × Nat)->Nat
  | []=>0
  | (v,w) :: r=>v + 2 ^ w * Aj r
noncomputable def sw (l:List (Nat × Nat)):Nat:=(l.map (·.2)).sum
noncomputable def BN:List Nat->Nat->List Nat
 | [],_=>[]
 | w :: r,n=>n % 2 ^ w :: BN r (n / 2 ^ w)
def Fit (l:List (Nat × Nat)):Prop:=∀ p ∈ l,p.1 < 2 ^ p.2
theorem G8:∀ {l:List (Nat × Nat)},Fit l->Aj l < 2 ^ sw l
  | [],_=>Nat.one_pos
  | (v,w) :: r,h=>by
    have h1:v < 2 ^ w:=h (v,w) (mem_cons_self ..);have ih:=G8 (l:=r) fun p hp=>h p (mem_cons_of_mem _ hp);show v + 2 ^ w * Aj r < 2 ^ (w + sw r);rw [Nat.pow_add];have h2:2 ^ w * (Aj r + 1) <= 2 ^ w * 2 ^ sw r:=Nat.mul_le_mul_left _ ih;rw [Nat.mul_add,Nat.mul_one] at h2;omega
theorem G9 (v w:Nat):∀ (l:List (Nat × Nat)),Aj (l++[(v,w)])=Aj l + 2 ^ sw l * v
  | []=>by
    show v + 2 ^ w * 0=0 + 2 ^ 0 * v;rw [Nat.mul_zero,Nat.pow_zero,Nat.one_mul,Nat.add_zero,Nat.zero_add]
  | (a,b) :: r=>by
    show a + 2 ^ b * Aj (r++[(v,w)])=a + 2 ^ b * Aj r + 2 ^ (b + sw r) * v;rw [G9 v w r,Nat.mul_add,Nat.pow_add,Nat.mul_assoc,Nat.add_assoc]
theorem JH (v w:Nat) (l:List (Nat × Nat)):sw (l++[(v,w)])=sw l + w:=by unfold sw; simp
theorem FJ {l:List (Nat × Nat)} (h:Fit l) (v w:Nat):Aj l ||| v * 2 ^ sw l=Aj (l++[(v,w)]):=by
 rw [G9,Nat.mul_comm v,Nat.or_comm,← Nat.two_pow_add_eq_or_of_lt (G8 h) v,Nat.add_comm]
theorem HA:∀ {l:List (Nat × Nat)},Fit l->BN (l.map (·.2)) (Aj l)=l.map (·.1)
  | [],_=>rfl
  | (v,w) :: r,h=>by
    have h1:v < 2 ^ w:=h (v,w) (mem_cons_self ..);have ih:=HA (l:=r) fun p hp=>h p (mem_cons_of_mem _ hp);show (v + 2 ^ w * Aj r) % 2 ^ w :: BN (r.map (·.2)) ((v + 2 ^ w * Aj r) / 2 ^ w)=v :: r.map (·.1);rw [Nat.add_mul_mod_self_left,Nat.mod_eq_of_lt h1,Nat.add_mul_div_left _ _ (Nat.two_pow_pos w),Nat.div_eq_of_lt h1,Nat.zero_add,ih]
theorem IK:∀ (ws:List Nat) (n:Nat),(BN ws n).length=ws.length
 | [],_=>rfl
 | w :: r,n=>by show (BN r _).length + 1=r.length + 1; rw [IK r]
theorem HB:∀ {ws:List Nat} {n:Nat},n < 2 ^ ws.sum->Aj ((BN ws n).zip ws)=n
 | [],n,h=>by
  have:n=0:=by simpa using h
  rw [this];rfl
 | w :: r,n,h=>by
  rw [sum_cons,Nat.pow_add] at h;have ih:=HB (ws:=r) (n:=n / 2 ^ w) (Nat.div_lt_of_lt_mul h);show n % 2 ^ w + 2 ^ w * Aj ((BN r (n / 2 ^ w)).zip r)=n;rw [ih];exact Nat.mod_add_div n (2 ^ w)
theorem FK:∀ (ws:List Nat) (n i:Nat),(BN ws n)[i]?=ws[i]?.map fun w=>n / 2 ^ (ws.take i).sum % 2 ^ w
 | [],n,i=>by simp [BN]
 | w :: r,n,0=>by simp [BN]
 | w :: r,n,i + 1=>by
  show (BN r (n / 2 ^ w))[i]?=_;rw [FK r,List.getElem?_cons_succ,List.take_succ_cons,sum_cons];congr 1;funext k;rw [Nat.div_div_eq_div_mul,Nat.pow_add]
theorem IL:∀ (ws:List Nat) (n:Nat),Fit ((BN ws n).zip ws)
 | [],_=>fun p hp=>by cases hp
 | w :: r,n=>fun p hp=>by
  rcases mem_cons.mp (show p ∈ (n % 2 ^ w,w) :: (BN r (n / 2 ^ w)).zip r from hp) with e | e
  ·rw [e]; exact Nat.mod_lt _ (Nat.two_pow_pos w)
  ·exact IL r _ p e
theorem Pk (w m a q:Nat) (h:a < 2 ^ w):(2 ^ w * m + a) ||| 2 ^ w * q=2 ^ w * (m ||| q) + a:=by
 apply Nat.eq_of_testBit_eq;intro k;rw [Nat.testBit_or,Nat.testBit_two_pow_mul_add _ h,Nat.testBit_two_pow_mul_add _ h,show 2 ^ w * q=2 ^ w * q + 0 from rfl,Nat.testBit_two_pow_mul_add _ (Nat.two_pow_pos w),Nat.testBit_or];split <;> simp
theorem Nh (w m a q:Nat) (h:a < 2 ^ w):(2 ^ w * m + a) &&& 2 ^ w * q=2 ^ w * (m &&& q):=by
 apply Nat.eq_of_testBit_eq;intro k;rw [Nat.testBit_and,Nat.testBit_two_pow_mul_add _ h,show 2 ^ w * q=2 ^ w * q + 0 from rfl,Nat.testBit_two_pow_mul_add _ (Nat.two_pow_pos w),show 2 ^ w * (m &&& q)=2 ^ w * (m &&& q) + 0 from rfl,Nat.testBit_two_pow_mul_add _ (Nat.two_pow_pos w),Nat.testBit_and];split <;> simp
theorem Pl:∀ {ws:List Nat} {n i w v:Nat},n < 2 ^ ws.sum->ws[i]?=some w->v < 2 ^ w ->
  (n - (n &&& (2 ^ w - 1) * 2 ^ (ws.take i).sum)) ||| v * 2 ^ (ws.take i).sum=Aj (((BN ws n).set i v).zip ws)
 | [],n,i,w,v,_,h,_=>by cases h
 | b :: r,n,0,w,v,h,hw,hv=>by
  have e:b=w:=by simpa using hw
  subst e;rw [sum_cons,Nat.pow_add] at h;show (n - (n &&& (2 ^ b - 1) * 2 ^ 0)) ||| v * 2 ^ 0=v + 2 ^ b * Aj ((BN r (n / 2 ^ b)).zip r)
  rw [HB (Nat.div_lt_of_lt_mul h),Nat.pow_zero,Nat.mul_one,Nat.mul_one,Nat.and_two_pow_sub_one_eq_mod];have h1:=Nat.mod_add_div n (2 ^ b);have h2:n - n % 2 ^ b=2 ^ b * (n / 2 ^ b):=by omega
  rw [h2,← Nat.two_pow_add_eq_or_of_lt hv,Nat.add_comm]
 | b :: r,n,i + 1,w,v,h,hw,hv=>by
  rw [sum_cons,Nat.pow_add] at h;have ih:=Pl (ws:=r) (n:=n / 2 ^ b) (i:=i) (w:=w) (v:=v) (Nat.div_lt_of_lt_mul h) (by simpa using hw) hv;show _=n % 2 ^ b + 2 ^ b * Aj (((BN r (n / 2 ^ b)).set i v).zip r);rw [← ih,List.take_succ_cons,sum_cons,Nat.pow_add];have ha:n % 2 ^ b < 2 ^ b:=Nat.mod_lt _ (Nat.two_pow_pos b);have hn:n=2 ^ b * (n / 2 ^ b) + n % 2 ^ b:=(Nat.div_add_mod n (2 ^ b)).symm;generalize n / 2 ^ b=m at *;generalize n % 2 ^ b=a at *;subst hn;rw [show (2 ^ w - 1) * (2 ^ b * 2 ^ (r.take i).sum)=2 ^ b * ((2 ^ w - 1) * 2 ^ (r.take i).sum) from Nat.mul_left_comm _ _ _,Nh _ _ _ _ ha,show v * (2 ^ b * 2 ^ (r.take i).sum)=2 ^ b * (v * 2 ^ (r.take i).sum) from Nat.mul_left_comm _ _ _]
  have h3:2 ^ b * m + a - 2 ^ b * (m &&& (2 ^ w - 1) * 2 ^ (r.take i).sum)=2 ^ b * (m - (m &&& (2 ^ w - 1) * 2 ^ (r.take i).sum)) + a:=by
   have hle:(m &&& (2 ^ w - 1) * 2 ^ (r.take i).sum) <= m:=Nat.and_le_left;rw [Nat.mul_sub];have:=Nat.mul_le_mul_left (2 ^ b) hle;omega
  rw [h3,Pk _ _ _ _ ha,Nat.add_comm]
end MK
end
section
namespace Mk
open PySem L2 MK
noncomputable def Pm (n:Nat):Nat:=if Builtin.Int.intBits (n:Int) > 1 then Builtin.Int.intBits (n:Int) else 1
theorem MJ (n:Nat):n < 2 ^ Pm n:=by
 unfold Pm;rcases Nat.eq_zero_or_pos n with z | z
 ·subst z;exact Nat.two_pow_pos _
 ·have h:=Nat.lt_log2_self (n:=n);rw [Br z];split
  ·exact h
  ·have:n.log2=0:=by omega
   rw [this] at h;exact h
section
variable {PC cU cL cN cR cM:Addr}
def HC:Sp:=fun vs H Q _=>∃ n:Nat,vs=[.int (n:Int)]/\n < 2 ^ 42/\∀ H',Same H H'->Q (.int ((Pm n:Nat):Int)) H'
theorem Ni (F:Fun K "_law_width" "_law_width" E9 f fd) (B:Bl mg):Ae P w K mg base CX0 1 f fd ["_law_known"] HC:=by
 refine F.m Q9 fun vs H Q E h=>?_;obtain ⟨n,rfl,hn,k⟩:=h;refine ⟨rfl,fun ad A outer s hr=>?_⟩
 refine ⟨_,AF (AR (Ie rfl rfl B.max (BU ["_law_known"] [some 0] (by kernel_rfl) (by decide +kernel) (by kernel_rfl) rfl (B0 rfl B.range (AA AG AC))
  (fun _ _ _ _ _ _=>Fc (AW CB (AL B7 (AL KQ (pv 1) (pv 0)) AG) AG (AZ _)))
  (fun _ _ _ _ _ _=>AL Bi (pv 0) AG)) AG)),?_⟩
 refine ⟨42,rfl,by decide,by decide,?_⟩;refine Cn (lo:=0) (n:=42) (fun i ys H2=>∃ ms:List Int,ys=ms.map V.int/\ms.length <= i/\i <= 42/\H2=H/\(∀ x ∈ ms,∃ j:Nat,x=(j:Int) + 1/\n.testBit j=true)/\∀ k:Nat,k < i->n.testBit k=true->((k:Int) + 1) ∈ ms) ⟨[],rfl,Nat.le_refl _,by decide,rfl,(fun x hx=>by cases hx),(fun k hk=>by omega)⟩ ?_ ?_ ?_
 ·rintro i ys H2 ⟨ms,rfl,e,hi,_⟩;rw [AI];omega
 ·rintro i ys H2 hi ⟨ms,rfl,e,_,rfl,hb,hk⟩;refine ⟨_,rfl,_,rfl,_,_,rfl,rfl,(by omega),_,_,rfl,rfl,?_⟩;refine ⟨rfl,_,rfl,?_⟩;have hbit:(decide _)=n.testBit i:=Em n i;refine Bj (fun h=>?_) (fun h=>?_)
  ·have hbi:n.testBit i=true:=by rw [← Em]; exact h
   refine ⟨_,rfl,_,_,rfl,rfl,ms++[0 + (i:Int) + 1],by rw [map_append]; rfl,by rw [length_append,length_singleton]; omega,by omega,rfl,fun x hx=>?_,fun k hk' ht=>?_⟩
   ·rcases mem_append.mp hx with z | z
    ·exact hb x z
    ·rw [mem_singleton] at z;exact ⟨i,by omega,hbi⟩
   ·rw [mem_append,mem_singleton];by_cases e2:k=i
    ·right; omega
    ·exact .inl (hk k (by omega) ht)
  ·have hbi:n.testBit i=false:=by rw [← Em]; exact Bool.eq_false_iff.mpr h
   refine ⟨ms,rfl,by omega,by omega,rfl,hb,fun k hk' ht=>?_⟩;by_cases e2:k=i
   ·subst e2;rw [hbi] at ht;cases ht
   ·exact hk k (by omega) ht
 ·rintro ys H2 ⟨ms,rfl,e,_,rfl,hb,hk⟩ l hl
  have hin:0 < n->((n.log2:Int) + 1) ∈ ms:=fun h0=>by
   have hlg:n.log2 < 42:=(Nat.log2_lt (by omega)).mpr hn;refine hk _ hlg ?_;exact Nat.testBit_log2 (by omega)
  refine ⟨l,ms,1,rfl,rfl,SqL.of AB,fun em=>?_,fun em=>?_⟩
  ·have h0:n=0:=by
    rcases Nat.eq_zero_or_pos n with z | z
    ·exact z
    ·have:=hin z;rw [em] at this;cases this
   subst h0;exact k _ (AD (Same.refl _) hl)
  ·have b8:0 < n:=by
    rcases Nat.eq_zero_or_pos n with z | z
    ·cases ms with
     | nil=>exact absurd rfl em
     | cons a r =>
      obtain ⟨j,_,hj⟩:=hb a (mem_cons_self ..);rw [z,Nat.zero_testBit] at hj;cases hj
    ·exact z
   have h1:=Q7 _ (hin b8)
   have h2:=Q8 (ms:=ms) (m:=(n.log2:Int) + 1) (by omega) fun x hx=>by
    obtain ⟨j,rfl,hj⟩:=hb x hx
    have:j <= n.log2:=by
     have h3:=Nat.ge_two_pow_of_testBit hj;exact (Nat.le_log2 (by omega)).mpr h3
    omega
   have em2:GS 0 ms=((Pm n:Nat):Int):=by
    unfold Pm;rw [Br b8];split <;> omega
   rw [em2];exact k _ (AD (Same.refl _) hl)
end
structure VsOk (VC:Addr) (H:Hp) (ks:List Addr) (dues:List (Aa)) (qs:List Addr) (ns:List Nat):Prop where
 lq:qs.length=ks.length
 ln:ns.length=ks.length
 at_:∀ (i:Nat) q k n due,qs[i]?=some q->ks[i]?=some k->ns[i]?=some n->dues[i]?=some due->ValAt VC H q k n/\n < 2 ^ AX due
theorem VsOk.same {ks:List Addr} {dues:List (Aa)} {qs:List Addr} {ns:List Nat} (s:Same H H') (h:VsOk VC H ks dues qs ns):VsOk VC H' ks dues qs ns :=
 ⟨h.lq,h.ln,fun i q k n due a b c d=>⟨(h.at_ i q k n due a b c d).1.same s,(h.at_ i q k n due a b c d).2⟩⟩
noncomputable def AT (dues:List (Aa)) (ns:List Nat):List (Nat × Nat):=ns.zip (dues.map AX)
theorem PkOk.len {PC:Addr} {p l:Addr} {ks:List Addr} {dues:List (Aa)} (h:PkOk C PC H p l ks dues):ks.length=dues.length:=h.hk.length
theorem VsOk.fit {ks:List Addr} {dues:List (Aa)} {qs:List Addr} {ns:List Nat} (hl:ks.length=dues.length) (h:VsOk VC H ks dues qs ns):Fit (AT dues ns):=fun p hp=>by
 obtain ⟨i,hi⟩:=getElem?_of_mem hp;unfold AT at hi;rw [getElem?_zip_eq_some,getElem?_map] at hi;obtain ⟨h1,h2⟩:=hi;obtain ⟨due,hd,e⟩:=Option.map_eq_some_iff.mp h2;have lt:i < ns.length:=(List.getElem?_eq_some_iff.mp h1).1;have:=h.ln;have:=h.lq;have:=(h.at_ i _ _ _ due (List.getElem?_eq_getElem (by omega)) (List.getElem?_eq_getElem (by omega)) h1 hd).2;rw [e] at this;exact this
theorem HD {l:List (Nat × Nat)} (h:Fit l) (i:Nat):Fit (l.take i):=fun p hp=>h p (List.mem_of_mem_take hp)
theorem EL (l:List (Nat × Nat)) (i:Nat):sw (l.take i) <= sw l:=by
 unfold sw;have:l=l.take i++l.drop i:=(take_append_drop i l).symm
 conv=>rhs; rw [this]
 rw [map_append,sum_append];exact Nat.le_add_right _ _
theorem Fk {dues:List (Aa)} {ns:List Nat} (h:ns.length=dues.length):sw (AT dues ns)=Ba dues:=by
 unfold sw AT Ba;rw [List.map_snd_zip (by rw [AI]; omega)]
section
variable {PC cU cL cN cR cM:Addr}
def HE (C VC PC:Addr):Sp:=fun vs H Q _=>∃ (p l l2:Addr) (ks:List Addr) (dues:List (Aa)) (qs:List Addr) (ns:List Nat),vs=[.ref p,.ref l2]/\PkOk C PC H p l ks dues/\H l2=some (.lst (qs.map V.ref))/\VsOk VC H ks dues qs ns /\
 ∀ H',Same H H'->Q (.int ((Aj (AT dues ns):Nat):Int)) H'
theorem Nj (F:Fun K "packed" "Pack.packed" DK f fd) (B:Bl mg) (hZ:mg "zip" = none) (PT:JE K PC) (VT:JB K VC) (GV:Fn P w K mg base "is_value_of" 3 ["thing", "kind"] (Q4 K C VC)) (GW:Mt P w K mg base PC "widths" 3 ["self"] (B9 C PC)) (GN:Mt P w K mg base VC "number" 1 ["self"] (Ce VC)) :
  Ae P w K mg base CX0 4 f fd ["self", "values"] (HE C VC PC):=by
 obtain ⟨fV,dV,GV,mV,kV,bV⟩:=GV.ex;obtain ⟨fW,dW,GW,mW,bW⟩:=GW.ex;obtain ⟨fN,dN,GN,mN,bN⟩:=GN.ex;refine F.m scPacked fun vs H Q E h=>?_;obtain ⟨p,l,l2,ks,dues,qs,ns,rfl,PK,hl2,VS,k⟩:=h;refine ⟨rfl,fun ad A outer s hr=>?_⟩;have hr1:Room 1 _:=hr.mono (by decide);obtain ⟨dx,hp⟩:=PK.at_;have hle:=PK.le;have hkd:=PK.len;have hlq:=VS.lq;have hln:=VS.ln;have hsz:=PK.size
 refine ⟨_,AE (Av (PW.pt (CY (A3 (A9 (BO K rfl rfl B.isi rfl B.list Cu (pv 1)))) (Bs (AW EO (AV (A4 K rfl) rfl B.len PySem.boot_len (AA (pv 1) AC)) (AV (A4 K rfl) rfl B.len PySem.boot_len (AA (BG (pv 0) rfl) AC)) (AZ _))))) (AF Am) AY)
  (AE (Av (A3 (A9 (AV (EV rfl) rfl B.all Ip (AA (GH [] [] (by kernel_rfl) (by decide +kernel) (by kernel_rfl) (by kernel_rfl) rfl (E2 rfl hZ (AA (pv 1) (AA (BG (pv 0) rfl) AC))) (fun _ _ _ _ _ _=>A8) (fun _ _ _ _ _ _=>AO GV hr rfl mV kV bV .nil AQ (AA (pv 0) (AA (pv 1) AC)))) AC)))) (AF Am) AY)
  (AE (Ag (i:=2) scPacked.nd rfl (Or.inl rfl) AG)
  (AE (Ag (i:=3) scPacked.nd rfl (Or.inl rfl) AG)
  (AE (Bh PassesOwn.never rfl (E2 rfl hZ (AA (pv 1) (AA (As (pv 0) PT.cl mW GW hr bW .nil AQ) AC))) (BA rfl (AM (AN (i:=4) scPacked.nd rfl (Or.inl rfl)) (AM (AN (i:=5) scPacked.nd rfl (Or.inl rfl)) Aw)))
   (AE (IN (i:=2) scPacked.nd rfl (Or.inl rfl) (AL Bc (As (pv 4) VT.cl mN GN hr1 bN .nil AQ) (pv 3)) (N1:OpR _ _ _))
   (AF (IN (i:=3) scPacked.nd rfl (Or.inl rfl) (pv 5) (Px:OpR _ _ _)))))
  (AF (AR (pv 2))))))),?_⟩
 refine ⟨_,rfl,_,_,_,true,rfl,.lst hl2,rfl,_,rfl,An ?_⟩;refine ⟨_,rfl,l2,_,rfl,.inl (SqL.of hl2),_,rfl,p,PC,dx,_,_,rfl,hp,PT.cl,PT.nK,FI l,l,_,rfl,.inl (SqL.of PK.hl),rfl,_,rfl,?_⟩;have hkl:(ks.map V.ref).length=ks.length:=AI _;have hql:(qs.map V.ref).length=qs.length:=AI _;rw [decide_eq_true (show V.int (((qs.map V.ref).length:Nat):Int)=V.int (((ks.map V.ref).length:Nat):Int) by rw [hkl,hql,hlq])];refine An ?_;refine ⟨_,rfl,_,rfl,p,PC,dx,_,_,rfl,hp,PT.cl,PT.nK,FI l,l2,l,rfl,⟨_,SqL.of hl2⟩,⟨_,SqL.of PK.hl⟩,J9 (K:=K) (a:=l2) (b:=l) (xs:=qs.map V.ref) (zs:=ks.map V.ref) (fun i ys H2=>Same H H2/\ys=List.replicate (min i ks.length) (V.bl true)) (by rw [hkl,hql,hlq]) ⟨Same.refl _,by rw [Nat.zero_min]; rfl⟩ (fun i ys H2 _ ⟨s2,_⟩=>⟨SqL.of (s2 _ _ hl2),SqL.of (s2 _ _ PK.hl)⟩) (fun i ys H2 ⟨_,e⟩=>by rw [e,List.length_replicate]; omega) ?_ ?_⟩
 ·rintro i z zk ys H2 q hi hk ⟨s2,rfl⟩ hq;rw [getElem?_map] at hk hi;obtain ⟨kb,hkb,rfl⟩:=Option.map_eq_some_iff.mp hk;obtain ⟨qb,hqb,rfl⟩:=Option.map_eq_some_iff.mp hi;have hlt:i < ks.length:=(List.getElem?_eq_some_iff.mp hkb).1;obtain ⟨due,bd,r,KA,asc,_⟩:=A5 PK.hk hkb;obtain ⟨hV,_⟩:=VS.at_ i qb kb _ due hqb hkb (List.getElem?_eq_getElem (by omega)) bd;have s3:=AD s2 hq (o:=HO.tup [.ref qb,.ref kb]);refine ⟨q,_,rfl,SqT.of AB,rfl,_,_,rfl,_,_,rfl,rfl,?_⟩;refine ⟨_,rfl,_,rfl,.ref qb,kb,true,rfl,.inr ⟨qb,kb,_,due,r,due,r,rfl,hV.same s3,KA.same s3,asc,KA.same s3,asc,(decide_eq_true ⟨rfl,rfl⟩).symm⟩,fun H4 s4=>⟨s3.trans s4,?_⟩⟩;rw [Nat.min_eq_left (by omega),Nat.min_eq_left (by omega),List.replicate_succ']
 ·rintro ys H2 ⟨s2,rfl⟩ q hq;refine ⟨q,List.replicate ks.length true,rfl,SqL.of (by rw [AB,hql,hlq,Nat.min_self,List.map_replicate]),_,rfl,?_⟩;rw [show (List.replicate ks.length true).all id=true by simp];refine An ?_;have s3:=AD s2 hq (o:=HO.lst (List.replicate (min (qs.map V.ref).length ks.length) (V.bl true)));generalize upd H2 q (HO.lst (List.replicate (min (qs.map V.ref).length ks.length) (V.bl true)))=H3 at s3 ⊢;refine ⟨_,rfl,_,rfl,p,dx,_,rfl,s3 _ _ hp,DZ l,p,l,ks,dues,rfl,PK.same s3,fun l3 H4 s4 hl3=>?_⟩;have s5:=s3.trans s4;have VS4:=VS.same s5
  refine ⟨l2,l3,rfl,⟨_,SqL.of (s5 _ _ hl2)⟩,⟨_,SqL.of hl3⟩,Fg (K:=K) (a:=l2) (b:=l3) (xs:=qs.map V.ref) (zs:=AU (dues.map AX)) (fun i σ H5=>(∃ v4 v5:Option V,σ=[some (.ref p),some (.ref l2),some (.int ((Aj ((AT dues ns).take i):Nat):Int)),some (.int ((sw ((AT dues ns).take i):Nat):Int)),v4,v5])/\Same H4 H5)
   (by unfold AU; rw [hql,AI,AI]; omega) ⟨⟨none,none,rfl⟩,Same.refl _⟩ (fun i σ H5 _ ⟨_,s6⟩=>⟨SqL.of (s6 _ _ (s5 _ _ hl2)),SqL.of (s6 _ _ hl3)⟩) ?_ ?_⟩
  ·rintro i z zk σ H5 pp hi hk ⟨⟨v4,v5,rfl⟩,s6⟩ hpp;unfold AU at hk;rw [getElem?_map] at hk hi;obtain ⟨wd,ap,rfl⟩:=Option.map_eq_some_iff.mp hk;obtain ⟨qb,hqb,rfl⟩:=Option.map_eq_some_iff.mp hi;have hlt:i < qs.length:=(List.getElem?_eq_some_iff.mp hqb).1;have hwd':=ap;rw [getElem?_map] at hwd';obtain ⟨due,bd,ewd⟩:=Option.map_eq_some_iff.mp hwd';have hni:ns[i]?=some (ns[i]'(by omega)):=List.getElem?_eq_getElem (by omega);obtain ⟨hV,bv⟩:=VS4.at_ i qb _ _ due hqb (List.getElem?_eq_getElem (by omega)) hni bd;generalize ns[i]'(by omega)=n at hni hV bv;have s7:=AD s6 hpp (o:=HO.tup [V.ref qb,V.int (wd:Int)]);obtain ⟨dv,hv⟩:=hV.same s7
   have ht:(AT dues ns).take (i + 1)=(AT dues ns).take i++[(n,wd)]:=by
    rw [take_add_one]
    have:(AT dues ns)[i]?=some (n,wd):=by
     unfold AT;rw [getElem?_zip_eq_some];exact ⟨hni,ap⟩
    rw [this];rfl
   have hsw:=EL (AT dues ns) i;rw [Fk (by omega)] at hsw
   have hw20:AX due <= 20:=by
    obtain ⟨d',e,r,_,_,h20⟩:=A5 PK.hk (List.getElem?_eq_getElem (show i < ks.length by omega));rw [bd] at e;cases e;exact Dk h20
   have hn64:n < 2 ^ 64:=Nat.lt_of_lt_of_le bv (Nat.pow_le_pow_right (by decide) (by omega));refine ⟨pp,_,rfl,SqT.of AB,rfl,_,_,rfl,_,_,rfl,rfl,?_⟩;refine ⟨_,rfl,_,rfl,qb,dv,_,rfl,hv,Lz _ _ (by decide +kernel) (by decide +kernel),qb,_,n,rfl,hV.same s7,_,rfl,_,_,rfl,rfl,⟨Int.natCast_nonneg _,by omega,by rw [Int.natAbs_natCast]; exact hn64⟩,_,_,rfl,rfl,?_⟩;refine ⟨_,rfl,_,rfl,_,_,rfl,rfl,⟨some (.ref qb),some (.int (wd:Int)),?_⟩,s7⟩;have e1:(n:Int) * 2 ^ ((sw ((AT dues ns).take i):Nat):Int).toNat=((n * 2 ^ sw ((AT dues ns).take i):Nat):Int):=by rw [Int.toNat_natCast]; push_cast; rfl
   have e2:Builtin.bitOr ((Aj ((AT dues ns).take i):Nat):Int) ((n:Int) * 2 ^ ((sw ((AT dues ns).take i):Nat):Int).toNat)=((Aj ((AT dues ns).take (i + 1)):Nat):Int):=by rw [e1,B8,FJ (HD (VS.fit hkd) i) n wd,← ht]
   have e3:((sw ((AT dues ns).take i):Nat):Int) + (wd:Int)=((sw ((AT dues ns).take (i + 1)):Nat):Int):=by rw [ht,JH]; push_cast; rfl
   rw [← e2,← e3];rfl
  ·rintro σ H5 ⟨⟨v4,v5,rfl⟩,s6⟩;refine ⟨_,rfl,?_⟩;have e:(AT dues ns).take (qs.map V.ref).length=AT dues ns:=take_of_length_le (by unfold AT; rw [length_zip,hql]; omega);rw [e];exact k _ (s5.trans s6)
end
structure RsOk (C:Addr) (H:Hp) (ks:List Addr) (dues:List (Aa)) (rs:List Str):Prop where
 lr:rs.length=ks.length
 at_:∀ (i:Nat) k due r,ks[i]?=some k->dues[i]?=some due->rs[i]?=some r->KindAt C H k due r/\r ∈ packRules
theorem RsOk.same {ks:List Addr} {dues:List (Aa)} {rs:List Str} (s:Same H H') (h:RsOk C H ks dues rs):RsOk C H' ks dues rs :=
 ⟨h.lr,fun i k due r a b c=>⟨(h.at_ i k due r a b c).1.same s,(h.at_ i k due r a b c).2⟩⟩
noncomputable def prt (dues:List (Aa)) (n:Nat):List Nat:=BN (dues.map AX) n
noncomputable def EM (due:Aa) (a:Nat):Nat:=a - (a &&& kn due)
def Fl (dues:List (Aa)) (rs:List Str) (n i:Nat) (due:Aa) (a:Nat):Prop:=dues[i]?=some due/\rs[i]?=some "bar" /\ (prt dues n)[i]?=some a/\EM due a ≠ 0
def CV (dues:List (Aa)) (rs:List Str) (n i:Nat):Prop:=∀ due a,¬ Fl dues rs n i due a
noncomputable def mds (dues:List (Aa)) (n:Nat):List Nat:=List.zipWith (fun a due=>a &&& kn due) (prt dues n) dues
theorem Bf (dues:List (Aa)) (n:Nat):(prt dues n).length=dues.length:=by unfold prt; rw [IK,AI]
theorem JI {dues:List (Aa)} {n i a:Nat} (h1:dues[i]?=some due) (h2:(prt dues n)[i]?=some a):(mds dues n)[i]?=some (a &&& kn due):=by
 unfold mds;rw [List.getElem?_zipWith,h1,h2]
theorem Fo (dues:List (Aa)) (n:Nat):(mds dues n).length=dues.length:=by unfold mds; rw [List.length_zipWith,Bf]; omega
section
variable {PC cU cL cN cR cM:Addr}
def JJ (C PC:Addr):Sp:=fun vs H Q _=>∃ (p l:Addr) (ks:List Addr) (dues:List (Aa)) (n:Nat),vs=[.ref p,.int (n:Int)]/\PkOk C PC H p l ks dues/\n < 2 ^ Ba dues/\∀ H',Same H H'->Q (.bl true) H'
theorem RB (F:Fun K "is_packed_number" "Pack.is_packed_number" BR f fd) (B:Bl mg) (PT:JE K PC) (GW:Fn P w K mg base "is_whole" 1 ["thing"] (Es K)) (GWd:Mt P w K mg base PC "widths" 3 ["self"] (B9 C PC)) :
  Ae P w K mg base CX0 4 f fd ["self", "thing"] (JJ C PC):=by
 obtain ⟨fW,dW,GW,mW,kW,bW⟩:=GW.ex;obtain ⟨fD,dD,GD,mD,bD⟩:=GWd.ex;refine F.m Ti fun vs H Q E h=>?_;obtain ⟨p,l,ks,dues,n,rfl,PK,hn,k⟩:=h;refine ⟨rfl,fun ad A outer s hr=>?_⟩;have hr1:Room 1 _:=hr.mono (by decide);obtain ⟨dx,hp⟩:=PK.at_;have hsz:=PK.size;refine ⟨_,AF (AR (Bg (AO GW hr1 rfl mW kW bW .nil AQ (AA (pv 1) AC)) (B6 (Fy CZ HZ AG (pv 1) (AL Bc AG (AV (EW rfl) rfl B.sum Gp (AA (As (pv 0) PT.cl mD GD hr bD .nil AQ) AC))))))),?_⟩;refine ⟨_,rfl,.inl ⟨_,rfl,_,rfl,BC ?_⟩⟩;refine ⟨_,rfl,_,_,rfl,rfl,_,rfl,?_⟩;rw [decide_eq_true (Int.natCast_nonneg n)];refine BC ?_;refine ⟨_,rfl,p,dx,_,rfl,hp,DZ l,p,l,ks,dues,rfl,PK,fun l2 H1 s1 h1=>?_⟩;have e1:AU (dues.map AX)=((dues.map AX).map fun n:Nat=>(n:Int)).map V.int:=Cw _;have e2:((dues.map AX).map fun n:Nat=>(n:Int)).sum=((Ba dues:Nat):Int):=JF _;refine ⟨l2,(dues.map AX).map fun n:Nat=>(n:Int),rfl,SqL.of (by rw [← e1]; exact h1),(fun n hn=>by obtain ⟨m,_,rfl⟩:=mem_map.mp hn; exact Int.natCast_nonneg _),by rw [e2]; omega,_,_,rfl,rfl,⟨by rw [e2]; omega,by rw [e2]; omega,by decide⟩,_,_,rfl,rfl,?_⟩;have:=k _ s1;rw [e2,Int.toNat_natCast,Int.one_mul];show Q (.bl (decide ((n:Int) < 2 ^ Ba dues))) H1;rw [decide_eq_true (show (n:Int) < 2 ^ Ba dues by exact_mod_cast hn)];exact this
theorem FL (a:Nat):plain (a:Int)=a:=by unfold plain; rw [if_pos (Int.natCast_nonneg a)]; rfl
theorem FS (due:Aa) (a:Nat):AS due (a:Int)=EM due a:=by unfold AS EM; rw [FL]
theorem Nk {E:XK} {n:Int} (s:Same H H') (h:UqR H E cR n):UqR H' E cR n:=fun e d H2 s2 he hd aw h1 h2=>h e d H2 (s.trans s2) (none_of s he) (none_of s hd) aw h1 h2
theorem KC (m wd:Nat):Builtin.bitAnd (m:Int) (1 * 2 ^ ((wd:Nat):Int).toNat - 1)=((m % 2 ^ wd:Nat):Int):=by
 have h:(((2 ^ wd - 1:Nat)):Int)=((2 ^ wd:Nat):Int) - 1:=by have:=Nat.two_pow_pos wd; omega
 have e:(1:Int) * 2 ^ ((wd:Nat):Int).toNat - 1=((2 ^ wd - 1:Nat):Int):=by
  rw [Int.toNat_natCast,Int.one_mul,h]
  push_cast
  rfl
 rw [e,By,Nat.and_two_pow_sub_one_eq_mod]
theorem ML (m wd:Nat):(m:Int) / 2 ^ ((wd:Nat):Int).toNat=((m / 2 ^ wd:Nat):Int):=by rw [Int.toNat_natCast]; push_cast; rfl
def MM (C VC PC cR:Addr):Sp:=fun vs H Q E=>∃ (p l:Addr) (ks:List Addr) (dues:List (Aa)) (rs:List Str) (n:Nat),vs=[.ref p,.int (n:Int)]/\PkOk C PC H p l ks dues/\0 < ks.length/\RsOk C H ks dues rs/\n < 2 ^ Ba dues /\
 (∀ j due a,(∀ i,i < j->CV dues rs n i)->Fl dues rs n j due a->UqR H E cR (EM due a:Nat)) /\
 ((∀ i,CV dues rs n i)->∀ lv qs H',Same H H'->H lv=none->H' lv=some (.lst (qs.map V.ref))->VsOk VC H' ks dues qs (mds dues n)->Q (.ref lv) H')
theorem Si (F:Fun K "unpacked" "Pack.unpacked" Bp f fd) (B:Bl mg) (hZ:mg "zip" = none) (PT:JE K PC) (GI:Mt P w K mg base PC "is_packed_number" 4 ["self", "thing"] (JJ C PC)) (GW:Mt P w K mg base PC "widths" 3 ["self"] (B9 C PC))
  {fM:Addr} {dM:FuncData} (GM:Ae P w K mg base (CXr P w) 6 fM dM ["kind", "number"] (Pe C VC cR)) (mM:mg "made" = some (.ref fM)) (kM:W.keepIn K (.ref fM)=true) (bM:Binds K dM ["kind", "number"] []):Ae P w K mg base (CXr P w) 7 f fd ["self", "number"] (MM C VC PC cR):=by
 obtain ⟨fI,dI,GI,mI,bI⟩:=GI.ex;obtain ⟨fW,dW,GW,mW,bW⟩:=GW.ex;refine F.n scUnp fun vs H Q E h=>?_;obtain ⟨p,l,ks,dues,rs,n,rfl,PK,h0,RK,hn,hW,hG⟩:=h;refine ⟨rfl,fun ad A outer s hr=>?_⟩;have hr3:Room 3 _:=hr.mono (by decide);have hr4:Room 4 _:=hr.mono (by decide);obtain ⟨dx,hp⟩:=PK.at_;have hle:=PK.le;have hkd:=PK.len;have hlr:=RK.lr;have ps:=TV (P:=P) (w:=w) (K:=K) (mg:=mg) (base:=base) (N:=["self", "number", "values", "left", "kind", "width"]) (qual := "Pack.unpacked") (scope:=defScope Bp) (f:=f) (cd:=ad) (A:=A) (outer:=outer) (s:=s) (H:=H) (E:=E)
 refine ⟨_,AE (Av (A3 (A9 (Db (pv 0) PT.cl mI GI hr4 bI .nil AQ (AA (pv 1) AC)))) (AF Am) AY)
  (AE (Ag (i:=2) scUnp.nd rfl (Or.inl rfl) (BB AC))
  (AE (Ag (i:=3) scUnp.nd rfl (Or.inl rfl) (pv 1))
  (AE (Bh PassesOwn.leaving rfl (E2 rfl hZ (AA (BG (pv 0) rfl) (AA (As (pv 0) PT.cl mW GW hr3 bW .nil AQ) AC))) (BA rfl (AM (AN (i:=4) scUnp.nd rfl (Or.inl rfl)) (AM (AN (i:=5) scUnp.nd rfl (Or.inl rfl)) Aw)))
   (AE (Bx (FN PySem.F.plainAttrs_list PySem.F.slot_list_append PySem.F.type_list_append B2 (pv 2) (AA (AO GM hr rfl mM kM bM .nil ps (AA (pv 4) (AA (AL B7 (pv 3) (AL Cj (AL Bc AG (pv 5)) AG)) AC))) AC)))
   (AF (IN (i:=3) scUnp.nd rfl (Or.inl rfl) (pv 5) (Py:OpR _ _ _)))))
  (AF (AR (pv 2)))))),?_⟩
 refine ⟨_,rfl,p,dx,_,rfl,hp,DZ l,_,rfl,p,l,ks,dues,n,rfl,PK,hn,fun H1 s1=>⟨_,rfl,An ?_⟩⟩;refine ⟨(by show 0 <= sizeLine; decide),fun lv hlv=>?_⟩;have hlvH:H lv=none:=none_of s1 hlv;have s2:=AD s1 hlv (o:=HO.lst []);have hlv2:=AB (H:=H1) (a:=lv) (o:=HO.lst []);generalize upd H1 lv (HO.lst [])=H2 at s2 hlv2 ⊢;refine ⟨_,rfl,?_⟩;refine ⟨_,rfl,p,PC,dx,_,_,rfl,s2 _ _ hp,PT.cl,PT.nK,FI l,_,rfl,p,dx,_,rfl,s2 _ _ hp,DZ l,p,l,ks,dues,rfl,PK.same s2,fun l3 H3 s3 hl3=>?_⟩;have sH3:=s2.trans s3;have hlv3:=s3 _ _ hlv2;have hl3H3:H3 l=some (.lst (ks.map V.ref)):=sH3 _ _ PK.hl;have nl:l ≠ lv:=AJ PK.hl hlvH
 have nl3:l3 ≠ lv\/dues=[]:=by
  by_cases z:l3=lv
  ·refine .inr ?_;rw [z,hlv3] at hl3;cases dues with
   | nil=>rfl
   | cons a r=>cases hl3
  ·exact .inl z
 have nl3':l3 ≠ lv:=by
  rcases nl3 with z | z
  ·exact z
  ·rw [z] at hkd;exact absurd h0 (by rw [hkd]; decide)
 have hkl:(ks.map V.ref).length=ks.length:=AI _
 refine ⟨l,l3,rfl,⟨_,SqL.of hl3H3⟩,⟨_,SqL.of hl3⟩,Fg (K:=K) (a:=l) (b:=l3) (xs:=ks.map V.ref) (zs:=AU (dues.map AX)) (fun i σ H5=>(∃ v4 v5:Option V,σ=[some (.ref p),some (.int (n:Int)),some (.ref lv),some (.int ((n / 2 ^ ((dues.map AX).take i).sum:Nat):Int)),v4,v5])/\(∀ b o,H3 b=some o->b ≠ lv->H5 b=some o)/\(∀ j,j < i->CV dues rs n j) /\
   ∃ qs:List Addr,H5 lv=some (.lst (qs.map V.ref))/\qs.length=i/\∀ (j:Nat) q kk m,qs[j]?=some q->ks[j]?=some kk->(mds dues n)[j]?=some m->ValAt VC H5 q kk m)
  (by unfold AU; rw [hkl,AI,AI]; omega) ⟨⟨none,none,by rw [take_zero]; show _=[_,_,_,some (V.int ((n / 2 ^ 0:Nat):Int)),_,_]; rw [Nat.pow_zero,Nat.div_one]; rfl⟩,fun _ _ e _=>e,(fun j hj=>by omega),[],hlv3,rfl,(fun j q kk m h=>by cases h)⟩ (fun i σ H5 _ ⟨_,s6,_⟩=>⟨SqL.of (s6 _ _ hl3H3 nl),SqL.of (s6 _ _ hl3 nl3')⟩) ?_ ?_⟩
 ·rintro i z zk σ H5 pp hi hk ⟨⟨v4,v5,rfl⟩,s6,hF,qs,c9,hql,hqs⟩ hpp;unfold AU at hk;rw [getElem?_map] at hk hi;obtain ⟨wd,ap,rfl⟩:=Option.map_eq_some_iff.mp hk;obtain ⟨kb,hkb,rfl⟩:=Option.map_eq_some_iff.mp hi;have hlt:i < ks.length:=(List.getElem?_eq_some_iff.mp hkb).1;have hwd':=ap;rw [getElem?_map] at hwd';obtain ⟨due,bd,ewd⟩:=Option.map_eq_some_iff.mp hwd';obtain ⟨r,hri⟩:∃ r,rs[i]?=some r:=⟨_,List.getElem?_eq_getElem (by omega)⟩;obtain ⟨KA,hr'⟩:=RK.at_ i kb due r hkb bd hri
  have h20:kn due < 2 ^ 20:=by
   obtain ⟨d',e,_,_,_,h20⟩:=A5 PK.hk hkb;rw [bd] at e;cases e;exact h20
  have hw20:wd <= 20:=ewd ▸ Dk h20;have sH5:Same H H5:=fun b o e=>s6 b o (sH3 _ _ e) (AJ e hlvH);have s7:=AD (Same.refl H5) hpp (o:=HO.tup [V.ref kb,V.int (wd:Int)]);have sH7:=sH5.trans s7;have db:=s7 _ _ c9;refine ⟨pp,_,rfl,SqT.of AB,rfl,_,_,rfl,_,_,rfl,rfl,?_⟩;generalize upd H5 pp (HO.tup [V.ref kb,V.int (wd:Int)])=H7 at s7 sH7 db ⊢
  have bw:(prt dues n)[i]?=some (n / 2 ^ ((dues.map AX).take i).sum % 2 ^ wd):=by
   unfold prt;rw [FK,ap];rfl
  have dc:n / 2 ^ ((dues.map AX).take (i + 1)).sum=n / 2 ^ ((dues.map AX).take i).sum / 2 ^ wd:=by
   rw [take_add_one,ap,Option.toList_some,sum_append,Nat.pow_add,Nat.div_div_eq_div_mul];simp
  have ei:=KC (n / 2 ^ ((dues.map AX).take i).sum) wd;have es:=ML (n / 2 ^ ((dues.map AX).take i).sum) wd;rw [← dc] at es;have ha20:n / 2 ^ ((dues.map AX).take i).sum % 2 ^ wd < 2 ^ 20:=Nat.lt_of_lt_of_le (Nat.mod_lt _ (Nat.two_pow_pos wd)) (Nat.pow_le_pow_right (by decide) hw20);generalize n / 2 ^ ((dues.map AX).take i).sum % 2 ^ wd=a at bw ei ha20;have e20:(2:Nat) ^ 20=1048576:=by decide
  refine ⟨_,rfl,.inl ⟨rfl,_,SqL.of db⟩,_,rfl,_,rfl,_,rfl,_,_,rfl,rfl,⟨Int.natCast_nonneg _,by omega,by decide⟩,_,_,rfl,rfl,_,_,rfl,rfl,kb,due,r,(a:Int),congrArg (fun z=>[V.ref kb,V.int z]) ei,KA.same sH7,h20,by omega,by omega,?_⟩;rw [FS,FL];by_cases hb:EM due a ≠ 0/\r = "bar"
  ·obtain ⟨hb1,rfl⟩:=hb;exact .inl ⟨hb1,rfl,Nk sH7 (hW i due a hF ⟨bd,hri,bw,hb1⟩)⟩
  ·refine .inr (.inr (.inr ⟨hb,Int.natCast_nonneg _,fun z=>?_,fun q H8 s8 hV8=>?_⟩))
   ·rw [z.2] at hr';simp [packRules] at hr';rcases hr' with y | y <;> exact absurd y (by decide +kernel)
   ·have hm:(if r = "keep" then a else a - EM due a)=a &&& kn due:=by
     rw [if_neg (fun z=>by
      rw [z] at hr';simp [packRules] at hr'
      rcases hr' with y | y <;> exact absurd y (by decide +kernel))]
     unfold EM;have:=Nat.and_le_left (n:=a) (m:=kn due);omega
    rw [hm] at hV8;have hlv8:=s8 _ _ db;refine ⟨lv,_,_,rfl,rfl,hlv8,Ad (by rw [AI]; omega),?_⟩;refine ⟨_,rfl,_,rfl,_,_,rfl,rfl,Int.natCast_nonneg _,⟨some (.ref kb),some (.int (wd:Int)),?_⟩,fun b o e hb'=>?_,fun j hj=>?_,qs++[q],?_,?_,fun j q' kk m h1 h2 h3=>?_⟩
    ·rw [← es];rfl
    ·rw [AH hb'];exact s8 _ _ (s7 _ _ (s6 b o e hb'))
    ·by_cases z:j=i
     ·subst z;intro due' a' ⟨y1,y2,y3,y4⟩;rw [bd] at y1;rw [bw] at y3;rw [hri] at y2;cases y1;cases y3;exact hb ⟨y4,Option.some.inj y2⟩
     ·exact hF j (by omega)
    ·rw [AB,map_append];rfl
    ·rw [length_append,hql];rfl
    ·have stay:∀ {q' kk m},ValAt VC H8 q' kk m->ValAt VC (upd H8 lv (.lst (qs.map V.ref++[.ref q]))) q' kk m:=fun ⟨dx,e⟩=>⟨dx,by rw [AH (fun z=>by rw [z,hlv8] at e; cases e)]; exact e⟩;by_cases z:j < i
     ·rw [getElem?_append_left (by omega)] at h1;exact stay ((((hqs j q' kk m h1 h2 h3).same s7)).same s8)
     ·have hj:j=i:=by
       have:=(List.getElem?_eq_some_iff.mp h1).1;rw [length_append,hql,length_singleton] at this;omega
      subst hj;rw [getElem?_append_right (by omega),hql,Nat.sub_self] at h1;cases h1;rw [hkb] at h2;rw [JI bd bw] at h3;cases h2;cases h3;exact stay hV8
 ·rintro σ H5 ⟨⟨v4,v5,rfl⟩,s6,hF,qs,c9,hql,hqs⟩;rw [hkl] at hF hql;have sH5:Same H H5:=fun b o e=>s6 b o (sH3 _ _ e) (AJ e hlvH);refine ⟨_,rfl,hG (fun i=>?_) lv qs H5 sH5 hlvH c9 ⟨hql,by rw [Fo]; omega,fun i q kk m due a b c d=>⟨hqs i q kk m a b c,?_⟩⟩⟩
  ·by_cases hi:i < ks.length
   ·exact hF i hi
   ·intro due a h;have:=(List.getElem?_eq_some_iff.mp h.1).1;omega
  ·have hlt:i < (prt dues n).length:=by rw [Bf]; exact (List.getElem?_eq_some_iff.mp d).1
   rw [JI d (List.getElem?_eq_getElem hlt)] at c;cases c;exact Nat.lt_of_le_of_lt Nat.and_le_right (MJ _)
end
theorem UP (xs:List V) {n:Nat} (h:n <= xs.length):Mc xs none (some (n:Int))=xs.take n:=by
 have e:HT.sIx xs.length xs.length (some (n:Int))=n:=by
  show (if (n:Int) < 0 then ((n:Int) + (xs.length:Int)).toNat else min ((n:Int)).toNat xs.length)=n;rw [if_neg (by omega)];omega
 unfold Mc;rw [e];rfl
theorem Fp (m k:Nat):(m:Int) * 2 ^ ((k:Nat):Int).toNat=((m * 2 ^ k:Nat):Int):=by rw [Int.toNat_natCast]; push_cast; rfl
theorem MO (k:Nat):(1:Int) * 2 ^ ((k:Nat):Int).toNat - 1=((2 ^ k - 1:Nat):Int):=by
 have h:(((2 ^ k - 1:Nat)):Int)=((2 ^ k:Nat):Int) - 1:=by have:=Nat.two_pow_pos k; omega
 rw [Int.toNat_natCast,Int.one_mul,h]
 push_cast
 rfl
section
variable {PC cU cL cN cR cM:Addr}
noncomputable def Sj (dues:List (Aa)) (n i m:Nat):Nat:=Aj (((prt dues n).set i m).zip (dues.map AX))
def Pn (C VC PC:Addr):Sp:=fun vs H Q _=>∃ (p l v kk:Addr) (ks:List Addr) (dues:List (Aa)) (due:Aa) (n i m:Nat),vs=[.ref p,.int (n:Int),.int (i:Int),.ref v]/\PkOk C PC H p l ks dues/\n < 2 ^ Ba dues/\ks[i]?=some kk/\dues[i]?=some due/\ValAt VC H v kk m/\m < 2 ^ AX due /\
 ∀ H',Same H H'->Q (.int ((Sj dues n i m:Nat):Int)) H'
theorem Sk (F:Fun K "put" "Pack.put" Gk f fd) (B:Bl mg) (PT:JE K PC) (VT:JB K VC) (GW:Fn P w K mg base "is_whole" 1 ["thing"] (Es K)) (GI:Mt P w K mg base PC "is_packed_number" 4 ["self", "thing"] (JJ C PC)) (GV:Fn P w K mg base "is_value_of" 3 ["thing", "kind"] (Q4 K C VC)) (GD:Mt P w K mg base PC "widths" 3 ["self"] (B9 C PC)) (GN:Mt P w K mg base VC "number" 1 ["self"] (Ce VC)) :
  Ae P w K mg base CX0 5 f fd ["self", "number", "at", "value"] (Pn C VC PC):=by
 obtain ⟨fI,dI,GI,mI,bI⟩:=GI.ex;obtain ⟨fW,dW,GW,mW,kW,bW⟩:=GW.ex;obtain ⟨fV,dV,GV,mV,kV,bV⟩:=GV.ex;obtain ⟨fD,dD,GD,mD,bD⟩:=GD.ex;obtain ⟨fN,dN,GN,mN,bN⟩:=GN.ex;refine F.m scPut fun vs H Q E h=>?_;obtain ⟨p,l,v,kk,ks,dues,due,n,i,m,rfl,PK,hn,hkk,bd,hV,hm,k⟩:=h;refine ⟨rfl,fun ad A outer s hr=>?_⟩;have hr1:Room 1 _:=hr.mono (by decide);have hr3:Room 3 _:=hr.mono (by decide);obtain ⟨dx,hp⟩:=PK.at_;obtain ⟨dv,hv⟩:=id hV;have hkd:=PK.len;have hle:=PK.le;have hsz:=PK.size;have hlt:i < ks.length:=(List.getElem?_eq_some_iff.mp hkk).1;obtain ⟨due',e,r,KA,asc,h20⟩:=A5 PK.hk hkk;rw [bd] at e;cases e;have hw20:AX due <= 20:=Dk h20
 refine ⟨_,AE (Av (A3 (A9 (Db (pv 0) PT.cl mI GI hr bI .nil AQ (AA (pv 1) AC)))) (AF Am) AY)
  (AE (Av (PW.pt (CY (A3 (A9 (AO GW hr1 rfl mW kW bW .nil AQ (AA (pv 2) AC)))) (Bs (A3 (Ca CZ HZ AG (pv 2) (AV (A4 K rfl) rfl B.len PySem.boot_len (AA (BG (pv 0) rfl) AC))))))) (AF Am) AY)
  (AE (Av (A3 (A9 (AO GV hr3 rfl mV kV bV .nil AQ (AA (pv 3) (AA (BD (Ai K rfl) (BG (pv 0) rfl) (pv 2) (fun _ _=>rfl)) AC))))) (AF Am) AY)
  (AE (Ag (i:=4) scPut.nd rfl (Or.inl rfl) (As (pv 0) PT.cl mD GD hr3 bD .nil AQ))
  (AE (Ag (i:=5) scPut.nd rfl (Or.inl rfl) (AV (EW rfl) rfl B.sum Gp (AA (N8 P8 (pv 4) P3 (P4 (pv 2))) AC)))
  (AE (Ag (i:=6) scPut.nd rfl (Or.inl rfl) (AL Bc (AL Cj (AL Bc AG (BD (Ai K rfl) (pv 4) (pv 2) (fun _ _=>rfl))) AG) (pv 5)))
  (AF (AR (AL HY (AL B7 (pv 1) (JP KR (pv 6))) (AL Bc (As (pv 3) VT.cl mN GN hr1 bN .nil AQ) (pv 5)))))))))),?_⟩
 refine ⟨_,rfl,p,dx,_,rfl,hp,DZ l,_,rfl,p,l,ks,dues,n,rfl,PK,hn,fun H1 s1=>⟨_,rfl,An ?_⟩⟩;have aj:=s1 _ _ hp;have hl1:=s1 _ _ PK.hl;have hkl:(ks.map V.ref).length=ks.length:=AI _;refine ⟨_,rfl,.inl ⟨_,rfl,_,rfl,An ?_⟩⟩;refine ⟨_,rfl,_,_,rfl,rfl,_,rfl,?_⟩;rw [decide_eq_true (Int.natCast_nonneg i)];refine BC ⟨_,rfl,p,PC,dx,_,_,rfl,aj,PT.cl,PT.nK,FI l,l,_,rfl,.inl (SqL.of hl1),_,_,rfl,rfl,_,rfl,?_⟩;rw [decide_eq_true (show (i:Int) < (((ks.map V.ref).length:Nat):Int) by rw [hkl]; omega)];refine An ?_;refine ⟨_,rfl,_,rfl,p,PC,dx,_,_,rfl,aj,PT.cl,PT.nK,FI l,_,rfl,l,_,(i:Int),.ref kk,rfl,rfl,SqL.of hl1,A1 (j:=i) (by rw [getElem?_map,hkk]; rfl),.ref v,kk,true,rfl,.inr ⟨v,kk,m,due,r,due,r,rfl,hV.same s1,KA.same s1,asc,KA.same s1,asc,(decide_eq_true ⟨rfl,rfl⟩).symm⟩,fun H2 s2=>⟨_,rfl,An ?_⟩⟩;have s12:=s1.trans s2;refine ⟨_,rfl,p,dx,_,rfl,s12 _ _ hp,DZ l,p,l,ks,dues,rfl,PK.same s12,fun l3 H3 s3 hl3=>?_⟩;have s13:=s12.trans s3;have hwl:(AU (dues.map AX)).length=dues.length:=by unfold AU; rw [AI,AI]
 have e1:AU ((dues.map AX).take i)=(((dues.map AX).take i).map fun n:Nat=>(n:Int)).map V.int:=Cw _;have e2:(((dues.map AX).take i).map fun n:Nat=>(n:Int)).sum=((((dues.map AX).take i).sum:Nat):Int):=JF _
 have hsum:((dues.map AX).take i).sum <= Ba dues:=by
  unfold Ba
  conv=>rhs; rw [← take_append_drop i (dues.map AX),sum_append]
  exact Nat.le_add_right _ _
 have ap:(dues.map AX)[i]?=some (AX due):=by rw [getElem?_map,bd]; rfl
 refine ⟨_,rfl,_,rfl,_,rfl,l3,_,rfl,SqL.of hl3,fun q hq=>?_⟩;rw [UP _ (by rw [hwl]; omega),show (AU (dues.map AX)).take i=AU ((dues.map AX).take i) by unfold AU; rw [List.map_take],e1];have s4:=AD s13 hq (o:=HO.lst ((((dues.map AX).take i).map fun n:Nat=>(n:Int)).map V.int));have hl34:=AD (Same.refl _) hq (o:=HO.lst ((((dues.map AX).take i).map fun n:Nat=>(n:Int)).map V.int)) _ _ hl3;have hq4:=AB (H:=H3) (a:=q) (o:=HO.lst ((((dues.map AX).take i).map fun n:Nat=>(n:Int)).map V.int));generalize upd H3 q (HO.lst ((((dues.map AX).take i).map fun n:Nat=>(n:Int)).map V.int))=H4 at s4 hl34 hq4 ⊢;refine ⟨q,((dues.map AX).take i).map fun n:Nat=>(n:Int),rfl,SqL.of hq4,(fun n hn=>by obtain ⟨m,_,rfl⟩:=mem_map.mp hn; exact Int.natCast_nonneg _),by rw [e2]; omega,?_⟩;rw [e2];refine ⟨_,rfl,_,rfl,l3,_,(i:Int),.int ((AX due:Nat):Int),rfl,rfl,SqL.of hl34,A1 (j:=i) (by unfold AU; rw [getElem?_map,ap]; rfl),_,_,rfl,rfl,⟨Int.natCast_nonneg _,by omega,by decide⟩,_,_,rfl,rfl,_,rfl,_,_,rfl,rfl,⟨Int.natCast_nonneg _,by omega,?_⟩,?_⟩
 ·show ((1:Int) * 2 ^ ((AX due:Nat):Int).toNat - 1).natAbs < 2 ^ 64;rw [MO,Int.natAbs_natCast];have:=Nat.pow_le_pow_right (n:=2) (by decide) hw20;have h64:(2:Nat) ^ 20 < 2 ^ 64:=by decide
  omega
 ·have hV4:=hV.same s4;obtain ⟨dv4,hv4⟩:=id hV4;have hm64:m < 2 ^ 64:=Nat.lt_of_lt_of_le hm (Nat.pow_le_pow_right (by decide) (by omega));refine ⟨_,rfl,_,rfl,_,rfl,_,_,rfl,rfl,_,rfl,v,dv4,_,rfl,hv4,Lz _ _ (by decide +kernel) (by decide +kernel),v,kk,m,rfl,hV4,_,rfl,_,_,rfl,rfl,⟨Int.natCast_nonneg _,by omega,by rw [Int.natAbs_natCast]; exact hm64⟩,_,_,rfl,rfl,?_⟩
  have ef:Builtin.bitOr (Builtin.bitAnd (n:Int) (Builtin.bitNot (((1:Int) * 2 ^ ((AX due:Nat):Int).toNat - 1) * 2 ^ ((((dues.map AX).take i).sum:Nat):Int).toNat))) ((m:Int) * 2 ^ ((((dues.map AX).take i).sum:Nat):Int).toNat)=((Sj dues n i m:Nat):Int):=by
   rw [MO,Fp,Fp,Dy,B8,Pl (show n < 2 ^ (dues.map AX).sum from hn) ap hm];rfl
  have hk:=k _ s4;rw [← ef] at hk;exact hk
end
structure FunC (K:FG) (x qual:Str) (st:Stmt) (f:Addr) (fd:FuncData) (c:Addr):Prop where
 ex:∃ (oc:Value) (od:Option Addr) (kV doc pm:Value) (an:Option Addr) (ct:Value) (osl:Array (Option Value)),
  fd=W.fnOf x qual (defArgs st) (defBody st) (defScope st) .none kV doc pm an (.ref c) ct/\K.lookup f=some ⟨oc,od,.func fd,osl⟩/\W.codeIn K (.ref c) qual=true
theorem FunC.ok {x qual:Str} {st:Stmt} {c:Addr} {N ps:List Str} {k:Nat} {sp:Sp} (F:FunC K x qual st f fd c) (S:AK N ps (defScope st)) (len:∀ vs H Q E,sp vs H Q E->vs.length=ps.length)
  (be:∀ (A:Around) (outer:List Env) (s:Shared) (H:Hp) (vs:List V) (Q:VK) (E:XK),Room k (A.deeper (PyProof.Rows.envOfC qual (defScope st) s.heap.objs.size f (.ref c)))->sp vs H Q E ->
   ∃ t,PSs (BH CX0 P w K mg base N qual (defScope st) f (.ref c) A outer s H E).nox (defBody st) t/\t { nx:=fun _ H'=>Q .non H',rt:=Q } (BZ N vs) H):Ae P w K mg base CX0 (k + 1) f fd ps sp:=by
 obtain ⟨oc,od,kV,doc,pm,an,ct,osl,rfl,lk,hcd⟩:=F.ex;refine LZ lk hcd S len fun A outer s H vs Q E hr hsp=>?_;obtain ⟨t,h,q⟩:=be A outer s H vs Q E hr hsp;exact ⟨t,h.nox,q⟩
theorem Ra {X:Cx}:BQ (CXr P w) X E0:=fun _ _ _ _ _ _ _ ⟨_,_,_,_,_,_,q⟩=>q.elim
noncomputable def RC:Stmt->List Stmt | .For _ _ b _ _=>b | _=>[]
noncomputable def Sl:Stmt->Expr | .Assign _ v _=>v | _=>.Name "" ⟨0,0,0,0⟩
noncomputable def Tj (i:Nat):Expr->Expr | .Call _ es _ _=>es.getD i (.Name "" ⟨0,0,0,0⟩) | e=>e
noncomputable def Tk (l:List Stmt) (i:Nat):Stmt:=l.getD i (.Pass ⟨0,0,0,0⟩)
noncomputable def Tl:List Stmt:=RC (Tk (defBody Ee) 0)
noncomputable def Rb:Expr:=Sl (Tk Tl 13)
noncomputable def Po:Expr:=Tj 0 Rb
noncomputable def RE:Expr->Expr | .Lambda _ b _ _=>b | e=>e
noncomputable def Sm:Expr->Arguments | .Lambda a _ _ _=>a | _=>defArgs Ee
noncomputable def Pp:Expr->Scope | .Lambda _ _ sc _=>sc | _=>defScope Ee
noncomputable def Pq:Expr->Pos | .Lambda _ _ _ p=>p | _=>⟨0,0,0,0⟩
noncomputable def LS:List Pos:=[Pq Po]
theorem FM {α β:Type} [BEq α] [LawfulBEq α] {x:α} {v:β}:∀ {l:List (α × β)},l.lookup x=some v->(x,v) ∈ l
  | [],h=>by cases h
  | (y,u) :: r,h=>by
    rw [lookup_cons] at h;cases e:x == y with
    | true =>
      rw [e] at h;cases h;rw [eq_of_beq e];exact mem_cons_self ..
    | false =>
      rw [e] at h;exact mem_cons_of_mem _ (FM h)
theorem RF {scope:Scope} {clos:List (Str × Addr)} (h:scope.names.all (fun p=>!(p.2 == .cell || p.2 == .free) || (clos.lookup p.1).isSome)=true):∀ x,(scope.names.lookup x=some .cell\/scope.names.lookup x=some .free)->∃ c,clos.lookup x=some c:=fun x hx=>by
 have g:∀ k,scope.names.lookup x=some k->(k == .cell || k == .free)=true->∃ c,clos.lookup x=some c:=fun k e hk=>by
  have:=List.all_eq_true.mp h _ (FM e);simp only [hk,Bool.not_true,Bool.false_or] at this;exact Option.isSome_iff_exists.mp this
 rcases hx with z | z
 ·exact g _ z rfl
 ·exact g _ z rfl
noncomputable def qL:Str := "law.<locals>." ++ "<lambda>"
def HF (H H':Hp):Prop:=∀ b o,H b=some o->(∀ x y:Int,o ≠ .lst [.int x,.int y])->(∀ ps,o ≠ .tbl ps)->(∀ g,o ≠ .ext g)->H' b=some o
theorem KindAt.keeps {p:Addr} {r:Str} (s:HF H H') (h:KindAt C H p due r):KindAt C H' p due r:=by
 obtain ⟨dx,d1,o1,d2,o2,a,b,c⟩:=h.ex;exact ⟨⟨dx,d1,o1,d2,o2,s _ _ a (fun _ _ z=>nomatch z) (fun _ z=>nomatch z) (fun _ z=>nomatch z),s _ _ b (fun _ _ z=>nomatch z) (fun _ z=>nomatch z) (fun _ z=>nomatch z),s _ _ c (fun _ _ z=>nomatch z) (fun _ z=>nomatch z) (fun _ z=>nomatch z)⟩⟩
theorem Dl {ms:List Addr} {x y:Int}:HO.lst (ms.map V.ref) ≠ .lst [.int x,.int y]:=fun z=>by
 injection z with z
 cases ms with
 | nil=>cases z
 | cons a r=>cases z
theorem TabOk.same {P0:Addr} {q:Str} {ls:List Pos} (s:Same H H') (h:TabOk H P0 q ls):TabOk H' P0 q ls:=by
 obtain ⟨ps,h1,h2,h3⟩:=h;refine ⟨ps,s _ _ h1,h2,fun x hx=>?_⟩;rcases h3 x hx with z | ⟨c,z1,z2⟩
 ·exact .inl z
 ·exact .inr ⟨c,z1,s _ _ z2⟩
theorem TabOk.sameX {d:Addr} {P0:Addr} {q:Str} {ls:List Pos} {x y:Int} (hd:H d=some (.lst [.int x,.int y])) (s:SameX d H H') (h:TabOk H P0 q ls):TabOk H' P0 q ls:=by
 obtain ⟨ps,h1,h2,h3⟩:=h;refine ⟨ps,s.old _ _ h1 (fun z=>by subst z; rw [hd] at h1; cases h1),h2,fun x hx=>?_⟩;rcases h3 x hx with z | ⟨c,z1,z2⟩
 ·exact .inl z
 ·exact .inr ⟨c,z1,s.old _ _ z2 (fun z=>by subst z; rw [hd] at z2; cases z2)⟩
theorem TabOk.ne {d:Addr} {P0:Addr} {q:Str} {ls:List Pos} {xs:List V} (hd:H d=some (.lst xs)) (h:TabOk H P0 q ls):d ≠ P0:=fun z=>by
 obtain ⟨ps,h1,_⟩:=h;subst z;rw [hd] at h1;cases h1
def Rl (d P0:Addr) (H H':Hp):Prop:=∀ b o,H b=some o->b ≠ d->b ≠ P0->(∀ g,o ≠ .ext g)->H' b=some o
theorem Rl.refl {d P0:Addr} (H:Hp):Rl d P0 H H:=fun _ _ e _ _ _=>e
theorem Rl.trans {d P0:Addr} {H1 H2:Hp} (a:Rl d P0 H H1) (b:Rl d P0 H1 H2):Rl d P0 H H2:=fun c o e h1 h2 h3=>b c o (a c o e h1 h2 h3) h1 h2 h3
theorem Rl.same {d P0:Addr} (s:Same H H'):Rl d P0 H H':=fun b o e _ _ _=>s b o e
theorem Rl.sameX {d P0:Addr} (s:SameX d H H'):Rl d P0 H H':=fun b o e h _ _=>s.old b o e h
theorem Rl.sameB {d P0:Addr} (s:Jo P0 H H'):Rl d P0 H H':=fun b o e _ h _=>s b o h e
theorem KF {c':Addr} {q:Str} {dx:Option Addr}:Eb c' q ≠ E1 c' C dx:=fun z=>by
 have h:({ objs:=Array.replicate (c' + 1) ⟨.ref C,dx,.fields (Array.replicate 6 .none),#[]⟩ }:Heap).get? c'=some ⟨.ref C,dx,.fields (Array.replicate 6 .none),#[]⟩:=by
  unfold Heap.get?;rw [Array.getElem?_replicate,if_pos (Nat.lt_succ_self _)]
 have hz:=congrFun (HO.ext.inj z) { objs:=Array.replicate (c' + 1) ⟨.ref C,dx,.fields (Array.replicate 6 .none),#[]⟩ };have hy:=hz.mpr ⟨_,_,h,rfl,rfl,rfl,by decide,by decide⟩;obtain ⟨c1,oc,vs,t,e,ho,hd,hq⟩:=hy;cases e;rw [h] at ho;cases ho;cases hd;rw [Array.getElem?_replicate] at hq;split at hq <;> cases hq
theorem ValAt.keeps {p kp:Addr} {n:Nat} (s:HF H H') (h:ValAt VC H p kp n):ValAt VC H' p kp n:=by
 obtain ⟨dx,h⟩:=h;exact ⟨dx,s _ _ h (fun _ _ z=>nomatch z) (fun _ z=>nomatch z) (fun _ z=>nomatch z)⟩
structure Wb (d P0:Addr) (H:Hp):Prop where
 dice:∃ x y:Int,H d=some (.lst [.int x,.int y])
 tab:TabOk H P0 qL LS
theorem Wb.keeps {d P0:Addr} (s:Rl d P0 H H') (h:Wb d P0 H):HF H H':=fun b o eb h1 h2 h3=>by
 refine s b o eb (fun z=>?_) (fun z=>?_) h3
 ·subst z;obtain ⟨x,y,hd⟩:=h.dice;rw [hd] at eb;cases eb;exact h1 _ _ rfl
 ·subst z;obtain ⟨ps,hp,_⟩:=h.tab;rw [hp] at eb;cases eb;exact h2 _ rfl
theorem Wb.same {d P0:Addr} (s:Same H H') (h:Wb d P0 H):Wb d P0 H':=⟨by obtain ⟨x,y,z⟩:=h.dice; exact ⟨x,y,s _ _ z⟩,TabOk.same s h.tab⟩
theorem Wb.sameB {d P0:Addr} (s:Jo P0 H H') (ht:TabOk H' P0 qL LS) (h:Wb d P0 H):Wb d P0 H':=by
 obtain ⟨x,y,hd⟩:=h.dice;exact ⟨⟨x,y,s _ _ (TabOk.ne hd h.tab) hd⟩,ht⟩
theorem Wb.exc {d P0:Addr} {H1 H2:Hp} {e' C':Addr} {dx:Option Addr} (s1:Same H H1) (he:H1 e'=some (E1 e' C' dx)) (s2:Same (del H1 e') H2) (h:Wb d P0 H):Wb d P0 H2/\Rl d P0 H H2:=by
 have old:∀ b o,H b=some o->o ≠ E1 b C' dx->H2 b=some o:=fun b o eb hn=>by
  have eb1:=s1 _ _ eb;refine s2 _ _ ?_;have hbe:b ≠ e':=fun z=>by subst z; rw [he] at eb1; cases eb1; exact hn rfl
  unfold del;rw [if_neg hbe];exact eb1
 refine ⟨⟨?_,?_⟩,fun b o eb _ _ hx=>old b o eb (hx _)⟩
 ·obtain ⟨x,y,hd⟩:=h.dice;exact ⟨x,y,old _ _ hd (fun z=>nomatch z)⟩
 ·obtain ⟨ps,h1,h2,h3⟩:=h.tab;refine ⟨ps,old _ _ h1 (fun z=>nomatch z),h2,fun x hx=>?_⟩;rcases h3 x hx with z | ⟨c,z1,z2⟩
  ·exact .inl z
  ·exact .inr ⟨c,z1,old _ _ z2 KF⟩
def MQ (K:FG) (P0:Addr):Sp:=fun vs H Q _=>∃ (a:Addr) (ns:List Int),vs=[.ref a]/\SqL K H a (ns.map V.int)/\ns.length <= 63/\TabOk H P0 qL LS/\∀ H',Q (.bl true) H'
noncomputable abbrev Nm:List Str:=["_law_script", "_law_dice", "_law_kinds", "_law_tables", "_law_sizes", "_law_numbers", "_law_number", "_law_values", "_law_due", "_law_begin", "_law_size", "_law_at", "_law_parts", "_law_left", "_law_part", "_law_made_of", "_law_wrong", "_law_found", "_law_pack_here"]
theorem scLaw:AK Nm ["_law_script"] (defScope Ee):=fsc
theorem RG {X:Cx} {Nl:List Str} {ix:List Nat} {scope:Scope} {clos:List (Str × Addr)} (h1:ix.length=Nl.length)
  (h2:(List.range Nl.length).all (fun i=>match Nl[i]?,ix[i]? with | some x,some j=>decide (X.N[j]?=some x) && decide (X.env.scope.names.lookup x=some .cell) && decide (scope.names.lookup x=some .free) | _,_=>false)=true)
  (h3:∀ p ∈ clos,X.env.cells.lookup p.1=some p.2) (h4:scope.names.all (fun p=>!(p.2 == .cell || p.2 == .free) || (clos.lookup p.1).isSome)=true) (h5:∀ x,X.fn x=true):LamN X Nl ix scope clos:=by
 refine ⟨h1,fun i x h=>?_,fun x c h=>h3 _ (FM h),RF h4,h5⟩;have hi:i < Nl.length:=(List.getElem?_eq_some_iff.mp h).1;have:=List.all_eq_true.mp h2 i (mem_range.mpr hi);rw [h] at this;cases e:ix[i]? with
 | none=>rw [e] at this; cases this
 | some j =>
  rw [e] at this;simp only [Bool.and_eq_true,decide_eq_true_eq] at this;exact ⟨j,rfl,this.1.1,this.1.2,this.2⟩
section
variable {PC cM cR c P0:Addr} {ec:Nat->Addr}
theorem Tm {f0 fT0:Addr} {dT0:FuncData} {A:Around} {outer:List Env} {s:Shared} {E:XK} (FT:Fun K "_law_told" "_law_told" At fT0 dT0) (mT0:mg "_law_told" = some (.ref fT0)) (bT0:Binds K dT0 ["_law_deed"] []) (M:Na mg ec) (EX:PZ K mg ec cM) (GW:FnS P w K mg base "_law_word" 1 ["_law_e"] (C0 K ec))
  (LC:QU (BH CX0 P w K mg base Nm "law" (defScope Ee) f0 (.ref c) A outer s H E).nox c P0) (hr:Room 9 (BH CX0 P w K mg base Nm "law" (defScope Ee) f0 (.ref c) A outer s H E).nox.A) {fX:Addr} {dX:FuncData} (PT:JE K PC) (mX:IR K PC "unpacked" fX) (GX:Ae P w K mg base (CXr P w) 7 fX dX ["self", "number"] (MM C VC PC cR)) (bX:Binds K dX ["self", "number"] []) :
  PE (BH CX0 P w K mg base Nm "law" (defScope Ee) f0 (.ref c) A outer s H E).nox Rb (RZ K ec cM P0 qL LS [18,6] (fun E=>LX PC "unpacked" (MM C VC PC cR) [] E (Ft 0) (Ar (Ft 1) CN))) :=
 Q0 (X:=(BH CX0 P w K mg base Nm "law" (defScope Ee) f0 (.ref c) A outer s H E).nox) (params:=Sm Po) (body:=RE Po) (scope:=Pp Po) (Nl:=["_law_pack_here", "_law_number"]) (k:=7) (lpos:=Pq Po) FT M EX GW hr rfl mT0 FT.kp bT0 LC (mem_singleton.mpr rfl) (fun q hq=>.inl (mem_singleton.mp hq)) rfl rfl (RG rfl (by kernel_rfl) (by intro p hp; simp only [mem_cons,not_mem_nil,or_false] at hp; rcases hp with rfl | rfl <;> kernel_rfl) (by kernel_rfl) (fun _=>rfl)) (fun _ _ _=>rfl) rfl rfl rfl (by decide +kernel)
  (fun lf c' A' outer' s' H' E hr=>Db (pv 0) PT.cl mX GX (hr.mono (by decide)) bX .nil TW (AA (pv 1) AC))
end
section
def JK:Sp:=fun vs H Q _=>∃ (d:Addr) (a b m:Int),vs=[.ref d,.int m]/\H d=some (.lst [.int a,.int b])/\0 < m/\m.natAbs.log2 < 9000/\∀ r a' b':Int,0 <= r->r < m->Q (.int r) (upd H d (.lst [.int a',.int b']))
theorem Pr (F:Fun K "_law_roll" "_law_roll" DL f fd) (GD:Fn P w K mg base "_law_drawn" 1 ["_law_cell_here", "_law_k"] Fh):Ae P w K mg base CX0 2 f fd ["_law_dice", "_law_many"] JK:=by
 obtain ⟨fD,dD,GD,mD,kD,bD⟩:=GD.ex;refine F.m scRoll fun vs H Q E h=>?_;obtain ⟨d,a,b,m,rfl,hd,m0,m1,k⟩:=h;refine ⟨rfl,fun ad A outer s hr=>?_⟩
 refine ⟨_,AE (Av (AW JQ (BD (Ai K rfl) (pv 0) AG (fun _ _=>rfl)) (AL IQ AG AG) (AZ _))
   (AE (Ag (i:=2) scRoll.nd rfl (Or.inl rfl) (AL Ck (BD (Ai K rfl) (pv 0) AG (fun _ _=>rfl)) (pv 1)))
   (AE (Bb (AL Jb (BD (Ai K rfl) (pv 0) AG (fun _ _=>rfl)) (pv 1)) (Fv (pv 0) AG C9))
   (AF (AR (pv 2))))) AY)
  (AE (Bb (AL Bi (BD (Ai K rfl) (pv 0) AG (fun _ _=>rfl)) AG) (Fv (pv 0) AG C9))
  (AF (AR (AL Ck (AL FZ (AO GD hr rfl mD kD bD .nil AQ (AA (BD (Ai K rfl) (pv 0) AG (fun _ _=>rfl)) (AA (BD (Ai K rfl) (pv 0) AG (fun _ _=>rfl)) AC))) AG) (pv 1))))),?_⟩
 refine ⟨_,rfl,d,_,0,.int a,rfl,rfl,SqL.of hd,A1 (j:=0) rfl,_,_,rfl,rfl,⟨by decide,by decide,by decide⟩,_,_,rfl,rfl,_,rfl,?_⟩;refine Bj (fun _=>?_) (fun _=>?_)
 ·refine ⟨_,rfl,d,_,0,.int a,rfl,rfl,SqL.of hd,A1 (j:=0) rfl,_,rfl,_,_,rfl,rfl,m0,?_⟩;refine ⟨_,rfl,d,_,0,.int a,rfl,rfl,SqL.of hd,A1 (j:=0) rfl,_,rfl,_,_,rfl,rfl,⟨m0,PyProof.noPylong_of_log2 m1⟩,_,rfl,d,_,0,0,rfl,rfl,hd,rfl,?_⟩;exact ⟨_,rfl,k _ (a / m) b (Int.emod_nonneg _ (by omega)) (Int.emod_lt_of_pos _ m0)⟩
 ·refine ⟨_,rfl,d,_,1,.int b,rfl,rfl,SqL.of hd,A1 (j:=1) rfl,_,_,rfl,rfl,_,rfl,d,_,1,1,rfl,rfl,hd,rfl,?_⟩;have hd2:(upd H d (.lst ([V.int a,V.int b].set 1 (V.int (b + 1))))) d=some (.lst [.int a,.int (b + 1)]):=AB;refine ⟨_,rfl,d,_,0,.int a,rfl,rfl,SqL.of hd2,A1 (j:=0) rfl,_,rfl,d,_,1,.int (b + 1),rfl,rfl,SqL.of hd2,A1 (j:=1) rfl,_,_,rfl,fun r hr0=>?_⟩;refine ⟨_,_,rfl,rfl,⟨by decide,by decide⟩,_,rfl,_,_,rfl,rfl,m0,?_⟩;exact k _ a (b + 1) (Int.emod_nonneg _ (by omega)) (Int.emod_lt_of_pos _ m0)
end
abbrev Itm:Type:=Addr × Addr × Aa
def KD (C:Addr) (H:Hp) (x:Itm):Prop:=∃ r,KindAt C H x.1 x.2.2 r/\r ∈ packRules/\Ei x.2.2
noncomputable abbrev FY (its:List Itm):List V:=(its.map (·.1)).map V.ref
noncomputable abbrev kds (its:List Itm):List Addr:=its.map (·.1)
noncomputable abbrev dus (its:List Itm):List (Aa):=its.map (·.2.2)
section
variable {PC d P0 kl tl pk l:Addr} {its:List Itm}
structure Wq (C PC d P0 kl tl pk l:Addr) (its:List Itm) (H:Hp):Prop where
 wb:Wb d P0 H
 hkl:H kl=some (.lst (FY its))
 htl:H tl=some (.lst (its.map fun x=>V.ref x.2.1))
 pack:PackAt PC H pk l
 hl:H l=some (.lst (FY its))
 kd:∀ x ∈ its,KD C H x
 tb:∀ x ∈ its,∃ e m,H x.2.1=some (.dK (NV x.2.2 e m))
theorem KD.keeps {x:Itm} (s:HF H H') (h:KD C H x):KD C H' x:=by
 obtain ⟨r,k,a,b⟩:=h;exact ⟨r,k.keeps s,a,b⟩
theorem RH {x y:Int}:HO.lst (its.map fun z=>V.ref z.2.1) ≠ .lst [.int x,.int y]:=by
 rw [show (its.map fun z=>V.ref z.2.1)=(its.map (·.2.1)).map V.ref by rw [map_map]; rfl];exact Dl
theorem Wq.go (s:Rl d P0 H H') (wb':Wb d P0 H') (h:Wq C PC d P0 kl tl pk l its H):Wq C PC d P0 kl tl pk l its H':=by
 have kp:=h.wb.keeps s;obtain ⟨dx,hp⟩:=h.pack;refine ⟨wb',kp _ _ h.hkl (fun _ _=>Dl) (fun _ z=>nomatch z) (fun _ z=>nomatch z),kp _ _ h.htl (fun _ _=>RH) (fun _ z=>nomatch z) (fun _ z=>nomatch z),⟨dx,kp _ _ hp (fun _ _ z=>nomatch z) (fun _ z=>nomatch z) (fun _ z=>nomatch z)⟩,kp _ _ h.hl (fun _ _=>Dl) (fun _ z=>nomatch z) (fun _ z=>nomatch z),fun x hx=>(h.kd x hx).keeps kp,fun x hx=>?_⟩;obtain ⟨e,m,q⟩:=h.tb x hx;exact ⟨e,m,kp _ _ q (fun _ _ z=>nomatch z) (fun _ z=>nomatch z) (fun _ z=>nomatch z)⟩
theorem Wq.same (s:Same H H') (h:Wq C PC d P0 kl tl pk l its H):Wq C PC d P0 kl tl pk l its H':=h.go (Rl.same s) (h.wb.same s)
theorem Wq.sameX (s:SameX d H H') (h:Wq C PC d P0 kl tl pk l its H):Wq C PC d P0 kl tl pk l its H':=by
 obtain ⟨x,y,hd⟩:=h.wb.dice;exact h.go (Rl.sameX s) ⟨s.dice,TabOk.sameX hd s h.wb.tab⟩
theorem Wq.okP (h6:its.length <= 6) (h:Wq C PC d P0 kl tl pk l its H):PkOk C PC H pk l (kds its) (dus its):=by
 refine ⟨h.pack,h.hl,?_,by rw [AI]; exact h6⟩;have kd:=h.kd;clear h h6;induction its with
 | nil=>exact .nil
 | cons x r ih =>
  obtain ⟨rr,k,_,DO⟩:=kd x (mem_cons_self ..);exact .cons ⟨rr,k,fun p hp=>(DO.nm p hp).2.1,MA DO.lt⟩ (ih fun y hy=>kd y (mem_cons_of_mem _ hy))
theorem KG:∀ {its:List Itm},(∀ x ∈ its,KD C H x)->∃ rs,RsOk C H (kds its) (dus its) rs
 | [],_=>⟨[],rfl,fun i k due r h=>by cases h⟩
 | x :: its,h=>by
  obtain ⟨r,KA,hr,_⟩:=h x (mem_cons_self ..);obtain ⟨rs,R⟩:=KG (its:=its) fun y hy=>h y (mem_cons_of_mem _ hy);refine ⟨r :: rs,by show rs.length + 1=(kds its).length + 1; rw [R.lr],fun i k due r' h1 h2 h3=>?_⟩
  match i,h1,h2,h3 with
  | 0,h1,h2,h3 =>
   cases h1;cases h2;cases h3;exact ⟨KA,hr⟩
  | i + 1,h1,h2,h3=>exact R.at_ i k due r' h1 h2 h3
theorem RsOk.keeps {ks:List Addr} {dues:List (Aa)} {rs:List Str} (s:HF H H') (h:RsOk C H ks dues rs):RsOk C H' ks dues rs :=
 ⟨h.lr,fun i k due r a b c=>⟨(h.at_ i k due r a b c).1.keeps s,(h.at_ i k due r a b c).2⟩⟩
theorem VsOk.keeps {ks:List Addr} {dues:List (Aa)} {qs:List Addr} {ns:List Nat} (s:HF H H') (h:VsOk VC H ks dues qs ns):VsOk VC H' ks dues qs ns :=
 ⟨h.lq,h.ln,fun i q k n due a b c e=>⟨(h.at_ i q k n due a b c e).1.keeps s,(h.at_ i q k n due a b c e).2⟩⟩
structure Ints (d P0 a:Addr) (ns:List Nat) (H:Hp):Prop where
 at_:H a=some (.lst (AU ns))
 nd:a ≠ d
theorem Ints.go (W:Wb d P0 H) {a:Addr} {ns:List Nat} (s:Rl d P0 H H') (h:Ints d P0 a ns H):Ints d P0 a ns H' :=
 ⟨s _ _ h.at_ h.nd (TabOk.ne h.at_ W.tab) (fun _ z=>nomatch z),h.nd⟩
end
section
def MoAt (H:Hp) (v:V) (due:Aa) (r:Str) (a:Nat):Prop:=(EM due a ≠ 0/\r = "bar" /\ ∃ p,v=.ref p/\H p=some (.tup [.str "refused", .str "BadRest", .int ((EM due a:Nat):Int)]))\/(¬ (EM due a ≠ 0/\r = "bar")/\v=.int ((a &&& kn due:Nat):Int))
noncomputable def isR:V->Bool | .ref _=>true | _=>false
theorem MoAt.same {v:V} {r:Str} {a:Nat} (s:Same H H') (h:MoAt H v due r a):MoAt H' v due r a:=by
 rcases h with ⟨h1,h2,p,e,h3⟩ | h
 ·exact .inl ⟨h1,h2,p,e,s _ _ h3⟩
 ·exact .inr h
theorem MoAt.keeps {v:V} {r:Str} {a:Nat} (s:HF H H') (h:MoAt H v due r a):MoAt H' v due r a:=by
 rcases h with ⟨h1,h2,p,e,h3⟩ | h
 ·exact .inl ⟨h1,h2,p,e,s _ _ h3 (fun _ _ z=>nomatch z) (fun _ z=>nomatch z) (fun _ z=>nomatch z)⟩
 ·exact .inr h
def MR (VC:Addr) (its:List Itm) (rs:List Str) (n:Nat) (H:Hp) (v:V):Prop :=
 (∃ j due a p,(∀ i,i < j->CV (dus its) rs n i)/\Fl (dus its) rs n j due a/\v=.ref p/\H p=some (.tup [.str "refused", .str "BadRest", .int ((EM due a:Nat):Int)])) \/
 ((∀ i,CV (dus its) rs n i)/\∃ lv qs,v=.ref lv/\H lv=some (.lst (qs.map V.ref))/\VsOk VC H (kds its) (dus its) qs (mds (dus its) n))
theorem MoAt.int {v:V} {dues:List (Aa)} {rs:List Str} {n i:Nat} {r:Str} {a:Nat} (h:MoAt H v due r a) (h1:dues[i]?=some due) (h2:rs[i]?=some r) (h3:(prt dues n)[i]?=some a) (hf:CV dues rs n i):v=.int ((a &&& kn due:Nat):Int):=by
 rcases h with ⟨y1,y2,_⟩ | h
 ·subst y2;exact absurd ⟨h1,h2,h3,y1⟩ (hf due a)
 ·exact h.2
theorem MS {dues:List (Aa)} {rs:List Str} {n:Nat} {os:List V} (hl:os.length=dues.length) (hr:rs.length=dues.length) (hos:∀ (j:Nat) v due r a,os[j]?=some v->dues[j]?=some due->rs[j]?=some r->(prt dues n)[j]?=some a->MoAt H v due r a) (j:Nat) (hf:∀ i,i < j->CV dues rs n i) :
  os.take j=(AU (mds dues n)).take j:=by
 refine List.ext_getElem? fun i=>?_;rw [List.getElem?_take,List.getElem?_take];split
 ·rename_i hi;by_cases hlt:i < dues.length
  ·have g0:os[i]?=some (os[i]'(by omega)):=List.getElem?_eq_getElem _;have g1:dues[i]?=some dues[i]:=List.getElem?_eq_getElem hlt;have g2:rs[i]?=some (rs[i]'(by omega)):=List.getElem?_eq_getElem _;have g3:(prt dues n)[i]?=some ((prt dues n)[i]'(by rw [Bf]; exact hlt)):=List.getElem?_eq_getElem _;have hv:=(hos i _ _ _ _ g0 g1 g2 g3).int g1 g2 g3 (hf i hi);unfold AU;rw [g0,getElem?_map,JI g1 g3,hv];rfl
  ·rw [List.getElem?_eq_none (by omega),List.getElem?_eq_none (by unfold AU; rw [AI,Fo]; omega)]
 ·rfl
theorem KH (xs:List Nat):(AU xs).filter isR=[]:=by
 unfold AU;rw [List.filter_eq_nil_iff];intro v hv;obtain ⟨m,_,rfl⟩:=mem_map.mp hv;exact fun z=>by cases z
theorem HG {b:Addr} {x y:Str} {n:Int} (h:H b=some (.tup [.str x,.str y,.int n])):Bt K H (.tuple [.str x,.str y,.int n]) (.ref b):=by
 rw [Bt];refine ⟨b,_,rfl,SqT.of h,?_⟩;rw [A7];refine ⟨_,_,rfl,by rw [Bt],?_⟩;rw [A7];refine ⟨_,_,rfl,by rw [Bt],?_⟩;rw [A7];refine ⟨_,_,rfl,by rw [Bt],?_⟩;rw [A7]
theorem KJ {x y:Str} {n:Int} (h1:x.cps.all (· < 128)=true) (h2:y.cps.all (· < 128)=true):(PyData.tuple [.str x,.str y,.int n]).canLay0=true/\(PyData.tuple [.str x,.str y,.int n]).depth <= 60:=by
 refine ⟨?_,?_⟩
 ·rw [PyData.canLay0];refine LB fun d hd=>?_;simp only [mem_cons,not_mem_nil,or_false] at hd;rcases hd with rfl | rfl | rfl
  ·rw [PyData.canLay0]; exact G0 h1
  ·rw [PyData.canLay0]; exact G0 h2
  ·rw [PyData.canLay0]
 ·simp only [PyData.depth,PyData.depthAll];omega
theorem FU {x y:Str} {n:Int} (h1:x.cps.all (· < 128)=true) (h2:y.cps.all (· < 128)=true):SeqAt.shaped (.tuple [.str x,.str y,.int n])=true:=by
 obtain ⟨y1,y2⟩:=KJ (n:=n) h1 h2;unfold SeqAt.shaped;simp only [Bool.and_eq_true,decide_eq_true_eq];exact ⟨y1,by omega⟩
theorem Ps (x y:Str) (n:Int):PyData.eqv (.tuple [.str x,.str y,.int n]) (.tuple [.str x,.str y,.int n])=true:=Iz fun d hd=>by
 simp only [mem_cons,not_mem_nil,or_false] at hd;rcases hd with rfl | rfl | rfl
 ·exact Eo _
 ·exact Eo _
 ·exact Ep _
def Tn (H:Hp) (v:V):Prop:=∃ (p:Addr) (n:Int),v=.ref p/\H p=some (.tup [.str "refused", .str "BadRest", .int n])
theorem RI {ws:List V} (h:∀ v ∈ ws,Tn H v):∃ ds,A7 K H ds ws/\ds.length=ws.length/\∀ d ∈ ds,d.canLay0=true/\d.depth <= 60:=by
 induction ws with
 | nil=>exact ⟨[],Iu,rfl,fun d hd=>by cases hd⟩
 | cons v r ih =>
  obtain ⟨ds,h1,h2,h3⟩:=ih fun u hu=>h u (mem_cons_of_mem _ hu);obtain ⟨p,n,rfl,hp⟩:=h v (mem_cons_self ..);refine ⟨.tuple [.str "refused", .str "BadRest", .int n] :: ds,?_,by show ds.length + 1=r.length + 1; rw [h2],fun d hd=>?_⟩
  ·rw [A7];exact ⟨_,_,rfl,HG hp,h1⟩
  ·rcases mem_cons.mp hd with rfl | hd
   ·exact KJ (by decide +kernel) (by decide +kernel)
   ·exact h3 d hd
theorem Nn {dues:List (Aa)} {rs:List Str} {n:Nat} {os:List V} (hl:os.length=dues.length) (hr:rs.length=dues.length) (hos:∀ (j:Nat) v due r a,os[j]?=some v->dues[j]?=some due->rs[j]?=some r->(prt dues n)[j]?=some a->MoAt H v due r a):∀ v ∈ os.filter isR,Tn H v:=fun v hv=>by
 obtain ⟨hv,hR⟩:=mem_filter.mp hv;obtain ⟨i,hi⟩:=getElem?_of_mem hv;have hlt:=(List.getElem?_eq_some_iff.mp hi).1;have g1:dues[i]?=some (dues[i]'(by omega)):=List.getElem?_eq_getElem _;have g2:rs[i]?=some (rs[i]'(by omega)):=List.getElem?_eq_getElem _;have g3:(prt dues n)[i]?=some ((prt dues n)[i]'(by rw [Bf]; omega)):=List.getElem?_eq_getElem _;rcases hos i v _ _ _ hi g1 g2 g3 with ⟨_,_,p,e,hp⟩ | ⟨_,e⟩
 ·exact ⟨p,_,e,hp⟩
 ·rw [e] at hR;cases hR
theorem LI {dues:List (Aa)} {rs:List Str} {n:Nat} {os:List V} (hl:os.length=dues.length) (hr:rs.length=dues.length) (hos:∀ (j:Nat) v due r a,os[j]?=some v->dues[j]?=some due->rs[j]?=some r->(prt dues n)[j]?=some a->MoAt H v due r a) (hf:∀ i,CV dues rs n i):os=AU (mds dues n):=by
 have h:=MS hl hr hos os.length fun i _=>hf i;rw [take_length,take_of_length_le (by unfold AU; rw [AI,Fo]; omega)] at h;exact h
theorem KK {dues:List (Aa)} {rs:List Str} {n:Nat} {os:List V} (hl:os.length=dues.length) (hr:rs.length=dues.length) (hos:∀ (j:Nat) v due r a,os[j]?=some v->dues[j]?=some due->rs[j]?=some r->(prt dues n)[j]?=some a->MoAt H v due r a) {j a:Nat} (hf:∀ i,i < j->CV dues rs n i) (hw:Fl dues rs n j due a) :
  ∃ (p:Addr) (rest:List V),os.filter isR=.ref p :: rest/\H p=some (.tup [.str "refused", .str "BadRest", .int ((EM due a:Nat):Int)]):=by
 obtain ⟨h1,h2,h3,h4⟩:=hw;have hlt:=(List.getElem?_eq_some_iff.mp h1).1;have h0:os[j]?=some (os[j]'(by omega)):=List.getElem?_eq_getElem _;have ht:=MS hl hr hos j hf
 have e0:(os.take j).filter isR=[]:=by
  rw [ht];unfold AU;rw [← List.map_take];exact KH _
 have ed:os.drop j=os[j]'(by omega) :: os.drop (j + 1):=List.drop_eq_getElem_cons (by omega);rcases hos j _ _ _ _ h0 h1 h2 h3 with ⟨_,_,p,e,hp⟩ | ⟨y,_⟩
 ·refine ⟨p,(os.drop (j + 1)).filter isR,?_,hp⟩;have e1:os.filter isR=(os.take j).filter isR++(os.drop j).filter isR:=by rw [← List.filter_append,take_append_drop]
  rw [e1,e0,List.nil_append,ed,e];rfl
 ·exact absurd ⟨h4,rfl⟩ y
theorem RJ {ws xs:List Nat} (h:Fit (xs.zip ws)) {i w v:Nat} (hw:ws[i]?=some w) (hv:v < 2 ^ w):Fit ((xs.set i v).zip ws):=fun p hp=>by
 obtain ⟨j,hj⟩:=getElem?_of_mem hp;obtain ⟨h1,h2⟩:=getElem?_zip_eq_some.mp hj;by_cases e:i=j
 ·subst e;rw [hw] at h2;rw [List.getElem?_set_self' ] at h1;obtain ⟨_,_,e1⟩:=Option.map_eq_some_iff.mp h1;rw [← Option.some.inj h2,← e1];exact hv
 ·rw [List.getElem?_set_ne e] at h1;exact h p (mem_of_getElem? (getElem?_zip_eq_some.mpr ⟨h1,h2⟩))
theorem Wb.put {d P0 l:Addr} {xs ys:List V} (e:H l=some (.lst xs)) (hd:l ≠ d) (h:Wb d P0 H):Wb d P0 (upd H l (.lst ys)):=by
 have old:∀ b o,H b=some o->(∀ zs,o ≠ .lst zs)->upd H l (.lst ys) b=some o:=fun b o eb hn=>by
  rw [AH (fun z=>by subst z; rw [e] at eb; cases eb; exact hn _ rfl)];exact eb
 refine ⟨?_,?_⟩
 ·obtain ⟨x,y,h⟩:=h.dice;exact ⟨x,y,by rw [AH (Ne.symm hd)]; exact h⟩
 ·obtain ⟨ps,h1,h2,h3⟩:=h.tab;refine ⟨ps,old _ _ h1 (fun _ z=>nomatch z),h2,fun x hx=>?_⟩;rcases h3 x hx with z | ⟨c,z1,z2⟩
  ·exact .inl z
  ·exact .inr ⟨c,z1,old _ _ z2 (fun _ z=>nomatch z)⟩
end
section
variable {PC cU cM cR c P0:Addr} {ec:Nat->Addr}
theorem Sn {f0 fT0:Addr} {dT0:FuncData} (F:FunC K "law" "law" Ee f0 fd c) (FT:Fun K "_law_told" "_law_told" At fT0 dT0) (mT0:mg "_law_told" = some (.ref fT0)) (bT0:Binds K dT0 ["_law_deed"] [])
  (hC:W.CodeHd base c P0) (hBu:base.BuiltinsAt mg P0) (B:Bl mg) (hZ:mg "zip" = none) (T:Ej K C) (VO:PX P w K mg base C VC) (M:Na mg ec) (EX:PZ K mg ec cM) (EF:MD K ec cR 1) (GW:FnS P w K mg base "_law_word" 1 ["_law_e"] (C0 K ec)) (PT:JE K PC)
  (PO:∃ f fd,Mk K PC f/\Ae P w K mg base (CXr P w) 3 f fd ["self", "kinds"] (MH K C PC cU)/\Binds K fd ["self", "kinds"] []) (mP:mg "Pack" = some (.ref PC))
  (GUn:∃ f fd,Ae P w K mg base (CXr P w) 7 f fd ["self", "number"] (MM C VC PC cR)/\IR K PC "unpacked" f/\Binds K fd ["self", "number"] [])
  (GPk:Mt P w K mg base PC "packed" 4 ["self", "values"] (HE C VC PC)) (GPu:Mt P w K mg base PC "put" 5 ["self", "number", "at", "value"] (Pn C VC PC)) (GWd:Mt P w K mg base PC "widths" 3 ["self"] (B9 C PC)) (GVN:Mt P w K mg base VC "number" 1 ["self"] (Ce VC)) (GRe:Mt P w K mg base C "rest" 1 ["self"] (FF C))
  (GRd:Fn P w K mg base "_law_rounds" 2 ["_law_script", "_law_most"] (Gy K)) (GPL:Fn P w K mg base "_law_pack" 8 ["_law_dice"] (JG C)) (GWi:Fn P w K mg base "_law_width" 1 ["_law_known"] HC) (GNi:Fn P w K mg base "_law_number_in" 3 ["_law_dice", "_law_known", "_law_way"] EK)
  (GRl:Fn P w K mg base "_law_roll" 2 ["_law_dice", "_law_many"] JK) (GLm:Fn P w K mg base "_law_made" 1 ["_law_table", "_law_way", "_law_number"] JD) :
  Ae P w K mg base CX0 10 f0 fd ["_law_script"] (MQ K P0):=by
 obtain ⟨fRd,dRd,GRd,mRd,kRd,bRd⟩:=GRd.ex;obtain ⟨fL,dL,GL,mL,kL,bL⟩:=GPL.ex;obtain ⟨fWi,dWi,GWi,mWi,kWi,bWi⟩:=GWi.ex;obtain ⟨fNi,dNi,GNi,mNi,kNi,bNi⟩:=GNi.ex;obtain ⟨fRl,dRl,GRl,mRl,kRl,bRl⟩:=GRl.ex;obtain ⟨fLm,dLm,GLm,mLm,kLm,bLm⟩:=GLm.ex;obtain ⟨fV,dV,MV,GV,bV⟩:=VO.make;obtain ⟨fE,dE,GE,mE,bE⟩:=VO.eq;obtain ⟨fP,dP,MP,GP,bP⟩:=PO;obtain ⟨fUn,dUn,GUn,mUn,bUn⟩:=GUn;obtain ⟨fPk,dPk,GPk,mPk,bPk⟩:=GPk.ex;obtain ⟨fPu,dPu,GPu,mPu,bPu⟩:=GPu.ex;obtain ⟨fWd,dWd,GWd,mWd,bWd⟩:=GWd.ex;obtain ⟨fVN,dVN,GVN,mVN,bVN⟩:=GVN.ex;obtain ⟨fRe,dRe,GRe,mRe,bRe⟩:=GRe.ex;have mV:=VO.cls;have VT:=VO.VT;refine F.ok scLaw (fun vs H Q E h=>?_) (fun A outer s H vs Q E hr h=>?_)
 ·obtain ⟨a,ns,rfl,_⟩:=h;rfl
 ·obtain ⟨a,ns,rfl,hS,h63,hTab,k⟩:=h;have hr1:Room 1 _:=hr.mono (by decide);have hr2:Room 2 _:=hr.mono (by decide);have hr3:Room 3 _:=hr.mono (by decide);have hr4:Room 4 _:=hr.mono (by decide);have hr5:Room 5 _:=hr.mono (by decide);have hr7:Room 7 _:=hr.mono (by decide);have hr8:Room 8 _:=hr.mono (by decide);have hu:=FO hr;have hu64:=hr.units;have nd:=scLaw.nd;have LC:QU (BH CX0 P w K mg base Nm "law" (defScope Ee) f0 (.ref c) A outer s H E).nox c P0:=⟨rfl,hC,hBu⟩
  refine ⟨_,AE (Bh PassesOwn.never rfl (BJ (AO GRd hr2 rfl mRd kRd bRd .nil AQ (AA (pv 0) (AA AG AC)))) (AN (i:=1) nd rfl (Or.inr rfl))
    (AE (Bb (AO GL hr8 rfl mL kL bL .nil AQ (AA (pv 1) AC)) (BA rfl (AM (AN (i:=2) nd rfl (Or.inl rfl)) (AM (AN (i:=3) nd rfl (Or.inl rfl)) Aw))))
    (Au (Ag (i:=18) nd rfl (Or.inr rfl) (Fa MP GP hr4 rfl mP bP .nil Ra (AA (pv 2) AC)))
    (Au (ET (i:=4) nd rfl rfl [] [] (by kernel_rfl) (by decide +kernel) (by kernel_rfl) rfl (BJ (pv 3)) (fun _ _ _ _ _ _=>A8) (fun _ _ _ _ _ _=>AO GWi hr1 rfl mWi kWi bWi .nil AQ (AA (CJ hu (pv 0) Af (fun _ _=>rfl)) AC)))
    (Au (ET (i:=5) nd rfl rfl ["_law_dice"] [some 1] (by kernel_rfl) (by decide +kernel) (by kernel_rfl) rfl (BJ (pv 3)) (fun _ _ _ _ _ _=>A8) (fun _ _ _ _ _ _=>AO GNi hr3 rfl mNi kNi bNi .nil AQ (AA (pv 1) (AA (CJ hu (pv 0) Af (fun _ _=>rfl)) (AA Af AC)))))
    (Au (OF (i:=7) nd rfl rfl [] [] (by kernel_rfl) (by decide +kernel) (by kernel_rfl) (by kernel_rfl) rfl (E2 rfl hZ (AA (pv 2) (AA (pv 5) AC))) (fun _ _ _ _ _ _=>A8) (fun _ _ _ _ _ _=>Fa MV GV hr5 rfl mV bV .nil AQ (AA (pv 0) (AA (pv 1) AC))))
    (AE (Bb (hs:=by kernel_rfl) (hw:=by kernel_rfl) (BW (AA AG (AA AG AC))) (BA rfl (AM (AN (i:=8) nd rfl (Or.inl rfl)) (AM (AN (i:=9) nd rfl (Or.inl rfl)) Aw))))
    (Au (Bh PassesOwn.never rfl (E2 rfl hZ (AA (pv 5) (AA (pv 4) AC))) (BA rfl (AM (AN (i:=6) nd rfl (Or.inr rfl)) (AM (AN (i:=10) nd rfl (Or.inl rfl)) Aw))) (AF (IM (i:=8) (j:=9) rfl nd rfl rfl (by decide) rfl rfl (AA (AL HY (pv 8) (AL Bc (pv 6) (pv 9))) (AA (AL Bi (pv 9) (pv 10)) AC)) (by kernel_rfl))))
    (Au (Av (PW.pt (CY (AW (GY K rfl hu64) (As (pv 18) PT.cl mWd GWd hr3 bWd .nil AQ) (pv 4) (AZ _)) (CY (AW EO (Db (pv 18) PT.cl mPk GPk hr4 bPk .nil AQ (AA (pv 7) AC)) (pv 8) (AZ _)) (Bs (AW (M7 GE hr4 bE mE) (Db (pv 18) PT.cl mUn GUn hr7 bUn .nil Ra (AA (pv 8) AC)) (pv 7) (AZ _)))))) (AF Am) AY)
    (AE (Bb (hs:=by kernel_rfl) (hw:=by kernel_rfl) (BW (AA (AO GRl hr2 rfl mRl kRl bRl .nil AQ (AA (pv 1) (AA (AL Bc AG (AV (EW rfl) rfl B.sum Gp (AA (pv 4) AC))) AC))) (AA (AO GRl hr2 rfl mRl kRl bRl .nil AQ (AA (pv 1) (AA (AV (A4 K rfl) rfl B.len PySem.boot_len (AA (pv 2) AC)) AC))) AC))) (BA rfl (AM (AN (i:=6) nd rfl (Or.inr rfl)) (AM (AN (i:=11) nd rfl (Or.inl rfl)) Aw))))
    (AE (IM (i:=12) (j:=13) rfl nd rfl rfl (by decide) rfl rfl (AA (BB AC) (AA (pv 6) AC)) (by kernel_rfl))
    (Au (Bh PassesOwn.never rfl (BJ (pv 4)) (AN (i:=10) nd rfl (Or.inl rfl)) (AE (Bx (FN PySem.F.plainAttrs_list PySem.F.slot_list_append PySem.F.type_list_append B2 (pv 12) (AA (AL B7 (pv 13) (AL Cj (AL Bc AG (pv 10)) AG)) AC))) (AF (Ag (i:=13) nd rfl (Or.inl rfl) (AL KQ (pv 13) (pv 10))))))
    (Au (Oo (i:=15) nd rfl rfl [] [] (by kernel_rfl) (by decide +kernel) (by kernel_rfl) (by kernel_rfl) (by kernel_rfl) rfl (Qe rfl hZ (AA (pv 2) (AA (pv 3) (AA (pv 12) AC)))) (fun _ _ _ _ _ _=>A8) (fun _ _ _ _ _ _=>AO GLm hr1 rfl mLm kLm bLm .nil AQ (AA (pv 1) (AA (As (pv 0) T.cl mRe GRe hr1 bRe .nil AQ) (AA (pv 2) AC)))))
    (Au (ET (i:=16) nd rfl rfl [] [] (by kernel_rfl) (by decide +kernel) (by kernel_rfl) rfl (BJ (pv 15)) (fun _ _ _ _ _ _=>Fc (A9 (BO K rfl rfl B.isi rfl B.tuple Ef (pv 0)))) (fun _ _ _ _ _ _=>pv 0))
    (Au (Ag (i:=17) nd rfl (Or.inl rfl) (Tm FT mT0 bT0 M EX GW LC hr PT mUn GUn bUn))
    (Au (Av (AW (GY K rfl hu64) (pv 16) (BB AC) (AZ _)) (AF (Av (AW (GY K rfl hu64) (pv 17) (BD (Ai K rfl) (pv 16) AG (fun _ _=>rfl)) (AZ _)) (AF Am) AY)) (AF (Av (AW (GY K rfl hu64) (BU [] [] (by kernel_rfl) (by decide +kernel) (by kernel_rfl) rfl (BJ (pv 17)) (fun _ _ _ _ _ _=>A8) (fun _ _ _ _ _ _=>As (pv 0) VT.cl mVN GVN hr1 bVN .nil AQ)) (pv 15) (AZ _)) (AF Am) AY)))
    (AE (Bb (BD (Ai K rfl) (pv 5) (pv 11) (fun _ _=>rfl)) (Fv (pv 12) (pv 11) C9))
    (AE (Bb (hs:=by kernel_rfl) (hw:=by kernel_rfl) (BW (AA AG (AA AG AC))) (BA rfl (AM (AN (i:=8) nd rfl (Or.inl rfl)) (AM (AN (i:=9) nd rfl (Or.inl rfl)) Aw))))
    (Au (Bh PassesOwn.never rfl (E2 rfl hZ (AA (pv 12) (AA (pv 4) AC))) (BA rfl (AM (AN (i:=14) nd rfl (Or.inl rfl)) (AM (AN (i:=10) nd rfl (Or.inl rfl)) Aw))) (AF (IM (i:=8) (j:=9) rfl nd rfl rfl (by decide) rfl rfl (AA (AL HY (pv 8) (AL Bc (pv 14) (pv 9))) (AA (AL Bi (pv 9) (pv 10)) AC)) (by kernel_rfl))))
    (AF (Av (AW EO (Db (pv 18) PT.cl mPu GPu hr5 bPu .nil AQ (AA (pv 6) (AA (pv 11) (AA (BD (Ai K rfl) (pv 7) (pv 11) (fun _ _=>rfl)) AC)))) (pv 8) (AZ _)) (AF Am) AY)))))))))))))))))))))
   (AF (AR Nq)),?_⟩
  refine ⟨_,rfl,a,ns,rfl,hS,h63,fun l as H1 s1 hl nd' hla h5 bp=>?_⟩
  refine ⟨l,rfl,⟨_,SqL.of hl⟩,C8 (K:=K) (a:=l) (xs:=as.map V.ref) (fun i σ H2=>(∃ v1 v2 v3 v4 v5 v6 v7 v8 v9 v10 v11 v12 v13 v14 v15 v16 v17 v18:Option V,σ=[some (.ref a),v1,v2,v3,v4,v5,v6,v7,v8,v9,v10,v11,v12,v13,v14,v15,v16,v17,v18])/\H2 l=some (.lst (as.map V.ref))/\TabOk H2 P0 qL LS/\∀ (j:Nat) b,i <= j->as[j]?=some b->∃ x y:Int,H2 b=some (.lst [.int x,.int y]))
   ⟨⟨none,none,none,none,none,none,none,none,none,none,none,none,none,none,none,none,none,none,rfl⟩,hl,TabOk.same s1 hTab,fun j b _ e=>(bp b (mem_of_getElem? e)).2⟩ (fun i σ H2 _ ⟨_,e,_⟩=>SqL.of e) ?_ ?_⟩
  ·rintro i v σ H2 hi ⟨⟨v1,v2,v3,v4,v5,v6,v7,v8,v9,v10,v11,v12,v13,v14,v15,v16,v17,v18,rfl⟩,hl2,hT2,hds⟩;rw [getElem?_map] at hi;obtain ⟨d,hdi,rfl⟩:=Option.map_eq_some_iff.mp hi;obtain ⟨x,y,hd⟩:=hds i d (Nat.le_refl _) hdi;have hld:l ≠ d:=fun z=>hla (z ▸ mem_of_getElem? hdi);have hlP:l ≠ P0:=TabOk.ne hl2 hT2;refine ⟨_,rfl,d,x,y,rfl,hd,fun q kl tl its Ha sX hq hkl htl h0 h6 hit=>?_⟩;refine ⟨q,_,rfl,SqT.of hq,rfl,_,_,rfl,_,_,rfl,rfl,?_⟩;have W0:Wb d P0 Ha:=⟨sX.dice,TabOk.sameX hd sX hT2⟩;have R0:Rl d P0 H2 Ha:=Rl.sameX sX;have eR:its.map (fun x=>V.ref x.1)=FY its:=by unfold FY; rw [map_map]; rfl
   rw [eR] at hkl;have hrl:(FY its).length=its.length:=by unfold FY; rw [AI,AI]
   have kdA:∀ x ∈ its,KD C Ha x:=fun x hx=>(hit x hx).1;refine ⟨fun σ H'=>∃ (pk lp:Addr),σ=[some (.ref a),some (.ref d),some (.ref kl),some (.ref tl),v4,v5,v6,v7,v8,v9,v10,v11,v12,v13,v14,v15,v16,v17,some (.ref pk)]/\Wq C PC d P0 kl tl pk lp its H'/\Rl d P0 Ha H',fun R hR=>?_,?_⟩
   ·refine ⟨_,rfl,?_⟩;intro pk dx hpk ax aw;have sN:=DY (D:=PC) hpk ax aw
    have hprd:Paired (Se K C (upd (upd Ha dx (.own pk)) pk (.ins PC dx []))) (FY its) (its.map fun _=>true):=by
     have kd:=kdA;clear hrl eR hkl htl hit h0 h6 hR kdA;induction its with
     | nil=>exact .nil
     | cons x r ih =>
      obtain ⟨rr,kk,ao,_⟩:=kd x (mem_cons_self ..);refine .cons (.inl ⟨x.1,x.2.2,rr,rfl,kk.same sN,?_⟩) (ih fun y hy=>kd y (mem_cons_of_mem _ hy));rw [Iv];exact (any_eq_true.mpr ⟨rr,ao,by simp⟩).symm
    refine ⟨pk,dx,.ref kl,rfl,AB,.inr ⟨kl,FY its,its.map (fun _=>true),rfl,sN _ _ hkl,by omega,by omega,hprd,.inr ⟨by rw [all_map]; exact List.all_eq_true.mpr fun _ _=>rfl,fun lp Hc sc hPA hlp=>⟨rfl,?_⟩⟩⟩⟩;have sE:=B5 sN hpk sc;refine hR _ _ ⟨pk,lp,rfl,⟨W0.same sE,sE _ _ hkl,sE _ _ htl,hPA,hlp,fun x hx=>(kdA x hx).keeps fun b o e _ _ _=>sE b o e,fun x hx=>?_⟩,Rl.same sE⟩;obtain ⟨_,⟨e,m,ht⟩,_⟩:=hit x hx;exact ⟨e,m,sE _ _ ht⟩
   rintro σ H3 ⟨pk,lp,rfl,W3,R3⟩;have hDO:∀ x ∈ its,Ei x.2.2:=fun x hx=>by obtain ⟨_,_,_,h⟩:=kdA x hx; exact h
   clear hkl htl hit kdA W0;refine ⟨fun σ H'=>∃ sl:Addr,σ=[some (.ref a),some (.ref d),some (.ref kl),some (.ref tl),some (.ref sl),v5,v6,v7,v8,v9,v10,v11,v12,v13,v14,v15,v16,v17,some (.ref pk)]/\Ints d P0 sl ((dus its).map AX) H'/\Wq C PC d P0 kl tl pk lp its H'/\Rl d P0 Ha H',fun R hR=>?_,?_⟩
   ·refine ⟨_,rfl,tl,rfl,⟨_,SqL.of W3.htl⟩,BE (K:=K) (a:=tl) (xs:=its.map fun x=>V.ref x.2.1) (fun i ys H4=>ys=AU (((dus its).map AX).take i)/\Same H3 H4) ⟨rfl,Same.refl _⟩ (fun i ys H4 _ ⟨_,s4⟩=>SqL.of (s4 _ _ W3.htl)) (fun i ys H4 ⟨e,_⟩=>by rw [e]; unfold AU; rw [AI,length_take,AI,AI]; omega) ?_ ?_⟩
    ·rintro i v ys H4 hi ⟨rfl,s4⟩;rw [getElem?_map] at hi;obtain ⟨x,hx,rfl⟩:=Option.map_eq_some_iff.mp hi;obtain ⟨e',m',ht⟩:=W3.tb x (mem_of_getElem? hx);have hk20:=MA (hDO x (mem_of_getElem? hx)).lt;have p42:(2:Nat) ^ 20 < 2 ^ 42:=by decide
     refine ⟨_,rfl,x.2.1,_,rfl,.inl ⟨_,Sum.inr "known", .inl (s4 _ _ ht),rfl,(B4 _ _ _).symm⟩,kn x.2.2,rfl,by omega,fun H5 s5=>⟨?_,s4.trans s5⟩⟩;rw [take_add_one,getElem?_map,getElem?_map,hx];unfold AU;rw [map_append];rfl
    ·rintro ys H4 ⟨rfl,s4⟩ p hp;have sp:=AD s4 hp (o:=HO.lst (AU (((dus its).map AX).take (its.map fun x=>V.ref x.2.1).length)))
     have hpd:p ≠ d:=by
      obtain ⟨x,y,e⟩:=W3.wb.dice;exact Ne.symm (AJ (s4 _ _ e) hp)
     refine hR _ _ ⟨p,rfl,⟨?_,hpd⟩,W3.same sp,R3.trans (Rl.same sp)⟩;rw [AB,AI,show ((dus its).map AX).take its.length=(dus its).map AX from take_of_length_le (by rw [AI,AI]; exact Nat.le_refl _)]
   rintro σ H4 ⟨sl,rfl,SL,W4,R4⟩;have htl4:=W4.htl;refine ⟨fun σ H'=>∃ (nl:Addr) (ms:List Nat),σ=[some (.ref a),some (.ref d),some (.ref kl),some (.ref tl),some (.ref sl),some (.ref nl),v6,v7,v8,v9,v10,v11,v12,v13,v14,v15,v16,v17,some (.ref pk)]/\ms.length=its.length/\(∀ (j m:Nat) x,ms[j]?=some m->its[j]?=some x->m < 2 ^ 40/\m - (m &&& kn x.2.2)=0)/\Ints d P0 nl ms H'/\Ints d P0 sl ((dus its).map AX) H'/\Wq C PC d P0 kl tl pk lp its H'/\Rl d P0 Ha H',fun R hR=>?_,?_⟩
   ·refine ⟨_,rfl,tl,rfl,⟨_,SqL.of htl4⟩,BE (K:=K) (a:=tl) (xs:=its.map fun x=>V.ref x.2.1) (fun i ys H5=>(∃ ms:List Nat,ys=AU ms/\ms.length=i/\i <= its.length/\∀ (j m:Nat) x,ms[j]?=some m->its[j]?=some x->m < 2 ^ 40/\m - (m &&& kn x.2.2)=0)/\SameX d H4 H5) ⟨⟨[],rfl,rfl,Nat.zero_le _,fun j m x e=>by cases e⟩,⟨fun _ _ e _=>e,W4.wb.dice⟩⟩ (fun i ys H5 _ ⟨_,s5⟩=>SqL.of (W4.sameX s5).htl) (fun i ys H5 ⟨⟨ms,e,e2,e3,_⟩,_⟩=>by rw [e]; unfold AU; rw [AI]; omega) ?_ ?_⟩
    ·rintro i v ys H5 hi ⟨⟨ms,rfl,aq,hil,av⟩,s5⟩;rw [getElem?_map] at hi;obtain ⟨x,hx,rfl⟩:=Option.map_eq_some_iff.mp hi;have W5:=W4.sameX s5;obtain ⟨e',m',ht⟩:=W5.tb x (mem_of_getElem? hx);obtain ⟨x5,y5,hd5⟩:=W5.wb.dice;have hlt:=(List.getElem?_eq_some_iff.mp hx).1;refine ⟨_,rfl,_,rfl,x.2.1,_,rfl,.inl ⟨_,Sum.inr "known", .inl ht,rfl,(B4 _ _ _).symm⟩,d,x5,y5,kn x.2.2, "bar", rfl,hd5,fun n H6 h40 hb s6=>⟨⟨ms++[n],?_,by rw [length_append,aq]; rfl,by omega,fun j mm xx e1 e2=>?_⟩,s5.trans s6⟩⟩
     ·unfold AU;rw [map_append];rfl
     ·by_cases hj:j < ms.length
      ·rw [getElem?_append_left hj] at e1;exact av j mm xx e1 e2
      ·have hj2:j=i:=by
        have:=(List.getElem?_eq_some_iff.mp e1).1;rw [length_append,length_singleton] at this;omega
       subst hj2;rw [getElem?_append_right (by omega),aq,Nat.sub_self] at e1;cases e1;rw [hx] at e2;cases e2;exact ⟨h40,hb.resolve_left (by decide +kernel)⟩
    ·rintro ys H5 ⟨⟨ms,rfl,aq,hil,av⟩,s5⟩ p hp;rw [AI] at aq;have sp:=AD (Same.refl _) hp (o:=HO.lst (AU ms));have W5:=W4.sameX s5
     have hpd:p ≠ d:=by
      obtain ⟨x,y,e⟩:=W5.wb.dice;exact Ne.symm (AJ e hp)
     exact hR _ _ ⟨p,ms,rfl,aq,av,⟨AB,hpd⟩,(SL.go W4.wb (Rl.sameX s5)).go W5.wb (Rl.same sp),W5.same sp,(R4.trans (Rl.sameX s5)).trans (Rl.same sp)⟩
   rintro σ H5 ⟨nl,ms,rfl,aq,av,NL,SL5,W5,R5⟩;clear SL W4 R4 htl4 W3 R3;refine ⟨fun σ H'=>∃ (vl:Addr) (qs:List Addr),σ=[some (.ref a),some (.ref d),some (.ref kl),some (.ref tl),some (.ref sl),some (.ref nl),v6,some (.ref vl),v8,v9,v10,v11,v12,v13,v14,v15,v16,v17,some (.ref pk)]/\H' vl=some (.lst (qs.map V.ref))/\VsOk VC H' (kds its) (dus its) qs ms/\Ints d P0 nl ms H'/\Ints d P0 sl ((dus its).map AX) H'/\Wq C PC d P0 kl tl pk lp its H'/\Rl d P0 Ha H',fun R hR=>?_,?_⟩
   ·have hnlen:(AU ms).length=its.length:=by unfold AU; rw [AI,aq]
    refine ⟨_,rfl,_,rfl,kl,nl,rfl,⟨_,SqL.of W5.hkl⟩,⟨_,SqL.of NL.at_⟩,J9 (K:=K) (a:=kl) (b:=nl) (xs:=FY its) (zs:=AU ms) (fun i ys H6=>∃ qs:List Addr,ys=qs.map V.ref/\qs.length=i/\i <= its.length/\Same H5 H6/\∀ (j:Nat) q x m,qs[j]?=some q->its[j]?=some x->ms[j]?=some m->ValAt VC H6 q x.1 m) (by rw [hrl,hnlen]) ⟨[],rfl,rfl,Nat.zero_le _,Same.refl _,fun j q x m e=>by cases e⟩ (fun i ys H6 _ ⟨_,_,_,_,s6,_⟩=>⟨SqL.of (s6 _ _ W5.hkl),SqL.of (s6 _ _ NL.at_)⟩) (fun i ys H6 ⟨qs,e,e2,e3,_⟩=>by rw [e,AI]; omega) ?_ ?_⟩
    ·rintro i z zn ys H6 pp hi hk ⟨qs,rfl,hql,hil,s6,hqs⟩ hpp;unfold FY at hi;unfold AU at hk;rw [map_map,getElem?_map] at hi;rw [getElem?_map] at hk;obtain ⟨x,hx,ez⟩:=Option.map_eq_some_iff.mp hi;have ez':z=V.ref x.1:=ez.symm;subst ez';clear ez;obtain ⟨m,hm,rfl⟩:=Option.map_eq_some_iff.mp hk;obtain ⟨rr,kk,ao,DO⟩:=W5.kd x (mem_of_getElem? hx);obtain ⟨h40,bc⟩:=av i m x hm hx;have hlt:=(List.getElem?_eq_some_iff.mp hx).1;have s7:=AD s6 hpp (o:=HO.tup [V.ref x.1,V.int (m:Int)]);have s67:=AD (Same.refl H6) hpp (o:=HO.tup [V.ref x.1,V.int (m:Int)]);refine ⟨pp,_,rfl,SqT.of AB,rfl,_,_,rfl,_,_,rfl,rfl,?_⟩;generalize upd H6 pp (HO.tup [V.ref x.1,V.int (m:Int)])=H7 at s7 s67 ⊢;refine ⟨_,rfl,_,rfl,?_⟩;intro q dq hq hdq aw;have sN:=DY (D:=VC) hq hdq aw;refine ⟨q,dq,x.1,x.2.2,rr,m,rfl,AB,(kk.same s7).same sN,h40,.inr bc,fun H8 sc hV=>⟨rfl,qs++[q],by rw [map_append]; rfl,by rw [length_append,hql]; rfl,by omega,s7.trans (B5 sN hq sc),fun j q' xx mm e1 e2 e3=>?_⟩⟩;by_cases hj:j < qs.length
     ·rw [getElem?_append_left hj] at e1;exact ((hqs j q' xx mm e1 e2 e3).same s67).same (B5 sN hq sc)
     ·have hj2:j=i:=by
       have:=(List.getElem?_eq_some_iff.mp e1).1;rw [length_append,length_singleton] at this;omega
      subst hj2;rw [getElem?_append_right (by omega),hql,Nat.sub_self] at e1;cases e1;rw [hx] at e2;rw [hm] at e3;cases e2;cases e3;exact hV
    ·rintro ys H6 ⟨qs,rfl,hql,hil,s6,hqs⟩ p hp;rw [hrl] at hql;have sp:=AD s6 hp (o:=HO.lst (qs.map V.ref));have sp1:=AD (Same.refl H6) hp (o:=HO.lst (qs.map V.ref));refine hR _ _ ⟨p,qs,rfl,AB,⟨by rw [AI,hql],by rw [AI,aq],fun i q kk m due e1 e2 e3 e4=>?_⟩,NL.go W5.wb (Rl.same sp),SL5.go W5.wb (Rl.same sp),W5.same sp,R5.trans (Rl.same sp)⟩;rw [getElem?_map] at e2 e4;obtain ⟨x,hx,rfl⟩:=Option.map_eq_some_iff.mp e2;rw [hx] at e4;cases e4;refine ⟨(hqs i q x m e1 hx e3).same sp1,?_⟩;obtain ⟨_,bc⟩:=av i m x e3 hx
     have hle:m <= kn x.2.2:=by
      have:=Nat.and_le_right (n:=m) (m:=kn x.2.2);have:=Nat.and_le_left (n:=m) (m:=kn x.2.2);omega
     exact Nat.lt_of_le_of_lt hle (MJ _)
   rintro σ H6 ⟨vl,qs,rfl,hvl,VS,NL6,SL6,W6,R6⟩;refine ⟨sl2,fun q2 hq2=>⟨q2,_,rfl,SqT.of AB,rfl,_,_,rfl,_,_,rfl,rfl,?_⟩⟩;have sq2:=AD (Same.refl _) hq2 (o:=HO.tup [V.int 0,V.int 0]);have VS7:=VS.same sq2;have NL7:=NL6.go W6.wb (Rl.same sq2);have SL7:=SL6.go W6.wb (Rl.same sq2);have de:=sq2 _ _ hvl;have R7:=R6.trans (Rl.same sq2);have W7:=W6.same sq2;generalize upd H6 q2 (HO.tup [V.int 0,V.int 0])=H7 at VS7 NL7 SL7 de R7 W7 ⊢;clear VS NL6 SL6 hvl R6 W6 sq2 hq2;have PK7:=W7.okP h6;have hsz:=PK7.size;have hdl:(dus its).length=its.length:=AI _;have bv:Fit (AT (dus its) ms):=VS7.fit PK7.len;have hnl:(AU ms).length=its.length:=by unfold AU; rw [AI,aq]
   have hwl:(AU ((dus its).map AX)).length=its.length:=by unfold AU; rw [AI,AI,hdl]
   have hpl:(AT (dus its) ms).length=its.length:=by unfold AT; rw [length_zip,AI,hdl,aq,Nat.min_self]
   refine ⟨fun σ H'=>∃ v6 v10:Option V,σ=[some (.ref a),some (.ref d),some (.ref kl),some (.ref tl),some (.ref sl),some (.ref nl),v6,some (.ref vl),some (.int ((Aj (AT (dus its) ms):Nat):Int)),some (.int ((sw (AT (dus its) ms):Nat):Int)),v10,v11,v12,v13,v14,v15,v16,v17,some (.ref pk)]/\H' vl=some (.lst (qs.map V.ref))/\VsOk VC H' (kds its) (dus its) qs ms/\Ints d P0 nl ms H'/\Ints d P0 sl ((dus its).map AX) H'/\Wq C PC d P0 kl tl pk lp its H'/\Rl d P0 Ha H',fun R hR=>?_,?_⟩
   ·refine ⟨_,rfl,_,rfl,nl,sl,rfl,⟨_,SqL.of NL7.at_⟩,⟨_,SqL.of SL7.at_⟩,Fg (K:=K) (a:=nl) (b:=sl) (xs:=AU ms) (zs:=AU ((dus its).map AX)) (fun i σ H8=>(∃ v6 v10:Option V,σ=[some (.ref a),some (.ref d),some (.ref kl),some (.ref tl),some (.ref sl),some (.ref nl),v6,some (.ref vl),some (.int ((Aj ((AT (dus its) ms).take i):Nat):Int)),some (.int ((sw ((AT (dus its) ms).take i):Nat):Int)),v10,v11,v12,v13,v14,v15,v16,v17,some (.ref pk)])/\Same H7 H8) (by rw [hnl,hwl]) ⟨⟨_,_,rfl⟩,Same.refl _⟩ (fun i σ H8 _ ⟨_,s8⟩=>⟨SqL.of (s8 _ _ NL7.at_),SqL.of (s8 _ _ SL7.at_)⟩) ?_ ?_⟩
    ·rintro i z zk σ H8 pp hi hk ⟨⟨v6,v10,rfl⟩,s8⟩ hpp;unfold AU at hi hk;rw [getElem?_map] at hi hk;obtain ⟨m,hm,rfl⟩:=Option.map_eq_some_iff.mp hi;obtain ⟨wd,ap,rfl⟩:=Option.map_eq_some_iff.mp hk;have hlt:i < its.length:=by have:=(List.getElem?_eq_some_iff.mp hm).1; omega
     have h40:=(av i m _ hm (List.getElem?_eq_getElem hlt)).1;have e40:(2:Nat) ^ 40 < 2 ^ 64:=by decide
     have hsw:=EL (AT (dus its) ms) i;rw [Fk (by rw [hdl,aq])] at hsw;have s9:=AD s8 hpp (o:=HO.tup [V.int (m:Int),V.int (wd:Int)])
     have ht:(AT (dus its) ms).take (i + 1)=(AT (dus its) ms).take i++[(m,wd)]:=by
      rw [take_add_one]
      have:(AT (dus its) ms)[i]?=some (m,wd):=by
       unfold AT;rw [getElem?_zip_eq_some];exact ⟨hm,ap⟩
      rw [this];rfl
     refine ⟨pp,_,rfl,SqT.of AB,rfl,_,_,rfl,_,_,rfl,rfl,?_⟩;refine ⟨_,rfl,_,rfl,_,rfl,_,_,rfl,rfl,⟨Int.natCast_nonneg _,by omega,by rw [Int.natAbs_natCast]; omega⟩,_,_,rfl,rfl,_,rfl,_,rfl,_,_,rfl,rfl,_,_,rfl,⟨some (.int (m:Int)),some (.int (wd:Int)),?_⟩,s9⟩;have e2:Builtin.bitOr ((Aj ((AT (dus its) ms).take i):Nat):Int) ((m:Int) * 2 ^ ((sw ((AT (dus its) ms).take i):Nat):Int).toNat)=((Aj ((AT (dus its) ms).take (i + 1)):Nat):Int):=by rw [Fp,B8,FJ (HD bv i) m wd,← ht]
     have e3:((sw ((AT (dus its) ms).take i):Nat):Int) + (wd:Int)=((sw ((AT (dus its) ms).take (i + 1)):Nat):Int):=by rw [ht,JH]; push_cast; rfl
     rw [← e2,← e3];rfl
    ·rintro σ H8 ⟨⟨v6,v10,rfl⟩,s8⟩;rw [hnl,show (AT (dus its) ms).take its.length=(AT (dus its) ms) from take_of_length_le (by rw [hpl]; exact Nat.le_refl _)];exact hR _ _ ⟨_,_,rfl,s8 _ _ de,VS7.same s8,NL7.go W7.wb (Rl.same s8),SL7.go W7.wb (Rl.same s8),W7.same s8,R7.trans (Rl.same s8)⟩
   rintro σ H8 ⟨v6,v10,rfl,cj,VS8,NL8,SL8,W8,R8⟩;clear VS7 NL7 SL7 de R7 W7 PK7;obtain ⟨rs,RK8⟩:=KG W8.kd
   have hprt:prt (dus its) (Aj (AT (dus its) ms))=ms:=by
    have h:=HA bv;rw [show (AT (dus its) ms).map (·.2)=(dus its).map AX by unfold AT; rw [List.map_snd_zip (by rw [AI]; omega)],show (AT (dus its) ms).map (·.1)=ms by unfold AT; rw [List.map_fst_zip (by rw [AI]; omega)]] at h;exact h
   have hfine:∀ i,CV (dus its) rs (Aj (AT (dus its) ms)) i:=fun i due a ⟨y1,_,y3,y4⟩=>by
    rw [hprt] at y3;rw [getElem?_map] at y1;obtain ⟨x,hx,rfl⟩:=Option.map_eq_some_iff.mp y1;exact y4 (av i a x y3 hx).2
   have hmds:mds (dus its) (Aj (AT (dus its) ms))=ms:=by
    unfold mds;rw [hprt];refine List.ext_getElem? fun i=>?_;rw [List.getElem?_zipWith];cases e:ms[i]? with
    | none=>rfl
    | some m =>
     have hlt:i < its.length:=by have:=(List.getElem?_eq_some_iff.mp e).1; omega
     rw [getElem?_map,List.getElem?_eq_getElem hlt];have hb:=(av i m _ e (List.getElem?_eq_getElem hlt)).2;have:=Nat.and_le_left (n:=m) (m:=kn its[i].2.2);show some (m &&& kn its[i].2.2)=some m;congr 1;omega
   have hjn:Aj (AT (dus its) ms) < 2 ^ Ba (dus its):=by
    have h:=G8 bv;rw [Fk (by rw [hdl,aq])] at h;exact h
   refine ⟨fun σ H'=>σ=[some (.ref a),some (.ref d),some (.ref kl),some (.ref tl),some (.ref sl),some (.ref nl),v6,some (.ref vl),some (.int ((Aj (AT (dus its) ms):Nat):Int)),some (.int ((sw (AT (dus its) ms):Nat):Int)),v10,v11,v12,v13,v14,v15,v16,v17,some (.ref pk)]/\H' vl=some (.lst (qs.map V.ref))/\VsOk VC H' (kds its) (dus its) qs ms/\Ints d P0 nl ms H'/\Ints d P0 sl ((dus its).map AX) H'/\Wq C PC d P0 kl tl pk lp its H'/\Rl d P0 Ha H'/\RsOk C H' (kds its) (dus its) rs,fun R hR=>?_,?_⟩
   ·obtain ⟨dxp,hpk⟩:=W8.pack;refine ⟨_,rfl,pk,dxp,_,rfl,hpk,DZ lp,pk,lp,kds its,dus its,rfl,W8.okP h6,fun l2 H9 s9 hl2=>?_⟩;have SL9:=SL8.go W8.wb (Rl.same s9);refine ⟨_,rfl,_,_,BV hl2 (DU _),BV SL9.at_ (DU _),CM _,CM _,_,rfl,?_⟩;rw [Dr];refine An ?_;have hpk9:=s9 _ _ hpk;have W9:=W8.same s9;refine ⟨_,rfl,pk,dxp,_,rfl,hpk9,DZ lp,_,rfl,pk,lp,vl,kds its,dus its,qs,ms,rfl,W9.okP h6,s9 _ _ cj,VS8.same s9,fun H10 s10=>?_⟩;refine ⟨_,rfl,rfl,_,rfl,?_⟩;rw [decide_eq_true (show V.int ((Aj (AT (dus its) ms):Nat):Int)=V.int ((Aj (AT (dus its) ms):Nat):Int) from rfl)];refine An ?_;have s810:=s9.trans s10;have W10:=W9.same s10;have hpk10:=s10 _ _ hpk9;refine ⟨_,rfl,pk,dxp,_,rfl,hpk10,DZ lp,_,rfl,pk,lp,kds its,dus its,rs,Aj (AT (dus its) ms),rfl,W10.okP h6,by rw [AI]; exact h0,RK8.same s810,hjn,fun j due a _ hw=>absurd hw (hfine j due a),fun _ lv qs2 H11 s11 hlv0 hlv hVs=>?_⟩;rw [hmds] at hVs;have s811:=s810.trans s11;have W11:=W10.same s11;have VS11:=VS8.same s811;refine ⟨_,rfl,lv,vl,qs2,qs,rfl,rfl,hlv,s811 _ _ cj,by rw [hVs.lq,VS11.lq],fun i qa qb ha hb=>?_,fun H12 s12=>⟨_,rfl,An ?_⟩⟩
    ·have hlt:i < its.length:=by
      have:=(List.getElem?_eq_some_iff.mp hb).1;have:=VS11.lq;rw [AI] at this;omega
     have hxi:its[i]?=some its[i]:=List.getElem?_eq_getElem hlt;have hmi:ms[i]?=some (ms[i]'(by omega)):=List.getElem?_eq_getElem (by omega);have hki:(kds its)[i]?=some its[i].1:=by rw [getElem?_map,hxi]; rfl
     have hdi:(dus its)[i]?=some its[i].2.2:=by rw [getElem?_map,hxi]; rfl
     obtain ⟨hA,_⟩:=hVs.at_ i qa _ _ _ ha hki hmi hdi;obtain ⟨hB,_⟩:=VS11.at_ i qb _ _ _ hb hki hmi hdi;obtain ⟨rr,kk,_,DO⟩:=W11.kd _ (mem_of_getElem? hxi);have asc:Asc its[i].2.2:=fun p hp=>(DO.nm p hp).2.1;obtain ⟨dxa,ea⟩:=id hA;obtain ⟨dxb,eb⟩:=id hB;refine ⟨⟨_,_,ea⟩,⟨_,_,eb⟩,fun H' Q' s' kq=>?_⟩;refine ⟨qa,.ref qb,its[i].1,_,its[i].2.2,rr,rfl,hA.same s',kk.same s',asc,.inr ⟨qb,its[i].1,_,its[i].2.2,rr,rfl,hB.same s',kk.same s',asc,fun H'' s''=>⟨_,rfl,?_⟩⟩⟩;rw [decide_eq_true ⟨⟨rfl,rfl⟩,rfl⟩];exact kq H'' s''
    ·have sAll:=s811.trans s12;exact hR _ _ ⟨rfl,sAll _ _ cj,VS8.same sAll,NL8.go W8.wb (Rl.same sAll),SL8.go W8.wb (Rl.same sAll),W8.same sAll,R8.trans (Rl.same sAll),RK8.same sAll⟩
   rintro σ H9 ⟨rfl,hvl9,VS9,NL9,SL9,W9,R9,RK9⟩;clear VS8 NL8 SL8 cj R8 W8 RK8;obtain ⟨x9,y9,hd9⟩:=W9.wb.dice;have e1:AU ((dus its).map AX)=(((dus its).map AX).map fun n:Nat=>(n:Int)).map V.int:=Cw _;have e2:(((dus its).map AX).map fun n:Nat=>(n:Int)).sum=((Ba (dus its):Nat):Int):=JF _;have hpw:(1:Int) * 2 ^ ((Ba (dus its):Nat):Int).toNat=((2 ^ Ba (dus its):Nat):Int):=by rw [Int.toNat_natCast,Int.one_mul]; push_cast; rfl
   have hp0:=Nat.two_pow_pos (Ba (dus its));refine ⟨_,rfl,_,rfl,sl,((dus its).map AX).map fun n:Nat=>(n:Int),rfl,SqL.of (by rw [← e1]; exact SL9.at_),(fun n hn=>by obtain ⟨m,_,rfl⟩:=mem_map.mp hn; exact Int.natCast_nonneg _),by rw [e2]; omega,?_⟩;rw [e2];refine ⟨_,_,rfl,rfl,⟨Int.natCast_nonneg _,by omega,by decide⟩,d,x9,y9,((2 ^ Ba (dus its):Nat):Int),congrArg (fun z=>[V.ref d,V.int z]) hpw,hd9,by omega,by rw [Int.natAbs_natCast,Nat.log2_two_pow]; omega,fun r1 a1 b1 r10 r11=>?_⟩;obtain ⟨n,rfl⟩:∃ n':Nat,r1=(n':Int):=⟨r1.toNat,by omega⟩;have hn:n < 2 ^ Ba (dus its):=by omega
   clear r10 r11 hp0;have sx1:SameX d H9 (upd H9 d (.lst [.int a1,.int b1])):=Cg hd9;have W10:=W9.sameX sx1;refine ⟨_,rfl,_,rfl,kl,_,rfl,.inl (SqL.of W10.hkl),d,a1,b1,(its.length:Int),congrArg (fun z:Nat=>[V.ref d,V.int (z:Int)]) hrl,AB,by omega,?_,fun r2 a2 b2 r20 r21=>?_⟩
   ·rw [Int.natAbs_natCast];exact Nat.lt_of_le_of_lt (Nat.log2_le_self _) (by omega)
   obtain ⟨at_,rfl⟩:∃ n':Nat,r2=(n':Int):=⟨r2.toNat,by omega⟩;have hat:at_ < its.length:=by omega
   clear r20 r21;have sx2:=sx1.trans (Cg (x':=a2) (y':=b2) AB);refine ⟨sl2,fun q3 hq3=>⟨q3,_,rfl,SqT.of AB,rfl,_,_,rfl,_,_,rfl,rfl,?_⟩⟩;have sq3:=AD (Same.refl _) hq3 (o:=HO.tup [V.int (n:Int),V.int (at_:Int)]);have Rx:Rl d P0 H9 (upd (upd (upd H9 d (.lst [.int a1,.int b1])) d (.lst [.int a2,.int b2])) q3 (HO.tup [V.int (n:Int),V.int (at_:Int)])):=(Rl.sameX sx2).trans (Rl.same sq3);have W11:=(W9.sameX sx2).same sq3;have kp11:=W9.wb.keeps Rx;have VS11:=VS9.keeps kp11;have RK11:=RK9.keeps kp11;have NL11:=NL9.go W9.wb Rx;have SL11:=SL9.go W9.wb Rx;have hvl11:=kp11 _ _ hvl9 (fun _ _=>Dl) (fun _ z=>nomatch z) (fun _ z=>nomatch z);have RA:=R9.trans Rx;generalize upd (upd (upd H9 d (.lst [.int a1,.int b1])) d (.lst [.int a2,.int b2])) q3 (HO.tup [V.int (n:Int),V.int (at_:Int)])=H11 at W11 VS11 RK11 NL11 SL11 hvl11 RA ⊢;have R11:Rl d P0 H11 H11:=Rl.refl _;clear Rx kp11 sq3 sx2 sx1 W10 VS9 NL9 SL9 hvl9 R9 W9 RK9 hq3;refine ⟨(by show 0 <= sizeLine; decide),fun pl hpl=>⟨_,rfl,_,_,rfl,?_⟩⟩;have spl:=AD (Same.refl _) hpl (o:=HO.lst []);have hpl12:=AB (H:=H11) (a:=pl) (o:=HO.lst []);generalize upd H11 pl (HO.lst [])=H12 at spl hpl12 ⊢
   have hpd:pl ≠ d:=by
    obtain ⟨x,y,e⟩:=W11.wb.dice;exact Ne.symm (AJ e hpl)
   have hwl':(dus its |>.map AX).length=its.length:=by rw [AI,hdl]
   refine ⟨fun σ H'=>∃ v10 v13:Option V,σ=[some (.ref a),some (.ref d),some (.ref kl),some (.ref tl),some (.ref sl),some (.ref nl),some (.int (n:Int)),some (.ref vl),some (.int ((Aj (AT (dus its) ms):Nat):Int)),some (.int ((sw (AT (dus its) ms):Nat):Int)),v10,some (.int (at_:Int)),some (.ref pl),v13,v14,v15,v16,v17,some (.ref pk)]/\Ints d P0 pl (prt (dus its) n) H'/\H' vl=some (.lst (qs.map V.ref))/\VsOk VC H' (kds its) (dus its) qs ms/\Ints d P0 nl ms H'/\Ints d P0 sl ((dus its).map AX) H'/\Wq C PC d P0 kl tl pk lp its H'/\Rl d P0 H11 H'/\RsOk C H' (kds its) (dus its) rs,fun R hR=>?_,?_⟩
   ·refine ⟨_,rfl,sl,rfl,⟨_,SqL.of (spl _ _ SL11.at_)⟩,C8 (K:=K) (a:=sl) (xs:=AU ((dus its).map AX)) (fun i σ H5=>(∃ v10:Option V,σ=[some (.ref a),some (.ref d),some (.ref kl),some (.ref tl),some (.ref sl),some (.ref nl),some (.int (n:Int)),some (.ref vl),some (.int ((Aj (AT (dus its) ms):Nat):Int)),some (.int ((sw (AT (dus its) ms):Nat):Int)),v10,some (.int (at_:Int)),some (.ref pl),some (.int ((n / 2 ^ (((dus its).map AX).take i).sum:Nat):Int)),v14,v15,v16,v17,some (.ref pk)])/\Same H11 H5/\H5 pl=some (.lst (AU ((prt (dus its) n).take i))))
     ⟨⟨_,by rw [take_zero]; show _=[some (.ref a),some (.ref d),some (.ref kl),some (.ref tl),some (.ref sl),some (.ref nl),some (.int (n:Int)),some (.ref vl),some (.int ((Aj (AT (dus its) ms):Nat):Int)),some (.int ((sw (AT (dus its) ms):Nat):Int)),v10,some (.int (at_:Int)),some (.ref pl),some (V.int ((n / 2 ^ 0:Nat):Int)),v14,v15,v16,v17,some (.ref pk)]; rw [Nat.pow_zero,Nat.div_one]; rfl⟩,spl,hpl12⟩ (fun i σ H5 _ ⟨_,s5,_⟩=>SqL.of (s5 _ _ SL11.at_)) ?_ ?_⟩
    ·rintro i v σ H5 hi ⟨⟨v10,rfl⟩,s5,cm⟩;unfold AU at hi;rw [getElem?_map] at hi;obtain ⟨wd,ap,rfl⟩:=Option.map_eq_some_iff.mp hi;have hlt:i < its.length:=by have:=(List.getElem?_eq_some_iff.mp ap).1; omega
     have hw120:wd <= 120:=by
      have hw:=ap;rw [getElem?_map,getElem?_map,List.getElem?_eq_getElem hlt] at hw;cases hw;exact Nat.le_trans (Dk (MA (hDO _ (mem_of_getElem? (List.getElem?_eq_getElem hlt))).lt)) (by decide)
     have bw:(prt (dus its) n)[i]?=some (n / 2 ^ (((dus its).map AX).take i).sum % 2 ^ wd):=by
      unfold prt;rw [FK,ap];rfl
     have dc:n / 2 ^ (((dus its).map AX).take (i + 1)).sum=n / 2 ^ (((dus its).map AX).take i).sum / 2 ^ wd:=by
      rw [take_add_one,ap,Option.toList_some,sum_append,Nat.pow_add,Nat.div_div_eq_div_mul];simp
     have ei:=KC (n / 2 ^ (((dus its).map AX).take i).sum) wd;have es:=ML (n / 2 ^ (((dus its).map AX).take i).sum) wd;rw [← dc] at es;refine ⟨_,rfl,.inl ⟨rfl,_,SqL.of cm⟩,_,rfl,_,rfl,_,_,rfl,rfl,⟨Int.natCast_nonneg _,by omega,by decide⟩,_,_,rfl,rfl,_,_,rfl,rfl,pl,_,_,rfl,rfl,cm,Ad (by unfold AU; rw [AI,length_take,Bf,hdl]; omega),?_⟩;refine ⟨_,rfl,_,rfl,_,_,rfl,rfl,Int.natCast_nonneg _,⟨some (.int (wd:Int)),?_⟩,fun b o e=>?_,?_⟩
     ·rw [← es];rfl
     ·rw [AH (AJ e hpl)];exact s5 _ _ e
     ·rw [AB,take_add_one,bw];unfold AU;rw [map_append];show some (HO.lst (_++[V.int _]))=some (HO.lst (_++[V.int _]));rw [ei]
    ·rintro σ H5 ⟨⟨v10,rfl⟩,s5,cm⟩;refine hR _ _ ⟨_,_,rfl,⟨?_,hpd⟩,s5 _ _ hvl11,VS11.same s5,NL11.go W11.wb (Rl.same s5),SL11.go W11.wb (Rl.same s5),W11.same s5,R11.trans (Rl.same s5),RK11.same s5⟩;rw [cm,show (prt (dus its) n).take (AU ((dus its).map AX)).length=prt (dus its) n from take_of_length_le (by rw [Bf,hdl,hwl]; exact Nat.le_refl _)]
   rintro σ H12 ⟨v10,v13,rfl,PL,hvl12,VS12,NL12,SL12,W12,R12,RK12⟩;have hpl12:(AU (prt (dus its) n)).length=its.length:=by unfold AU; rw [AI,Bf,hdl]
   have htl12:(its.map fun x=>V.ref x.2.1).length=its.length:=AI _;refine ⟨fun σ H'=>∃ (ol:Addr) (os:List V),σ=[some (.ref a),some (.ref d),some (.ref kl),some (.ref tl),some (.ref sl),some (.ref nl),some (.int (n:Int)),some (.ref vl),some (.int ((Aj (AT (dus its) ms):Nat):Int)),some (.int ((sw (AT (dus its) ms):Nat):Int)),v10,some (.int (at_:Int)),some (.ref pl),v13,v14,some (.ref ol),v16,v17,some (.ref pk)]/\H' ol=some (.lst os)/\ol ≠ d/\os.length=its.length/\(∀ (j:Nat) v due r a,os[j]?=some v->(dus its)[j]?=some due->rs[j]?=some r->(prt (dus its) n)[j]?=some a->MoAt H' v due r a)/\Ints d P0 pl (prt (dus its) n) H'/\H' vl=some (.lst (qs.map V.ref))/\VsOk VC H' (kds its) (dus its) qs ms/\Ints d P0 nl ms H'/\Ints d P0 sl ((dus its).map AX) H'/\Wq C PC d P0 kl tl pk lp its H'/\Rl d P0 H11 H'/\RsOk C H' (kds its) (dus its) rs,fun R hR=>?_,?_⟩
   ·refine ⟨_,rfl,_,rfl,_,rfl,kl,tl,pl,rfl,⟨_,SqL.of W12.hkl⟩,⟨_,SqL.of W12.htl⟩,⟨_,SqL.of PL.at_⟩,ND (K:=K) (a:=kl) (b:=tl) (c:=pl) (xs:=FY its) (zs:=its.map fun x=>V.ref x.2.1) (ws:=AU (prt (dus its) n)) (fun i ys H6=>ys.length=i/\i <= its.length/\Same H12 H6/\∀ (j:Nat) v due r a,ys[j]?=some v->(dus its)[j]?=some due->rs[j]?=some r->(prt (dus its) n)[j]?=some a->MoAt H6 v due r a) (by rw [hrl,htl12]) (by rw [hrl,hpl12]) ⟨rfl,Nat.zero_le _,Same.refl _,fun j v due r a e=>by cases e⟩ (fun i ys H6 _ ⟨_,_,s6,_⟩=>⟨SqL.of (s6 _ _ W12.hkl),SqL.of (s6 _ _ W12.htl),SqL.of (s6 _ _ PL.at_)⟩) (fun i ys H6 ⟨e,e2,_⟩=>by omega) ?_ ?_⟩
    ·rintro i zk zt zp ys H6 pp hik hit hip ⟨hyl,hil,s6,hys⟩ hpp;unfold FY at hik;unfold AU at hip;rw [map_map,getElem?_map] at hik;rw [getElem?_map] at hit hip;obtain ⟨x,hx,ez⟩:=Option.map_eq_some_iff.mp hik;have ez':zk=V.ref x.1:=ez.symm;subst ez';clear ez;rw [hx] at hit;have et:zt=V.ref x.2.1:=(Option.some.inj hit).symm;subst et;obtain ⟨p,hp,rfl⟩:=Option.map_eq_some_iff.mp hip;have hlt:=(List.getElem?_eq_some_iff.mp hx).1;have hdi:(dus its)[i]?=some x.2.2:=by rw [getElem?_map,hx]; rfl
     have hki:(kds its)[i]?=some x.1:=by rw [getElem?_map,hx]; rfl
     obtain ⟨r,hri⟩:∃ r,rs[i]?=some r:=⟨_,List.getElem?_eq_getElem (by have:=RK12.lr; rw [AI] at this; omega)⟩;obtain ⟨KA,hr'⟩:=RK12.at_ i x.1 x.2.2 r hki hdi hri;obtain ⟨e',m',ht⟩:=W12.tb x (mem_of_getElem? hx);have s7:=AD s6 hpp (o:=HO.tup [V.ref x.1,V.ref x.2.1,V.int (p:Int)]);have s67:=AD (Same.refl H6) hpp (o:=HO.tup [V.ref x.1,V.ref x.2.1,V.int (p:Int)]);refine ⟨pp,_,rfl,SqT.of AB,rfl,_,_,rfl,_,_,rfl,_,_,rfl,rfl,?_⟩;generalize upd H6 pp (HO.tup [V.ref x.1,V.ref x.2.1,V.int (p:Int)])=H7 at s7 s67 ⊢;have KA7:=KA.same s7;obtain ⟨dxk,d1,d2,hpk⟩:=KA7.ins
     have step:∀ (v:V) H8,Same H7 H8->MoAt H8 v x.2.2 r p->(ys++[v]).length=i + 1/\i + 1 <= its.length/\Same H12 H8/\∀ (j:Nat) v' due r' a,(ys++[v])[j]?=some v'->(dus its)[j]?=some due->rs[j]?=some r'->(prt (dus its) n)[j]?=some a->MoAt H8 v' due r' a:=fun v H8 s8 hm=>by
      refine ⟨by rw [length_append,hyl]; rfl,by omega,s7.trans s8,fun j v' due r' a' g1 g2 g3 g4=>?_⟩;by_cases hj:j < ys.length
      ·rw [getElem?_append_left hj] at g1;exact ((hys j v' due r' a' g1 g2 g3 g4).same s67).same s8
      ·have hj2:j=i:=by
        have:=(List.getElem?_eq_some_iff.mp g1).1;rw [length_append,length_singleton] at this;omega
       subst hj2;rw [getElem?_append_right (by omega),hyl,Nat.sub_self] at g1;cases g1;rw [hdi] at g2;rw [hri] at g3;rw [hp] at g4;cases g2;cases g3;cases g4;exact hm
     refine ⟨_,rfl,_,rfl,x.1,dxk,_,rfl,hpk,(Bz _ _ _),x.1,x.2.2,r,rfl,KA7,_,rfl,x.2.1,e',m',x.2.2,r,(p:Int),rfl,s7 _ _ ht,?_⟩;rw [FS,FL];by_cases hb:EM x.2.2 p ≠ 0/\r = "bar"
     ·exact .inl ⟨hb.1,hb.2,fun q hq=>step _ _ (AD (Same.refl _) hq) (.inl ⟨hb.1,hb.2,q,rfl,AB⟩)⟩
     ·have nk:¬ r = "keep" := fun z=>by
       rw [z] at hr';simp [packRules] at hr';rcases hr' with y | y <;> exact absurd y (by decide +kernel)
      refine .inr (.inr (.inr ⟨hb,Int.natCast_nonneg _,fun z=>?_,?_⟩))
      ·rw [z.2] at hr';simp [packRules] at hr';rcases hr' with y | y <;> exact absurd y (by decide +kernel)
      ·rw [if_neg nk];refine step _ _ (Same.refl _) (.inr ⟨hb,?_⟩);unfold EM;have:=Nat.and_le_left (n:=p) (m:=kn x.2.2);congr 2;omega
    ·rintro ys H6 ⟨hyl,hil,s6,hys⟩ q hq;rw [hrl] at hyl;have sq:=AD s6 hq (o:=HO.lst ys);have sq1:=AD (Same.refl H6) hq (o:=HO.lst ys)
     have hqd:q ≠ d:=by
      obtain ⟨x,y,e⟩:=W12.wb.dice;exact Ne.symm (AJ (s6 _ _ e) hq)
     exact hR _ _ ⟨q,ys,rfl,AB,hqd,hyl,fun j v due r a e1 e2 e3 e4=>(hys j v due r a e1 e2 e3 e4).same sq1,PL.go W12.wb (Rl.same sq),sq _ _ hvl12,VS12.same sq,NL12.go W12.wb (Rl.same sq),SL12.go W12.wb (Rl.same sq),W12.same sq,R12.trans (Rl.same sq),RK12.same sq⟩
   rintro σ H13 ⟨ol,os,rfl,hol,hod,hosl,hos,PL13,hvl13,VS13,NL13,SL13,W13,R13,RK13⟩;clear PL VS12 NL12 SL12 hvl12 R12 W12 RK12
   have hmo:∀ (i:Nat) v,os[i]?=some v->∃ due r a,(dus its)[i]?=some due/\rs[i]?=some r/\(prt (dus its) n)[i]?=some a/\MoAt H13 v due r a:=fun i v hv=>by
    have hlt:i < its.length:=by have:=(List.getElem?_eq_some_iff.mp hv).1; omega
    have g1:(dus its)[i]?=some ((dus its)[i]'(by rw [hdl]; exact hlt)):=List.getElem?_eq_getElem _;have g2:rs[i]?=some (rs[i]'(by have:=RK13.lr; rw [AI] at this; omega)):=List.getElem?_eq_getElem _;have g3:(prt (dus its) n)[i]?=some ((prt (dus its) n)[i]'(by rw [Bf,hdl]; exact hlt)):=List.getElem?_eq_getElem _;exact ⟨_,_,_,g1,g2,g3,hos i v _ _ _ hv g1 g2 g3⟩
   refine ⟨fun σ H'=>∃ wl:Addr,σ=[some (.ref a),some (.ref d),some (.ref kl),some (.ref tl),some (.ref sl),some (.ref nl),some (.int (n:Int)),some (.ref vl),some (.int ((Aj (AT (dus its) ms):Nat):Int)),some (.int ((sw (AT (dus its) ms):Nat):Int)),v10,some (.int (at_:Int)),some (.ref pl),v13,v14,some (.ref ol),some (.ref wl),v17,some (.ref pk)]/\H' wl=some (.lst (os.filter isR))/\wl ≠ d/\H' ol=some (.lst os)/\(∀ (j:Nat) v due r a,os[j]?=some v->(dus its)[j]?=some due->rs[j]?=some r->(prt (dus its) n)[j]?=some a->MoAt H' v due r a)/\Ints d P0 pl (prt (dus its) n) H'/\H' vl=some (.lst (qs.map V.ref))/\VsOk VC H' (kds its) (dus its) qs ms/\Ints d P0 nl ms H'/\Ints d P0 sl ((dus its).map AX) H'/\Wq C PC d P0 kl tl pk lp its H'/\Rl d P0 H11 H'/\RsOk C H' (kds its) (dus its) rs,fun R hR=>?_,?_⟩
   ·refine ⟨_,rfl,ol,rfl,⟨_,SqL.of hol⟩,BE (K:=K) (a:=ol) (xs:=os) (fun i ys H6=>H6=H13/\ys=(os.take i).filter isR) ⟨rfl,rfl⟩ (fun i ys H6 _ ⟨e,_⟩=>e ▸ SqL.of hol) (fun i ys H6 ⟨_,e⟩=>by have:=length_filter_le isR (os.take i); rw [e]; rw [length_take] at this; omega) ?_ ?_⟩
    ·rintro i v ys H6 hi ⟨rfl,rfl⟩;obtain ⟨due,r,a',_,_,_,hm⟩:=hmo i v hi;have ht:(os.take (i + 1)).filter isR=(os.take i).filter isR++[v].filter isR:=by rw [take_add_one,hi,Option.toList_some,List.filter_append]
     rcases hm with ⟨_,_,p,rfl,hp⟩ | ⟨_,rfl⟩
     ·refine ⟨_,rfl,_,_,_,true,rfl,.tup hp,rfl,_,rfl,BC ⟨_,rfl,rfl,?_⟩⟩;rw [ht];rfl
     ·refine ⟨_,rfl,_,_,_,false,rfl,.int _,(by kernel_rfl),_,rfl,An ⟨rfl,?_⟩⟩;rw [ht];exact (append_nil _).symm
    ·rintro ys H6 ⟨rfl,rfl⟩ q hq;have sq:=AD (Same.refl _) hq (o:=HO.lst ((os.take os.length).filter isR))
     have hqd:q ≠ d:=by
      obtain ⟨x,y,e⟩:=W13.wb.dice;exact Ne.symm (AJ e hq)
     refine hR _ _ ⟨q,rfl,by rw [AB,take_length],hqd,sq _ _ hol,fun j v due r a' e1 e2 e3 e4=>(hos j v due r a' e1 e2 e3 e4).same sq,PL13.go W13.wb (Rl.same sq),sq _ _ hvl13,VS13.same sq,NL13.go W13.wb (Rl.same sq),SL13.go W13.wb (Rl.same sq),W13.same sq,R13.trans (Rl.same sq),RK13.same sq⟩
   clear hmo;rintro σ H14 ⟨wl,rfl,hwl14,hwd14,hol14,hos14,PL14,hvl14,VS14,NL14,SL14,W14,R14,RK14⟩;clear PL13 VS13 NL13 SL13 hvl13 R13 W13 RK13 hos hol;refine ⟨fun σ H'=>∃ vf:V,σ=[some (.ref a),some (.ref d),some (.ref kl),some (.ref tl),some (.ref sl),some (.ref nl),some (.int (n:Int)),some (.ref vl),some (.int ((Aj (AT (dus its) ms):Nat):Int)),some (.int ((sw (AT (dus its) ms):Nat):Int)),v10,some (.int (at_:Int)),some (.ref pl),v13,v14,some (.ref ol),some (.ref wl),some vf,some (.ref pk)]/\MR VC its rs n H' vf/\H' wl=some (.lst (os.filter isR))/\H' ol=some (.lst os)/\(∀ (j:Nat) v due r a,os[j]?=some v->(dus its)[j]?=some due->rs[j]?=some r->(prt (dus its) n)[j]?=some a->MoAt H' v due r a)/\Ints d P0 pl (prt (dus its) n) H'/\H' vl=some (.lst (qs.map V.ref))/\VsOk VC H' (kds its) (dus its) qs ms/\Ints d P0 nl ms H'/\Ints d P0 sl ((dus its).map AX) H'/\Wq C PC d P0 kl tl pk lp its H'/\Rl d P0 H11 H'/\RsOk C H' (kds its) (dus its) rs,fun R hR=>?_,?_⟩
   ·have fin:∀ vf H',Rl d P0 H14 H'->Wb d P0 H'->MR VC its rs n H' vf->R [some (.ref a),some (.ref d),some (.ref kl),some (.ref tl),some (.ref sl),some (.ref nl),some (.int (n:Int)),some (.ref vl),some (.int ((Aj (AT (dus its) ms):Nat):Int)),some (.int ((sw (AT (dus its) ms):Nat):Int)),v10,some (.int (at_:Int)),some (.ref pl),v13,v14,some (.ref ol),some (.ref wl),some vf,some (.ref pk)] H':=fun vf H' rl wb' hf=>by
     have kp:=W14.wb.keeps rl;exact hR _ _ ⟨vf,rfl,hf,rl _ _ hwl14 hwd14 (TabOk.ne hwl14 W14.wb.tab) (fun _ z=>nomatch z),rl _ _ hol14 hod (TabOk.ne hol14 W14.wb.tab) (fun _ z=>nomatch z),fun j v due r a' e1 e2 e3 e4=>(hos14 j v due r a' e1 e2 e3 e4).keeps kp,PL14.go W14.wb rl,kp _ _ hvl14 (fun _ _=>Dl) (fun _ z=>nomatch z) (fun _ z=>nomatch z),VS14.keeps kp,NL14.go W14.wb rl,SL14.go W14.wb rl,W14.go rl wb',R14.trans rl,RK14.keeps kp⟩
    refine ⟨W14.wb.tab,fun H15 sB hT15=>?_⟩;have wb15:=W14.wb.sameB sB hT15;have R15:Rl d P0 H14 H15:=Rl.sameB sB;have W15:=W14.go R15 wb15;have RK15:=RK14.keeps (W14.wb.keeps R15);obtain ⟨dxp,hpk15⟩:=W15.pack;refine ⟨_,rfl,pk,dxp,_,rfl,hpk15,DZ lp,_,rfl,pk,lp,kds its,dus its,rs,n,rfl,W15.okP h6,by rw [AI]; exact h0,RK15,hn,fun j due a' hF hw=>?_,fun hF lv qs2 H16 s16 hlv0 hlv hVs=>?_⟩
    ·intro e dd H16 s16 he hdd aw h1 h2;refine ⟨cR,rfl,fun e' he'=>.inr ⟨1,dd,.int ((EM due a':Nat):Int),EF,rfl,?_,fun p H17 s17 hp=>?_⟩⟩
     ·unfold del;rw [if_neg (fun z=>by rw [z,he'] at h2; cases h2)];exact h2
     ·obtain ⟨wb17,rl17⟩:=wb15.exc s16 he' s17;exact fin _ _ (R15.trans rl17) wb17 (.inl ⟨j,due,a',p,hF,hw,rfl,hp⟩)
    ·exact fin _ _ (R15.trans (Rl.same s16)) (wb15.same s16) (.inr ⟨hF,lv,qs2,rfl,hlv,hVs⟩)
   rintro σ H15 ⟨vf,rfl,hfo,hwl15,hol15,hos15,PL15,hvl15,VS15,NL15,SL15,W15,R15,RK15⟩;clear PL14 VS14 NL14 SL14 hvl14 R14 W14 RK14 hos14 hol14 hwl14;have hrs:rs.length=(dus its).length:=by have:=RK15.lr; rw [AI] at this; rw [AI]; exact this
   have df:os.length=(dus its).length:=by rw [hosl,hdl]
   refine ⟨fun σ H'=>σ=[some (.ref a),some (.ref d),some (.ref kl),some (.ref tl),some (.ref sl),some (.ref nl),some (.int (n:Int)),some (.ref vl),some (.int ((Aj (AT (dus its) ms):Nat):Int)),some (.int ((sw (AT (dus its) ms):Nat):Int)),v10,some (.int (at_:Int)),some (.ref pl),v13,v14,some (.ref ol),some (.ref wl),some vf,some (.ref pk)]/\Ints d P0 pl (prt (dus its) n) H'/\Rl d P0 H11 H'/\Wb d P0 H',fun R hR=>?_,?_⟩
   ·refine ⟨_,rfl,Nat.zero_le _,fun p hp=>?_⟩;have sp:=AD (Same.refl _) hp (o:=HO.lst []);have hpn:=AB (H:=H15) (a:=p) (o:=HO.lst []);generalize upd H15 p (HO.lst [])=H16 at sp hpn ⊢;have hos16:∀ (j:Nat) v due r a,os[j]?=some v->(dus its)[j]?=some due->rs[j]?=some r->(prt (dus its) n)[j]?=some a->MoAt H16 v due r a:=fun j v due r a e1 e2 e3 e4=>(hos15 j v due r a e1 e2 e3 e4).same sp;obtain ⟨ds,hds,cn,hdsc⟩:=RI (K:=K) (Nn df hrs hos16);have hwl16:=sp _ _ hwl15;have W16:=W15.same sp;have fin:∀ H',Same H16 H'->R [some (.ref a),some (.ref d),some (.ref kl),some (.ref tl),some (.ref sl),some (.ref nl),some (.int (n:Int)),some (.ref vl),some (.int ((Aj (AT (dus its) ms):Nat):Int)),some (.int ((sw (AT (dus its) ms):Nat):Int)),v10,some (.int (at_:Int)),some (.ref pl),v13,v14,some (.ref ol),some (.ref wl),some vf,some (.ref pk)] H':=fun H' s=>hR _ _ ⟨rfl,(PL15.go W15.wb (Rl.same sp)).go W16.wb (Rl.same s),(R15.trans (Rl.same sp)).trans (Rl.same s),W16.wb.same s⟩;refine ⟨.list ds,.list [],BV hwl16 hds,BV hpn Iu,DV hdsc,G1,_,rfl,?_⟩;rw [Lx];rcases hfo with ⟨j,due,a',pf,hF,hw,rfl,hpf⟩ | ⟨hF,lv,qs2,rfl,hlv,hVs⟩
    ·obtain ⟨pw,rest,hfi,hpw'⟩:=KK df hrs hos16 hF hw;rw [hfi] at cn hwl16;cases ds with
     | nil=>cases cn
     | cons d0 dr =>
      refine BC ⟨_,rfl,_,rfl,wl,_,0,.ref pw,rfl,rfl,SqL.of hwl16,A1 (j:=0) rfl,_,_,HG (sp _ _ hpf),HG hpw',FU (by decide +kernel) (by decide +kernel),FU (by decide +kernel) (by decide +kernel),_,rfl,?_⟩;rw [Ps];exact An (fin _ (Same.refl _))
    ·have hon:=LI df hrs hos16 hF;rw [hon,KH] at cn;cases ds with
     | cons d0 dr=>cases cn
     | nil =>
      have hVs16:=hVs.same sp;have hlv16:=sp _ _ hlv;have hql2:=hVs.lq;rw [AI] at hql2;have hm2:(mds (dus its) n).length=its.length:=by rw [Fo,hdl]
      refine An ⟨_,rfl,lv,rfl,⟨_,SqL.of hlv16⟩,BE (K:=K) (a:=lv) (xs:=qs2.map V.ref) (fun i ys H6=>ys=AU ((mds (dus its) n).take i)/\Same H16 H6) ⟨rfl,Same.refl _⟩ (fun i ys H6 _ ⟨_,s6⟩=>SqL.of (s6 _ _ hlv16)) (fun i ys H6 ⟨e,_⟩=>by rw [e]; unfold AU; rw [AI,length_take]; omega) ?_ ?_⟩
      ·rintro i v ys H6 hi ⟨rfl,s6⟩;rw [getElem?_map] at hi;obtain ⟨q,hq,rfl⟩:=Option.map_eq_some_iff.mp hi;have hlt:i < its.length:=by have:=(List.getElem?_eq_some_iff.mp hq).1; omega
       have hxi:its[i]?=some its[i]:=List.getElem?_eq_getElem hlt;have hki:(kds its)[i]?=some its[i].1:=by rw [getElem?_map,hxi]; rfl
       have hdi':(dus its)[i]?=some its[i].2.2:=by rw [getElem?_map,hxi]; rfl
       have hmi:(mds (dus its) n)[i]?=some ((mds (dus its) n)[i]'(by omega)):=List.getElem?_eq_getElem _;obtain ⟨hA,_⟩:=hVs16.at_ i q _ _ _ hq hki hmi hdi';have hA6:=hA.same s6;obtain ⟨dxa,ea⟩:=id hA6;refine ⟨_,rfl,q,dxa,_,rfl,ea,Lz _ _ (by decide +kernel) (by decide +kernel),q,_,_,rfl,hA6,?_,s6⟩;rw [take_add_one,hmi];unfold AU;rw [map_append];rfl
      ·rintro ys H6 ⟨rfl,s6⟩ q hq;have sq:=AD s6 hq (o:=HO.lst (AU ((mds (dus its) n).take (qs2.map V.ref).length)));have hqn:=AB (H:=H6) (a:=q) (o:=HO.lst (AU ((mds (dus its) n).take (qs2.map V.ref).length)));rw [show (mds (dus its) n).take (qs2.map V.ref).length=mds (dus its) n from take_of_length_le (by rw [AI]; omega)] at sq hqn ⊢;have hol16:=sq _ _ (sp _ _ hol15);rw [hon] at hol16;refine ⟨_,rfl,_,_,BV hqn (DU _),BV hol16 (DU _),CM _,CM _,_,rfl,?_⟩;rw [Dr];exact An (fin _ sq)
   rintro σ H16 ⟨rfl,PL16,R16,wb16⟩;clear PL15 VS15 NL15 SL15 hvl15 R15 W15 RK15 hos15 hol15 hwl15 hfo;have hai:its[at_]?=some its[at_]:=List.getElem?_eq_getElem hat;have hak:(kds its)[at_]?=some its[at_].1:=by rw [getElem?_map,hai]; rfl
   have had:(dus its)[at_]?=some its[at_].2.2:=by rw [getElem?_map,hai]; rfl
   obtain ⟨m,hm⟩:∃ m,ms[at_]?=some m:=⟨_,List.getElem?_eq_getElem (by omega)⟩;obtain ⟨qa,hqa⟩:∃ q,qs[at_]?=some q:=⟨_,List.getElem?_eq_getElem (by have:=VS11.lq; rw [AI] at this; omega)⟩;have hmw:=(VS11.at_ _ _ _ _ _ hqa hak hm had).2;have haw:((dus its).map AX)[at_]?=some (AX its[at_].2.2):=by rw [getElem?_map,had]; rfl
   have hix:ixN (AU (prt (dus its) n)).length ((at_:Nat):Int)=some at_:=by
    unfold ixN;rw [if_pos (Int.natCast_nonneg _),if_pos (by rw [hpl12]; omega),Int.toNat_natCast]
   have hset:(AU (prt (dus its) n)).set at_ (.int (m:Int))=AU ((prt (dus its) n).set at_ m):=by unfold AU; rw [List.map_set]
   refine ⟨_,rfl,_,rfl,nl,_,(at_:Int),.int (m:Int),rfl,rfl,SqL.of (NL11.go W11.wb R16).at_,A1 (by unfold AU; rw [getElem?_map,hm]; rfl),_,rfl,_,rfl,pl,_,(at_:Int),at_,rfl,rfl,PL16.at_,hix,?_⟩;rw [hset];have wb17:Wb d P0 (upd H16 pl (.lst (AU ((prt (dus its) n).set at_ m)))):=wb16.put PL16.at_ hpd
   have R17:Rl d P0 H11 (upd H16 pl (.lst (AU ((prt (dus its) n).set at_ m)))):=fun b o e h1 h2 h3=>by
    rw [AH (AJ e hpl)];exact R16 b o e h1 h2 h3
   have hpl17:=AB (H:=H16) (a:=pl) (o:=HO.lst (AU ((prt (dus its) n).set at_ m)));generalize upd H16 pl (HO.lst (AU ((prt (dus its) n).set at_ m)))=H17 at wb17 R17 hpl17 ⊢;clear PL16 wb16 R16;refine ⟨sl2,fun q4 hq4=>⟨q4,_,rfl,SqT.of AB,rfl,_,_,rfl,_,_,rfl,rfl,?_⟩⟩;have sq4:=AD (Same.refl _) hq4 (o:=HO.tup [V.int 0,V.int 0]);have wb18:=wb17.same sq4;have R18:=R17.trans (Rl.same sq4);have hpl18:=sq4 _ _ hpl17;generalize upd H17 q4 (HO.tup [V.int 0,V.int 0])=H18 at wb18 R18 hpl18 ⊢;clear wb17 R17 hpl17 sq4 hq4;have SL18:=SL11.go W11.wb R18;have hxs:(AU ((prt (dus its) n).set at_ m)).length=its.length:=by unfold AU; rw [AI,length_set,Bf,hdl]
   have hfit2:Fit (((prt (dus its) n).set at_ m).zip ((dus its).map AX)):=RJ (IL _ _) haw hmw;have hzl:(((prt (dus its) n).set at_ m).zip ((dus its).map AX)).length=its.length:=by rw [length_zip,length_set,Bf,hwl',hdl,Nat.min_self]
   have hz2:sw (((prt (dus its) n).set at_ m).zip ((dus its).map AX))=Ba (dus its):=Fk (ns:=(prt (dus its) n).set at_ m) (by rw [length_set,Bf]);refine ⟨fun σ H'=>∃ v9 v10 v14:Option V,σ=[some (.ref a),some (.ref d),some (.ref kl),some (.ref tl),some (.ref sl),some (.ref nl),some (.int (n:Int)),some (.ref vl),some (.int ((Sj (dus its) n at_ m:Nat):Int)),v9,v10,some (.int (at_:Int)),some (.ref pl),v13,v14,some (.ref ol),some (.ref wl),some vf,some (.ref pk)]/\Same H18 H',fun R hR=>?_,?_⟩
   ·refine ⟨_,rfl,_,rfl,pl,sl,rfl,⟨_,SqL.of hpl18⟩,⟨_,SqL.of SL18.at_⟩,Fg (K:=K) (a:=pl) (b:=sl) (xs:=AU ((prt (dus its) n).set at_ m)) (zs:=AU ((dus its).map AX)) (fun i σ H8=>(∃ v10 v14:Option V,σ=[some (.ref a),some (.ref d),some (.ref kl),some (.ref tl),some (.ref sl),some (.ref nl),some (.int (n:Int)),some (.ref vl),some (.int ((Aj ((((prt (dus its) n).set at_ m).zip ((dus its).map AX)).take i):Nat):Int)),some (.int ((sw ((((prt (dus its) n).set at_ m).zip ((dus its).map AX)).take i):Nat):Int)),v10,some (.int (at_:Int)),some (.ref pl),v13,v14,some (.ref ol),some (.ref wl),some vf,some (.ref pk)])/\Same H18 H8) (by rw [hxs,hwl]) ⟨⟨_,_,rfl⟩,Same.refl _⟩ (fun i σ H8 _ ⟨_,s8⟩=>⟨SqL.of (s8 _ _ hpl18),SqL.of (s8 _ _ SL18.at_)⟩) ?_ ?_⟩
    ·rintro i z zk σ H8 pp hi hk ⟨⟨v10,v14,rfl⟩,s8⟩ hpp;unfold AU at hi hk;rw [getElem?_map] at hi hk;obtain ⟨m1,hm1,rfl⟩:=Option.map_eq_some_iff.mp hi;obtain ⟨wd,ap,rfl⟩:=Option.map_eq_some_iff.mp hk;have hsw:=EL (((prt (dus its) n).set at_ m).zip ((dus its).map AX)) i;rw [hz2] at hsw;have s9:=AD s8 hpp (o:=HO.tup [V.int (m1:Int),V.int (wd:Int)]);have bt:(((prt (dus its) n).set at_ m).zip ((dus its).map AX))[i]?=some (m1,wd):=getElem?_zip_eq_some.mpr ⟨hm1,ap⟩;have hlt:i < its.length:=by have:=(List.getElem?_eq_some_iff.mp bt).1; omega
     have hw20:wd <= 20:=by
      have hw:=ap;rw [getElem?_map,getElem?_map,List.getElem?_eq_getElem hlt] at hw;cases hw;exact Dk (MA (hDO _ (mem_of_getElem? (List.getElem?_eq_getElem hlt))).lt)
     have h64:m1 < 2 ^ 64:=Nat.lt_of_lt_of_le (hfit2 _ (mem_of_getElem? bt)) (Nat.pow_le_pow_right (by decide) (by show wd <= 64; omega))
     have ht:(((prt (dus its) n).set at_ m).zip ((dus its).map AX)).take (i + 1)=(((prt (dus its) n).set at_ m).zip ((dus its).map AX)).take i++[(m1,wd)]:=by
      rw [take_add_one,bt];rfl
     refine ⟨pp,_,rfl,SqT.of AB,rfl,_,_,rfl,_,_,rfl,rfl,?_⟩;refine ⟨_,rfl,_,rfl,_,rfl,_,_,rfl,rfl,⟨Int.natCast_nonneg _,by omega,by rw [Int.natAbs_natCast]; exact h64⟩,_,_,rfl,rfl,_,rfl,_,rfl,_,_,rfl,rfl,_,_,rfl,⟨some (.int (wd:Int)),some (.int (m1:Int)),?_⟩,s9⟩;have e2:Builtin.bitOr ((Aj ((((prt (dus its) n).set at_ m).zip ((dus its).map AX)).take i):Nat):Int) ((m1:Int) * 2 ^ ((sw ((((prt (dus its) n).set at_ m).zip ((dus its).map AX)).take i):Nat):Int).toNat)=((Aj ((((prt (dus its) n).set at_ m).zip ((dus its).map AX)).take (i + 1)):Nat):Int):=by rw [Fp,B8,FJ (HD hfit2 i) m1 wd,← ht]
     have e3:((sw ((((prt (dus its) n).set at_ m).zip ((dus its).map AX)).take i):Nat):Int) + (wd:Int)=((sw ((((prt (dus its) n).set at_ m).zip ((dus its).map AX)).take (i + 1)):Nat):Int):=by rw [ht,JH]; push_cast; rfl
     rw [← e2,← e3];rfl
    ·rintro σ H8 ⟨⟨v10,v14,rfl⟩,s8⟩;rw [hxs,show (((prt (dus its) n).set at_ m).zip ((dus its).map AX)).take its.length=(((prt (dus its) n).set at_ m).zip ((dus its).map AX)) from take_of_length_le (by rw [hzl]; exact Nat.le_refl _)];exact hR _ _ ⟨_,_,_,rfl,s8⟩
   rintro σ H19 ⟨v9,v10',v14',rfl,s19⟩;have R19:=R18.trans (Rl.same s19);have wb19:=wb18.same s19;have W19:=W11.go R19 wb19;have kp19:=W11.wb.keeps R19;have VS19:=VS11.keeps kp19;have hvl19:=kp19 _ _ hvl11 (fun _ _=>Dl) (fun _ z=>nomatch z) (fun _ z=>nomatch z);obtain ⟨dxp,hpk19⟩:=W19.pack;refine ⟨_,rfl,pk,dxp,_,rfl,hpk19,DZ lp,_,rfl,_,rfl,_,rfl,_,rfl,vl,_,(at_:Int),.ref qa,rfl,rfl,SqL.of hvl19,A1 (by rw [getElem?_map,hqa]; rfl),pk,lp,qa,_,kds its,dus its,_,n,at_,m,rfl,W19.okP h6,hn,hak,had,(VS19.at_ _ _ _ _ _ hqa hak hm had).1,hmw,fun H20 s20=>?_⟩;refine ⟨_,rfl,rfl,_,rfl,?_⟩;rw [decide_eq_true rfl];refine An ?_;have R6:Rl d P0 H2 H20:=((R0.trans RA).trans R19).trans (Rl.same s20);refine ⟨⟨_,_,_,_,_,_,_,_,_,_,_,_,_,_,_,_,_,_,rfl⟩,R6 _ _ hl2 hld hlP (fun _ z=>nomatch z),(wb19.same s20).tab,fun j b hj e=>?_⟩
   have hbd:b ≠ d:=fun z=>by
    subst z;obtain ⟨hj2,ej⟩:=List.getElem?_eq_some_iff.mp e;obtain ⟨hi2,ei⟩:=List.getElem?_eq_some_iff.mp hdi;exact (List.pairwise_iff_getElem.mp nd') i j hi2 hj2 (by omega) (by rw [ei,ej])
   obtain ⟨x5,y5,e5⟩:=hds j b (by omega) e;exact ⟨x5,y5,R6 _ _ e5 hbd (TabOk.ne e5 hT2) (fun _ z=>nomatch z)⟩
  ·rintro σ H2 ⟨⟨v1,v2,v3,v4,v5,v6,v7,v8,v9,v10,v11,v12,v13,v14,v15,v16,v17,v18,rfl⟩,_,_,_⟩;exact k _
end
theorem Rc {dt:Addr} {tk:Tok} {kV doc pm ad ct:Value} {an:Option Addr} {n:Nat} (hd:K.lookup dt=some ⟨.type "tuple", none,.seq #[.str "" tk] n,#[]⟩) :
  Binds K (W.fnOf "__init__" "MarkError.__init__" (defArgs Az) (defBody Az) (defScope Az) (.ref dt) kV doc pm an ad ct) ["self", "words"] []:=by
 intro s us hK hl
 have hl2:us.length=2:=by
  rw [append_nil] at hl;exact hl
 match us,hl2 with
 | [u1,u2],_ =>
  have ho:=hK _ _ hd;intro M A E Q hq;unfold bindArgs;simp only [W.fnOf]
  repeat (first | with_reducible refine wpAny_seqItems ho rfl ?_ | (with_reducible refine wpAny_bind (wpAny_seqItems ho rfl ?_)) | wp_step)
  exact Eq.mp (congrArg (fun z=>Q z s) (by kernel_rfl)) hq
theorem LJ {h:Heap} {N:Addr} {n:Str} {v:Value} (X:K.In h) (G:h.Ns N mg) (e:W.nsIn K N n=some (some v)):mg n=some v:=by
 obtain ⟨o,es,ep,ho,hd,_,hf⟩:=G;unfold W.nsIn at e;split at e
 ·rename_i c d es' n' sl q;have:=X _ _ q;rw [ho] at this;cases this;cases hd;split at e
  ·rename_i he;cases e;rw [← hf];unfold nsFind findBy;rw [← Array.find?_toList,he];rfl
  ·split at e <;> cases e
 ·cases e
theorem RL {kV doc pm ad ct:Value} {an:Option Addr} :
  KZ K (W.fnOf "__init__" "Kind.__init__" (defArgs BF) (defBody BF) (defScope BF) .none kV doc pm an ad ct) ["self", "rows", "rest"] ["rest"] gU3 gV3:=by
 refine ⟨fun s us ws _ hl=>?_,fun {vs us zs ws} r rz=>?_⟩
 ·unfold gU3 at hl ⊢;split at hl
  ·exact .of_eq (by kernel_rfl)
  ·cases hl
 ·cases r with
  | nil=>exact .nil
  | cons r1 rr =>
   cases rr with
   | nil=>exact .nil
   | cons r2 rr =>
    cases rr with
    | cons _ _=>exact .nil
    | nil =>
     cases rz with
     | nil=>exact .nil
     | cons z1 zz =>
      cases zz with
      | nil=>exact .cons r1 (.cons r2 (.cons z1 .nil))
      | cons _ _=>exact .nil
theorem So {kd:Addr} {v doc pm ad ct:Value} {an:Option Addr} (ok:W.nsOkIn K kd=true) (e:W.nsIn K kd "rest" = some (some v)) :
  Binds K (W.fnOf "__init__" "Kind.__init__" (defArgs BF) (defBody BF) (defScope BF) .none (.ref kd) doc pm an ad ct) ["self", "rows", "rest"] [v]:=by
 intro s us hK hl
 have hl2:us.length=2:=by
  rw [length_append] at hl;exact Nat.succ.inj hl
 match us,hl2 with
 | [u1,u2],_ =>
  have G:s.heap.Ns kd (s.heap.nsMap kd):=.of_isNs (W.isNs_of_in hK ok);have hm:s.heap.nsMap kd "rest" = some v:=LJ hK G e;intro M A E Q hq;unfold bindArgs;simp only [W.fnOf]
  repeat (first | (with_reducible refine wpAny_nsGet G ?_; rw [hm]) | wp_step)
  exact Eq.mp (congrArg (fun z=>Q z s) (by kernel_rfl)) hq
end Mk
end
section
namespace Mk
open PySem L2 MK PySem.W
noncomputable abbrev fO (x q:Str) (s:Stmt):=fnOf x q (defArgs s) (defBody s) (defScope s)
theorem Et {K:Frag} {C:Addr} {T:String} (h:isClsIn K C=true) (h2:typeIn K (.ref C)=some (.type "type")) (e:subIn K (.type T) (.ref C)=some false):kitOne K (.type T) (.ref C)=some false:=by
 unfold kitOne;rw [if_neg (by simp)];unfold kitCls;show (if _ then _ else _)=_;rw [if_pos (by unfold isClsIn at h; rw [h,h2]; simp)];exact e
theorem RM {K:Frag} {C M:Addr} {f:Str} (h:(clsIn K C).map (fun cd=>(cd.mro,cd.hasDict))=some (Dx C M,true)) (n:findIn K (.ref C) f=some none) (s:findIn K (.ref C) "__setattr__" = some (some (.builtin "object.__setattr__"))):Og K C M f:=by
 obtain ⟨cd,e,z⟩:=Option.map_eq_some_iff.mp h;exact ⟨⟨cd,e,congrArg Prod.fst z,congrArg Prod.snd z⟩,n,s⟩
noncomputable def KL (K:Frag) (c P:Addr):Bool:=match K.lookup c with
 | some ⟨.type "code", _,.fields vs,_⟩=>(match (vs[11]?:Option Value),vs.getD 18 Value.none,vs.getD 7 Value.none,vs.getD 9 Value.none,vs.getD 10 Value.none with
  | some (.ref p),.str _ _,.int _ _,.bool _,.int _ _=>p == P && !(c == P)
  | _,_,_,_,_=>false)
 | _=>false
theorem codeHd_of {K:Frag} {h:Heap} {c P:Addr} (X:K.In h) (q:KL K c P=true):CodeHd h c P:=by
 unfold KL at q;split at q
 ·rename_i d vs sl ho;split at q
  ·rename_i p f tf fl tg b tx tt h11 h18 h7 h9 h10;rw [Bool.and_eq_true,beq_iff_eq] at q;obtain ⟨rfl,hn⟩:=q;refine ⟨_,vs,f,tf,fl,tg,b,tx,tt,X _ _ ho,rfl,rfl,h11,?_,h18,h7,h9,h10,fun z=>by simp [z] at hn⟩;rw [Array.getD_eq_getD_getElem?,h11];rfl
  ·cases q
 ·cases q
section
variable {P:Program} {w:World} {K:Frag} {mg:SV} {base:Heap} {x q:Str} {st:Stmt} {k:Nat} {ps:List Str} {sp:Sp} {f C:Addr} {fd:FuncData} {p1 p2 p3 p4 p5:Str}
theorem fnT (F:Fun K x x st f fd) (ok:Ae P w K mg base CX0 k f fd ps sp) (m:mg x=some (.ref f)) (b:Binds K fd ps []):Fn P w K mg base x k ps sp:=⟨⟨f,fd,ok,m,F.kp,b⟩⟩
theorem mtT (a:findIn K (.ref C) x=some (some (.ref f))) (i:isFn K (.ref f)=true) (F:Fun K x q st f fd) (ok:Ae P w K mg base CX0 k f fd ps sp) (b:Binds K fd ps []):Mt P w K mg base C x k ps sp:=⟨⟨f,fd,ok,⟨a,i,F.kp⟩,b⟩⟩
noncomputable abbrev fB (x q:Str) (st:Stmt) (kV doc pm:Value) (an:Option Addr) (ad ct:Value) (us:List Value):Sem (List (Str × Value)):=bindArgs (fO x q st .none kV doc pm an ad ct) ⟨us,[]⟩
theorem bi1 (F:Fun K x q st f fd) (h:∀ a b c d e g u1,fB x q st a b c d e g [u1]=pure [(p1,u1)]):Binds K fd [p1] []:=F.binds fun _ _ _ _ _ _ us hl=>match us,hl with | [_],_=>h ..
theorem bi2 (F:Fun K x q st f fd) (h:∀ a b c d e g u1 u2,fB x q st a b c d e g [u1,u2]=pure [(p1,u1),(p2,u2)]):Binds K fd [p1,p2] []:=F.binds fun _ _ _ _ _ _ us hl=>match us,hl with | [_,_],_=>h ..
theorem bi3 (F:Fun K x q st f fd) (h:∀ a b c d e g u1 u2 u3,fB x q st a b c d e g [u1,u2,u3]=pure [(p1,u1),(p2,u2),(p3,u3)]):Binds K fd [p1,p2,p3] []:=F.binds fun _ _ _ _ _ _ us hl=>match us,hl with | [_,_,_],_=>h ..
theorem bi4 (F:Fun K x q st f fd) (h:∀ a b c d e g u1 u2 u3 u4,fB x q st a b c d e g [u1,u2,u3,u4]=pure [(p1,u1),(p2,u2),(p3,u3),(p4,u4)]):Binds K fd [p1,p2,p3,p4] []:=F.binds fun _ _ _ _ _ _ us hl=>match us,hl with | [_,_,_,_],_=>h ..
end
def DG (K:Frag) (x:Str) (st:Stmt):Prop:=∃ f fd,nsIn K mainGlobals x=some (some (.ref f))/\Fun K x x st f fd
def DM (K:Frag) (C:Addr) (x q:Str) (st:Stmt):Prop:=∃ f fd,findIn K (.ref C) x=some (some (.ref f))/\isFn K (.ref f)=true/\(∃ o,K.lookup f=some o/\o.cls=.type "function")/\Fun K x q st f fd
structure CF (K:Frag) (C:Addr):Prop where
 pg:plainGet K C Str.empty=true
 hd:hasDictIn K C=true
 po:plainOver K C=true
 sa:findIn K (.ref C) "__setattr__" = some (some (.builtin "object.__setattr__"))
 mz:makesIn K C=true
 kc:keepIn K (.ref C)=true
 qa:findIn K (.ref C) "__class__" = some (some (.builtin "object.__class__"))
 qm:mroIn K C (.type "object")=some true
 ql:isClsIn K C=true
 qy:typeIn K (.ref C)=some (.type "type")
 qs:subIn K (.type "list") (.ref C)=some false
 qi:subIn K (.type "int") (.ref C)=some false
 qt:subIn K (.type "tuple") (.ref C)=some false
 ne:findIn K (.ref C) "__ne__" = some (some (.builtin "object.__ne__"))
structure XF (K:Frag) (ec:Nat->Addr) (C:Addr) (j:Nat):Prop where
 cx:L2.Ay K C=true
 ga:findIn K (.ref C) "__getattribute__" = some (some (.builtin "BaseException.__getattribute__"))
 gr:findIn K (.ref C) "__getattr__" = some none
 gb:mroIn K C (.type "BaseException")=some true
 kc:(clsIn K C).isSome=true
 ka:findIn K (.ref C) "__class__" = some (some (.builtin "object.__class__"))
 km:mroIn K C (.type "object")=some true
 kt:((List.range 11).all fun i=>i == j || decide (kitOne K (.ref C) (.ref (ec i))=some false))=true
 tv:kitOne K (.ref C) (.type "ValueError")=some true
 ke:keepIn K (.ref C)=true
theorem XF.at {K:Frag} {ec:Nat->Addr} {C:Addr} {j:Nat} (F:XF K ec C j) (hj:j < 11) (e:C=ec j) (qn:specialIn K (.builtin "object.__class__") "__get__" = some (some (.builtin "getset_descriptor.__get__"))) (qt:takesIn K (.builtin "object.__class__")=some true):MC K ec C j:=by
 refine ⟨hj,⟨⟨F.ga,F.gr,F.gb⟩,F.kc,F.ka,qn,qt,F.km⟩,fun i hi=>?_,F.tv⟩;have h:=List.all_eq_true.mp F.kt i (mem_range.mpr hi);rw [Bool.or_eq_true] at h;rcases h with z | z
 ·rw [eq_of_beq z,e,decide_eq_true rfl];exact Cd K _
 ·by_cases q:i=j
  ·rw [q,e,decide_eq_true rfl];exact Cd K _
  ·rw [decide_eq_false q];exact of_decide_eq_true z
structure XP (K:Frag) (ec:Nat->Addr) (cM C f:Addr) (j:Nat):Prop where
 F:XF K ec C j
 n:((List.range 4).all fun i=>!(C5 K C).contains (.ref (ec i)))=true
 m:(C5 K C).contains (.ref cM)=true
 i:findIn K (.ref C) "__init__" = some (some (.ref f))
theorem XP.pl {K:Frag} {ec:Nat->Addr} {cM C f:Addr} {j:Nat} (F:XP K ec cM C f j) (hj:j < 11) (e:C=ec j) (qn:specialIn K (.builtin "object.__class__") "__get__" = some (some (.builtin "getset_descriptor.__get__"))) (qt:takesIn K (.builtin "object.__class__")=some true):PY K ec cM C j:=by
 have h:∀ i,i < 4->(C5 K C).contains (.ref (ec i))=false:=fun i hi=>by
  have:=List.all_eq_true.mp F.n i (mem_range.mpr hi);rw [Bool.not_eq_true'] at this;exact this
 exact ⟨F.F.at hj e qn qt,F.F.cx,h 0 (by decide),h 1 (by decide),h 2 (by decide),h 3 (by decide),F.m⟩
structure XL (K:Frag) (ec:Nat->Addr) (cM C:Addr) (j:Nat) (fld:Str):Prop where
 F:XF K ec C j
 n:((List.range j).all fun i=>!(C5 K C).contains (.ref (ec i)))=true
 m:(C5 K C).contains (.ref (ec j))=true
 gh:hasDictIn K C=true
 gn:findIn K (.ref C) fld=some none
 gs:findIn K (.ref C) "__setattr__" = some (some (.builtin "object.__setattr__"))
 s:(clsIn K C).map (fun cd=>(cd.mro,cd.hasDict))=some (Dx C cM,true)
theorem XL.fl {K:Frag} {ec:Nat->Addr} {cM C:Addr} {j:Nat} (F:XL K ec cM C j (HS j)) (hj:j < 4) (e:C=ec j) (qn:specialIn K (.builtin "object.__class__") "__get__" = some (some (.builtin "getset_descriptor.__get__"))) (qt:takesIn K (.builtin "object.__class__")=some true):MD K ec C j:=by
 refine ⟨F.F.at (by omega) e qn qt,F.F.cx,hj,fun i hi=>?_,F.m,⟨⟨F.F.ga,F.F.gr,F.F.gb⟩,F.gh,F.gn⟩⟩;have:=List.all_eq_true.mp F.n i (mem_range.mpr hi);rw [Bool.not_eq_true'] at this;exact this
theorem all_mk {l:OpenLaw} {w:World} {K:Frag} {h:Heap} {mg:SV} {fz C VC PC aR kd dt cM c P0 e0 e1 e2 e3 e4 e5 e6 e7 e8 e9 e10 fin fei fla:Addr} (X:K.In h) (G:h.Ns mainGlobals mg) (hfa:mg "law" = some (.ref fz))
  {ocla kVla dcla pmla ctla ocin dcin pmin cdin ctin kVei dcei pmei cdei ctei ocK:Value} {odla anla odin anin odei anei odR odK:Option Addr} {slla slin slei slK slR:Array (Option Value)} {tG tM tL tLi tB t1 t2 t3 t4 tE:Tok} {nRR epK nE:Nat} {esK:Array DictEntry} {tK p1 p2:Tok} {aP:Addr} {odP:Option Addr} {nP:Nat} {slP:Array (Option Value)}
  (aC:nsIn K mainGlobals "Kind" = some (some (.ref C)))
  (aVC:nsIn K mainGlobals "Value" = some (some (.ref VC)))
  (aPC:nsIn K mainGlobals "Pack" = some (some (.ref PC)))
  (aM:nsIn K mainGlobals "MarkError" = some (some (.ref cM)))
  (aX0:nsIn K mainGlobals "BadRows" = some (some (.ref e0)))
  (aX1:nsIn K mainGlobals "BadRest" = some (some (.ref e1)))
  (aX2:nsIn K mainGlobals "BadText" = some (some (.ref e2)))
  (aX3:nsIn K mainGlobals "Unled" = some (some (.ref e3)))
  (aX4:nsIn K mainGlobals "BadRule" = some (some (.ref e4)))
  (aX5:nsIn K mainGlobals "BadName" = some (some (.ref e5)))
  (aX6:nsIn K mainGlobals "BadNumber" = some (some (.ref e6)))
  (aX7:nsIn K mainGlobals "Unlike" = some (some (.ref e7)))
  (aX8:nsIn K mainGlobals "BadPairs" = some (some (.ref e8)))
  (aX9:nsIn K mainGlobals "Never" = some (some (.ref e9)))
  (aX10:nsIn K mainGlobals "Nothing" = some (some (.ref e10)))
  (z_VE:nsIn K mainGlobals "ValueError" = some none)
  (hwh:DG K "is_whole" DH)
  (hnm:DG K "is_name" Il)
  (huo:DG K "union_of" Gh)
  (hnx:DG K "next_mark" E3)
  (hoo:DG K "is_one_of" Gi)
  (hno:DG K "is_names_of" D0)
  (hth:DG K "thing_number" Cq)
  (hro:DG K "row_number" D1)
  (hnb:DG K "numbered" E4)
  (hfi:DG K "first_names" DI)
  (hmR:DM K C "rows" "Kind.rows" E5)
  (hmK:DM K C "known" "Kind.known" D3)
  (hmT:DM K C "rest" "Kind.rest" E6)
  (hmE:DM K C "__eq__" "Kind.__eq__" Im)
  (hlc:DG K "_law_cell" Gm)
  (hld:DG K "_law_drawn" E8)
  (hlr:DG K "_law_roll" DL)
  (hls:DG K "_law_rounds" D7)
  (hll:DG K "_law_lines" Bk)
  (hxn:DG K "is_number" E7)
  (hxr:DG K "rest_of" Io)
  (hxi:DM K VC "__init__" "Value.__init__" D4)
  (hxN:DM K VC "number" "Value.number" Cr)
  (hxK:DM K VC "kind" "Value.kind" D5)
  (hxE:DM K VC "__eq__" "Value.__eq__" Gj)
  (hwX:DG K "is_whole" DH)
  (hrB:DG K "_law_roll" DL)
  (hlb:DG K "_law_bits_of" D8)
  (hlt:DG K "_law_table_of" DP)
  (hlv:DG K "_law_width" E9)
  (hli:DG K "_law_number_in" Ct)
  (hlm:DG K "_law_made" Gn)
  (hpk:DG K "is_packed_kind" CS)
  (hiv:DG K "is_value_of" D6)
  (hpw:DM K PC "widths" "Pack.widths" DJ)
  (hpn:DM K PC "is_packed_number" "Pack.is_packed_number" BR)
  (hpp:DM K PC "packed" "Pack.packed" DK)
  (hpt:DM K PC "put" "Pack.put" Gk)
  (hpi:DM K PC "__init__" "Pack.__init__" De)
  (hpu:DM K PC "unpacked" "Pack.unpacked" Bp)
  (hmd:DG K "made" Lp)
  (hri:DM K e1 "__init__" "BadRest.__init__" Cp)
  (hlp:DG K "_law_pack" Go)
  (hlw:DG K "_law_word" DN)
  (hlo:DG K "_law_told" At)
  (ain:findIn K (.ref C) "__init__" = some (some (.ref fin)))
  (iin:isFn K (.ref fin)=true)
  (lin:K.lookup fin=some ⟨ocin,odin,.func (fO "__init__" "Kind.__init__" BF .none (.ref kd) dcin pmin anin cdin ctin),slin⟩)
  (cin:codeIn K cdin "Kind.__init__" = true)
  (kin:keepIn K (.ref fin)=true)
  (ala:nsIn K mainGlobals "law" = some (some (.ref fla)))
  (lla:K.lookup fla=some ⟨ocla,odla,.func (fO "law" "law" Ee .none kVla dcla pmla anla (.ref c) ctla),slla⟩)
  (cla:codeIn K (.ref c) "law" = true)
  (kla:keepIn K (.ref fla)=true)
  (aei:findIn K (.ref cM) "__init__" = some (some (.ref fei)))
  (iei:isFn K (.ref fei)=true)
  (lei:K.lookup fei=some ⟨(.type "function"),odei,.func (fO "__init__" "MarkError.__init__" Az (.ref dt) kVei dcei pmei anei cdei ctei),slei⟩)
  (cei:codeIn K cdei "MarkError.__init__" = true)
  (kei:keepIn K (.ref fei)=true)
  (kdl:K.lookup kd=some ⟨ocK,odK,.dict esK epK,slK⟩)
  (kde:(esK.all fun e=>match e.key with | .str _ _=>true | _=>false)=true)
  (kdr:nsIn K kd "rest" = some (some (.str "bar" tB)))
  (dtl:K.lookup dt=some ⟨.type "tuple", none,.seq #[.str "" tE] nE,#[]⟩)
  (vG:nsIn K mainGlobals "GREATEST" = some (some (.int 1048575 tG)))
  (vM:nsIn K mainGlobals "MOST_ROWS" = some (some (.int 10 tM)))
  (vL:nsIn K mainGlobals "LONGEST_NAME" = some (some (.int 6 tL)))
  (vLi:nsIn K mainGlobals "LIMIT" = some (some (.int 1099511627776 tLi)))
  (vR:nsIn K mainGlobals "RULES" = some (some (.ref aR)))
  (qn:specialIn K (.builtin "object.__class__") "__get__" = some (some (.builtin "getset_descriptor.__get__")))
  (qt:takesIn K (.builtin "object.__class__")=some true)
  (fC:CF K C)
  (fVC:CF K VC)
  (fPC:CF K PC)
  (nC_numbers:findIn K (.ref C) "numbers" = some none)
  (nC_firsts:findIn K (.ref C) "firsts" = some none)
  (nC_rule:findIn K (.ref C) "rule" = some none)
  (nVC_own_kind:findIn K (.ref VC) "own_kind" = some none)
  (nVC_bits:findIn K (.ref VC) "bits" = some none)
  (nPC_kinds:findIn K (.ref PC) "kinds" = some none)
  (xm:L2.Ay K cM=true)
  (xc0:L2.Ay K e0=true)
  (xc1:L2.Ay K e1=true)
  (xc2:L2.Ay K e2=true)
  (xc3:L2.Ay K e3=true)
  (y4:XP K (fun i=>([e0,e1,e2,e3,e4,e5,e6,e7,e8,e9,e10]:List Addr).getD i 0) cM e4 fei 4)
  (y1:XL K (fun i=>([e0,e1,e2,e3,e4,e5,e6,e7,e8,e9,e10]:List Addr).getD i 0) cM e1 1 "bits")
  (xmg:specialIn K (.ref cM) "__getattribute__" = some (some (.builtin "type.__getattribute__")))
  (xmr:readsIn K cM (.type "type")=true)
  (xmf:findCls K (.ref cM) (.type "type") "__init__" = some (.val (.ref fei)))
  (rL:K.lookup aR=some ⟨.type "tuple", odR,.seq #[.str "bar" t1,.str "drop" t2,.str "keep" t3,.str "leave" t4] nRR,slR⟩)
  (z_len:nsIn K mainGlobals "len" = some none)
  (z_isinstance:nsIn K mainGlobals "isinstance" = some none)
  (z_max:nsIn K mainGlobals "max" = some none)
  (z_min:nsIn K mainGlobals "min" = some none)
  (z_range:nsIn K mainGlobals "range" = some none)
  (z_list:nsIn K mainGlobals "list" = some none)
  (z_tuple:nsIn K mainGlobals "tuple" = some none)
  (z_sorted:nsIn K mainGlobals "sorted" = some none)
  (z_sum:nsIn K mainGlobals "sum" = some none)
  (z_all:nsIn K mainGlobals "all" = some none)
  (z_enumerate:nsIn K mainGlobals "enumerate" = some none)
  (z_int:nsIn K mainGlobals "int" = some none)
  (z_bool:nsIn K mainGlobals "bool" = some none)
  (z_str:nsIn K mainGlobals "str" = some none)
  (z_zip:nsIn K mainGlobals "zip" = some none)
  (vK:nsIn K mainGlobals "MOST_KINDS" = some (some (.int 6 tK)))
  (vP:nsIn K mainGlobals "PACKED_RULES" = some (some (.ref aP)))
  (pL:K.lookup aP=some ⟨.type "tuple", odP,.seq #[.str "bar" p1,.str "drop" p2] nP,slP⟩)
  : ∃ fd:FuncData,(∀ (s:Shared) (v:Value),BindsTo s fd ⟨[v],[]⟩ [("_law_script", v)])/\∀ base:Heap,K.In base->base.Ns mainGlobals mg->CodeHd base c P0->base.BuiltinsAt mg P0->Ae l.prog w K mg base CX0 10 fz fd ["_law_script"] (MQ K P0):=by
 have MG:∀ {x:Str} {v:Value},nsIn K mainGlobals x=some (some v)->mg x=some v:=fun h=>mg_of X G h;have MN:∀ {x:Str},nsIn K mainGlobals x=some none->mg x=none:=fun h=>mg_none_of X G h;have T:Ej K C:=⟨⟨fC.pg,fC.hd,fC.po,fC.sa⟩,nC_numbers,nC_firsts,nC_rule⟩;have VT:JB K VC:=⟨⟨fVC.pg,fVC.hd,fVC.po,fVC.sa⟩,nVC_own_kind,nVC_bits⟩;have PT:JE K PC:=⟨⟨fPC.pg,fPC.hd,fPC.po,fPC.sa⟩,nPC_kinds⟩;have KI:KIsi K C:=⟨⟨fC.pg,fC.hd,fC.po,fC.sa⟩,fC.qa,qn,qt,fC.qm,Et fC.ql fC.qy fC.qs⟩;have VI:KIsi K VC:=⟨⟨fVC.pg,fVC.hd,fVC.po,fVC.sa⟩,fVC.qa,qn,qt,fVC.qm,Et fVC.ql fVC.qy fVC.qs⟩;have mCg:=MG aC;have mVg:=MG aVC;have hLi:=MG vLi;have vI:=Et fVC.ql fVC.qy fVC.qi;have vT:=Et fVC.ql fVC.qy fVC.qt;have qeC:=fC.ne;have qm:=fC.qm;have B:Bl mg:=⟨MN z_len,MN z_isinstance,MN z_max,MN z_min,MN z_range,MN z_list,MN z_tuple,MN z_sorted,MN z_sum,MN z_all,MN z_enumerate,MN z_int,MN z_bool,MN z_str⟩;have rT:∀ H:Hp,SqT K H aR (ruleNames.map V.str):=fun H=>.inr ⟨_,_,_,rL,rfl,rfl,sl4,.cons ⟨_,rfl⟩ (.cons ⟨_,rfl⟩ (.cons ⟨_,rfl⟩ (.cons ⟨_,rfl⟩ .nil)))⟩;have pTT:∀ H:Hp,SqT K H aP (packRules.map V.str):=fun H=>.inr ⟨_,_,_,pL,rfl,rfl,sl2,.cons ⟨_,rfl⟩ (.cons ⟨_,rfl⟩ .nil)⟩
 have kdo:nsOkIn K kd=true:=by
  unfold nsOkIn;rw [kdl];exact kde
 have hG:=MG vG;have hM:=MG vM;have hL:=MG vL;have hR:=MG vR;have M:Na mg (fun i=>([e0,e1,e2,e3,e4,e5,e6,e7,e8,e9,e10]:List Addr).getD i 0):=⟨MG aX0,MG aX1,MG aX2,MG aX3,MG aX4,MG aX5,MG aX6,MG aX7,MG aX8,MG aX9,MG aX10,MN z_VE⟩;have EX:PZ K mg (fun i=>([e0,e1,e2,e3,e4,e5,e6,e7,e8,e9,e10]:List Addr).getD i 0) cM:=⟨MG aM,xm,xc0,xc1,xc2,xc3⟩;have EPU:=y4.pl (by decide) rfl qn qt;have EFR:=XL.fl (j:=1) y1 (by decide) rfl qn qt;have Fin:=fun_mk (st:=BF) lin cin kin;have e:=hfa.symm.trans (MG ala);cases e;have Fla:FunC K "law" "law" Ee fz (fO "law" "law" Ee .none kVla dcla pmla anla (.ref c) ctla) c:=⟨⟨_,_,_,_,_,_,_,_,rfl,lla,cla⟩⟩;have Fei:FunD K "__init__" "MarkError.__init__" Az fei _:=⟨⟨_,_,_,_,_,_,_,_,_,_,rfl,lei,cei⟩⟩;obtain ⟨fwh,dwh,awh,Fwh⟩:=hwh;have bwh:=bi1 (p1 := "thing") Fwh fun _ _ _ _ _ _ _=>rfl;obtain ⟨fnm,dnm,anm,Fnm⟩:=hnm;have bnm:=bi1 (p1 := "thing") Fnm fun _ _ _ _ _ _ _=>rfl;obtain ⟨fuo,duo,auo,Fuo⟩:=huo;have buo:=bi1 (p1 := "numbers") Fuo fun _ _ _ _ _ _ _=>rfl;obtain ⟨fnx,dnx,anx,Fnx⟩:=hnx;have bnx:=bi1 (p1 := "numbers") Fnx fun _ _ _ _ _ _ _=>rfl;obtain ⟨foo,doo,aoo,Foo⟩:=hoo;have boo:=bi2 (p1 := "thing") (p2 := "names") Foo fun _ _ _ _ _ _ _ _=>rfl;obtain ⟨fno,dno,ano,Fno⟩:=hno;have bno:=bi2 (p1 := "parts") (p2 := "ahead") Fno fun _ _ _ _ _ _ _ _=>rfl;obtain ⟨fth,dth,ath,Fth⟩:=hth;have bth:=bi2 (p1 := "thing") (p2 := "ahead") Fth fun _ _ _ _ _ _ _ _=>rfl;obtain ⟨fro,dro,aro,Fro⟩:=hro;have bro:=bi2 (p1 := "row") (p2 := "ahead") Fro fun _ _ _ _ _ _ _ _=>rfl;obtain ⟨fnb,dnb,anb,Fnb⟩:=hnb;have bnb:=bi1 (p1 := "rows") Fnb fun _ _ _ _ _ _ _=>rfl;obtain ⟨ffi,dfi,afi,Ffi⟩:=hfi;have bfi:=bi1 (p1 := "numbers") Ffi fun _ _ _ _ _ _ _=>rfl;obtain ⟨fmR,dmR,amR,imR,omR,FmR⟩:=hmR;have bmR:=bi1 (p1 := "self") FmR fun _ _ _ _ _ _ _=>rfl;obtain ⟨fmK,dmK,amK,imK,omK,FmK⟩:=hmK;have bmK:=bi1 (p1 := "self") FmK fun _ _ _ _ _ _ _=>rfl;obtain ⟨fmT,dmT,amT,imT,omT,FmT⟩:=hmT;have bmT:=bi1 (p1 := "self") FmT fun _ _ _ _ _ _ _=>rfl;obtain ⟨fmE,dmE,amE,imE,omE,FmE⟩:=hmE;have bmE:=bi2 (p1 := "self") (p2 := "other") FmE fun _ _ _ _ _ _ _ _=>rfl;obtain ⟨flc,dlc,alc,Flc⟩:=hlc;have blc:=bi2 (p1 := "_law_script") (p2 := "_law_k") Flc fun _ _ _ _ _ _ _ _=>rfl;obtain ⟨fld,dld,ald,Fld⟩:=hld;have bld:=bi2 (p1 := "_law_cell_here") (p2 := "_law_k") Fld fun _ _ _ _ _ _ _ _=>rfl;obtain ⟨flr,dlr,alr,Flr⟩:=hlr;have blr:=bi2 (p1 := "_law_dice") (p2 := "_law_many") Flr fun _ _ _ _ _ _ _ _=>rfl;obtain ⟨fls,dls,als,Fls⟩:=hls;have bls:=bi2 (p1 := "_law_script") (p2 := "_law_most") Fls fun _ _ _ _ _ _ _ _=>rfl;obtain ⟨fll,dll,all,Fll⟩:=hll;have bll:=bi2 (p1 := "_law_dice") (p2 := "_law_most") Fll fun _ _ _ _ _ _ _ _=>rfl;obtain ⟨fxn,dxn,axn,Fxn⟩:=hxn;have bxn:=bi1 (p1 := "thing") Fxn fun _ _ _ _ _ _ _=>rfl;obtain ⟨fxr,dxr,axr,Fxr⟩:=hxr;have bxr:=bi2 (p1 := "kind") (p2 := "number") Fxr fun _ _ _ _ _ _ _ _=>rfl;obtain ⟨fxi,dxi,axi,ixi,oxi,Fxi⟩:=hxi;have bxi:=bi3 (p1 := "self") (p2 := "kind") (p3 := "number") Fxi fun _ _ _ _ _ _ _ _ _=>rfl;obtain ⟨fxN,dxN,axN,ixN,oxN,FxN⟩:=hxN;have bxN:=bi1 (p1 := "self") FxN fun _ _ _ _ _ _ _=>rfl;obtain ⟨fxK,dxK,axK,ixK,oxK,FxK⟩:=hxK;have bxK:=bi1 (p1 := "self") FxK fun _ _ _ _ _ _ _=>rfl;obtain ⟨fxE,dxE,axE,ixE,oxE,FxE⟩:=hxE;have bxE:=bi2 (p1 := "self") (p2 := "other") FxE fun _ _ _ _ _ _ _ _=>rfl;obtain ⟨fwX,dwX,awX,FwX⟩:=hwX;have bwX:=bi1 (p1 := "thing") FwX fun _ _ _ _ _ _ _=>rfl;obtain ⟨frB,drB,arB,FrB⟩:=hrB;have brB:=bi2 (p1 := "_law_dice") (p2 := "_law_many") FrB fun _ _ _ _ _ _ _ _=>rfl;obtain ⟨flb,dlb,alb,Flb⟩:=hlb;have blb:=bi1 (p1 := "_law_number") Flb fun _ _ _ _ _ _ _=>rfl;obtain ⟨flt,dlt,alt,Flt⟩:=hlt;have blt:=bi1 (p1 := "_law_due") Flt fun _ _ _ _ _ _ _=>rfl;obtain ⟨flv,dlv,alv,Flv⟩:=hlv;have blv:=bi1 (p1 := "_law_known") Flv fun _ _ _ _ _ _ _=>rfl;obtain ⟨fli,dli,ali,Fli⟩:=hli;have bli:=bi3 (p1 := "_law_dice") (p2 := "_law_known") (p3 := "_law_way") Fli fun _ _ _ _ _ _ _ _ _=>rfl;obtain ⟨flm,dlm,alm,Flm⟩:=hlm;have blm:=bi3 (p1 := "_law_table") (p2 := "_law_way") (p3 := "_law_number") Flm fun _ _ _ _ _ _ _ _ _=>rfl;obtain ⟨fpk,dpk,apk,Fpk⟩:=hpk;have bpk:=bi1 (p1 := "thing") Fpk fun _ _ _ _ _ _ _=>rfl;obtain ⟨fiv,div,aiv,Fiv⟩:=hiv;have biv:=bi2 (p1 := "thing") (p2 := "kind") Fiv fun _ _ _ _ _ _ _ _=>rfl;obtain ⟨fpw,dpw,apw,ipw,opw,Fpw⟩:=hpw;have bpw:=bi1 (p1 := "self") Fpw fun _ _ _ _ _ _ _=>rfl;obtain ⟨fpn,dpn,apn,ipn,opn,Fpn⟩:=hpn;have bpn:=bi2 (p1 := "self") (p2 := "thing") Fpn fun _ _ _ _ _ _ _ _=>rfl;obtain ⟨fpp,dpp,app,ipp,opp,Fpp⟩:=hpp;have bpp:=bi2 (p1 := "self") (p2 := "values") Fpp fun _ _ _ _ _ _ _ _=>rfl;obtain ⟨fpt,dpt,apt,ipt,opt,Fpt⟩:=hpt;have bpt:=bi4 (p1 := "self") (p2 := "number") (p3 := "at") (p4 := "value") Fpt fun _ _ _ _ _ _ _ _ _ _=>rfl;obtain ⟨fpi,dpi,api,ipi,opi,Fpi⟩:=hpi;have bpi:=bi2 (p1 := "self") (p2 := "kinds") Fpi fun _ _ _ _ _ _ _ _=>rfl;obtain ⟨fpu,dpu,apu,ipu,opu,Fpu⟩:=hpu;have bpu:=bi2 (p1 := "self") (p2 := "number") Fpu fun _ _ _ _ _ _ _ _=>rfl;obtain ⟨fmd,dmd,amd,Fmd⟩:=hmd;have bmd:=bi2 (p1 := "kind") (p2 := "number") Fmd fun _ _ _ _ _ _ _ _=>rfl;obtain ⟨fri,dri,ari,iri,ori,Fri⟩:=hri;have bri:=bi2 (p1 := "self") (p2 := "bits") Fri fun _ _ _ _ _ _ _ _=>rfl;obtain ⟨flp,dlp,alp,Flp⟩:=hlp;have blp:=bi1 (p1 := "_law_dice") Flp fun _ _ _ _ _ _ _=>rfl;obtain ⟨flw,dlw,alw,Flw⟩:=hlw;have blw:=bi1 (p1 := "_law_e") Flw fun _ _ _ _ _ _ _=>rfl;obtain ⟨flo,dlo,alo,Flo⟩:=hlo;have blo:=bi1 (p1 := "_law_deed") Flo fun _ _ _ _ _ _ _=>rfl;refine ⟨fO "law" "law" Ee .none kVla dcla pmla anla (.ref c) ctla,fun s v=>.of_eq rfl,fun base _ _ hC hBu=>?_⟩;have FT:=@fnT l.prog w K mg base;have MT:=@mtT l.prog w K mg base;have Gwh:=FT (sp:=Cb) Fwh (K6 Fwh B) (MG awh) bwh;have Gnm:=FT (sp:=Gq) Fnm (NG Fnm B hL) (MG anm) bnm;have Guo:=FT (sp:=(Df K)) Fuo (K1 Fuo) (MG auo) buo;have Gnx:=FT (sp:=(ED K)) Fnx (Jt Fnx B) (MG anx) bnx;have Goo:=FT (sp:=(Dg K)) Foo (K5 Foo B) (MG aoo) boo;have Gno:=FT (sp:=DR) Fno (Iq Fno B Goo) (MG ano) bno;have Gth:=FT (sp:=Ir) Fth (Ox Fth B Gnx Gno Guo Gwh) (MG ath) bth;have Gro:=FT (sp:=O0) Fro (SH Fro B hG Gnm Gth) (MG aro) bro;have Gnb:=FT (sp:=EG) Fnb (Jv Fnb B hM Gro) (MG anb) bnb;have Gfi:=FT (sp:=Gw) Ffi (NN Ffi) (MG afi) bfi;have GmR:=MT (sp:=(K8 C)) amR imR FmR (Qm FmR B T) bmR;have GmK:=MT (sp:=(Dh C)) amK imK FmK (O7 FmK B T Guo) bmK;have GmT:=MT (sp:=(FF C)) amT imT FmT (Qs FmT T) bmT;have GmE:=MT (sp:=(Ly C)) amE imE FmE (SW FmE B T KI mCg GmR) bmE;have Glc:=FT (sp:=(LA K)) Flc (Qo Flc B) (MG alc) blc;have Gld:=FT (sp:=Fh) Fld (O9 Fld) (MG ald) bld;have Glr:=FT (sp:=Gx) Flr (Qp Flr Gld) (MG alr) blr;have Gls:=FT (sp:=(Gy K)) Fls (NQ Fls B Glc) (MG als) bls;have Gll:=FT (sp:=Ix) Fll (PN Fll B Glr) (MG all) bll;have Gxn:=FT (sp:=EI) Fxn (J4 Fxn hLi Gwh) (MG axn) bxn;have Gxr:=FT (sp:=(Er C)) Fxr (NX Fxr T GmK) (MG axr) bxr;have Gxi:=MT (sp:=(Fi C VC)) axi ixi Fxi (J5 Fxi T VT Gxn Gxr GmT) bxi;have GxN:=MT (sp:=(Ce VC)) axN ixN FxN (LG FxN VT) bxN;have GxK:=MT (sp:=(JC VC)) axK ixK FxK (PU FxK VT) bxK;have GxE:=MT (sp:=(PV C VC)) axE ixE FxE (Sa FxE B T VT VI vI mVg GmE) bxE;obtain ⟨fE0,dE0,gE0,mE0,bE0⟩:=GxE.ex;have VO:PX l.prog w K mg base C VC:=⟨VT,mVg,⟨_,_,⟨fVC.mz,axi,ixi,fVC.kc⟩,J5 Fxi T VT Gxn Gxr GmT,bxi⟩,⟨_,_,gE0,mE0,bE0⟩,VI,fVC.ne,fVC.qi⟩;have GwX:=FT (sp:=(Es K)) FwX (Nf FwX B) (MG awX) bwX;have GrB:=FT (sp:=JK) FrB (Pr FrB Gld) (MG arB) brB;have Glb:=FT (sp:=Gz) Flb (NR Flb B) (MG alb) blb;have Glt:=FT (sp:=Iy) Flt (PQ Flt B Glb) (MG alt) blt;have Glv:=FT (sp:=HC) Flv (Ni Flv B) (MG alv) blv;have Gli:=FT (sp:=EK) Fli (J8 Fli Glr) (MG ali) bli;have Glm:=FT (sp:=JD) Flm (Pf Flm) (MG alm) blm;have Gpk:=FT (sp:=(Sf K C)) Fpk (Tf Fpk B T KI mCg (MG vP) pTT GmT) (MG apk) bpk;have Giv:=FT (sp:=(Q4 K C VC)) Fiv (Tg Fiv B VT VI mVg GxK GmE) (MG aiv) biv;have Gpw:=MT (sp:=(B9 C PC)) apw ipw Fpw (Ng Fpw B T PT GmK) bpw;have Gpn:=MT (sp:=(JJ C PC)) apn ipn Fpn (RB Fpn B PT GwX Gpw) bpn;have Gpp:=MT (sp:=(HE C VC PC)) app ipp Fpp (Nj Fpp B (MN z_zip) PT VT Giv Gpw GxN) bpp;have Gpt:=MT (sp:=(Pn C VC PC)) apt ipt Fpt (Sk Fpt B PT VT GwX Gpn Giv Gpw GxN) bpt;have GW:FnS l.prog w K mg base "_law_word" 1 ["_law_e"] (C0 K (fun i=>([e0,e1,e2,e3,e4,e5,e6,e7,e8,e9,e10]:List Addr).getD i 0)):=⟨⟨_,_,Qx Flw B M,MG alw,Flw.kp,blw⟩⟩;have KO:Pi l.prog w K mg base C:=⟨T,mCg,⟨_,_,⟨fC.mz,ain,iin,fC.kc⟩,Qk Fin B T hR rT Gnb Gfi Goo,⟨_,RL⟩,_,So kdo kdr,.cons ⟨_,rfl⟩ .nil⟩⟩;have ME:Te l.prog w K mg base cM:=⟨MG aM,xmg,xmr,⟨_,_,xmf,G5 Fei (MN z_VE),kei,Rc dtl⟩⟩;have EO4:RY l.prog w K mg base "BadRule" e4:=⟨MG aX4,⟨_,_,⟨y4.F.cx,y4.i,iei,⟨_,lei,rfl⟩,y4.F.ke⟩,G5 Fei (MN z_VE),Rc dtl⟩⟩;have RO:Pc l.prog w K mg base cM e1:=⟨MG aX1,⟨_,_,⟨xc1,ari,iri,ori,y1.F.ke⟩,J7 Fri ME,bri⟩,RM y1.s y1.gn y1.gs⟩;have GPL:=FT (sp:=JG C) Flp (Pj Flp B KO Glr Gll Glt) (MG alp) blp;exact Sn Fla Flo (MG alo) blo hC hBu B (MN z_zip) T VO M EX EFR GW PT ⟨_,_,⟨fPC.mz,api,ipi,fPC.kc⟩,Pg Fpi B PT (MG vK) EO4 Gpk,bpi⟩ (MG aPC) ⟨_,_,Si Fpu B (MN z_zip) PT Gpn Gpw (Q3 Fmd hLi T VO RO Gwh Gxr GmT GmK) (MG amd) Fmd.kp bmd,⟨apu,ipu,Fpu.kp⟩,bpu⟩ Gpp Gpt Gpw GxN GmT Gls GPL Glv Gli GrB Glm
theorem walk {l:OpenLaw} {q:Program} {loose:List Str} {XP:(Str->Option Value)->Heap->Prop} {YP:World->Heap->Prop} {d:DefRec} {K:Params->Frag} {c P0:Addr} (hn:l.most=some 63) (hdf:d.params.defaults=[])
  (hY:∀ (w:World) (h:Heap),YP w h->(K w.params).In h/\h.get? P0=some (tabObj #[])/\(K w.params).lookup P0=none/\CodeHd h c P0)
  (F:∀ (w:World) (mg:SV) (fa:Addr) (h:Heap),(K w.params).In h->h.Ns mainGlobals mg->mg d.name=some (.ref fa) ->
   ∃ fd:FuncData,(∀ (s:Shared) (u:Value),BindsTo s fd ⟨[u],[]⟩ [("_law_script", u)])/\∀ base:Heap,(K w.params).In base->base.Ns mainGlobals mg->CodeHd base c P0->base.BuiltinsAt mg P0->Ae l.prog w (K w.params) mg base CX0 10 fa fd ["_law_script"] (MQ (K w.params) P0)) :
  WalkO q loose XP YP l.row.toRowW d [] (fun f vs=>PySem.call f vs) :=
 L2.Of (n:=63) (k:=10) (x := "_law_script") (CX:=fun _=>CX0) (sp:=fun w=>MQ (K w.params) P0) hn (by decide) hdf ⟨rfl,by decide,by decide⟩ hY F
  (fun _ _ a ns hl _ hP hS=>⟨a,ns,rfl,hS,hl,⟨#[],hP,trivial,fun _ _=>.inl rfl⟩,fun _=>rfl⟩) fun _ _ _ _ _ z=>z
end Mk
end
section
namespace Hd
open PySem PySem.W PySem.Calls PyProof.Rows
def runT (tb : String -> Option Builtin) (p : Program) (w : World) (n₀ : Nat) (ann : Option Value) : Nat -> SharedT -> Thread -> Option SharedT
  | 0,_,_=>none
  | n + 1,s,t=>match through t with
    | true=>some s
    | false=>match stepOk n₀ ann t with
      | false=>none
      | true=>match stepT (denote tb) p w s t with
        | some (s',t')=>runT tb p w n₀ ann n s' t'
        | none=>none
theorem runT_of {tb : String -> Option Builtin} {p : Program} {w : World} {n₀ : Nat} {ann : Option Value} : ∀ {n : Nat} {s s' : SharedT} {t : Thread},runT tb p w n₀ ann n s t = some s' -> topRun tb p w n₀ ann n s.abs t = some s'.abs
  | 0,_,_,_,h=>by cases h
  | n + 1,s,s',t,h=>by
    unfold runT at h
    unfold topRun
    cases ht : through t with
    | true=>rw [ht] at h; cases h; rfl
    | false =>
      rw [ht] at h
      cases hk : stepOk n₀ ann t with
      | false=>rw [hk] at h; cases h
      | true =>
        rw [hk] at h
        cases hs : stepT (denote tb) p w s t with
        | none=>rw [hs] at h; cases h
        | some r=>obtain ⟨s₂,t₂⟩:=r; rw [hs] at h; rw [stepT_spec hs]; exact runT_of h
def looksAt (p q : Program) (loose : List Str) (Xt : Shared -> Bool) (as : List Addr) (h₀ : Heap) (s : Shared) :=
  (staticsOk (importedModules p.main.body) h₀ s.heap && namesBound p s.heap && gensDone s && laidKept h₀ s.heap,openSeen q loose (importedModules p.main.body) Xt true s,as.map s.heap.get?)
theorem left_of {p q : Program} {loose : List Str} {Xt : Shared -> Bool} {as : List Addr} {K : Params -> Frag} {N M m₀ : Nat} {ann : Option Value} {T0 : Params -> BT} {life : Life}
    (open_ : ∀ w : World,(fencedOpening treeTable p w N).map (fun s=>(s.heap,s.gens,s.drawn,s.toks)) = some (boot_heap w.params,#[],boot_drawn,boot_toks))
    (tree : ∀ P : Params,absHeap (T0 P) m₀ life = boot_heap P)
    (size : ∀ w : World,((boot_heap w.params).isNs mainGlobals,(boot_heap w.params).objs.size,(boot_heap w.params).nsMap mainGlobals "__annotations__") = (true,m₀,ann))
    (le : Nat.ble M N = true)
    (run : ∀ (w : World) (os : OsState),(runT treeTable p w m₀ ann M ⟨T0 w.params,m₀,life,#[],boot_drawn,boot_toks,os⟩ (topStub p)).map (fun s=>looksAt p q loose Xt as (boot_heap w.params) s.abs) = some (true,openGood q loose,(K w.params).map fun x=>some x.2)) :
    LeftO p q loose Xt (fun s=>as.map s.heap.get?) (fun w=>(K w.params).map fun x=>some x.2) N:=fun w=>by
  obtain ⟨⟨h,gs,d,k,os⟩,e,e'⟩:=Option.map_eq_some_iff.mp (open_ w)
  obtain ⟨rfl,rfl,rfl,rfl⟩ : h = boot_heap w.params /\ gs = #[] /\ d = boot_drawn /\ k = boot_toks:=by simpa using e'
  obtain ⟨z1,z2,z3⟩ : _ /\ _ /\ _:=by simpa only [Prod.mk.injEq] using size w
  obtain ⟨sT,r1,r2⟩:=Option.map_eq_some_iff.mp (run w os)
  have r3:=runT_of r1
  have r4 : topRun treeTable p w m₀ ann M ⟨boot_heap w.params,#[],boot_drawn,boot_toks,os⟩ (topStub p) = some sT.abs:=by
    rw [← tree w.params]
    exact r3
  have r:=topRun_mono (N - M) _ _ _ _ r4
  rw [show M + (N - M) = N by have:=Nat.le_of_ble_eq_true le; omega] at r
  unfold looksAt at r2
  obtain ⟨l1,l2,l3⟩ : _ /\ _ /\ _:=by simpa only [Prod.mk.injEq] using r2
  have t : topFrom treeTable p w N ⟨boot_heap w.params,#[],boot_drawn,boot_toks,os⟩ = some sT.abs:=by
    unfold topFrom
    dsimp only
    rw [z1,z2,z3,r]
    show (match staticsOk (importedModules p.main.body) (boot_heap w.params) sT.abs.heap && namesBound p sT.abs.heap && gensDone sT.abs && laidKept (boot_heap w.params) sT.abs.heap with | true=>_ | false=>_) = _
    rw [l1]
  unfold openEnds
  rw [e]
  show (topFrom treeTable p w N _).map _ = _
  rw [t]
  exact congrArg some (Prod.ext l2 l3)
end Hd
end
noncomputable section
open PySem PySem.W PySem.Calls PyProof.Rows
abbrev Mk.fS (x q : Str) (s : Stmt) (dV kV doc pm : Value) (an : Option Addr) (cd ct : Value) : FuncData:=fnOf x q (L2.defArgs s) (L2.defBody s) (L2.defScope s) dV kV doc pm an cd ct
abbrev Mk.cO (x : Str) (a : Nat) (q : Str) (b c : Nat) (d e f g h : Int) (i j l m n : Nat) (o p : Int) (r : Nat) : Obj:=⟨.type "code", none,.fields #[.str x a,.str q b,.str "/claim/cut.py" c,.int d 0,.int e 0,.int f 0,.int g 0,.int h 0,.ref i,.bool true,.int 181 0,.ref j,.none,.ref l,.ref m,.ref n,.int o 0,.int p 0,.str "/claim/cut.py" r],#[]⟩
abbrev Mk.dE (P : PySem.Params) (x : Str) (t : Nat) (v : Value) : DictEntry:=⟨PyData.keyHash P x,.str x t,v⟩
abbrev Mk.fN (x q : Str) (s : Stmt) (m : Str) (t c : Nat) : Obj:=⟨.type "function", none,.func (Mk.fS x q s .none .none .none (.str m t) none (.ref c) .none),#[]⟩
abbrev Mk.eC (x : Str) (a b c d e f : Nat) : Obj:=⟨.type "type", none,.cls ⟨x,[.ref a],[.ref b,.ref a,.type "ValueError", .type "Exception", .type "BaseException", .type "object"],c,x,true,[],[],false,none,false⟩,#[some (.ref d),none,some (.str x e),some (.str x f),some (.builtin "ValueError.__new__"),some (.bool true)]⟩
noncomputable def Mk.Kg (P : PySem.Params) : PySem.W.Frag :=
 (nat_lit 2,⟨.none,none,(.dict #[] 0),#[]⟩) ::
 (nat_lit 3,⟨(.type "dict"),none,(.dict #[Mk.dE P "__name__" 165 (.str "law_markworks_k60_whole_packs" 836),Mk.dE P "__doc__" 166 .none,Mk.dE P "__package__" 167 .none,Mk.dE P "__loader__" 168 (.builtin "__main__.__loader__#opaque"),Mk.dE P "__spec__" 169 .none,Mk.dE P "__annotations__" 170 (.ref 6),Mk.dE P "__builtins__" 171 (.ref 4),Mk.dE P "__file__" 173 (.str "/claim/cut.py" 172),Mk.dE P "__cached__" 174 .none,Mk.dE P "MarkError" 215 (.ref 32),Mk.dE P "BadRows" 240 (.ref 52),Mk.dE P "BadRule" 256 (.ref 64),Mk.dE P "BadName" 272 (.ref 76),Mk.dE P "BadNumber" 288 (.ref 88),Mk.dE P "BadRest" 313 (.ref 107),Mk.dE P "Unlike" 329 (.ref 119),Mk.dE P "BadText" 354 (.ref 138),Mk.dE P "BadPairs" 370 (.ref 150),Mk.dE P "Never" 386 (.ref 162),Mk.dE P "Unled" 411 (.ref 181),Mk.dE P "Nothing" 427 (.ref 193),Mk.dE P "GREATEST" 435 (.int 1048575 434),Mk.dE P "MOST_ROWS" 437 (.int 10 436),Mk.dE P "LONGEST_NAME" 439 (.int 6 438),Mk.dE P "RULES" 444 (.ref 196),Mk.dE P "is_whole" 451 (.ref 203),Mk.dE P "is_name" 457 (.ref 208),Mk.dE P "is_mark" 464 (.ref 215),Mk.dE P "union_of" 473 (.ref 222),Mk.dE P "is_one_of" 481 (.ref 229),Mk.dE P "mark_bits" 487 (.ref 234),Mk.dE P "next_mark" 494 (.ref 241),Mk.dE P "is_names_of" 500 (.ref 246),Mk.dE P "thing_number" 506 (.ref 251),Mk.dE P "row_number" 517 (.ref 258),Mk.dE P "numbered" 528 (.ref 265),Mk.dE P "first_names" 538 (.ref 272),Mk.dE P "Kind" 636 (.ref 349),Mk.dE P "LIMIT" 642 (.int 1099511627776 641),Mk.dE P "is_number" 649 (.ref 360),Mk.dE P "rest_of" 657 (.ref 367),Mk.dE P "Value" 731 (.ref 424),Mk.dE P "made" 741 (.ref 435),Mk.dE P "MOST_KINDS" 745 (.int 6 744),Mk.dE P "PACKED_RULES" 748 (.ref 436),Mk.dE P "is_packed_kind" 755 (.ref 443),Mk.dE P "is_value_of" 763 (.ref 450),Mk.dE P "Pack" 835 (.ref 496),Mk.dE P "_law_cell" 845 (.ref 507),Mk.dE P "_law_drawn" 854 (.ref 514),Mk.dE P "_law_roll" 863 (.ref 521),Mk.dE P "_law_rounds" 869 (.ref 526),Mk.dE P "_law_word" 875 (.ref 531),Mk.dE P "_law_told" 883 (.ref 538),Mk.dE P "_law_bits_of" 889 (.ref 543),Mk.dE P "_law_lines" 895 (.ref 548),Mk.dE P "_law_table_of" 901 (.ref 553),Mk.dE P "_law_number_in" 911 (.ref 560),Mk.dE P "_law_made" 922 (.ref 567),Mk.dE P "_law_pack" 934 (.ref 574),Mk.dE P "_law_width" 940 (.ref 579),Mk.dE P "law" 946 (.ref 584)] 62),#[]⟩) ::
 (nat_lit 22,⟨(.type "tuple"),none,(.seq #[(.str "" 201)] 0),#[]⟩) ::
 (nat_lit 28,Mk.cO "__init__" 202 "MarkError.__init__" 203 204 4 2 0 0 3 23 24 25 26 27 207 4 208) ::
 (nat_lit 29,⟨(.type "function"),none,(.func (Mk.fS "__init__" "MarkError.__init__" (L2.inClass (Mk.top 1) 0) (.ref 22) .none .none (.str "markworks.errors" 187) none (.ref 28) .none)),#[]⟩) ::
 (nat_lit 31,⟨(.type "dict"),none,(.dict #[Mk.dE P "__module__" 196 (.str "markworks.errors" 187),Mk.dE P "__firstlineno__" 200 (.int 2 199),Mk.dE P "__init__" 209 (.ref 29),Mk.dE P "__static_attributes__" 210 (.ref 30),Mk.dE P "__weakref__" 212 (.ref 33),Mk.dE P "__doc__" 213 .none] 3),#[]⟩) ::
 (nat_lit 32,⟨(.type "type"),none,(.cls ⟨"MarkError", [(.type "ValueError")],[(.ref 32),(.type "ValueError"),(.type "Exception"),(.type "BaseException"),(.type "object")],31, "MarkError", true,[],[(.ref 52),(.ref 64),(.ref 76),(.ref 88),(.ref 107),(.ref 119),(.ref 138),(.ref 150),(.ref 162),(.ref 181),(.ref 193)],false,none,false⟩),#[(some (.ref 15)),none,(some (.str "MarkError" 189)),(some (.str "MarkError" 197)),(some (.builtin "ValueError.__new__")),(some (.bool true))]⟩) ::
 (nat_lit 52,Mk.eC "BadRows" 32 52 51 36 216 224) ::
 (nat_lit 63,⟨(.type "dict"),none,(.dict #[Mk.dE P "__module__" 248 (.str "markworks.errors" 187),Mk.dE P "__firstlineno__" 252 (.int 11 251),Mk.dE P "__static_attributes__" 253 (.ref 62),Mk.dE P "__doc__" 254 .none] 2),#[]⟩) ::
 (nat_lit 64,Mk.eC "BadRule" 32 64 63 55 241 249) ::
 (nat_lit 76,Mk.eC "BadName" 32 76 75 67 257 265) ::
 (nat_lit 88,Mk.eC "BadNumber" 32 88 87 79 273 281) ::
 (nat_lit 103,Mk.cO "__init__" 301 "BadRest.__init__" 302 303 19 2 0 0 3 98 99 100 101 102 306 19 307) ::
 (nat_lit 104,Mk.fN "__init__" "BadRest.__init__" (L2.inClass (Mk.top 6) 0) "markworks.errors" 187 103) ::
 (nat_lit 106,⟨(.type "dict"),none,(.dict #[Mk.dE P "__module__" 296 (.str "markworks.errors" 187),Mk.dE P "__firstlineno__" 300 (.int 17 299),Mk.dE P "__init__" 308 (.ref 104),Mk.dE P "__static_attributes__" 310 (.ref 105),Mk.dE P "__doc__" 311 .none] 2),#[]⟩) ::
 (nat_lit 107,Mk.eC "BadRest" 32 107 106 91 289 297) ::
 (nat_lit 119,Mk.eC "Unlike" 32 119 118 110 314 322) ::
 (nat_lit 138,Mk.eC "BadText" 32 138 137 122 330 338) ::
 (nat_lit 150,Mk.eC "BadPairs" 32 150 149 141 355 363) ::
 (nat_lit 162,Mk.eC "Never" 32 162 161 153 371 379) ::
 (nat_lit 181,Mk.eC "Unled" 32 181 180 165 387 395) ::
 (nat_lit 193,Mk.eC "Nothing" 32 193 192 184 412 420) ::
 (nat_lit 196,⟨(.type "tuple"),none,(.seq #[(.str "bar" 440),(.str "drop" 441),(.str "keep" 442),(.str "leave" 443)] 0),#[]⟩) ::
 (nat_lit 202,Mk.cO "is_whole" 445 "is_whole" 446 447 45 1 0 0 3 197 198 199 200 201 449 45 450) ::
 (nat_lit 203,Mk.fN "is_whole" "is_whole" (Mk.top 18) "markworks.kinds" 428 202) ::
 (nat_lit 207,⟨(.type "code"),none,(.fields #[(.str "is_name" 452),(.str "is_name" 453),(.str "/claim/cut.py" 454),(.int 47 0),(.int 1 0),(.int 0 0),(.int 0 0),(.int 3 0),(.ref 204),(.bool true),(.int 181 0),(.ref 205),.none,.none,.none,(.ref 206),(.int 455 0),(.int 47 0),(.str "/claim/cut.py" 456)]),#[]⟩) ::
 (nat_lit 208,Mk.fN "is_name" "is_name" (Mk.top 19) "markworks.kinds" 428 207) ::
 (nat_lit 221,Mk.cO "union_of" 465 "union_of" 466 467 53 1 0 0 3 216 217 218 219 220 471 53 472) ::
 (nat_lit 222,Mk.fN "union_of" "union_of" (Mk.top 21) "markworks.kinds" 428 221) ::
 (nat_lit 228,Mk.cO "is_one_of" 474 "is_one_of" 475 476 58 2 0 0 3 223 224 225 226 227 479 58 480) ::
 (nat_lit 229,Mk.fN "is_one_of" "is_one_of" (Mk.top 22) "markworks.kinds" 428 228) ::
 (nat_lit 240,Mk.cO "next_mark" 488 "next_mark" 489 490 62 1 0 0 3 235 236 237 238 239 492 62 493) ::
 (nat_lit 241,Mk.fN "next_mark" "next_mark" (Mk.top 24) "markworks.kinds" 428 240) ::
 (nat_lit 245,⟨(.type "code"),none,(.fields #[(.str "is_names_of" 495),(.str "is_names_of" 496),(.str "/claim/cut.py" 497),(.int 64 0),(.int 2 0),(.int 0 0),(.int 0 0),(.int 3 0),(.ref 242),(.bool true),(.int 181 0),(.ref 243),.none,.none,.none,(.ref 244),(.int 498 0),(.int 64 0),(.str "/claim/cut.py" 499)]),#[]⟩) ::
 (nat_lit 246,Mk.fN "is_names_of" "is_names_of" (Mk.top 25) "markworks.kinds" 428 245) ::
 (nat_lit 250,⟨(.type "code"),none,(.fields #[(.str "thing_number" 501),(.str "thing_number" 502),(.str "/claim/cut.py" 503),(.int 66 0),(.int 2 0),(.int 0 0),(.int 0 0),(.int 3 0),(.ref 247),(.bool true),(.int 181 0),(.ref 248),.none,.none,.none,(.ref 249),(.int 504 0),(.int 66 0),(.str "/claim/cut.py" 505)]),#[]⟩) ::
 (nat_lit 251,Mk.fN "thing_number" "thing_number" (Mk.top 26) "markworks.kinds" 428 250) ::
 (nat_lit 257,Mk.cO "row_number" 507 "row_number" 508 509 74 2 0 0 3 252 253 254 255 256 515 74 516) ::
 (nat_lit 258,Mk.fN "row_number" "row_number" (Mk.top 27) "markworks.kinds" 428 257) ::
 (nat_lit 264,Mk.cO "numbered" 518 "numbered" 519 520 84 1 0 0 3 259 260 261 262 263 526 84 527) ::
 (nat_lit 265,Mk.fN "numbered" "numbered" (Mk.top 28) "markworks.kinds" 428 264) ::
 (nat_lit 271,Mk.cO "first_names" 529 "first_names" 530 531 94 1 0 0 3 266 267 268 269 270 536 94 537) ::
 (nat_lit 272,Mk.fN "first_names" "first_names" (Mk.top 29) "markworks.kinds" 428 271) ::
 (nat_lit 280,⟨(.type "dict"),none,(.dict #[Mk.dE P "rest" 552 (.str "bar" 551)] 1),#[]⟩) ::
 (nat_lit 286,Mk.cO "__init__" 553 "Kind.__init__" 554 555 101 2 0 1 3 281 282 283 284 285 559 101 560) ::
 (nat_lit 287,⟨(.type "function"),none,(.func (Mk.fS "__init__" "Kind.__init__" (L2.inClass (Mk.top 30) 0) .none (.ref 280) .none (.str "markworks.kinds" 428) none (.ref 286) .none)),#[]⟩) ::
 (nat_lit 293,Mk.cO "rows" 562 "Kind.rows" 563 564 108 1 0 0 3 288 289 290 291 292 566 108 567) ::
 (nat_lit 294,Mk.fN "rows" "Kind.rows" (L2.inClass (Mk.top 30) 1) "markworks.kinds" 428 293) ::
 (nat_lit 324,Mk.cO "known" 596 "Kind.known" 597 598 126 1 0 0 3 319 320 321 322 323 600 126 601) ::
 (nat_lit 325,Mk.fN "known" "Kind.known" (L2.inClass (Mk.top 30) 6) "markworks.kinds" 428 324) ::
 (nat_lit 331,Mk.cO "rest" 603 "Kind.rest" 604 605 129 1 0 0 3 326 327 328 329 330 607 129 608) ::
 (nat_lit 332,Mk.fN "rest" "Kind.rest" (L2.inClass (Mk.top 30) 7) "markworks.kinds" 428 331) ::
 (nat_lit 338,Mk.cO "__eq__" 610 "Kind.__eq__" 611 612 132 2 0 0 3 333 334 335 336 337 615 132 616) ::
 (nat_lit 339,Mk.fN "__eq__" "Kind.__eq__" (L2.inClass (Mk.top 30) 8) "markworks.kinds" 428 338) ::
 (nat_lit 348,⟨(.type "dict"),none,(.dict #[Mk.dE P "__module__" 546 (.str "markworks.kinds" 428),Mk.dE P "__firstlineno__" 550 (.int 99 549),Mk.dE P "__init__" 561 (.ref 287),Mk.dE P "rows" 568 (.ref 294),Mk.dE P "number" 576 (.ref 301),Mk.dE P "names" 583 (.ref 308),Mk.dE P "aliases" 589 (.ref 313),Mk.dE P "marks" 595 (.ref 318),Mk.dE P "known" 602 (.ref 325),Mk.dE P "rest" 609 (.ref 332),Mk.dE P "__eq__" 617 (.ref 339),Mk.dE P "__len__" 624 (.ref 346),Mk.dE P "__static_attributes__" 628 (.ref 347),Mk.dE P "__dict__" 630 (.ref 350),Mk.dE P "__weakref__" 632 (.ref 351),Mk.dE P "__doc__" 633 .none,Mk.dE P "__hash__" 634 .none] 5),#[]⟩) ::
 (nat_lit 349,⟨(.type "type"),none,(.cls ⟨"Kind", [(.type "object")],[(.ref 349),(.type "object")],348, "Kind", true,[],[],false,none,false⟩),#[none,none,(some (.str "Kind" 539)),(some (.str "Kind" 547)),(some (.builtin "object.__new__")),(some (.bool true))]⟩) ::
 (nat_lit 359,Mk.cO "is_number" 643 "is_number" 644 645 139 1 0 0 3 354 355 356 357 358 647 139 648) ::
 (nat_lit 360,Mk.fN "is_number" "is_number" (Mk.top 33) "markworks.values" 637 359) ::
 (nat_lit 366,Mk.cO "rest_of" 650 "rest_of" 651 652 141 2 0 0 3 361 362 363 364 365 655 141 656) ::
 (nat_lit 367,Mk.fN "rest_of" "rest_of" (Mk.top 34) "markworks.values" 637 366) ::
 (nat_lit 380,Mk.cO "__init__" 670 "Value.__init__" 671 672 145 3 0 0 3 375 376 377 378 379 676 145 677) ::
 (nat_lit 381,Mk.fN "__init__" "Value.__init__" (L2.inClass (Mk.top 35) 0) "markworks.values" 637 380) ::
 (nat_lit 387,Mk.cO "number" 679 "Value.number" 680 681 153 1 0 0 3 382 383 384 385 386 683 153 684) ::
 (nat_lit 388,Mk.fN "number" "Value.number" (L2.inClass (Mk.top 35) 1) "markworks.values" 637 387) ::
 (nat_lit 394,Mk.cO "kind" 686 "Value.kind" 687 688 156 1 0 0 3 389 390 391 392 393 690 156 691) ::
 (nat_lit 395,Mk.fN "kind" "Value.kind" (L2.inClass (Mk.top 35) 2) "markworks.values" 637 394) ::
 (nat_lit 413,Mk.cO "__eq__" 706 "Value.__eq__" 707 708 165 2 0 0 3 408 409 410 411 412 711 165 712) ::
 (nat_lit 414,Mk.fN "__eq__" "Value.__eq__" (L2.inClass (Mk.top 35) 5) "markworks.values" 637 413) ::
 (nat_lit 423,⟨(.type "dict"),none,(.dict #[Mk.dE P "__module__" 665 (.str "markworks.values" 637),Mk.dE P "__firstlineno__" 669 (.int 143 668),Mk.dE P "__init__" 678 (.ref 381),Mk.dE P "number" 685 (.ref 388),Mk.dE P "kind" 692 (.ref 395),Mk.dE P "marks" 698 (.ref 400),Mk.dE P "rest" 705 (.ref 407),Mk.dE P "__eq__" 713 (.ref 414),Mk.dE P "__len__" 720 (.ref 421),Mk.dE P "__static_attributes__" 723 (.ref 422),Mk.dE P "__dict__" 725 (.ref 425),Mk.dE P "__weakref__" 727 (.ref 426),Mk.dE P "__doc__" 728 .none,Mk.dE P "__hash__" 729 .none] 5),#[]⟩) ::
 (nat_lit 424,⟨(.type "type"),none,(.cls ⟨"Value", [(.type "object")],[(.ref 424),(.type "object")],423, "Value", true,[],[],false,none,false⟩),#[none,none,(some (.str "Value" 658)),(some (.str "Value" 666)),(some (.builtin "object.__new__")),(some (.bool true))]⟩) ::
 (nat_lit 434,Mk.cO "made" 732 "made" 733 734 170 2 0 0 3 429 430 431 432 433 739 170 740) ::
 (nat_lit 435,Mk.fN "made" "made" (Mk.top 36) "markworks.values" 637 434) ::
 (nat_lit 436,⟨(.type "tuple"),none,(.seq #[(.str "bar" 746),(.str "drop" 747)] 0),#[]⟩) ::
 (nat_lit 442,Mk.cO "is_packed_kind" 749 "is_packed_kind" 750 751 185 1 0 0 3 437 438 439 440 441 753 185 754) ::
 (nat_lit 443,Mk.fN "is_packed_kind" "is_packed_kind" (Mk.top 40) "markworks.packs" 742 442) ::
 (nat_lit 449,Mk.cO "is_value_of" 756 "is_value_of" 757 758 187 2 0 0 3 444 445 446 447 448 761 187 762) ::
 (nat_lit 450,Mk.fN "is_value_of" "is_value_of" (Mk.top 41) "markworks.packs" 742 449) ::
 (nat_lit 461,⟨(.type "code"),none,(.fields #[(.str "__init__" 776),(.str "Pack.__init__" 777),(.str "/claim/cut.py" 778),(.int 191 0),(.int 2 0),(.int 0 0),(.int 0 0),(.int 3 0),(.ref 458),(.bool true),(.int 181 0),(.ref 459),.none,.none,.none,(.ref 460),(.int 779 0),(.int 191 0),(.str "/claim/cut.py" 780)]),#[]⟩) ::
 (nat_lit 462,Mk.fN "__init__" "Pack.__init__" (L2.inClass (Mk.top 42) 0) "markworks.packs" 742 461) ::
 (nat_lit 466,⟨(.type "code"),none,(.fields #[(.str "widths" 782),(.str "Pack.widths" 783),(.str "/claim/cut.py" 784),(.int 198 0),(.int 1 0),(.int 0 0),(.int 0 0),(.int 3 0),(.ref 463),(.bool true),(.int 181 0),(.ref 464),.none,.none,.none,(.ref 465),(.int 785 0),(.int 198 0),(.str "/claim/cut.py" 786)]),#[]⟩) ::
 (nat_lit 467,Mk.fN "widths" "Pack.widths" (L2.inClass (Mk.top 42) 1) "markworks.packs" 742 466) ::
 (nat_lit 473,Mk.cO "is_packed_number" 788 "Pack.is_packed_number" 789 790 201 2 0 0 3 468 469 470 471 472 793 201 794) ::
 (nat_lit 474,Mk.fN "is_packed_number" "Pack.is_packed_number" (L2.inClass (Mk.top 42) 2) "markworks.packs" 742 473) ::
 (nat_lit 478,⟨(.type "code"),none,(.fields #[(.str "packed" 796),(.str "Pack.packed" 797),(.str "/claim/cut.py" 798),(.int 204 0),(.int 2 0),(.int 0 0),(.int 0 0),(.int 3 0),(.ref 475),(.bool true),(.int 181 0),(.ref 476),.none,.none,.none,(.ref 477),(.int 799 0),(.int 204 0),(.str "/claim/cut.py" 800)]),#[]⟩) ::
 (nat_lit 479,Mk.fN "packed" "Pack.packed" (L2.inClass (Mk.top 42) 3) "markworks.packs" 742 478) ::
 (nat_lit 485,Mk.cO "unpacked" 802 "Pack.unpacked" 803 804 216 2 0 0 3 480 481 482 483 484 811 216 812) ::
 (nat_lit 486,Mk.fN "unpacked" "Pack.unpacked" (L2.inClass (Mk.top 42) 4) "markworks.packs" 742 485) ::
 (nat_lit 492,Mk.cO "put" 814 "Pack.put" 815 816 226 4 0 0 3 487 488 489 490 491 824 226 825) ::
 (nat_lit 493,Mk.fN "put" "Pack.put" (L2.inClass (Mk.top 42) 5) "markworks.packs" 742 492) ::
 (nat_lit 495,⟨(.type "dict"),none,(.dict #[Mk.dE P "__module__" 771 (.str "markworks.packs" 742),Mk.dE P "__firstlineno__" 775 (.int 189 774),Mk.dE P "__init__" 781 (.ref 462),Mk.dE P "widths" 787 (.ref 467),Mk.dE P "is_packed_number" 795 (.ref 474),Mk.dE P "packed" 801 (.ref 479),Mk.dE P "unpacked" 813 (.ref 486),Mk.dE P "put" 826 (.ref 493),Mk.dE P "__static_attributes__" 828 (.ref 494),Mk.dE P "__dict__" 830 (.ref 497),Mk.dE P "__weakref__" 832 (.ref 498),Mk.dE P "__doc__" 833 .none] 4),#[]⟩) ::
 (nat_lit 496,⟨(.type "type"),none,(.cls ⟨"Pack", [(.type "object")],[(.ref 496),(.type "object")],495, "Pack", true,[],[],false,none,false⟩),#[none,none,(some (.str "Pack" 764)),(some (.str "Pack" 772)),(some (.builtin "object.__new__")),(some (.bool true))]⟩) ::
 (nat_lit 506,Mk.cO "_law_cell" 838 "_law_cell" 839 840 238 2 0 0 3 501 502 503 504 505 843 238 844) ::
 (nat_lit 507,Mk.fN "_law_cell" "_law_cell" (Mk.top 44) "law_markworks_k60_whole_packs" 836 506) ::
 (nat_lit 513,Mk.cO "_law_drawn" 846 "_law_drawn" 847 848 242 2 0 0 3 508 509 510 511 512 852 242 853) ::
 (nat_lit 514,Mk.fN "_law_drawn" "_law_drawn" (Mk.top 45) "law_markworks_k60_whole_packs" 836 513) ::
 (nat_lit 520,Mk.cO "_law_roll" 855 "_law_roll" 856 857 247 2 0 0 3 515 516 517 518 519 861 247 862) ::
 (nat_lit 521,Mk.fN "_law_roll" "_law_roll" (Mk.top 46) "law_markworks_k60_whole_packs" 836 520) ::
 (nat_lit 525,⟨(.type "code"),none,(.fields #[(.str "_law_rounds" 864),(.str "_law_rounds" 865),(.str "/claim/cut.py" 866),(.int 254 0),(.int 2 0),(.int 0 0),(.int 0 0),(.int 3 0),(.ref 522),(.bool true),(.int 181 0),(.ref 523),.none,.none,.none,(.ref 524),(.int 867 0),(.int 254 0),(.str "/claim/cut.py" 868)]),#[]⟩) ::
 (nat_lit 526,Mk.fN "_law_rounds" "_law_rounds" (Mk.top 47) "law_markworks_k60_whole_packs" 836 525) ::
 (nat_lit 530,⟨(.type "code"),none,(.fields #[(.str "_law_word" 870),(.str "_law_word" 871),(.str "/claim/cut.py" 872),(.int 256 0),(.int 1 0),(.int 0 0),(.int 0 0),(.int 3 0),(.ref 527),(.bool true),(.int 181 0),(.ref 528),.none,.none,.none,(.ref 529),(.int 873 0),(.int 256 0),(.str "/claim/cut.py" 874)]),#[]⟩) ::
 (nat_lit 531,Mk.fN "_law_word" "_law_word" (Mk.top 48) "law_markworks_k60_whole_packs" 836 530) ::
 (nat_lit 537,Mk.cO "_law_told" 876 "_law_told" 877 878 266 1 0 0 3 532 533 534 535 536 881 266 882) ::
 (nat_lit 538,Mk.fN "_law_told" "_law_told" (Mk.top 49) "law_markworks_k60_whole_packs" 836 537) ::
 (nat_lit 542,⟨(.type "code"),none,(.fields #[(.str "_law_bits_of" 884),(.str "_law_bits_of" 885),(.str "/claim/cut.py" 886),(.int 279 0),(.int 1 0),(.int 0 0),(.int 0 0),(.int 3 0),(.ref 539),(.bool true),(.int 181 0),(.ref 540),.none,.none,.none,(.ref 541),(.int 887 0),(.int 279 0),(.str "/claim/cut.py" 888)]),#[]⟩) ::
 (nat_lit 543,Mk.fN "_law_bits_of" "_law_bits_of" (Mk.top 50) "law_markworks_k60_whole_packs" 836 542) ::
 (nat_lit 547,⟨(.type "code"),none,(.fields #[(.str "_law_lines" 890),(.str "_law_lines" 891),(.str "/claim/cut.py" 892),(.int 281 0),(.int 2 0),(.int 0 0),(.int 0 0),(.int 3 0),(.ref 544),(.bool true),(.int 181 0),(.ref 545),.none,.none,.none,(.ref 546),(.int 893 0),(.int 281 0),(.str "/claim/cut.py" 894)]),#[]⟩) ::
 (nat_lit 548,Mk.fN "_law_lines" "_law_lines" (Mk.top 51) "law_markworks_k60_whole_packs" 836 547) ::
 (nat_lit 552,⟨(.type "code"),none,(.fields #[(.str "_law_table_of" 896),(.str "_law_table_of" 897),(.str "/claim/cut.py" 898),(.int 300 0),(.int 1 0),(.int 0 0),(.int 0 0),(.int 3 0),(.ref 549),(.bool true),(.int 181 0),(.ref 550),.none,.none,.none,(.ref 551),(.int 899 0),(.int 300 0),(.str "/claim/cut.py" 900)]),#[]⟩) ::
 (nat_lit 553,Mk.fN "_law_table_of" "_law_table_of" (Mk.top 52) "law_markworks_k60_whole_packs" 836 552) ::
 (nat_lit 559,Mk.cO "_law_number_in" 902 "_law_number_in" 903 904 308 3 0 0 3 554 555 556 557 558 909 308 910) ::
 (nat_lit 560,Mk.fN "_law_number_in" "_law_number_in" (Mk.top 53) "law_markworks_k60_whole_packs" 836 559) ::
 (nat_lit 566,Mk.cO "_law_made" 912 "_law_made" 913 914 313 3 0 0 3 561 562 563 564 565 920 313 921) ::
 (nat_lit 567,Mk.fN "_law_made" "_law_made" (Mk.top 54) "law_markworks_k60_whole_packs" 836 566) ::
 (nat_lit 573,Mk.cO "_law_pack" 923 "_law_pack" 924 925 323 1 0 0 3 568 569 570 571 572 932 323 933) ::
 (nat_lit 574,Mk.fN "_law_pack" "_law_pack" (Mk.top 55) "law_markworks_k60_whole_packs" 836 573) ::
 (nat_lit 578,⟨(.type "code"),none,(.fields #[(.str "_law_width" 935),(.str "_law_width" 936),(.str "/claim/cut.py" 937),(.int 330 0),(.int 1 0),(.int 0 0),(.int 0 0),(.int 3 0),(.ref 575),(.bool true),(.int 181 0),(.ref 576),.none,.none,.none,(.ref 577),(.int 938 0),(.int 330 0),(.str "/claim/cut.py" 939)]),#[]⟩) ::
 (nat_lit 579,Mk.fN "_law_width" "_law_width" (Mk.top 56) "law_markworks_k60_whole_packs" 836 578) ::
 (nat_lit 583,⟨(.type "code"),none,(.fields #[(.str "law" 941),(.str "law" 942),(.str "/claim/cut.py" 943),(.int 332 0),(.int 1 0),(.int 0 0),(.int 0 0),(.int 3 0),(.ref 580),(.bool true),(.int 181 0),(.ref 581),.none,.none,.none,(.ref 582),(.int 944 0),(.int 332 0),(.str "/claim/cut.py" 945)]),#[]⟩) ::
 (nat_lit 584,Mk.fN "law" "law" (Mk.top 57) "law_markworks_k60_whole_packs" 836 583) ::
 []
noncomputable def Mk.Kf (P : PySem.Params) : PySem.W.Frag:=(nat_lit 581,⟨.none,none,(.fields #[]),#[]⟩) :: Mk.Kg P
noncomputable def Mk.Kas : List Nat:=581 :: 2 :: 3 :: 22 :: 28 :: 29 :: 31 :: 32 :: 52 :: 63 :: 64 :: 76 :: 88 :: 103 :: 104 :: 106 :: 107 :: 119 :: 138 :: 150 :: 162 :: 181 :: 193 :: 196 :: 202 :: 203 :: 207 :: 208 :: 221 :: 222 :: 228 :: 229 :: 240 :: 241 :: 245 :: 246 :: 250 :: 251 :: 257 :: 258 :: 264 :: 265 :: 271 :: 272 :: 280 :: 286 :: 287 :: 293 :: 294 :: 324 :: 325 :: 331 :: 332 :: 338 :: 339 :: 348 :: 349 :: 359 :: 360 :: 366 :: 367 :: 380 :: 381 :: 387 :: 388 :: 394 :: 395 :: 413 :: 414 :: 423 :: 424 :: 434 :: 435 :: 436 :: 442 :: 443 :: 449 :: 450 :: 461 :: 462 :: 466 :: 467 :: 473 :: 474 :: 478 :: 479 :: 485 :: 486 :: 492 :: 493 :: 495 :: 496 :: 506 :: 507 :: 513 :: 514 :: 520 :: 521 :: 525 :: 526 :: 530 :: 531 :: 537 :: 538 :: 542 :: 543 :: 547 :: 548 :: 552 :: 553 :: 559 :: 560 :: 566 :: 567 :: 573 :: 574 :: 578 :: 579 :: 583 :: 584 :: []
noncomputable def Mk.loose : List PySem.Str:=Str.ofString "MarkError" :: Str.ofString "BadRows" :: Str.ofString "BadRule" :: Str.ofString "BadName" :: Str.ofString "BadNumber" :: Str.ofString "BadRest" :: Str.ofString "Unlike" :: Str.ofString "BadText" :: Str.ofString "BadPairs" :: Str.ofString "Never" :: Str.ofString "Unled" :: Str.ofString "Nothing" :: Str.ofString "GREATEST" :: Str.ofString "MOST_ROWS" :: Str.ofString "LONGEST_NAME" :: Str.ofString "RULES" :: Str.ofString "is_whole" :: Str.ofString "is_name" :: Str.ofString "is_mark" :: Str.ofString "union_of" :: Str.ofString "is_one_of" :: Str.ofString "mark_bits" :: Str.ofString "next_mark" :: Str.ofString "is_names_of" :: Str.ofString "thing_number" :: Str.ofString "row_number" :: Str.ofString "numbered" :: Str.ofString "first_names" :: Str.ofString "Kind" :: Str.ofString "LIMIT" :: Str.ofString "is_number" :: Str.ofString "rest_of" :: Str.ofString "Value" :: Str.ofString "made" :: Str.ofString "MOST_KINDS" :: Str.ofString "PACKED_RULES" :: Str.ofString "is_packed_kind" :: Str.ofString "is_value_of" :: Str.ofString "Pack" :: Str.ofString "_law_cell" :: Str.ofString "_law_drawn" :: Str.ofString "_law_roll" :: Str.ofString "_law_rounds" :: Str.ofString "_law_word" :: Str.ofString "_law_told" :: Str.ofString "_law_bits_of" :: Str.ofString "_law_lines" :: Str.ofString "_law_table_of" :: Str.ofString "_law_number_in" :: Str.ofString "_law_made" :: Str.ofString "_law_pack" :: Str.ofString "_law_width" :: []
def Mk.T0 (P : Params) : BT:=.node (boot_o_0 P)
  (.node (boot_o_1 P) (.node (boot_o_3 P) (.node (boot_o_7 P) .nil .nil) .nil) (.node (boot_o_5 P) (.node (boot_o_9 P) .nil .nil) .nil))
  (.node (boot_o_2 P) (.node (boot_o_4 P) (.node (boot_o_8 P) .nil .nil) .nil) (.node (boot_o_6 P) (.node (boot_o_10 P) .nil .nil) .nil))
theorem Mk.tree (P : Params) : absHeap (Mk.T0 P) (nat_lit 11) {} = boot_heap P:=by kernel_rfl
theorem Mk.size (w : World) : ((boot_heap w.params).isNs mainGlobals,(boot_heap w.params).objs.size,(boot_heap w.params).nsMap mainGlobals "__annotations__") = (true,(nat_lit 11),some (.ref (nat_lit 6))):=by kernel_rfl
theorem Mk.opens (w : World) : (fencedOpening treeTable PySem.Challenge.pw_markworks_k60_whole_packs w (nat_lit 10190)).map (fun s=>(s.heap,s.gens,s.drawn,s.toks)) = some (boot_heap w.params,#[],boot_drawn,boot_toks):=boot_open (by kernel_rfl) (by decide) (fun s=>by kernel_rfl) w
theorem Mk.twin : Function.const _ true (@Hd.runT,@Hd.looksAt,PySem.Challenge.pw_markworks_k60_whole_packs,Mk.Kf,Mk.loose) = true:=by k_qdec
abbrev Mk.qv : Program := view PySem.Challenge.pw_markworks_k60_whole_packs [nat_lit 57]
abbrev Mk.Xt (s : Shared) : Bool := xlAt Mk.qv [] s && recOk [] s
theorem Mk.run_q (w : World) (os : OsState) : (Option.map (fun s => Fast.tw8257016192812374322 Fast.tw16530005205818967543 (view Fast.tw16530005205818967543 [nat_lit 57]) Fast.tw2924075613660010442 (fun s => xlAt (view Fast.tw16530005205818967543 [nat_lit 57]) [] s && recOk [] s) Mk.Kas (boot_heap w.params) s.abs)
      (Fast.tw16599536794577742827 Fast.tw14364793385576792824 Fast.tw16530005205818967543 w (nat_lit 11) (some (Value.ref (nat_lit 6))) (nat_lit 5047) ⟨Mk.T0 w.params,nat_lit 11,{},#[],boot_drawn,boot_toks,os⟩ (topStub Fast.tw16530005205818967543))) =
    some (true,openGood (view Fast.tw16530005205818967543 [nat_lit 57]) Fast.tw2924075613660010442,(Fast.tw12104304683883722232 w.params).map fun x=>some x.2):=by kernel_rfl
theorem Mk.left : LeftO PySem.Challenge.pw_markworks_k60_whole_packs Mk.qv Mk.loose Mk.Xt (fun s=>Mk.Kas.map s.heap.get?) (fun w=>(Mk.Kf w.params).map fun x=>some x.2) (nat_lit 10190):=by
  refine Hd.left_of (M:=nat_lit 5047) (T0:=Mk.T0) Mk.opens Mk.tree Mk.size (by decide) fun w os=>?_
  have h:=Mk.run_q w os
  rw [← Fast.te8257016192812374322,← Fast.te16530005205818967543,← Fast.te2924075613660010442,← Fast.te16599536794577742827,← Fast.te14364793385576792824,← Fast.te12104304683883722232] at h
  exact h
theorem Mk.kg_in {P : Params} {h : Heap} (X : (Mk.Kf P).In h) : (Mk.Kg P).In h /\ h.get? 581 = some (tabObj #[]):=by
  have e : (Mk.Kg P).lookup 581 = none:=by kernel_rfl
  refine ⟨fun b o z=>X b o ?_,X _ _ (by unfold Mk.Kf; rw [List.lookup_cons]; rfl)⟩
  unfold Mk.Kf
  rw [List.lookup_cons]
  have nb : (b == 581) = false:=by
    cases q : (b == 581) with
    | false=>rfl
    | true=>rw [beq_iff_eq.mp q,e] at z; cases z
  rw [nb]
  exact z
def Mk.dL : DefRec:=⟨"law", L2.defArgs (Mk.top (nat_lit 57)),L2.defBody (Mk.top (nat_lit 57)),L2.defScope (Mk.top (nat_lit 57)),match Mk.top (nat_lit 57) with | .FunctionDef _ _ _ _ _ _ _ _ _ p=>p | _=>⟨0,0,0,0⟩⟩
end
open PySem PySem.W PyProof.Rows
set_option maxRecDepth 100000 in
set_option maxHeartbeats 0 in
theorem PySem.Challenge.cw_markworks_k60_whole_packs_holds : PySem.Challenge.rw_markworks_k60_whole_packs.Holds := by
  w_on; o_law
  refine PySem.W.holds_open (r:=PySem.Challenge.rw_markworks_k60_whole_packs.row) (q:=Mk.qv) (loose:=Mk.loose) (Xt:=Mk.Xt) (XP:=XL Mk.qv []) (YP:=InK Mk.Kf) (d:=Mk.dL) (kwd:=[]) Mk.left
    (fun w s e=>InK.of (fun P=>by kernel_rfl) w s e) InK.keeps (fun s e=>xl_of s (Bool.and_eq_true_iff.mp e).1) XL.keeps (by kernel_rfl) (by kernel_rfl) (by kernel_rfl) (fun s e=>recFacts_of (Bool.and_eq_true_iff.mp e).2) (by rfl) (by assumption) (by decide +kernel) ⟨rfl,rfl,rfl,rfl,rfl,by decide +kernel⟩ ?hw ?hc
  case hw=>w_witness2
  have aux : Function.const _ True (PySem.Challenge.rw_markworks_k60_whole_packs,Mk.Kg):=by k_fill; trivial
  refine Mk.walk (l:=PySem.Challenge.rw_markworks_k60_whole_packs) (c:=583) (P0:=581) (K:=Mk.Kg) rfl rfl (fun w h Y=>⟨(Mk.kg_in Y).1,(Mk.kg_in Y).2,by kernel_rfl,Mk.codeHd_of (Mk.kg_in Y).1 (by kernel_rfl)⟩) ?F
  case F =>
    intro w mg fa h KX G hmg
    refine' Mk.all_mk KX G hmg ?aC ?aVC ?aPC ?aM ?aX0 ?aX1 ?aX2 ?aX3 ?aX4 ?aX5 ?aX6 ?aX7 ?aX8 ?aX9 ?aX10 ?z_VE ?hwh ?hnm ?huo ?hnx ?hoo ?hno ?hth ?hro ?hnb ?hfi ?hmR ?hmK ?hmT ?hmE ?hlc ?hld ?hlr ?hls ?hll ?hxn ?hxr ?hxi ?hxN ?hxK ?hxE ?hwX ?hrB ?hlb ?hlt ?hlv ?hli ?hlm ?hpk ?hiv ?hpw ?hpn ?hpp ?hpt ?hpi ?hpu ?hmd ?hri ?hlp ?hlw ?hlo ?ain ?iin ?lin ?cin ?kin ?ala ?lla ?cla ?kla ?aei ?iei ?lei ?cei ?kei ?kdl ?kde ?kdr ?dtl ?vG ?vM ?vL ?vLi ?vR ?qn ?qt ?fC ?fVC ?fPC ?nC_numbers ?nC_firsts ?nC_rule ?nVC_own_kind ?nVC_bits ?nPC_kinds ?xm ?xc0 ?xc1 ?xc2 ?xc3 ?y4 ?y1 ?xmg ?xmr ?xmf ?rL ?z_len ?z_isinstance ?z_max ?z_min ?z_range ?z_list ?z_tuple ?z_sorted ?z_sum ?z_all ?z_enumerate ?z_int ?z_bool ?z_str ?z_zip ?vK ?vP ?pL
    case aC | aVC | aPC | aM | aX0 | aX1 | aX2 | aX3 | aX4 | aX5 | aX6 | aX7 | aX8 | aX9 | aX10 | z_VE=>k_is
    case hwh | hnm | huo | hnx | hoo | hno | hth | hro | hnb | hfi =>
      refine' ⟨_,_,?a,L2.fun_mk ?b ?c ?d⟩
      case a | b | c | d=>k_is
    case hmR | hmK | hmT | hmE =>
      refine' ⟨_,_,?a,?i,⟨_,?o,?q⟩,L2.fun_mk ?b ?c ?d⟩
      case a | i | b=>k_is
      case o | q=>first | rfl | k_is
      case c | d=>k_is
    case hlc | hld | hlr | hls | hll | hxn | hxr =>
      refine' ⟨_,_,?a,L2.fun_mk ?b ?c ?d⟩
      case a | b | c | d=>k_is
    case hxi | hxN | hxK | hxE =>
      refine' ⟨_,_,?a,?i,⟨_,?o,?q⟩,L2.fun_mk ?b ?c ?d⟩
      case a | i | b=>k_is
      case o | q=>first | rfl | k_is
      case c | d=>k_is
    case hwX | hrB | hlb | hlt | hlv | hli | hlm | hpk | hiv =>
      refine' ⟨_,_,?a,L2.fun_mk ?b ?c ?d⟩
      case a | b | c | d=>k_is
    case hpw | hpn | hpp | hpt | hpi | hpu =>
      refine' ⟨_,_,?a,?i,⟨_,?o,?q⟩,L2.fun_mk ?b ?c ?d⟩
      case a | i | b=>k_is
      case o | q=>first | rfl | k_is
      case c | d=>k_is
    case hmd =>
      refine' ⟨_,_,?a,L2.fun_mk ?b ?c ?d⟩
      case a | b | c | d=>k_is
    case hri =>
      refine' ⟨_,_,?a,?i,⟨_,?o,?q⟩,L2.fun_mk ?b ?c ?d⟩
      case a | i | b=>k_is
      case o | q=>first | rfl | k_is
      case c | d=>k_is
    case hlp | hlw | hlo =>
      refine' ⟨_,_,?a,L2.fun_mk ?b ?c ?d⟩
      case a | b | c | d=>k_is
    case ain | iin | lin | cin | kin | ala | lla | cla | kla | aei | iei | lei | cei | kei | kdl=>k_is
    case kde=>simp
    case kdr | dtl | vG | vM | vL | vLi | vR | qn | qt=>k_is
    case fC | fVC | fPC =>
      refine' ⟨?_,?_,?_,?_,?_,?_,?_,?_,?_,?_,?_,?_,?_,?_⟩ <;> k_is
    case nC_numbers | nC_firsts | nC_rule | nVC_own_kind | nVC_bits | nPC_kinds=>k_is
    case xm | xc0 | xc1 | xc2 | xc3=>kernel_rfl
    case y4 =>
      exact ⟨⟨by kernel_rfl,by kernel_rfl,by kernel_rfl,by kernel_rfl,by kernel_rfl,by kernel_rfl,by kernel_rfl,by kernel_rfl,by kernel_rfl,by kernel_rfl⟩,by kernel_rfl,by kernel_rfl,by kernel_rfl⟩
    case y1 =>
      exact ⟨⟨by kernel_rfl,by kernel_rfl,by kernel_rfl,by kernel_rfl,by kernel_rfl,by kernel_rfl,by kernel_rfl,by kernel_rfl,by kernel_rfl,by kernel_rfl⟩,by kernel_rfl,by kernel_rfl,by kernel_rfl,by kernel_rfl,by kernel_rfl,by kernel_rfl⟩
    case xmg | xmr | xmf=>kernel_rfl
    case rL | z_len | z_isinstance | z_max | z_min | z_range | z_list | z_tuple | z_sorted | z_sum | z_all | z_enumerate | z_int | z_bool | z_str | z_zip | vK | vP | pL=>k_is
