import PyProof.Rows.All
import Wide.All
import OpenK.AllK
import Wide.FinOn
import PyProof.EqAt
import PyProof.EqKinds
import PyProof.TupleCall
import Lean
import PyProof.Rows.BitMore
import PyProof.ExcBaseAll.ValueError
import PyProof.ExcArgsOwn
import KE.KLam
import PyProof.InstStoreFacts
import PyProof.FString
import PyProof.FString2
import PyProof.Rows.FStr
import PyProof.FitsInt
import PyProof.ZipIter
import PyProof.Rows.ZipGen
import PyProof.AttrMissHeap
import KE.KDictOf
import PyProof.DictCompW
import PyProof.DictWalks
import PyProof.AutoSeq1
import PyProof.Rows.SeqMore
import PySem.Challenge.RW_markworks_k42_whole_never_and_always
set_option Elab.async false
set_option linter.all false
set_option maxRecDepth 100000
set_option maxHeartbeats 4000000
theorem AI {α:Type u} {β:Type v} {as:List α} (f:α->β):(as.map f).length=as.length:=List.length_map f
abbrev Aa:=List (PySem.Str × Nat)
abbrev VS:=PySem.Value->PySem.Shared->Prop
abbrev LO:=List (PySem.Addr × PySem.Obj)
abbrev SV:=PySem.Str->Option PySem.Value
open PySem in
abbrev FG:=W.Frag
open List (all_cons all_map any_cons any_eq_true any_map append_nil contains_cons filterMap_cons filter_append filter_cons filter_nil find?_cons flatten_cons foldl_append foldl_cons getD_eq_getElem?_getD getElem?_map length_append length_cons length_filter_le length_nil length_singleton length_take lookup_cons map_append map_cons map_map map_nil mem_append mem_append_left mem_append_right mem_cons mem_cons_of_mem mem_cons_self mem_filter mem_map mem_of_getElem? mem_range mem_singleton nodup_cons nodup_nil not_mem_nil of_mem_zip pairwise_map replicate_succ size_toArray sum_append sum_cons take_add_one take_length)
open PySem.Heap (get?_push_of_some get?_push_size get?_update_other get?_update_self lt_size size_push size_update)
section
namespace L2
open PySem
theorem sl1:1 <= sizeLine:=by decide
theorem sl2:2 <= sizeLine:=by decide
theorem sl3:3 <= sizeLine:=by decide
theorem sl4:4 <= sizeLine:=by decide
theorem sl6:6 <= sizeLine:=by decide
theorem sl7:7 <= sizeLine:=by decide
theorem sl9:9 <= sizeLine:=by decide
end L2
end
section
namespace L2
open PySem PySem.Spec PyProof.Rows
abbrev Key:=Sum Int Str
noncomputable def GY:Key->Value->Bool
 | .inl k,v=>Value.isInt k v
 | .inr x,v=>Value.isStrOf x v
noncomputable def UJ (w:World):Key->Int
 | .inl k=>hashInt k
 | .inr x=>hashStr w x
theorem A9:∀ {k:Key} {v:Value},GY k v=true->(∃ i t,k=Sum.inl i/\v=Value.int i t)\/(∃ x t,k=Sum.inr x/\v=Value.str x t)
 | .inl i,v,h=>by
  obtain ⟨t,e⟩:=Value.isInt_shape (k:=i) (v:=v) h;exact .inl ⟨i,t,rfl,e⟩
 | .inr x,v,h=>by
  obtain ⟨t,e⟩:=Value.isStrOf_shape (x:=x) (v:=v) h;exact .inr ⟨x,t,rfl,e⟩
theorem NP (i:Int) (t:Tok):GY (.inl i) (.int i t)=true:=by simp [GY,Value.isInt]
theorem NQ (x:Str) (t:Tok):GY (.inr x) (.str x t)=true:=by simp [GY,Value.isStrOf]
theorem SA (a b:Int):decide ((Sum.inl a:Key)=Sum.inl b)=(a == b):=by
 by_cases e:a=b
 ·subst e; simp
 ·have h:¬ (Sum.inl a:Key)=Sum.inl b:=fun q=>e (Sum.inl.inj q);rw [decide_eq_false h];exact (beq_eq_false_iff_ne.mpr e).symm
theorem SB (a b:Str):decide ((Sum.inr a:Key)=Sum.inr b)=decide (a=b):=by
 by_cases e:a=b
 ·subst e; simp
 ·have h:¬ (Sum.inr a:Key)=Sum.inr b:=fun q=>e (Sum.inr.inj q);rw [decide_eq_false h,decide_eq_false e]
theorem SC (a:Int) (b:Str):decide ((Sum.inl a:Key)=Sum.inr b)=false:=decide_eq_false (fun q=>nomatch q)
theorem SD (a:Str) (b:Int):decide ((Sum.inr a:Key)=Sum.inl b)=false:=decide_eq_false (fun q=>nomatch q)
noncomputable def Ar (prog:Program) (w:World):PySem.KeyKind prog w Key where
 is:=GY
 hash:=UJ w
 inj:=fun v a b ha hb=>by
  rcases A9 ha with ⟨i,t,rfl,rfl⟩ | ⟨x,t,rfl,rfl⟩
  ·rcases A9 hb with ⟨j,u,rfl,e⟩ | ⟨y,u,rfl,e⟩
   ·injection e with e1 _; rw [e1]
   ·exact nomatch e
  ·rcases A9 hb with ⟨j,u,rfl,e⟩ | ⟨y,u,rfl,e⟩
   ·exact nomatch e
   ·injection e with e1 _; rw [e1]
 byValue:=fun k v h=>by
  rcases A9 h with ⟨i,t,rfl,rfl⟩ | ⟨x,t,rfl,rfl⟩ <;> rfl
 pyHash:=fun hv h=>by
  rcases A9 hv with ⟨i,t,rfl,rfl⟩ | ⟨x,t,rfl,rfl⟩
  ·exact wpAny_pyHash_int h
  ·exact wpAny_pyHash_str h
 eqBool:=fun hu hv h=>by
  rcases A9 hu with ⟨i,t,rfl,rfl⟩ | ⟨x,t,rfl,rfl⟩
  ·rcases A9 hv with ⟨j,u,rfl,rfl⟩ | ⟨y,u,rfl,rfl⟩
   ·rw [SA] at h; exact wpAny_eqBool_int h
   ·rw [SC] at h; exact SeqAt.EqAt.int_str i t y u _ _ _ _ h
  ·rcases A9 hv with ⟨j,u,rfl,rfl⟩ | ⟨y,u,rfl,rfl⟩
   ·rw [SD] at h; exact SeqAt.EqAt.str_int x t j u _ _ _ _ h
   ·rw [SB] at h; exact wpAny_eqBool_str h
 «strs»:=fun k x t v h=>by
  rcases A9 h with ⟨i,u,rfl,e⟩ | ⟨y,u,rfl,e⟩
  ·exact nomatch e
  ·injection e with e1 _
   subst e1;cases v <;> rfl
theorem Jv (prog:Program) (w:World) (i:Int) (t:Tok):(Ar prog w).is (.inl i) (.int i t)=true:=NP i t
theorem Jw (prog:Program) (w:World) (x:Str) (t:Tok):(Ar prog w).is (.inr x) (.str x t)=true:=NQ x t
end L2
namespace L2
open PySem PySem.Spec PyProof.Rows
inductive V where
 | non | bl (b:Bool) | int (i:Int) | str (x:Str) | byt (b:Array UInt8) | flt (b:UInt64) | ref (a:Addr) | ty (n:String)
 deriving DecidableEq
def RelV:V->Value->Prop
 | .non,u=>u=Value.none
 | .bl b,u=>u=Value.bool b
 | .int i,u=>∃ t,u=Value.int i t
 | .str x,u=>∃ t,u=Value.str x t
 | .byt b,u=>∃ t,u=Value.bytes b t
 | .flt b,u=>∃ t,u=Value.float b t
 | .ref a,u=>u=Value.ref a
 | .ty n,u=>u=Value.type n
abbrev Vals:List V->List Value->Prop:=Paired RelV
theorem Vals.length {xs:List V} {us:List Value} (r:Vals xs us):xs.length=us.length:=Paired.length r
theorem Vals.get:∀ {xs:List V} {us:List Value} {i:Nat} {x:V},Vals xs us->xs[i]?=some x->∃ u,us[i]?=some u/\RelV x u
 | _,_,_,_,.nil,e=>by simp at e
 | _,_,0,_,.cons r _,e=>by simp at e; subst e; exact ⟨_,rfl,r⟩
 | _,_,i + 1,x,.cons _ t,e=>by
  obtain ⟨u,h1,h2⟩:=Vals.get (i:=i) (x:=x) t (by simpa using e);exact ⟨u,by simpa using h1,h2⟩
theorem Vals.set {x:V} {u:Value} (r:RelV x u):∀ {xs:List V} {us:List Value} (i:Nat),Vals xs us->Vals (xs.set i x) (us.set i u)
 | _,_,_,.nil=>.nil
 | _,_,0,.cons _ t=>.cons r t
 | _,_,i + 1,.cons q t=>.cons q (Vals.set r i t)
theorem Vals.append:∀ {xs ys:List V} {us ws:List Value},Vals xs us->Vals ys ws->Vals (xs++ys) (us++ws)
 | _,_,_,_,.nil,s=>s
 | _,_,_,_,.cons r t,s=>.cons r (Vals.append t s)
theorem Vals.take:∀ {xs:List V} {us:List Value} (n:Nat),Vals xs us->Vals (xs.take n) (us.take n)
 | _,_,0,_=>.nil
 | _,_,_ + 1,.nil=>.nil
 | _,_,n + 1,.cons r t=>.cons r (Vals.take n t)
theorem Vals.drop:∀ {xs:List V} {us:List Value} (n:Nat),Vals xs us->Vals (xs.drop n) (us.drop n)
 | _,_,0,r=>r
 | _,_,_ + 1,.nil=>.nil
 | _,_,n + 1,.cons _ t=>Vals.drop n t
def RelO:Option V->Option Value->Prop
 | some v,some u=>RelV v u
 | none,none=>True
 | _,_=>False
def KV {κ:Type}:List (κ × V)->List (κ × Value)->Prop:=Paired fun (p:κ × V) (q:κ × Value)=>p.1=q.1/\RelV p.2 q.2
noncomputable def kV:Key->V
 | .inl i=>.int i
 | .inr x=>.str x
abbrev LK:=List (Key × V)
inductive HO where
 | lst (xs:List V)
 | tup (xs:List V)
 | dK (kvs:LK) | dT (kvs:List (List Key × V))
 | set (S:Int->Bool) (n:Nat)
 | ins (C dx:Addr) (fs:List (Str × V))
 | own (x:Addr)
 | xd (fs:List (Str × V))
 | met (f x:Addr)
 | rng (lo hi:Int)
 | frz (o:Obj) (u:HO)
 | tbl (ps:Array Value)
 | ext (φ:Heap->Prop)
abbrev Hp:=Addr->Option HO
noncomputable def upd (H:Hp) (a:Addr) (o:HO):Hp:=fun b=>if b=a then some o else H b
theorem upd_same {H:Hp} {a:Addr} {o:HO}:upd H a o a=some o:=by unfold upd; rw [if_pos rfl]
theorem AE {H:Hp} {a b:Addr} {o:HO} (h:b ≠ a):upd H a o b=H b:=by unfold upd; rw [if_neg h]
theorem JF {H:Hp} {a:Addr} {o u:HO}:upd (upd H a o) a u=upd H a u:=by
 funext b; unfold upd; split <;> rfl
theorem TQ {H:Hp} {a b:Addr} {o u:HO} (h:H a=some o) (h':H b=some u) (d:o ≠ u):a ≠ b:=by
 intro e; subst e; rw [h] at h'; exact d (Option.some.inj h')
theorem AH {H:Hp} {a b:Addr} {o:HO} (h:H a=some o) (h':H b=none):a ≠ b:=by
 intro e; subst e; rw [h] at h'; cases h'
section
variable (P:Program) (w:World)
def ObjOk (H:Hp) (h:Heap) (a:Addr):HO->Prop
 | .lst xs=>xs.length <= sizeLine/\∃ (its:List Value) (n:Nat),Vals xs its/\h.get? a=some { cls:=.type "list", data:=.seq its.toArray n }
 | .tup xs=>xs.length <= sizeLine/\∃ its:List Value,Vals xs its/\IsTup h a its.toArray
 | .dK kvs=>kvs.length <= sizeLine/\(a == sysModules)=false/\∃ vs,KV kvs vs/\h.DictOf (Ar P w) a vs
 | .dT kvs=>kvs.length <= sizeLine/\(a == sysModules)=false/\∃ xs:List (List Key × Addr × Value),
   Paired (fun (p:List Key × V) (q:List Key × Addr × Value)=>p.1=q.1/\H q.2.1=some (.tup (p.1.map kV))/\RelV p.2 q.2.2) kvs xs /\
   ∃ o es ep,h.get? a=some o/\o.ExactDict/\o.data=.dict es ep/\es.toList=xs.map (entryOfKey (tupleKind (Ar P w)))/\(xs.map (·.1)).Nodup
 | .set S n=>h.SetOf (intKind P w) a S n
 | .ins C dx fs=>H dx=some (.own a)/\fs.length <= 1000/\dx ≠ a/\h.get? a=some (W.instObj C dx) /\
   ∃ mA,h.Ns1 dx mA/\(∀ f,RelO (fs.lookup f) (mA f))/\PySem.Within mA (fs.map (·.1))
 | .own _=>∃ o,h.get? a=some o
 | .xd fs=>∃ mA,h.Ns1 a mA/\∀ f,RelO (fs.lookup f) (mA f)
 | .rng lo hi=>∃ t u v,h.get? a=some { cls:=.type "range", data:=.fields #[.int lo t,.int hi u,.int 1 v] }
 | .frz o u=>h.get? a=some o/\ObjOk H h a u
 | .tbl ps=>h.get? a=some { cls:=.none,data:=.fields ps }
 | .met f x=>h.get? a=some (W.methodObj (.ref f) (.ref x))
 | .ext φ=>φ h/\(∃ o,h.get? a=some o)/\∀ h1 h2:Heap,φ h1->(∀ o,h1.get? a=some o->h2.get? a=some o)->φ h2
def HOk (H:Hp) (h:Heap):Prop:=∀ a o,H a=some o->ObjOk P w H h a o
end
section
variable {P:Program} {w:World} {H H':Hp} {h h':Heap} {a:Addr} {o:HO}
theorem ObjOk.lt (x:ObjOk P w H h a o):a < h.objs.size:=by
 cases o with
 | lst xs=>obtain ⟨_,_,_,_,e⟩:=x; exact lt_size e
 | tup xs=>obtain ⟨_,_,_,p⟩:=x; exact p.lt
 | dK kvs=>obtain ⟨_,_,_,_,o,_,_,e,_⟩:=x; exact lt_size e
 | dT kvs=>obtain ⟨_,_,_,_,o,_,_,e,_⟩:=x; exact lt_size e
 | set S n=>obtain ⟨o,_,_,_,e,_⟩:=x; exact lt_size e
 | ins C dx fs=>obtain ⟨_,_,_,e,_⟩:=x; exact lt_size e
 | own y=>obtain ⟨_,e⟩:=x; exact lt_size e
 | xd fs=>obtain ⟨_,⟨_,_,_,e,_⟩,_⟩:=x; exact lt_size e
 | rng lo hi=>obtain ⟨_,_,_,e⟩:=x; exact lt_size e
 | frz ob u=>obtain ⟨e,_⟩:=x; exact lt_size e
 | tbl ps=>exact lt_size (show h.get? a=some _ from x)
 | met f y=>exact lt_size (show h.get? a=some _ from x)
 | ext φ=>obtain ⟨_,⟨_,e⟩,_⟩:=x; exact lt_size e
theorem Paired.mapP {α β:Type} {F G:α->β->Prop}:∀ {l₁:List α} {l₂:List β},Paired F l₁ l₂->(∀ a b,F a b->G a b)->Paired G l₁ l₂
 | _,_,.nil,_=>.nil
 | _,_,.cons r t,f=>.cons (f _ _ r) (Paired.mapP t f)
theorem ObjOk.stay (x:ObjOk P w H h a o) (k:∀ b u,(b=a\/H b=some (.own a))->h.get? b=some u->h'.get? b=some u)
  (ho:∀ b,H b=some (.own a)->H' b=some (.own a)) (ht:∀ b xs,H b=some (.tup xs)->H' b=some (.tup xs)):ObjOk P w H' h' a o:=by
 induction o with
 | lst xs=>obtain ⟨z,its,n,r,e⟩:=x; exact ⟨z,its,n,r,k _ _ (.inl rfl) e⟩
 | tup xs=>obtain ⟨z,its,r,ob,e,c⟩:=x; exact ⟨z,its,r,ob,k _ _ (.inl rfl) e,c⟩
 | dK kvs=>obtain ⟨z,y,vs,r,ob,es,ep,e,c⟩:=x; exact ⟨z,y,vs,r,ob,es,ep,k _ _ (.inl rfl) e,c⟩
 | dT kvs =>
  obtain ⟨z,y,xs,r,ob,es,ep,e,c⟩:=x;exact ⟨z,y,xs,Paired.mapP r fun p q z=>⟨z.1,ht _ _ z.2.1,z.2.2⟩,ob,es,ep,k _ _ (.inl rfl) e,c⟩
 | set S n=>obtain ⟨ob,es,ep,t,e,c⟩:=x; exact ⟨ob,es,ep,t,k _ _ (.inl rfl) e,c⟩
 | ins C dx fs =>
  obtain ⟨d,z,ne,e,mA,⟨od,es,ep,e2,c⟩,r⟩:=x;exact ⟨ho _ d,z,ne,k _ _ (.inl rfl) e,mA,⟨od,es,ep,k _ _ (.inr d) e2,c⟩,r⟩
 | own y=>obtain ⟨ob,e⟩:=x; exact ⟨ob,k _ _ (.inl rfl) e⟩
 | xd fs=>obtain ⟨mA,⟨od,es,ep,e,c⟩,r⟩:=x; exact ⟨mA,⟨od,es,ep,k _ _ (.inl rfl) e,c⟩,r⟩
 | rng lo hi=>obtain ⟨t,u,v,e⟩:=x; exact ⟨t,u,v,k _ _ (.inl rfl) e⟩
 | frz ob u ih=>obtain ⟨e,q⟩:=x; exact ⟨k _ _ (.inl rfl) e,ih q⟩
 | tbl ps =>
  have e:h.get? a=some { cls:=.none,data:=.fields ps }:=x;show h'.get? a=some { cls:=.none,data:=.fields ps };exact k a _ (.inl rfl) e
 | met f y =>
  have e:h.get? a=some (W.methodObj (.ref f) (.ref y)):=x;show h'.get? a=some (W.methodObj (.ref f) (.ref y));exact k a _ (.inl rfl) e
 | ext φ=>obtain ⟨p,⟨o,e⟩,st⟩:=x; exact ⟨st _ _ p fun o q=>k _ _ (.inl rfl) q,⟨o,k _ _ (.inl rfl) e⟩,st⟩
theorem HOk.lt (x:HOk P w H h) (e:H a=some o):a < h.objs.size:=(x a o e).lt
theorem HOk.fresh (x:HOk P w H h) (e:h.objs.size <= a):H a=none:=by
 cases q:H a with
 | none=>rfl
 | some u=>exact absurd (Nat.lt_of_lt_of_le (x.lt q) e) (Nat.lt_irrefl _)
theorem HOk.kept (x:HOk P w H h) (k:∀ b u,h.get? b=some u->h'.get? b=some u):HOk P w H h':=fun a o e =>
 (x a o e).stay (fun b u _ q=>k b u q) (fun _ q=>q) fun _ _ q=>q
theorem HOk.laid (x:HOk P w H h) (k:∀ b u,h.get? b=some u->h'.get? b=some u) (hp:h.objs.size <= a) (new:ObjOk P w (upd H a o) h' a o):HOk P w (upd H a o) h':=fun b u e=>by
 have hn:=x.fresh hp;by_cases hb:b=a
 ·subst hb; rw [upd_same] at e; cases e; exact new
 ·rw [AE hb] at e;exact (x b u e).stay (fun c v _ q=>k c v q) (fun c q=>by rw [AE (AH q hn)]; exact q) fun c xs q=>by rw [AE (AH q hn)]; exact q
end
def Rd (H:Hp) (a:Addr) (u:HO):Prop:=H a=some u\/∃ o,H a=some (.frz o u)
theorem Rd.ok {P:Program} {w:World} {H:Hp} {h:Heap} {a:Addr} {u:HO} (r:Rd H a u) (x:HOk P w H h):ObjOk P w H h a u:=by
 rcases r with r | ⟨o,r⟩
 ·exact x a u r
 ·obtain ⟨_,q⟩:=x a _ r;exact q
def Mut:Option HO->Prop
 | some (.lst _)=>True
 | some (.dK _)=>True
 | some (.dT _)=>True
 | some (.set _ _)=>True
 | some (.ins _ _ _)=>True
 | some (.ext _)=>True
 | _=>False
section
variable {P:Program} {w:World} {H:Hp} {h h':Heap} {x e:Addr} {o':HO}
theorem HOk.write (ok:HOk P w H h) (mu:Mut (H x)) (he:e=x\/H e=some (.own x)) (k:∀ b u,b ≠ e->h.get? b=some u->h'.get? b=some u) (heo:∃ u,h'.get? e=some u)
  (new:ObjOk P w (upd H x o') h' x o'):HOk P w (upd H x o') h':=fun b u q=>by
 have nown:∀ c y,H c=some (.own y)->c ≠ x:=fun c y r z=>by subst z; rw [r] at mu; exact mu
 have ntup:∀ c xs,H c=some (.tup xs)->c ≠ x:=fun c xs r z=>by subst z; rw [r] at mu; exact mu
 by_cases hb:b=x
 ·subst hb; rw [upd_same] at q; cases q; exact new
 ·rw [AE hb] at q;by_cases hbe:b=e
  ·have q':H b=some (.own x):=by
    rcases he with z | z
    ·exact absurd (hbe.trans z) hb
    ·rw [hbe]; exact z
   rw [q] at q'; cases q';obtain ⟨v,hv⟩:=heo;exact ⟨v,by rw [hbe]; exact hv⟩
  ·refine (ok b u q).stay (fun c v hc r=>k c v ?_ r) (fun c r=>by rw [AE (nown c b r)]; exact r) fun c xs r=>by rw [AE (ntup c xs r)]; exact r
   rcases hc with rfl | hc
   ·exact hbe
   ·rintro rfl;rcases he with z | z
    ·exact nown c b hc z
    ·rw [hc] at z; cases z; exact hb rfl
end
structure Un (fs ex:List Addr) (H H':Hp) (h h':Heap):Prop where
 keep:∀ b o,h.get? b=some o->H b=none->b ∉ fs->b ∉ ex->h'.get? b=some o
 slot:∀ b o,h.get? b=some o->H b=none->b ∈ fs->b ∉ ex->∃ sl,h'.get? b=some { o with slots:=sl }
 free:∀ b o,h.get? b=some o->H b=none->b ∉ ex->H' b=none
 there:∀ b o,h.get? b=some o->b ∉ ex->∃ o',h'.get? b=some o'
 tups:∀ b xs,H b=some (.tup xs)->H' b=some (.tup xs)
 frzs:∀ b o u,H b=some (.frz o u)->H' b=some (.frz o u)
 tbls:∀ b ps,H b=some (.tbl ps)->∃ more,H' b=some (.tbl (ps++more))
section
variable {fs fs' ex ex':List Addr} {H H1 H2:Hp} {h h1 h2 h':Heap} {a x e:Addr} {o:HO}
theorem Un.any (u:Un fs ex H H1 h h1) {b:Addr} {ob:Obj} (q:h.get? b=some ob) (n:H b=none) (hx:b ∉ ex):∃ sl,h1.get? b=some { ob with slots:=sl }:=by
 by_cases hb:b ∈ fs
 ·exact u.slot b ob q n hb hx
 ·exact ⟨ob.slots,u.keep b ob q n hb hx⟩
theorem Un.kept (k:∀ b u,h.get? b=some u->h'.get? b=some u):Un fs ex H H h h' :=
 ⟨fun b ob q _ _ _=>k b ob q,fun b ob q _ _ _=>⟨ob.slots,k b ob q⟩,fun _ _ _ n _=>n,fun b ob q _=>⟨ob,k b ob q⟩,fun _ _ q=>q,fun _ _ _ q=>q,fun _ ps q=>⟨#[],by rw [q]; simp⟩⟩
theorem Un.refl:Un fs ex H H h h:=Un.kept fun _ _ q=>q
theorem Un.laid (k:∀ b u,h.get? b=some u->h'.get? b=some u) (hp:h.objs.size <= a) (hn:H a=none):Un fs ex H (upd H a o) h h' where
 keep:=fun b u q _ _ _=>k b u q
 slot:=fun b u q _ _ _=>⟨u.slots,k b u q⟩
 free:=fun b u q n _=>by rw [AE (Nat.ne_of_lt (Nat.lt_of_lt_of_le (lt_size q) hp))]; exact n
 there:=fun b u q _=>⟨u,k b u q⟩
 tups:=fun b xs q=>by rw [AE (AH q hn)]; exact q
 frzs:=fun b u xs q=>by rw [AE (AH q hn)]; exact q
 tbls:=fun b ps q=>⟨#[],by rw [AE (AH q hn),q]; simp⟩
theorem Un.write (mu:Mut (H x)) (he:e=x\/H e=some (.own x)) (k:∀ b u,b ≠ e->h.get? b=some u->h'.get? b=some u) (heo:∃ u,h'.get? e=some u):Un fs ex H (upd H x o) h h':=by
 have hx:∀ b,H b=none->b ≠ x:=fun b n z=>by subst z; rw [n] at mu; exact mu
 have hb:∀ b,H b=none->b ≠ e:=fun b n z=>by
  subst z;rcases he with r | r
  ·exact hx b n r
  ·rw [n] at r; cases r
 have hm:∀ b u,H b=some u->¬ Mut (some u)->b ≠ x:=fun b u q nm z=>by subst z; rw [q] at mu; exact nm mu
 refine ⟨fun b u q n _ _=>k b u (hb b n) q,fun b u q n _ _=>⟨u.slots,k b u (hb b n) q⟩,fun b u q n _=>by rw [AE (hx b n)]; exact n,fun b u q _=>?_,
  fun b xs q=>by rw [AE (hm b _ q fun z=>z)]; exact q,fun b u xs q=>by rw [AE (hm b _ q fun z=>z)]; exact q,fun b ps q=>⟨#[],by rw [AE (hm b _ q fun z=>z),q]; simp⟩⟩
 by_cases hbe:b=e
 ·subst hbe; exact heo
 ·exact ⟨u,k b u hbe q⟩
end
noncomputable def trk (h:Heap) (H:Hp):List Addr:=(List.range h.objs.size).filter fun a=>(H a).isSome
noncomputable def GZ (h:Heap) (H:Hp):Heap:=W.hideAll h (trk h H)
theorem NR (h:Heap) (H:Hp):(GZ h H).objs.size=h.objs.size:=W.hideAll_size _ _
theorem OS {h:Heap} {H:Hp} {b:Addr} {o:Obj} (e:h.get? b=some o) (n:H b=none):(GZ h H).get? b=some o :=
 W.hideAll_get _ e fun hm=>by
  have q:(H b).isSome=true:=(mem_filter.mp hm).2;rw [n] at q; simp at q
theorem Qe {h:Heap} {H:Hp} {b:Addr} {o:Obj} (e:(GZ h H).get? b=some o):h.get? b=some o/\H b=none:=by
 have e':h.get? b=some o:=W.of_hideAll (trk h H) e;refine ⟨e',?_⟩;cases q:H b with
 | none=>rfl
 | some x =>
  have hm:b ∈ trk h H:=mem_filter.mpr ⟨mem_range.mpr (lt_size e'),by simp [q]⟩;have z:(GZ h H).get? b=none:=W.hideAll_none (trk h H) hm;rw [z] at e; cases e
end L2
namespace L2
open PySem PySem.Spec PyProof.Rows
structure Mod (K:FG) (mg:SV) (base:Heap):Prop where
 kin:K.In base
 glob:base.Ns mainGlobals mg
 blt:∃ mb,base.Ns builtinsNs mb/\∀ x:Str,x ≠ "__name__" -> mb x=bootBuiltins x
 nolimit:base.NoLimit
structure Cx where
 prog:Program
 w:World
 K:FG
 mg:Str->Option Value
 base:Heap
 A:Around
 N:List Str
 s₀:Shared
 H₀:Hp
 env:Env
 outer:List Env
 stack:List Env
 ex:List Addr
 fn:Str->Bool
 calm:Bool
 pn:LO
 xe:Value->Shared->Prop
noncomputable def frs (l:List Env):List Addr:=l.filterMap (·.frame)
noncomputable abbrev Cx.fs (X:Cx):List Addr:=frs X.outer
def Vis (sc:Scope) (x:Str):Prop:=sc.names.lookup x=some .local\/sc.names.lookup x=some .cell\/sc.names.lookup x=some .free
def Loc (sc:Scope) (x:Str):Prop:=sc.names.lookup x=some .local\/sc.names.lookup x=some .cell
def UK (env:Env) (h:Heap) (m:SV) (x:Str) (u:Value):Prop :=
 (env.kindOf x=some .local/\m x=some u)\/((env.kindOf x=some .cell\/env.kindOf x=some .free)/\∃ c,env.cells.lookup x=some c/\h.IsCell c (some u))
structure Cx.Ok (X:Cx):Prop where
 mod:Mod X.K X.mg X.base
 kind:X.env.scope.kind=.function
 glob:X.env.globals=mainGlobals
 blt:X.env.builtins=builtinsNs
 above:X.s₀.heap.objs.size <= X.env.locals
 inj:∀ x y c,X.env.cells.lookup x=some c->X.env.cells.lookup y=some c->x=y
 has:∀ x,(X.env.kindOf x=some .cell\/X.env.kindOf x=some .free)->∃ c,X.env.cells.lookup x=some c
 cab:∀ x c,X.fn x=true->X.env.cells.lookup x=some c->X.s₀.heap.objs.size <= c
 hd:X.calm=true->X.A.handled=none
 frames:X.A.frames=some X.stack
 stk:X.stack=X.outer\/(X.stack=X.env :: X.outer/\X.env.frame=some X.env.locals)
 exf:∀ b ∈ X.ex,b ≠ X.env.locals/\∀ x c,X.env.cells.lookup x=some c->c ≠ b
 bs:∀ b o,X.base.get? b=some o->X.s₀.heap.get? b=some o/\X.H₀ b=none
 bsz:X.base.objs.size <= X.s₀.heap.objs.size
 noex:∀ b o,X.base.get? b=some o->b ∉ X.ex
 exfs:∀ b ∈ X.ex,b ∉ X.fs
 funs:X.s₀.heap.FunFrames X.base X.outer
 frf:∀ b ∈ X.fs,X.H₀ b=none
structure Inv (X:Cx) (aa:LO) (σ:List (Option V)) (H:Hp) (s:Shared):Prop where
 ok:X.Ok
 os:s.os=X.s₀.os
 bare:AllBare s.gens
 base:Un X.fs X.ex X.H₀ H X.s₀.heap s.heap
 loc:∃ m,s.heap.Ns X.env.locals m/\∀ (i:Nat) (x:Str) (v:V),X.N[i]?=some x->σ[i]?=some (some v)->Vis X.env.scope x->∃ u,RelV v u/\UK X.env s.heap m x u
 cell:∀ x c,X.env.cells.lookup x=some c->∃ v,s.heap.IsCell c v
 free:H X.env.locals=none
 freeC:∀ x c,X.env.cells.lookup x=some c->H c=none
 pin:∀ p ∈ X.pn++aa,s.heap.get? p.1=some p.2/\H p.1=none/\p.1 ≠ X.env.locals/\p.1 ∉ X.fs/\∀ v,p.2.data ≠ .cell v
 hok:HOk X.prog X.w H s.heap
 len:σ.length=X.N.length
section
variable {X:Cx} {aa:LO} {σ:List (Option V)} {H H':Hp} {s:Shared} {h':Heap}
theorem Cx.Ok.nofr (ok:X.Ok) {b:Addr} {o:Obj} (e:X.base.get? b=some o):b ∉ X.fs:=fun hb=>by
 have:=(ok.funs.mem hb).1;rw [e] at this; cases this
theorem Inv.bs (I:Inv X aa σ H s):∀ b o,X.base.get? b=some o->s.heap.get? b=some o/\H b=none:=fun b o e =>
 ⟨I.base.keep b o (I.ok.bs b o e).1 (I.ok.bs b o e).2 (I.ok.nofr e) (I.ok.noex b o e),I.base.free b o (I.ok.bs b o e).1 (I.ok.bs b o e).2 (I.ok.noex b o e)⟩
theorem Inv.bk (I:Inv X aa σ H s):∀ b o,X.base.get? b=some o->s.heap.get? b=some o:=fun b o e=>(I.bs b o e).1
theorem Inv.mod (I:Inv X aa σ H s):Mod X.K X.mg X.base:=I.ok.mod
theorem Inv.kIn (I:Inv X aa σ H s):X.K.In s.heap:=I.ok.mod.kin.keeps I.bk
theorem Inv.fr (I:Inv X aa σ H s):∃ m,Fr X.base X.env.locals s.heap m :=
 let ⟨m,hn,_⟩:=I.loc
 ⟨m,hn,I.bk,Nat.le_trans I.ok.bsz I.ok.above⟩
theorem Inv.lt (I:Inv X aa σ H s):X.env.locals < s.heap.objs.size:=let ⟨_,hn,_⟩:=I.loc; hn.lt
theorem Inv.sz (I:Inv X aa σ H s):X.s₀.heap.objs.size <= s.heap.objs.size:=Nat.le_trans I.ok.above (Nat.le_of_lt I.lt)
theorem Inv.nofs (I:Inv X aa σ H s) {a:Addr} (h:s.heap.objs.size <= a):a ∉ X.fs:=fun hb=>by
 obtain ⟨_,o,ho,_⟩:=I.ok.funs.mem hb;exact absurd (Nat.lt_of_lt_of_le (lt_size ho) (Nat.le_trans I.sz h)) (Nat.lt_irrefl _)
theorem Inv.cne (I:Inv X aa σ H s):∀ x c,X.env.cells.lookup x=some c->c ≠ X.env.locals:=fun x c e z=>by
 obtain ⟨v,o,ho,hd⟩:=I.cell x c e;obtain ⟨m,⟨o',es,ep,ho',hd',_⟩,_⟩:=I.loc;rw [z,ho'] at ho; cases ho; rw [hd'] at hd; cases hd
theorem Inv.funs (I:Inv X aa σ H s):s.heap.FunFrames X.base X.outer:=by
 have all:∀ (l:List Env),(∀ b ∈ frs l,b ∈ X.fs)->X.s₀.heap.FunFrames X.base l->s.heap.FunFrames X.base l:=by
  intro l;induction l with
  | nil=>intro _ _; trivial
  | cons env r ih =>
   intro hs hl;obtain ⟨hk,⟨L,o,hf,hn,ho,hd⟩,hr⟩:=hl;have hL:L ∈ X.fs:=hs L (by unfold frs; rw [filterMap_cons,hf]; exact mem_cons_self);obtain ⟨sl,e⟩:=I.base.slot L o ho (I.ok.frf L hL) hL fun z=>I.ok.exfs L z hL;exact ⟨hk,⟨L,_,hf,hn,e,hd⟩,ih (fun b hb=>hs b (by unfold frs; rw [filterMap_cons,hf]; exact mem_cons_of_mem _ hb)) hr⟩
 exact all X.outer (fun _ hb=>hb) I.ok.funs
theorem Inv.stack (I:Inv X aa σ H s):s.heap.FunFrames X.base X.stack:=by
 rcases I.ok.stk with e | ⟨e,hf⟩
 ·rw [e]; exact I.funs
 ·rw [e];obtain ⟨m,hn,_⟩:=I.loc;refine .cons (by rw [I.ok.kind]; decide) hf hn ?_ I.funs;exact Heap.get?_none_of_le (Nat.le_trans I.ok.bsz I.ok.above)
theorem Inv.stkSub (I:Inv X aa σ H s):∀ b ∈ frs X.stack,b ∈ X.env.locals :: X.fs:=fun b hb=>by
 rcases I.ok.stk with e | ⟨e,hf⟩
 ·rw [e] at hb; exact mem_cons_of_mem _ hb
 ·rw [e] at hb;unfold frs at hb;rw [filterMap_cons,hf] at hb;exact hb
theorem Inv.stkFree (I:Inv X aa σ H s):∀ b ∈ frs X.stack,H b=none:=fun b hb=>by
 rcases mem_cons.mp (I.stkSub b hb) with e | hb
 ·rw [e]; exact I.free
 ·obtain ⟨_,o,ho,_⟩:=I.ok.funs.mem hb;exact I.base.free b o ho (I.ok.frf b hb) fun z=>I.ok.exfs b z hb
theorem Inv.step {g':Array GenState} {t':Nat} {d':Drawn} {ch:List Addr} (I:Inv X aa σ H s)
  (hch:∀ b ∈ ch,(b ∈ X.ex\/X.s₀.heap.objs.size <= b)/\b ≠ X.env.locals/\(∀ x c,X.env.cells.lookup x=some c->c ≠ b)/\∀ p ∈ X.pn++aa,p.1 ≠ b)
  (keep:∀ b o,b ≠ X.env.locals->b ∉ X.fs->b ∉ ch->s.heap.get? b=some o->H b=none->h'.get? b=some o)
  (slot:∀ b o,b ≠ X.env.locals->b ∈ X.fs->b ∉ ch->s.heap.get? b=some o->H b=none->∃ sl,h'.get? b=some { o with slots:=sl }) (free:∀ b o,b ∉ ch->s.heap.get? b=some o->H b=none->H' b=none)
  (there:∀ b o,b ∉ ch->s.heap.get? b=some o->∃ o',h'.get? b=some o')
  (tups:∀ b xs,H b=some (.tup xs)->H' b=some (.tup xs)) (frzs:∀ b o u,H b=some (.frz o u)->H' b=some (.frz o u)) (tbls:∀ b ps,H b=some (.tbl ps)->∃ more,H' b=some (.tbl (ps++more)))
  (ns:∀ m,s.heap.Ns X.env.locals m->h'.Ns X.env.locals m) (hok:HOk X.prog X.w H' h') (hg:AllBare g') :
  Inv X aa σ H' { s with heap:=h',gens:=g',drawn:=d',toks:=t' }:=by
 have neL:∀ b o,X.s₀.heap.get? b=some o->b ≠ X.env.locals:=fun b o e=>Nat.ne_of_lt (Nat.lt_of_lt_of_le (lt_size e) I.ok.above)
 have neC:∀ b o,X.s₀.heap.get? b=some o->b ∉ X.ex->b ∉ ch:=fun b o e hx hb=>by
  rcases (hch b hb).1 with z | z
  ·exact hx z
  ·exact absurd (Nat.lt_of_lt_of_le (lt_size e) z) (Nat.lt_irrefl _)
 have cellK:∀ x c,X.env.cells.lookup x=some c->∀ v,s.heap.IsCell c v->h'.IsCell c v:=fun x c e v ⟨o,ho,hd⟩=>by
  have nch:c ∉ ch:=fun z=>(hch c z).2.2.1 x c e rfl;by_cases hc:c ∈ X.fs
  ·obtain ⟨sl,q⟩:=slot c o (I.cne x c e) hc nch ho (I.freeC x c e);exact ⟨_,q,hd⟩
  ·exact ⟨o,keep c o (I.cne x c e) hc nch ho (I.freeC x c e),hd⟩
 refine ⟨I.ok,I.os,hg,⟨fun b o e n hb hx=>?_,fun b o e n hb hx=>?_,fun b o e n hx=>?_,fun b o e hx=>?_,fun b xs e=>tups b xs (I.base.tups b xs e),fun b o xs e=>frzs b o xs (I.base.frzs b o xs e),fun b ps e=>?_⟩,?_,fun x c e=>?_,?_,fun x c e=>?_,fun p hp=>?_,hok,I.len⟩
 ·exact keep b o (neL b o e) hb (neC b o e hx) (I.base.keep b o e n hb hx) (I.base.free b o e n hx)
 ·obtain ⟨sl,e1⟩:=I.base.slot b o e n hb hx;obtain ⟨sl',e2⟩:=slot b _ (neL b o e) hb (neC b o e hx) e1 (I.base.free b o e n hx);exact ⟨sl',e2⟩
 ·obtain ⟨o',e1⟩:=I.base.there b o e hx;exact free b o' (neC b o e hx) e1 (I.base.free b o e n hx)
 ·obtain ⟨o',e1⟩:=I.base.there b o e hx;exact there b o' (neC b o e hx) e1
 ·obtain ⟨m1,e1⟩:=I.base.tbls b ps e;obtain ⟨m2,e2⟩:=tbls b _ e1;exact ⟨m1++m2,by rw [e2,Array.append_assoc]⟩
 ·obtain ⟨m,hn,hl⟩:=I.loc;refine ⟨m,ns m hn,fun i x v e1 e2 e3=>?_⟩;obtain ⟨u,r,l⟩:=hl i x v e1 e2 e3;refine ⟨u,r,?_⟩;rcases l with l | ⟨k,c,e,z⟩
  ·exact .inl l
  ·exact .inr ⟨k,c,e,cellK x c e _ z⟩
 ·obtain ⟨v,z⟩:=I.cell x c e;exact ⟨v,cellK x c e v z⟩
 ·obtain ⟨m,⟨o,_,_,ho,_⟩,_⟩:=I.loc;exact free _ o (fun z=>(hch _ z).2.1 rfl) ho I.free
 ·obtain ⟨v,o,ho,hd⟩:=I.cell x c e;exact free c o (fun z=>(hch c z).2.2.1 x c e rfl) ho (I.freeC x c e)
 ·obtain ⟨e,n,ne,nf,d⟩:=I.pin p hp;have nch:p.1 ∉ ch:=fun z=>(hch p.1 z).2.2.2 p hp rfl;exact ⟨keep p.1 p.2 ne nf nch e n,free p.1 p.2 nch e n,ne,nf,d⟩
theorem Inv.un {t':Nat} (I:Inv X aa σ H s) (u:Un X.fs [] H H' s.heap h') (hok:HOk X.prog X.w H' h'):Inv X aa σ H' { s with heap:=h',toks:=t' }:=by
 obtain ⟨m,⟨o,es,ep,ho,r⟩,_⟩:=id I.loc;obtain ⟨sl,hL⟩:=u.any ho I.free (by simp)
 exact I.step (g':=s.gens) (d':=s.drawn) (ch:=[]) (fun _ z=>nomatch z) (fun b o _ hb _ e n=>u.keep b o e n hb (by simp)) (fun b o _ hb _ e n=>u.slot b o e n hb (by simp)) (fun b o _ e n=>u.free b o e n (by simp)) (fun b o _ e=>u.there b o e (by simp)) u.tups u.frzs u.tbls (fun m' hm=>by
  obtain ⟨o',es',ep',ho',r'⟩:=hm;rw [ho] at ho'; cases ho'
  exact ⟨_,es',ep',hL,r'⟩) hok I.bare
theorem Inv.call {g':Array GenState} {t':Nat} {d':Drawn} {ch:List Addr} (I:Inv X aa σ H s) (u:Un (frs X.stack) ch H H' s.heap h') (hok:HOk X.prog X.w H' h') (hg:AllBare g')
  (hch:∀ b ∈ ch,(b ∈ X.ex\/X.s₀.heap.objs.size <= b)/\b ≠ X.env.locals/\(∀ x c,X.env.cells.lookup x=some c->c ≠ b)/\∀ p ∈ X.pn++aa,p.1 ≠ b) :
  Inv X aa σ H' { s with heap:=h',gens:=g',drawn:=d',toks:=t' }:=by
 obtain ⟨m,⟨o,es,ep,ho,r⟩,_⟩:=id I.loc;obtain ⟨sl,hL⟩:=u.any ho I.free fun z=>(hch _ z).2.1 rfl
 exact I.step (ch:=ch) hch (fun b o hL hb hc e n=>u.keep b o e n (fun z=>(mem_cons.mp (I.stkSub b z)).elim hL hb) hc) (fun b o _ _ hc e n=>u.any e n hc) (fun b o hc e n=>u.free b o e n hc) (fun b o hc e=>u.there b o e hc) u.tups u.frzs u.tbls (fun m' hm=>by
  obtain ⟨o',es',ep',ho',r'⟩:=hm;rw [ho] at ho'; cases ho'
  exact ⟨_,es',ep',hL,r'⟩) hok hg
theorem Inv.turned {t':Nat} {it:Addr} (I:Inv X aa σ H s) (k:∀ b o,b ≠ it->s.heap.get? b=some o->h'.get? b=some o) (hn:H it=none) (hL:it ≠ X.env.locals)
  (h1:it ∈ X.ex\/X.s₀.heap.objs.size <= it) (h2:∀ x c,X.env.cells.lookup x=some c->c ≠ it) (h3:∀ p ∈ X.pn++aa,p.1 ≠ it):Inv X aa σ H { s with heap:=h',toks:=t' }:=by
 have nit:∀ b u,H b=some u->b ≠ it:=fun b u e z=>by rw [z,hn] at e; cases e
 refine I.step (g':=s.gens) (d':=s.drawn) (ch:=[it]) (fun b hb=>?_) (fun b o _ _ hc e _=>k b o (fun z=>hc (by simp [z])) e) (fun b o _ _ hc e _=>⟨o.slots,k b o (fun z=>hc (by simp [z])) e⟩) (fun _ _ _ _ n=>n)
  (fun b o hc e=>⟨o,k b o (fun z=>hc (by simp [z])) e⟩) (fun _ _ e=>e) (fun _ _ _ e=>e) (fun b ps e=>⟨#[],by rw [e]; simp⟩) (fun m hm=>?_) (fun b u e=>?_) I.bare
 ·have e:b=it:=by simpa using hb
  subst e;exact ⟨h1,hL,h2,h3⟩
 ·obtain ⟨o,es,ep,ho,r⟩:=hm;exact ⟨o,es,ep,k _ o (Ne.symm hL) ho,r⟩
 ·refine (I.hok b u e).stay (fun c v hc q=>k c v ?_ q) (fun _ q=>q) fun _ _ q=>q;rcases hc with z | z
  ·rw [z]; exact nit b u e
  ·exact nit c _ z
theorem Inv.tok (I:Inv X aa σ H s) (t:Nat):Inv X aa σ H { s with toks:=t }:=I.un (h':=s.heap) (t':=t) Un.refl I.hok
theorem Inv.kept {t':Nat} (I:Inv X aa σ H s) (k:∀ b u,s.heap.get? b=some u->h'.get? b=some u):Inv X aa σ H { s with heap:=h',toks:=t' }:=I.un (Un.kept k) (I.hok.kept k)
theorem Inv.laid {a:Addr} {o:HO} {t':Nat} (I:Inv X aa σ H s) (k:∀ b u,s.heap.get? b=some u->h'.get? b=some u) (hp:s.heap.objs.size <= a) (new:ObjOk X.prog X.w (upd H a o) h' a o) :
  Inv X aa σ (upd H a o) { s with heap:=h',toks:=t' }:=I.un (Un.laid k hp (I.hok.fresh hp)) (I.hok.laid k hp new)
theorem Inv.write {x e:Addr} {o:HO} {t':Nat} (I:Inv X aa σ H s) (mu:Mut (H x)) (he:e=x\/H e=some (.own x)) (k:∀ b u,b ≠ e->s.heap.get? b=some u->h'.get? b=some u) (heo:∃ u,h'.get? e=some u)
  (new:ObjOk X.prog X.w (upd H x o) h' x o):Inv X aa σ (upd H x o) { s with heap:=h',toks:=t' }:=I.un (Un.write mu he k heo) (I.hok.write mu he k heo new)
theorem Inv.weak {σ':List (Option V)} (I:Inv X aa σ H s) (hl:σ'.length=σ.length) (w:∀ (i:Nat) v,σ'[i]?=some (some v)->σ[i]?=some (some v)):Inv X aa σ' H s :=
 ⟨I.ok,I.os,I.bare,I.base,let ⟨m,hn,hl'⟩:=I.loc; ⟨m,hn,fun i x v e1 e2 e3=>hl' i x v e1 (w i v e2) e3⟩,I.cell,I.free,I.freeC,I.pin,I.hok,hl.trans I.len⟩
theorem Inv.pins_of {pins':LO} (I:Inv X aa σ H s) (h:∀ p ∈ pins',s.heap.get? p.1=some p.2/\H p.1=none/\p.1 ≠ X.env.locals/\p.1 ∉ X.fs/\∀ v,p.2.data ≠ .cell v):Inv X pins' σ H s :=
 ⟨I.ok,I.os,I.bare,I.base,I.loc,I.cell,I.free,I.freeC,fun p hp=>(mem_append.mp hp).elim (fun z=>I.pin p (mem_append_left _ z)) (h p),I.hok,I.len⟩
theorem Jx {N:List Str} (hN:N.Nodup) {i j:Nat} {x:Str} (a:N[i]?=some x) (b:N[j]?=some x):i=j:=by
 obtain ⟨h1,e1⟩:=List.getElem?_eq_some_iff.mp a;obtain ⟨h2,e2⟩:=List.getElem?_eq_some_iff.mp b;exact (List.getElem_inj hN).mp (e1.trans e2.symm)
theorem FO {M:Model} {A:Around} {E:VS} {i:Nat} {x:Str} {v:V} {u:Value} {Q:Unit->Shared->Prop} (I:Inv X aa σ H s) (hN:X.N.Nodup) (hi:X.N[i]?=some x) (hx:Loc X.env.scope x) (r:RelV v u)
  (h:∀ s',Inv X aa (σ.set i (some v)) H s'->(∃ a,Heap.SameBut a s.heap s'.heap/\(a=X.env.locals\/X.env.cells.lookup x=some a))->Q () s') (hf:X.fn x=true\/X.env.scope.names.lookup x=some .local:=by first | exact .inl rfl | exact .inr rfl | assumption):wpAny M A (storeName X.env x u) Q E s:=by
 obtain ⟨m,hn,hl⟩:=id I.loc;have be:(X.env.scope.kind == .class || (X.env.scope.kind == .module && X.env.locals != X.env.globals))=false:=by rw [I.ok.kind]; rfl
 have hiσ:i < σ.length:=by rw [I.len]; exact (List.getElem?_eq_some_iff.mp hi).1
 have cne:=I.cne
 have tracked:∀ {a:Addr} {h':Heap},(∃ o,s.heap.get? a=some o/\H a=none)->Heap.SameBut a s.heap h'->HOk X.prog X.w H h':=fun {a h'} ha hs b ob e=>by
  obtain ⟨_,_,bf⟩:=ha;refine (I.hok b ob e).stay (fun c w' hc q=>(hs.2 c ?_).trans q) (fun _ q=>q) fun _ _ q=>q;rintro rfl;rcases hc with rfl | hc
  ·rw [bf] at e; cases e
  ·rw [bf] at hc; cases hc
 rcases hx with hk | hk
 ·refine wpAny_storeName_local hk hn (fun h' hn' hs=>?_) be;obtain ⟨oL,_,_,hoL,_⟩:=id hn;refine h _ ⟨I.ok,I.os,I.bare,⟨fun b o e n hb hx=>?_,fun b o e n hb hx=>?_,I.base.free,fun b o e hx=>?_,I.base.tups,I.base.frzs,I.base.tbls⟩,⟨_,hn',fun j y v' e1 e2 e3=>?_⟩,fun y c e=>?_,I.free,I.freeC,fun p hp=>?_,tracked ⟨oL,hoL,I.free⟩ hs,by simpa using I.len⟩ ⟨_,hs,.inl rfl⟩
  ·exact (hs.2 b (Nat.ne_of_lt (Nat.lt_of_lt_of_le (lt_size e) I.ok.above))).trans (I.base.keep b o e n hb hx)
  ·obtain ⟨sl,e1⟩:=I.base.slot b o e n hb hx;exact ⟨sl,(hs.2 b (Nat.ne_of_lt (Nat.lt_of_lt_of_le (lt_size e) I.ok.above))).trans e1⟩
  ·obtain ⟨o',e1⟩:=I.base.there b o e hx;exact ⟨o',(hs.2 b (Nat.ne_of_lt (Nat.lt_of_lt_of_le (lt_size e) I.ok.above))).trans e1⟩
  ·by_cases hj:j=i
   ·subst hj;rw [hi] at e1; cases e1;rw [List.getElem?_set_self hiσ] at e2;cases e2;exact ⟨u,r,.inl ⟨hk,by simp⟩⟩
   ·rw [List.getElem?_set_ne (Ne.symm hj)] at e2;obtain ⟨u',r',q⟩:=hl j y v' e1 e2 e3;refine ⟨u',r',?_⟩;rcases q with ⟨k,e⟩ | ⟨k,c,e,z⟩
    ·refine .inl ⟨k,?_⟩;have:y ≠ x:=fun e=>hj (Jx hN e1 (e ▸ hi));simp [this,e]
    ·exact .inr ⟨k,c,e,z.sameBut hs (cne y c e)⟩
  ·obtain ⟨w',z⟩:=I.cell y c e;exact ⟨w',z.sameBut hs (cne y c e)⟩
  ·obtain ⟨e,n,ne,nf,d⟩:=I.pin p hp;exact ⟨(hs.2 p.1 ne).trans e,n,ne,nf,d⟩
 ·have hfn:X.fn x=true:=by
   rcases hf with z | z
   ·exact z
   ·rw [z] at hk; cases hk
  obtain ⟨c,hc⟩:=I.ok.has x (.inl hk);obtain ⟨w',z⟩:=I.cell x c hc;refine wpAny_storeName_cell I.ok.kind hk hc z (fun h' hc' hs=>?_);obtain ⟨oc,hoc,hocd⟩:=id z;refine h { s with heap:=h' } ⟨I.ok,I.os,I.bare,⟨fun b o e n hb hx=>?_,fun b o e n hb hx=>?_,I.base.free,fun b o e hx=>?_,I.base.tups,I.base.frzs,I.base.tbls⟩,⟨m,hn.sameBut hs (Ne.symm (cne x c hc)),fun j y v' e1 e2 e3=>?_⟩,fun y c' e=>?_,I.free,I.freeC,fun p hp=>?_,tracked ⟨oc,hoc,I.freeC x c hc⟩ hs,by simpa using I.len⟩ ⟨c,hs,.inr hc⟩
  ·exact (hs.2 b (Nat.ne_of_lt (Nat.lt_of_lt_of_le (lt_size e) (I.ok.cab x c hfn hc)))).trans (I.base.keep b o e n hb hx)
  ·obtain ⟨sl,e1⟩:=I.base.slot b o e n hb hx;exact ⟨sl,(hs.2 b (Nat.ne_of_lt (Nat.lt_of_lt_of_le (lt_size e) (I.ok.cab x c hfn hc)))).trans e1⟩
  ·obtain ⟨o',e1⟩:=I.base.there b o e hx;exact ⟨o',(hs.2 b (Nat.ne_of_lt (Nat.lt_of_lt_of_le (lt_size e) (I.ok.cab x c hfn hc)))).trans e1⟩
  ·by_cases hj:j=i
   ·subst hj;rw [hi] at e1; cases e1;rw [List.getElem?_set_self hiσ] at e2;cases e2;exact ⟨u,r,.inr ⟨.inl hk,c,hc,hc'⟩⟩
   ·rw [List.getElem?_set_ne (Ne.symm hj)] at e2;obtain ⟨u',r',q⟩:=hl j y v' e1 e2 e3;refine ⟨u',r',?_⟩;rcases q with q | ⟨k,c',e,z'⟩
    ·exact .inl q
    ·refine .inr ⟨k,c',e,z'.sameBut hs ?_⟩;rintro rfl;exact hj (Jx hN e1 (I.ok.inj _ _ _ e hc ▸ hi))
  ·by_cases hcc:c'=c
   ·subst hcc; exact ⟨_,hc'⟩
   ·obtain ⟨w2,z2⟩:=I.cell y c' e;exact ⟨w2,z2.sameBut hs hcc⟩
  ·obtain ⟨e,n,ne,nf,d⟩:=I.pin p hp;refine ⟨(hs.2 p.1 ?_).trans e,n,ne,nf,d⟩;intro q;rw [q,hoc] at e;have q':oc=p.2:=Option.some.inj e;exact d w' (by rw [← q']; exact hocd)
theorem Bp {M:Model} {A:Around} {E:VS} {i:Nat} {x:Str} {v:V} {u:Value} {Q:Unit->Shared->Prop} (I:Inv X aa σ H s) (hN:X.N.Nodup) (hi:X.N[i]?=some x) (hx:Loc X.env.scope x) (r:RelV v u)
  (h:∀ s',Inv X aa (σ.set i (some v)) H s'->Q () s') (hf:X.fn x=true\/X.env.scope.names.lookup x=some .local:=by first | exact .inl rfl | exact .inr rfl | assumption):wpAny M A (storeName X.env x u) Q E s :=
 FO I hN hi hx r (fun s' I' _=>h s' I') hf
theorem Inv.call' {s':Shared} {ch:List Addr} (I:Inv X aa σ H s) (ho:s'.os=s.os) (u:Un (frs X.stack) ch H H' s.heap s'.heap) (hok:HOk X.prog X.w H' s'.heap) (hg:AllBare s'.gens)
  (hch:∀ b ∈ ch,(b ∈ X.ex\/X.s₀.heap.objs.size <= b)/\b ≠ X.env.locals/\(∀ x c,X.env.cells.lookup x=some c->c ≠ b)/\∀ p ∈ X.pn++aa,p.1 ≠ b):Inv X aa σ H' s':=by
 obtain ⟨h',g',d',t',o'⟩:=s';have e:o'=s.os:=ho;subst e;exact I.call (g':=g') (t':=t') (d':=d') u hok hg hch
end
abbrev XK:=Value->Option Addr->Hp->Prop
abbrev St:=List (Option V)
abbrev VK:=V->Hp->Prop
abbrev TE:=St->Hp->VK->Prop
abbrev TT:=St->Hp->(Bool->Hp->Prop)->Prop
abbrev TA:=St->Hp->(List V->Hp->Prop)->Prop
structure D7 where
 nx:St->Hp->Prop
 rt:VK
 bk:St->Hp->Prop:=fun _ _=>False
 ct:St->Hp->Prop:=fun _ _=>False
abbrev TS:=D7->St->Hp->Prop
def EP (X:Cx) (aa:LO) (σ:St) (Q:VK) (u:Value) (s':Shared):Prop:=∃ v H',Inv X aa σ H' s'/\RelV v u/\Q v H'
def TP (X:Cx) (aa:LO) (σ:St) (Q:Bool->Hp->Prop) (b:Bool) (s':Shared):Prop:=∃ H',Inv X aa σ H' s'/\Q b H'
def AP (X:Cx) (aa:LO) (σ:St) (Q:List V->Hp->Prop) (us:List Value) (s':Shared):Prop:=∃ vs H',Inv X aa σ H' s'/\Vals vs us/\Q vs H'
def SP (X:Cx) (aa:LO) (D:D7) (f:Flow) (s':Shared):Prop :=
 match f with
 | .next=>∃ σ' H',Inv X aa σ' H' s'/\D.nx σ' H'
 | .brk=>∃ σ' H',Inv X aa σ' H' s'/\D.bk σ' H'
 | .cont=>∃ σ' H',Inv X aa σ' H' s'/\D.ct σ' H'
 | .ret u=>∃ v σ' H',Inv X aa σ' H' s'/\RelV v u/\D.rt v H'
def PE (X:Cx) (e:Expr) (t:TE):Prop :=
 ∀ (aa:LO) (s:Shared) (σ:St) (H:Hp) (Q:VK),Inv X aa σ H s->t σ H Q->wpAny (model X.prog X.w) X.A (eval e X.env) (EP X aa σ Q) X.xe s
def PT (X:Cx) (e:Expr) (t:TT):Prop :=
 ∀ (aa:LO) (s:Shared) (σ:St) (H:Hp) (Q:Bool->Hp->Prop),Inv X aa σ H s->t σ H Q->wpAny (model X.prog X.w) X.A (isTrue e X.env (eval e X.env)) (TP X aa σ Q) X.xe s
def PW (X:Cx) (e:Expr) (t:TT):Prop :=
 ∀ (whole:Sem Value) (aa:LO) (s:Shared) (σ:St) (H:Hp) (Q:Bool->Hp->Prop),Inv X aa σ H s->t σ H Q->wpAny (model X.prog X.w) X.A (isTrue e X.env whole) (TP X aa σ Q) X.xe s
theorem PW.pt {X:Cx} {e:Expr} {t:TT} (h:PW X e t):PT X e t:=h _
def PA (X:Cx) (es:List Expr) (t:TA):Prop :=
 ∀ (pos:Pos) (aa:LO) (s:Shared) (σ:St) (H:Hp) (Q:List V->Hp->Prop),Inv X aa σ H s->t σ H Q->wpAny (model X.prog X.w) X.A (spliced (backTo pos (starEach es X.env))) (AP X aa σ Q) X.xe s
def PS (X:Cx) (st:Stmt) (t:TS):Prop :=
 ∀ (aa:LO) (s:Shared) (σ:St) (H:Hp) (D:D7),Inv X aa σ H s->t D σ H->wpAny (model X.prog X.w) X.A (exec st X.env) (SP X aa D) X.xe s
def PSs (X:Cx) (st:List Stmt) (t:TS):Prop :=
 ∀ (aa:LO) (s:Shared) (σ:St) (H:Hp) (D:D7),Inv X aa σ H s->t D σ H->wpAny (model X.prog X.w) X.A (execs st X.env) (SP X aa D) X.xe s
theorem thn {α:Type} {t:Sem α} {Q Q':α->Shared->Prop} {M:Model} {A:Around} {E:VS} {s:Shared} (h:wpAny M A t Q E s) (hQ:∀ a s,Q a s->Q' a s):wpAny M A t Q' E s:=wpAny_mono h hQ fun _ _ x=>x
end L2
variable {X:L2.Cx} {H:L2.Hp} {H':L2.Hp} {pos:PySem.Pos} {σ:L2.St} {P:PySem.Program} {w:PySem.World} {A:PySem.Around} {aa:LO} {x:PySem.Str} {a:PySem.Addr} {K:FG} {C:PySem.Addr} {E:VS} {h:PySem.Heap} {us:List PySem.Value} {f:PySem.Addr} {u:PySem.Value} {xs:List L2.V} {e:PySem.Expr} {te:L2.TE} {base:PySem.Heap} {N:List PySem.Str} {mg:SV}
namespace L2
open PySem PySem.Spec PyProof.Rows
section
def CD (i:Nat):TE:=fun σ H Q=>∃ v,σ[i]?=some (some v)/\Q v H
def tC (v:V):TE:=fun _ H Q=>Q v H
theorem OT {i:Nat} (hN:X.N[i]?=some x) (hv:Vis X.env.scope x) (hd:(x == ("__debug__" : Str))=false:=by decide) (hcd:(x == ("__classdict__" : Str))=false:=by decide):PE X (.Name x pos) (CD i):=by
 intro aa s σ H Q I h;obtain ⟨v,e,h⟩:=h;obtain ⟨m,hn,hl⟩:=I.loc;obtain ⟨u,r,l⟩:=hl i x v hN e hv;have fin:EP X aa σ Q u s:=⟨v,H,I,r,h⟩;rcases l with ⟨hk,hm⟩ | ⟨hk,c,hc,bd⟩
 ·exact wpAny_Name (wpAny_loadName_local I.ok.kind hk hn hm fin) hd
 ·rcases hk with hk | hk
  ·exact wpAny_Name (wpAny_loadName_cell I.ok.kind hk hc bd fin) hd
  ·exact wpAny_Name (wpAny_loadName_free I.ok.kind hk hc bd fin hcd) hd
theorem AJ {i j pos}:PE X (.Constant (.int i) j pos) (tC (.int i)):=fun _ _ _ H _ I h=>wpAny_Constant_int ⟨.int i,H,I.tok _,⟨_,rfl⟩,h⟩
theorem MQ {b j pos}:PE X (.Constant (.bool b) j pos) (tC (.bl b)):=fun _ _ _ H _ I h=>Constant_bool ⟨.bl b,H,I,rfl,h⟩
theorem Ga {j pos}:PE X (.Constant .none j pos) (tC .non):=fun _ _ _ H _ I h=>Constant_none ⟨.non,H,I,rfl,h⟩
theorem AY {x j pos}:PE X (.Constant (.str x) j pos) (tC (.str x)):=fun _ _ _ H _ I h=>Calls.Constant_str ⟨.str x,H,I.tok _,⟨_,rfl⟩,h⟩
def Gl (X:Cx) (x:Str):Prop:=X.env.kindOf x=some .globalImplicit
theorem B6 {s:Shared} {Q:VS} (I:Inv X aa σ H s) (hg:Gl X x) (hm:X.mg x=some u) (h:Q u s)
  (hd:(x == ("__debug__" : Str))=false:=by decide):wpAny (model X.prog X.w) X.A (eval (.Name x pos) X.env) Q E s :=
 Calls.Name_function_global I.ok.kind hg (Calls.loadGlobal_global (by rw [I.ok.glob]; exact I.mod.glob.keeps I.bk) hm h) hd
theorem D8 {s:Shared} {Q:VS} (I:Inv X aa σ H s) (hg:Gl X x) (hm:X.mg x=none) (hv:bootBuiltins x=some u) (h:Q u s)
  (hn:x ≠ "__name__" := by decide) (hd:(x == ("__debug__" : Str))=false:=by decide):wpAny (model X.prog X.w) X.A (eval (.Name x pos) X.env) Q E s:=by
 obtain ⟨mb,h1,h2⟩:=I.mod.blt;exact Calls.Name_function_global I.ok.kind hg (Calls.loadGlobal_builtin (by rw [I.ok.glob]; exact I.mod.glob.keeps I.bk) hm (by rw [I.ok.blt]; exact h1.keeps I.bk) ((h2 x hn).trans hv) h) hd
theorem El {v:V} (hg:Gl X x) (hm:X.mg x=some u) (r:RelV v u) (hd:(x == ("__debug__" : Str))=false:=by decide):PE X (.Name x pos) (tC v) :=
 fun _ _ _ H _ I h=>B6 I hg hm ⟨v,H,I,r,h⟩ hd
theorem B7 {v:V} (hg:Gl X x) (hm:X.mg x=none) (hv:bootBuiltins x=some u) (r:RelV v u) (hn:x ≠ "__name__" := by decide) (hd:(x == ("__debug__" : Str))=false:=by decide):PE X (.Name x pos) (tC v) :=
 fun _ _ _ H _ I h=>D8 I hg hm hv ⟨v,H,I,r,h⟩ hn hd
variable {a b:Expr} {ta tb:TE}
def PC (X:Cx) (op:CmpOp) (a b:Expr) (t:TE):Prop :=
 ∀ (aa:LO) (s:Shared) (σ:St) (H:Hp) (Q:VK),Inv X aa σ H s->t σ H Q ->
  wpAny (model X.prog X.w) X.A (eval a X.env) (fun v s₁=>wpAny (model X.prog X.w) X.A (eval b X.env) (fun u s₂=>wpAny (model X.prog X.w) X.A (compareOp op v u) (EP X aa σ Q) X.xe s₂) X.xe s₁) X.xe s
theorem Jy (b:Expr) {op:CmpOp} (h:op ≠ .In) (h2:op ≠ .NotIn):behindInMarks op b=false:=by
 have e1:(op == CmpOp.In)=false:=by cases op <;> first | rfl | exact absurd rfl h
 have e2:(op == CmpOp.NotIn)=false:=by cases op <;> first | rfl | exact absurd rfl h2
 cases b <;> simp [behindInMarks,e1,e2]
def UL (ta:TE):TE:=fun σ H Q=>ta σ H fun x H1=>Q (.bl (decide (x=.non))) H1
theorem RelV.none_iff {x:V} {v:Value} (r:RelV x v):(v == Value.none)=decide (x=.non):=by
 cases x with
 | non=>cases r; rfl
 | bl _=>cases r; rfl
 | int _=>obtain ⟨t,rfl⟩:=r; rfl
 | str _=>obtain ⟨t,rfl⟩:=r; rfl
 | byt _=>obtain ⟨t,rfl⟩:=r; rfl
 | flt _=>obtain ⟨t,rfl⟩:=r; rfl
 | ref _=>cases r; rfl
 | ty _=>cases r; rfl
theorem Gb {j pos'} (ha:PE X a ta):PC X .Is a (.Constant .none j pos') (UL ta):=by
 intro aa s σ H Q I h;refine thn (ha aa s σ H _ I h) fun v s1 ⟨x,H1,I1,r1,q1⟩=>?_;exact Constant_none (is_none_gen ⟨.bl _,H1,I1,by rw [r1.none_iff]; rfl,q1⟩)
def tB (t:TE):TT:=fun σ H Q=>t σ H fun x H1=>∃ c,x=.bl c/\Q c H1
theorem OU {op:CmpOp} {t:TE} (h:PC X op a b t) (h1:behindInMarks op b=false:=by first | exact Jy _ (by decide) (by decide) | rfl):PE X (.Compare a [op] [b] pos) t:=fun aa s σ H Q I hw=>wpAny_Compare1 (h aa s σ H Q I hw) h1
theorem D9 {op:CmpOp} {t:TE} (h:PC X op a b t) (h1:behindInMarks op b=false:=by first | exact Jy _ (by decide) (by decide) | rfl):PT X (.Compare a [op] [b] pos) (tB t):=by
 intro aa s σ H Q I hw;refine wpAny_isTrue_Compare1 (thn (h aa s σ H _ I hw) fun v s1 h1=>thn h1 fun u s2 h2=>thn h2 fun c s3 ⟨x,H1,I1,r1,q1⟩=>?_) h1;obtain ⟨d,rfl,q⟩:=q1;cases r1;exact wpAny_truthy_bool ⟨H1,I1,q⟩
theorem BK {t:TE} (h:PE X e t) (he:∀ whole,isTrue e X.env whole=(do let v ← whole; standAt e.pos; holding [v] (truthy v)):=by intro _; rfl):PT X e (tB t):=by
 intro aa s σ H Q I hw;refine isTrue_plain (thn (h aa s σ H _ I hw) fun v s1 ⟨x,H1,I1,r1,q1⟩=>?_) (he _);obtain ⟨d,rfl,q⟩:=q1;cases r1;exact wpAny_truthy_bool ⟨H1,I1,q⟩
variable {tA tB':TT} {rest:List Expr}
def TR (t u:TT):TT:=fun σ H Q=>t σ H fun c H1=>if c=true then u σ H1 Q else Q false H1
def tOr (t u:TT):TT:=fun σ H Q=>t σ H fun c H1=>if c=true then Q true H1 else u σ H1 Q
def UM (t:TT):TT:=fun σ H Q=>t σ H fun c H1=>Q (!c) H1
theorem Ds (ha:PT X a tA):PW X (.BoolOp .And [a] pos) tA:=by
 intro wh aa s σ H Q I h;refine isTrue_and (thn (ha aa s σ H Q I h) fun c s1 e=>?_);cases c with
 | true=>exact isTrue_and_nil e
 | false=>exact e
theorem CJ (ha:PT X a tA):PW X (.BoolOp .Or [a] pos) tA:=by
 intro wh aa s σ H Q I h;refine isTrue_or (thn (ha aa s σ H Q I h) fun c s1 e=>?_);cases c with
 | false=>exact isTrue_or_nil e
 | true=>exact e
theorem FP (ha:PT X a tA) (hb:PW X (.BoolOp .And (b :: rest) pos) tB'):PW X (.BoolOp .And (a :: b :: rest) pos) (TR tA tB'):=by
 intro wh aa s σ H Q I h;refine isTrue_and (thn (ha aa s σ H _ I h) fun c s1 ⟨H1,I1,q1⟩=>?_);cases c with
 | true=>exact hb wh aa s1 σ H1 Q I1 q1
 | false=>exact ⟨H1,I1,q1⟩
theorem DT (ha:PT X a tA) (hb:PW X (.BoolOp .Or (b :: rest) pos) tB'):PW X (.BoolOp .Or (a :: b :: rest) pos) (tOr tA tB'):=by
 intro wh aa s σ H Q I h;refine isTrue_or (thn (ha aa s σ H _ I h) fun c s1 ⟨H1,I1,q1⟩=>?_);cases c with
 | true=>exact ⟨H1,I1,q1⟩
 | false=>exact hb wh aa s1 σ H1 Q I1 q1
theorem BN (ha:PT X a tA):PT X (.UnaryOp .Not a pos) (UM tA):=by
 intro aa s σ H Q I h;exact isTrue_not (ha aa s σ H (fun c H1=>Q (!c) H1) I h)
def TU (ta tb:TE):TE:=fun σ H Q=>ta σ H fun x H1=>∃ c,x=.bl c/\if c=true then tb σ H1 Q else Q (.bl false) H1
def TV (ta:TE):TE:=fun σ H Q=>ta σ H fun x H1=>∃ c,x=.bl c/\Q (.bl (!c)) H1
theorem EB {op} {t:TE} (h:PE X a t):PE X (.BoolOp op [a] pos) t:=fun aa s σ H Q I hw=>BoolOp_one (h aa s σ H Q I hw)
theorem ED (ha:PE X a ta) (hb:PE X (.BoolOp .And (b :: rest) pos) tb):PE X (.BoolOp .And (a :: b :: rest) pos) (TU ta tb):=by
 intro aa s σ H Q I h;refine BoolOp_and (thn (ha aa s σ H _ I h) fun v s1 ⟨x,H1,I1,r1,q1⟩=>?_);obtain ⟨c,rfl,q1⟩:=q1;cases r1;refine wpAny_truthy_bool ?_;cases c with
 | true=>exact hb aa s1 σ H1 Q I1 q1
 | false=>exact ⟨.bl false,H1,I1,rfl,q1⟩
theorem SE (ha:PE X a ta):PE X (.UnaryOp .Not a pos) (TV ta):=by
 intro aa s σ H Q I h;refine UnaryOp_ (thn (ha aa s σ H _ I h) fun v s1 ⟨x,H1,I1,r1,q1⟩=>?_);obtain ⟨c,rfl,q1⟩:=q1;cases r1;exact not_of (wpAny_truthy_bool ⟨.bl (!c),H1,I1,rfl,q1⟩)
def tIf (t:TT) (ta tb:TE):TE:=fun σ H Q=>t σ H fun c H1=>if c=true then ta σ H1 Q else tb σ H1 Q
theorem OV {c:Expr} (hc:PT X c tA) (ha:PE X a ta) (hb:PE X b tb):PE X (.IfExp c a b pos) (tIf tA ta tb):=by
 intro aa s σ H Q I h;refine wpAny_IfExp (thn (hc aa s σ H _ I h) fun d s1 ⟨H1,I1,q1⟩=>?_);cases d with
 | true=>exact ha aa s1 σ H1 Q I1 q1
 | false=>exact hb aa s1 σ H1 Q I1 q1
end
end L2
namespace L2
open PySem PySem.Spec PyProof.Rows
def SqL (K:FG) (H:Hp) (a:Addr) (xs:List V):Prop :=
 Rd H a (.lst xs) \/
  ∃ (o:Obj) (its:Array Value) (n:Nat),K.lookup a=some o/\o.cls=.type "list" /\ o.dict=none/\o.data=.seq its n/\its.size <= sizeLine/\Vals xs its.toList
def SqT (K:FG) (H:Hp) (a:Addr) (xs:List V):Prop :=
 Rd H a (.tup xs) \/
  ∃ (o:Obj) (its:Array Value) (n:Nat),K.lookup a=some o/\o.cls=.type "tuple" /\ o.data=.seq its n/\its.size <= sizeLine/\Vals xs its.toList
noncomputable def UN:Value->Option V
 | .none=>some .non
 | .bool b=>some (.bl b)
 | .int i _=>some (.int i)
 | .str x _=>some (.str x)
 | .bytes b _=>some (.byt b)
 | .float b _=>some (.flt b)
 | .ref a=>some (.ref a)
 | .type n=>some (.ty n)
 | _=>none
theorem RelV.abs {x:V} (r:RelV x u):UN u=some x:=by
 cases x with
 | non=>cases r; rfl
 | bl _=>cases r; rfl
 | int _=>obtain ⟨t,rfl⟩:=r; rfl
 | str _=>obtain ⟨t,rfl⟩:=r; rfl
 | byt _=>obtain ⟨t,rfl⟩:=r; rfl
 | flt _=>obtain ⟨t,rfl⟩:=r; rfl
 | ref _=>cases r; rfl
 | ty _=>cases r; rfl
theorem RelV.inj {x y:V} {u:Value} (r:RelV x u) (q:RelV y u):x=y:=Option.some.inj (r.abs.symm.trans q.abs)
theorem Vals.inj:∀ {xs ys:List V} {us:List Value},Vals xs us->Vals ys us->xs=ys
 | _,_,_,.nil,.nil=>rfl
 | _,_,_,.cons r t,.cons r' t'=>by rw [r.inj r',Vals.inj t t']
section
variable {s:Shared} {ys:List V}
theorem SqL.of (h:H a=some (.lst xs)):SqL K H a xs:=.inl (.inl h)
theorem SqT.of (h:H a=some (.tup xs)):SqT K H a xs:=.inl (.inl h)
theorem Inv.list (I:Inv X aa σ H s) (h:SqL X.K H a xs):∃ its:List Value,Vals xs its/\PlainL s.heap a its.toArray/\xs.length <= sizeLine:=by
 rcases h with h | ⟨o,its,n,hk,hc,hd,hs,hz,r⟩
 ·obtain ⟨z,its,n,r,e⟩:=h.ok I.hok;exact ⟨its,r,⟨_,n,e,rfl,rfl,rfl⟩,z⟩
 ·refine ⟨its.toList,r,⟨o,n,I.kIn a o hk,hc,hd,by simpa using hs⟩,?_⟩;have e:=r.length;simp only [Array.length_toList] at e;omega
theorem Inv.tuple (I:Inv X aa σ H s) (h:SqT X.K H a xs):∃ its:List Value,Vals xs its/\IsTup s.heap a its.toArray/\xs.length <= sizeLine:=by
 rcases h with h | ⟨o,its,n,hk,hc,hs,hz,r⟩
 ·obtain ⟨z,its,r,p⟩:=h.ok I.hok;exact ⟨its,r,p,z⟩
 ·refine ⟨its.toList,r,⟨o,I.kIn a o hk,hc,n,by simpa using hs⟩,?_⟩;have e:=r.length;simp only [Array.length_toList] at e;omega
theorem Inv.list_inj (I:Inv X aa σ H s) (h:SqL X.K H a xs) (h':SqL X.K H a ys):xs=ys:=by
 obtain ⟨its,r,⟨o,n,e,_,_,d⟩,_⟩:=I.list h;obtain ⟨its',r',⟨o',n',e',_,_,d'⟩,_⟩:=I.list h';rw [e] at e'; cases e';rw [d] at d';injection d' with d1 _
 have:its=its':=by simpa using congrArg Array.toList d1
 subst this;exact r.inj r'
theorem Inv.tuple_inj (I:Inv X aa σ H s) (h:SqT X.K H a xs) (h':SqT X.K H a ys):xs=ys:=by
 obtain ⟨its,r,⟨o,e,_,n,d⟩,_⟩:=I.tuple h;obtain ⟨its',r',⟨o',e',_,n',d'⟩,_⟩:=I.tuple h';rw [e] at e'; cases e';rw [d] at d';injection d' with d1 _
 have:its=its':=by simpa using congrArg Array.toList d1
 subst this;exact r.inj r'
end
noncomputable abbrev Cx.wish (X:Cx) (E:VS):Cx:={ X with xe:=E }
noncomputable abbrev Cx.nox (X:Cx):Cx:=X.wish fun _ _=>False
theorem Cx.Ok.wish {X:Cx} (ok:X.Ok) (E:VS):(X.wish E).Ok :=
 ⟨ok.mod,ok.kind,ok.glob,ok.blt,ok.above,ok.inj,ok.has,ok.cab,ok.hd,ok.frames,ok.stk,ok.exf,ok.bs,ok.bsz,ok.noex,ok.exfs,ok.funs,ok.frf⟩
theorem Cx.Ok.unwish (ok:(X.wish E).Ok):X.Ok :=
 ⟨ok.mod,ok.kind,ok.glob,ok.blt,ok.above,ok.inj,ok.has,ok.cab,ok.hd,ok.frames,ok.stk,ok.exf,ok.bs,ok.bsz,ok.noex,ok.exfs,ok.funs,ok.frf⟩
section
variable {s:Shared}
theorem Inv.wish (I:Inv X aa σ H s) (E:VS):Inv (X.wish E) aa σ H s:=⟨I.ok.wish E,I.os,I.bare,I.base,I.loc,I.cell,I.free,I.freeC,I.pin,I.hok,I.len⟩
theorem Inv.unwish (I:Inv (X.wish E) aa σ H s):Inv X aa σ H s:=⟨I.ok.unwish,I.os,I.bare,I.base,I.loc,I.cell,I.free,I.freeC,I.pin,I.hok,I.len⟩
theorem SP.unwish {D:D7} {f:Flow} {s':Shared} (h:SP (X.wish E) aa D f s'):SP X aa D f s':=by
 cases f with
 | next=>obtain ⟨σ',H',I,q⟩:=h; exact ⟨σ',H',I.unwish,q⟩
 | brk=>obtain ⟨σ',H',I,q⟩:=h; exact ⟨σ',H',I.unwish,q⟩
 | cont=>obtain ⟨σ',H',I,q⟩:=h; exact ⟨σ',H',I.unwish,q⟩
 | ret u=>obtain ⟨v,σ',H',I,r,q⟩:=h; exact ⟨v,σ',H',I.unwish,r,q⟩
theorem PSs.nox {st:List Stmt} {t:TS} (h:PSs X.nox st t):PSs X st t:=fun aa s σ H D I hw =>
 wpAny_mono (h aa s σ H D (I.wish _) hw) (fun _ _ q=>q.unwish) fun _ _ z=>False.elim z
end
section
variable {st:Stmt} {rest:List Stmt} {t u:TS}
def TW:TS:=fun D σ H=>D.nx σ H
def TX (t u:TS):TS:=fun D σ H=>t { D with nx:=u D } σ H
theorem Ab:PSs X [] TW:=fun _ _ σ H _ I h=>wpAny_execs_nil ⟨σ,H,I,h⟩
theorem AD (h1:PS X st t) (h2:PSs X rest u):PSs X (st :: rest) (TX t u):=by
 intro aa s σ H D I h;refine wpAny_execs_cons (thn (h1 aa s σ H { D with nx:=u D } I h) fun f s1 q=>?_);cases f with
 | next =>
  obtain ⟨σ',H',I',q⟩:=q;exact h2 aa s1 σ' H' D I' q
 | ret v=>exact q
 | brk=>exact q
 | cont=>exact q
theorem AF (h1:PS X st t):PSs X [st] t:=by
 intro aa s σ H D I h;refine wpAny_execs_cons (thn (h1 aa s σ H D I h) fun f s1 q=>?_);cases f with
 | next=>exact wpAny_execs_nil q
 | ret v=>exact q
 | brk=>exact q
 | cont=>exact q
theorem Inv.quiet {s:Shared} (I:Inv X aa σ H s):interactive X.env=false:=by simp [interactive,I.ok.kind]
def TY (te:TE):TS:=fun D σ H=>te σ H fun _ H1=>D.nx σ H1
theorem DE (he:PE X e te) (hs:swapsWith e none pos.line X.env=pure false:=by rfl):PS X (.Expr e pos) (TY te):=by
 intro aa s σ H D I h;exact wpAny_Expr_any (thn (he aa s σ H _ I h) fun v s1 ⟨x,H1,I1,r1,q1⟩=>⟨σ,H1,I1,q1⟩) I.quiet hs
def OW (te:TE):TS:=fun D σ H=>te σ H D.rt
theorem AV (he:PE X e te):PS X (.Return (some e) pos) (OW te):=by
 intro aa s σ H D I h;exact wpAny_Return_some (thn (he aa s σ H _ I h) fun v s1 ⟨x,H1,I1,r1,q1⟩=>⟨x,σ,H1,I1,r1,q1⟩)
def UO (c:TT) (t u:TS):TS:=fun D σ H=>c σ H fun b H1=>if b=true then t D σ H1 else u D σ H1
theorem Au {c:Expr} {a b:List Stmt} {tc:TT} (hc:PT X c tc) (ha:PSs X a t) (hb:PSs X b u):PS X (.If c a b pos) (UO tc t u):=by
 intro aa s σ H D I h;refine wpAny_If (thn (hc aa s σ H _ I h) fun d s1 ⟨H1,I1,q1⟩=>?_);cases d with
 | true=>exact ha aa s1 σ H1 D I1 q1
 | false=>exact hb aa s1 σ H1 D I1 q1
def SF:TS:=fun _ _ _=>False
theorem Ad:PS X st SF:=fun _ _ _ _ _ _ h=>h.elim
end
abbrev TG:=V->St->Hp->(St->Hp->Prop)->Prop
abbrev TGs:=List V->St->Hp->(St->Hp->Prop)->Prop
def PG (X:Cx) (target:Expr) (t:TG):Prop :=
 ∀ (aa:LO) (s:Shared) (σ:St) (H:Hp) (v:V) (u:Value) (Q:St->Hp->Prop),Inv X aa σ H s->RelV v u->t v σ H Q ->
  wpAny (model X.prog X.w) X.A (assign target X.env u) (fun _ s'=>∃ σ' H',Inv X aa σ' H' s'/\Q σ' H') X.xe s
def PGs (X:Cx) (ts:List Expr) (t:TGs):Prop :=
 ∀ (aa:LO) (s:Shared) (σ:St) (H:Hp) (vs:List V) (us:List Value) (Q:St->Hp->Prop),Inv X aa σ H s->Vals vs us->t vs σ H Q ->
  wpAny (model X.prog X.w) X.A (assignInOrder ((assignEach ts X.env).map (·.2)) us) (fun _ s'=>∃ σ' H',Inv X aa σ' H' s'/\Q σ' H') X.xe s
abbrev SG:=V->V->V->Hp->(Hp->Prop)->Prop
def TZ (X:Cx) (t:SG):Prop :=
 ∀ (aa:LO) (s:Shared) (σ:St) (H:Hp) (o i v:V) (ov iv u:Value) (Q:Hp->Prop),Inv X aa σ H s->RelV o ov->RelV i iv->RelV v u->t o i v H Q ->
  wpAny (model X.prog X.w) X.A (setItem ov iv u) (fun _ s'=>∃ H',Inv X aa σ H' s'/\Q H') X.xe s
abbrev TIp:=V->V->Hp->VK->Prop
def PIp (X:Cx) (op:Operator) (t:TIp):Prop :=
 ∀ (aa:LO) (s:Shared) (σ:St) (H:Hp) (x y:V) (v u:Value) (Q:VK),Inv X aa σ H s->RelV x v->RelV y u->t x y H Q ->
  wpAny (model X.prog X.w) X.A (inplaceOp op v u) (EP X aa σ Q) X.xe s
section
def CO (i:Nat):TG:=fun v σ H Q=>Q (σ.set i (some v)) H
theorem AM {i:Nat} (hN:X.N.Nodup) (hi:X.N[i]?=some x) (hx:Loc X.env.scope x) (hf:X.fn x=true\/X.env.scope.names.lookup x=some .local:=by first | exact .inl rfl | exact .inr rfl | assumption):PG X (.Name x pos) (CO i):=by
 intro aa s σ H v u Q I r h;exact wpAny_assign_Name (Bp I hN hi hx r (fun s' I'=>⟨_,H,I',h⟩) hf)
def Qf:TGs:=fun vs σ H Q=>vs=[]/\Q σ H
def Gc (t:TG) (u:TGs):TGs:=fun vs σ H Q=>∃ v r,vs=v :: r/\t v σ H fun σ' H'=>u r σ' H' Q
theorem A2:PGs X [] Qf:=by
 intro aa s σ H vs us Q I r h;obtain ⟨e,h⟩:=h;subst e;cases r;exact assignInOrder_nil ⟨σ,H,I,h⟩
theorem AO {es:List Expr} {t:TG} {u:TGs} (h1:PG X e t) (h2:PGs X es u)
  (hs:(assignEach (e :: es) X.env).map (·.2)=assign e X.env :: (assignEach es X.env).map (·.2):=by rfl):PGs X (e :: es) (Gc t u):=by
 intro aa s σ H vs us Q I r h;obtain ⟨v,vr,e1,h⟩:=h;subst e1;cases r with
 | cons r rr =>
  rw [hs];refine assignInOrder_cons (thn (h1 aa s σ H _ _ _ I r h) fun _ s1 ⟨σ1,H1,I1,q1⟩=>?_);exact h2 aa s1 σ1 H1 _ _ Q I1 rr q1
def Qg (K:FG) (n:Nat) (t:TGs):TG:=fun v σ H Q=>∃ a xs,v=.ref a/\SqT K H a xs/\xs.length=n/\t xs σ H Q
theorem BO {es:List Expr} {k:Nat} {t:TGs} {n:Nat} (hc:X.calm=true) (h:PGs X es t)
  (hn:(assignEach es X.env).length=n:=by rfl) (hst:(assignEach es X.env).findIdx? (·.1)=none:=by rfl):PG X (.Tuple es k pos) (Qg X.K n t):=by
 intro aa s σ H v u Q I r hw;obtain ⟨a,xs,e1,hq,hl,hw⟩:=hw;subst e1;cases r;obtain ⟨its,rv,ht,hz⟩:=I.tuple hq;refine assign_Tuple_tuple (I.ok.hd hc) ht (by simp [hn,← hl,rv.length]) hst fun h' hx=>?_;have I1:Inv X aa σ H { s with heap:=h' }:=I.kept (t':=s.toks) fun b o e=>hx b o (Nat.ne_of_lt (lt_size e)) e;exact h aa _ σ H xs _ Q I1 (by simpa using rv) hw
def UP (to ti:TE) (t:SG):TG:=fun v σ H Q=>to σ H fun o H1=>ti σ H1 fun i H2=>t o i v H2 fun H3=>Q σ H3
theorem OX {o i:Expr} {to ti:TE} {t:SG} (ho:PE X o to) (hi:PE X i ti) (hs:TZ X t)
  (ha:∀ v,assign (.Subscript o i pos) X.env v=(do
   let ov ← holding [v] (eval o X.env)
   let iv ← holding [v,ov] (eval i X.env)
   standAt pos
   holding [v,ov,iv] (setItem ov iv v)
   release [v,ov,iv] []):=by intro _; rfl):PG X (.Subscript o i pos) (UP to ti t):=by
 intro aa s σ H v u Q I r h;rw [ha];refine wpAny_bind (wpAny_holding (thn (ho aa s σ H _ I h) fun ov s1 ⟨x,H1,I1,r1,q1⟩=>?_));refine wpAny_bind (wpAny_holding (thn (hi aa s1 σ H1 _ I1 q1) fun iv s2 ⟨y,H2,I2,r2,q2⟩=>?_));refine wpAny_bind (wpAny_standAt (wpAny_bind (wpAny_holding (thn (hs aa s2 σ H2 x y v ov iv u _ I2 r1 r2 r q2) fun _ s3 ⟨H3,I3,q3⟩=>?_))));exact wpAny_release ⟨σ,H3,I3,q3⟩
def SH (te:TE) (g:TG):TS:=fun D σ H=>te σ H fun x H1=>g x σ H1 D.nx
theorem DX {tg:Expr} {g:TG} (he:PE X e te) (hg:PG X tg g) (hs:swapsWithSole [tg] e pos.line X.env=pure false:=by rfl) (hw:swappedStores [tg] e X.env=pure none:=by rfl)
  (h1:(assignEach [tg] X.env).map (·.2)=[assign tg X.env]:=by rfl):PS X (.Assign [tg] e pos) (SH te g):=by
 intro aa s σ H D I h;refine wpAny_Assign_stores (thn (he aa s σ H _ I h) fun v s1 ⟨x,H1,I1,r1,q1⟩=>?_) hs hw;rw [h1];exact thn (hg aa s1 σ H1 x v _ I1 r1 q1) fun _ s2 q=>q
theorem Ae {i:Nat} {pos':Pos} (hN:X.N.Nodup) (hi:X.N[i]?=some x) (hx:Loc X.env.scope x) (he:PE X e te) (hs:swapsWith e (some (.Name x pos')) pos.line X.env=pure false:=by rfl) (hf:X.fn x=true\/X.env.scope.names.lookup x=some .local:=by first | exact .inl rfl | exact .inr rfl | assumption) :
  PS X (.Assign [.Name x pos'] e pos) (SH te (CO i)):=by
 intro aa s σ H D I h;refine wpAny_Assign_Name (thn (he aa s σ H _ I h) fun v s1 ⟨y,H1,I1,r1,q1⟩=>?_) hs;exact Bp I1 hN hi hx r1 (fun s2 I2=>⟨_,H1,I2,q1⟩) hf
def UQ (i j:Nat) (ta:TA):TS:=fun D σ H=>ta σ H fun vs H1=>∃ v w,vs=[v,w]/\D.nx ((σ.set i (some v)).set j (some w)) H1
theorem SI {i j:Nat} {y:Str} {a b:Expr} {ta:TA} {px py pt:Pos} {kt k2 pt2} (hc:X.calm=true) (hN:X.N.Nodup) (hi:X.N[i]?=some x) (hj:X.N[j]?=some y) (hij:i ≠ j)
  (hx:X.env.scope.names.lookup x=some .local) (hy:X.env.scope.names.lookup y=some .local) (ha:PA X [a,b] ta)
  (hw:swappedStores [.Tuple [.Name x px,.Name y py] kt pt] (.Tuple [a,b] k2 pt2) X.env=pure (some [x,y]))
  (hs:swapsWithSole [.Tuple [.Name x px,.Name y py] kt pt] (.Tuple [a,b] k2 pt2) pos.line X.env=pure false:=by rfl) :
  PS X (.Assign [.Tuple [.Name x px,.Name y py] kt pt] (.Tuple [a,b] k2 pt2) pos) (UQ i j ta):=by
 intro aa s σ H D I h;rw [exec_Assign_arm];refine wpAny_bind (wpAny_standAt ?_);rw [hs];refine wpAny_bind (wpAny_pure ?_);rw [if_neg (by decide)];refine wpAny_bind (Tuple_ (thn (ha _ aa s σ H _ I h) fun us s1 ⟨vs,H1,I1,r1,q1⟩=>?_));obtain ⟨v,w,e1,q1⟩:=q1;subst e1
 obtain ⟨u1,u2,rfl,rv,rw'⟩:∃ u1 u2,us=[u1,u2]/\RelV v u1/\RelV w u2:=by
  cases r1 with
  | cons p q =>
   cases q with
   | cons p' q' =>
    cases q';exact ⟨_,_,rfl,p,p'⟩
 refine wpAny_newObj_type ?_ sl2;have I2:Inv X aa σ H1 { s1 with heap:=s1.heap.push { cls:=.type "tuple", data:=.seq [u1,u2].toArray } }:=I1.kept (t':=s1.toks) fun b o e=>get?_push_of_some _ e;rw [hw];refine wpAny_bind (wpAny_pure ?_);show wpAny (model X.prog X.w) X.A (do rule "assign.swapped-stores"; let items ← unpackItems (.ref s1.heap.objs.size) 2 none; assignInOrder [fun v=>bindName X.env y v,fun v=>bindName X.env x v] items.reverse; pure Flow.next) _ _ _;refine wpAny_bind (wpAny_rule (wpAny_bind (unpackItems_tuple (items:=#[u1,u2]) (I.ok.hd hc) (IsTup.new s1.heap _) fun h' hx'=>?_)));have I3:=I2.kept (h':=h') (t':=s1.toks) fun b o e=>hx' b o (Nat.ne_of_lt (lt_size e)) e;show wpAny _ _ (assignInOrder [fun v=>bindName X.env y v,fun v=>bindName X.env x v] [u2,u1] >>= fun _=>pure Flow.next) _ _ _;refine wpAny_bind (assignInOrder_cons (wpAny_bindName (Bp I3 hN hj (.inl hy) rw' (fun s2 I4=>?_) (.inr hy))));refine assignInOrder_cons (wpAny_bindName (Bp I4 hN hi (.inl hx) rv (fun s3 I5=>assignInOrder_nil (wpAny_pure ?_)) (.inr hx)));rw [List.set_comm _ _ (Ne.symm hij)] at I5;exact ⟨_,H1,I5,q1⟩
def UR (i:Nat) (te:TE) (ti:TIp):TS:=fun D σ H=>∃ x,σ[i]?=some (some x)/\te σ H fun y H1=>ti x y H1 fun z H2=>D.nx (σ.set i (some z)) H2
theorem OY {i:Nat} {op:Operator} {ti:TIp} {pos':Pos} (hN:X.N.Nodup) (hi:X.N[i]?=some x) (hx:Loc X.env.scope x) (he:PE X e te) (ho:PIp X op ti) (hf:X.fn x=true\/X.env.scope.names.lookup x=some .local:=by first | exact .inl rfl | exact .inr rfl | assumption) :
  PS X (.AugAssign (.Name x pos') op e pos) (UR i te ti):=by
 intro aa s σ H D I h;obtain ⟨v,e1,h⟩:=h;obtain ⟨m,hn,hl⟩:=I.loc;have vis:Vis X.env.scope x:=by rcases hx with k | k; exact .inl k; exact .inr (.inl k)
 obtain ⟨u,r,l⟩:=hl i x v hi e1 vis;refine wpAny_AugAssign_Name ?_
 have go:wpAny (model X.prog X.w) X.A (eval e X.env) (fun w s₂=>wpAny (model X.prog X.w) X.A (inplaceOp op u w) (fun r s₃=>wpAny (model X.prog X.w) X.A (storeName X.env x r) (fun _=>SP X aa D .next) X.xe s₃) X.xe s₂) X.xe s:=by
  refine thn (he aa s σ H _ I h) fun w s1 ⟨y,H1,I1,r1,q1⟩=>?_;refine thn (ho aa s1 σ H1 v y u w _ I1 r r1 q1) fun z s2 ⟨zv,H2,I2,r2,q2⟩=>?_;exact Bp I2 hN hi hx r2 (fun s3 I3=>⟨_,H2,I3,q2⟩) hf
 rcases l with ⟨hk,hm⟩ | ⟨hk,c,hc,bd⟩
 ·exact wpAny_loadName_local I.ok.kind hk hn hm go
 ·rcases hk with hk | hk
  ·exact wpAny_loadName_cell I.ok.kind hk hc bd go
  ·rcases hx with k | k
   ·have:X.env.scope.names.lookup x=some .free:=hk;rw [k] at this; cases this
   ·have:X.env.scope.names.lookup x=some .free:=hk;rw [k] at this; cases this
end
section
def OZ (c:TT) (tb:TS):TS:=fun D σ H=>∃ W:Nat->St->Hp->Prop,(∃ m,W m σ H)/\∀ m σ H,W m σ H ->
 c σ H fun b H1=>if b=true then ∃ N:St->Hp->Prop,(∀ σ' H',N σ' H'->∃ m',m' < m/\W m' σ' H')/\tb { D with nx:=N,ct:=N,bk:=D.nx } σ H1 else D.nx σ H1
theorem Oa {c:Expr} {body:List Stmt} {tc:TT} {tb:TS} (hp:PassesOwn (model X.prog X.w) X.A X.env X.xe) (hc:PT X c tc) (hb:PSs X body tb):PS X (.While c body [] pos) (OZ tc tb):=by
 intro aa s σ H D I h;obtain ⟨W,⟨m0,w0⟩,turn⟩:=h;refine wpAny_While (codeAny_whileLoop (fun n s'=>∃ σ' H',Inv X aa σ' H' s'/\W n σ' H') ?_ m0 ⟨σ,H,I,w0⟩);rintro n s1 ⟨σ1,H1,I1,w1⟩;refine wpAny_passesOwn hp (thn (hc aa s1 σ1 H1 _ I1 (turn n σ1 H1 w1)) fun b s2 ⟨H2,I2,q2⟩=>?_);cases b with
 | true =>
  obtain ⟨N,hN,q2⟩:=q2;rw [if_pos rfl];refine wpAny_passesOwn hp (thn (hb aa s2 σ1 H2 _ I2 q2) fun f s3 q3=>?_);cases f with
  | next =>
   obtain ⟨σ3,H3,I3,n3⟩:=q3;obtain ⟨m',hm,w3⟩:=hN σ3 H3 n3;exact ⟨m',hm,σ3,H3,I3,w3⟩
  | cont =>
   obtain ⟨σ3,H3,I3,n3⟩:=q3;obtain ⟨m',hm,w3⟩:=hN σ3 H3 n3;exact ⟨m',hm,σ3,H3,I3,w3⟩
  | brk=>exact q3
  | ret v=>exact q3
 | false =>
  rw [if_neg Bool.false_ne_true];exact wpAny_execs_nil ⟨σ1,H2,I2,q2⟩
end
structure It where
 go:Nat->Hp->Prop
 yld:Nat->Hp->V->Hp->Prop
 stop:Nat->Hp->Prop
def DW (X:Cx) (aa:LO) (H:Hp) (b:Addr):Prop :=
 H b=none/\b ≠ X.env.locals/\b ∉ X.fs/\(b ∈ X.ex\/X.s₀.heap.objs.size <= b)/\(∀ x c,X.env.cells.lookup x=some c->c ≠ b)/\∀ p ∈ X.pn++aa,p.1 ≠ b
theorem Inv.fpOk {s:Shared} {b:Addr} (I:Inv X aa σ H s) (hb:s.heap.objs.size <= b) (hn:H' b=none):DW X aa H' b:=by
 refine ⟨hn,Nat.ne_of_gt (Nat.lt_of_lt_of_le I.lt hb),I.nofs hb,.inr (Nat.le_trans I.sz hb),fun x c e z=>?_,fun p hp z=>?_⟩
 ·obtain ⟨v,q⟩:=I.cell x c e;exact absurd (Nat.lt_of_lt_of_le q.lt (by rw [z]; exact hb)) (Nat.lt_irrefl _)
 ·exact absurd (Nat.lt_of_lt_of_le (lt_size (I.pin p hp).1) (by rw [z]; exact hb)) (Nat.lt_irrefl _)
structure LB (P:Program) (w:World) (K:FG) (tg:Expr) (J:It) (fp:List Addr) (it:Addr) (tn:Nat->Heap->Prop):Prop where
 mem:it ∈ fp
 obj:∀ i h,tn i h->∀ b ∈ fp,∃ o,h.get? b=some o/\∀ v,o.data ≠ .cell v
 keep:∀ i h h',tn i h->(∀ b ∈ fp,∀ o,h.get? b=some o->h'.get? b=some o)->tn i h'
 item:∀ (X:Cx),X.prog=P->X.w=w->X.K=K->X.calm=true->∀ (i:Nat) (aa:LO) (s:Shared) (σ:St) (H:Hp) (E:VS),Inv X aa σ H s->(∀ b ∈ fp,DW X aa H b)->tn i s.heap->J.go i H ->
  wpAny (model P w) X.A (pyNext (.ref it)) (fun r s1=>∃ u,r=some u /\
   wpAny (model P w) X.A (letOwnedTupleGo tg (.ref it) u) (fun _ s2=>∃ x H',Inv X aa σ H' s2/\RelV x u/\J.yld i H x H'/\tn (i + 1) s2.heap/\∀ b ∈ fp,H' b=none) E s1) E s
 done:∀ (X:Cx),X.prog=P->X.w=w->X.K=K->X.calm=true->∀ (i:Nat) (aa:LO) (s:Shared) (σ:St) (H:Hp) (E:VS),Inv X aa σ H s->(∀ b ∈ fp,DW X aa H b)->tn i s.heap->J.stop i H ->
  wpAny (model P w) X.A (pyNext (.ref it)) (fun r s1=>r=none/\Inv X aa σ H s1) E s
 self:∀ (A:Around) (i:Nat) (s:Shared) (Q:VS) (E:VS),tn i s.heap->Q (.ref it) s->wpAny (model P w) A (pyIter (.ref it)) Q E s
abbrev TI:=St->Hp->(It->Hp->Prop)->Prop
def PIE (X:Cx) (aa:LO) (σ:St) (tg:Expr) (R:It->Hp->Prop) (itv:Value) (s2:Shared):Prop :=
 ∃ (it:Addr) (fp:List Addr) (tn:Nat->Heap->Prop) (J:It) (H':Hp),itv=.ref it/\Inv X aa σ H' s2/\LB X.prog X.w X.K tg J fp it tn/\tn 0 s2.heap/\(∀ b ∈ fp,DW X aa H' b)/\R J H'
def PI (X:Cx) (tg iter:Expr) (wi:TI):Prop :=
 ∀ (aa:LO) (s:Shared) (σ:St) (H:Hp) (R:It->Hp->Prop),Inv X aa σ H s->wi σ H R ->
  wpAny (model X.prog X.w) X.A (eval iter X.env) (fun v s1=>wpAny (model X.prog X.w) X.A (pyIter v) (PIE X aa σ tg R) X.xe s1) X.xe s
theorem MR {M:Model} {s:Shared} {tg:Expr} {it:Addr} {o:Obj} {n:String} {vs:Array Value} {Q:Unit->Shared->Prop} (ho:s.heap.get? it=some o) (hc:o.cls=.type n) (hd:o.data=.fields vs)
    (hn:["enumerate", "zip", "dict_itemiterator", "dict_reverseitemiterator", "odict_iterator", "itertools.zip_longest", "itertools.pairwise"].contains n=false) (hQ:Q () s):wpAny M A (letOwnedTupleGo tg (.ref it) u) Q E s:=by
  unfold letOwnedTupleGo
  cases tg <;> first
    | exact wpAny_pure hQ
    | (cases u <;> first
        | exact wpAny_pure hQ
        | (refine wpAny_bind (wpAny_load ho ?_)
           rw [hc,hd];show wpAny M A (if (["enumerate", "zip", "dict_itemiterator", "dict_reverseitemiterator", "odict_iterator", "itertools.zip_longest", "itertools.pairwise"].contains n && vs[0]? == some (rawInt _))=true then _ else _) Q E s;rw [if_neg (by intro h; rw [hn,Bool.false_and] at h; cases h)]
           exact wpAny_pure hQ))
noncomputable def Itl (K:FG) (a:Addr):It :=
 ⟨fun i H=>∃ xs x,SqL K H a xs/\xs[i]?=some x,fun i H x H'=>H'=H/\∀ xs,SqL K H a xs->xs[i]?=some x,fun i H=>∃ xs,SqL K H a xs/\xs.length <= i⟩
noncomputable def Itt (K:FG) (a:Addr):It :=
 ⟨fun i H=>∃ xs x,SqT K H a xs/\xs[i]?=some x,fun i H x H'=>H'=H/\∀ xs,SqT K H a xs->xs[i]?=some x,fun i H=>∃ xs,SqT K H a xs/\xs.length <= i⟩
noncomputable def Itr (lo:Int) (n:Nat):It:=⟨fun i _=>i < n,fun i H x H'=>H'=H/\x=.int (lo + i),fun i _=>n <= i⟩
theorem Hz {tg:Expr} (a it:Addr):LB P w K tg (Itl K a) [it] it (fun i h=>h.IsListIter it a i) where
 mem:=by simp
 obj:=fun i h st b hb=>by
  have e:b=it:=by simpa using hb
  subst e;obtain ⟨o,e,c,d⟩:=st;exact ⟨o,e,fun v z=>by rw [d] at z; cases z⟩
 keep:=fun i h h' st k=>st.at fun o e=>k it (by simp) o e
 item:=by
  intro X hP hw hK hc i aa s σ H E I hf st hg;subst hP hw hK;obtain ⟨xs,x,hq,hx⟩:=hg;obtain ⟨its,rv,p,hz⟩:=I.list hq;obtain ⟨u,hu,ru⟩:=rv.get hx;obtain ⟨f0,f1,f2,f3,f4,f5⟩:=hf it (by simp);refine wpAny_pyNext_list_item st p.isList (x:=u) (by simpa using hu) fun h' st' sb=>?_;have I1:Inv X aa σ H { s with heap:=h' }:=I.turned (t':=s.toks) (fun b o hb e=>(sb.2 b hb).trans e) f0 f1 f3 f4 f5;obtain ⟨o,e,c,d⟩:=id st';exact ⟨u,rfl,MR (s:={ s with heap:=h' }) e c d (by decide) ⟨x,H,I1,ru,⟨rfl,fun ys hy=>by rw [I.list_inj hy hq]; exact hx⟩,st',fun b hb=>(hf b hb).1⟩⟩
 done:=by
  intro X hP hw hK hc i aa s σ H E I hf st hg;subst hP hw hK;obtain ⟨xs,hq,hx⟩:=hg;obtain ⟨its,rv,p,hz⟩:=I.list hq;obtain ⟨f0,f1,f2,f3,f4,f5⟩:=hf it (by simp);have hl:=rv.length;exact wpAny_pyNext_list_end (I.ok.hd hc) st p.isList (by simp; omega) fun h' eb=>⟨rfl,I.turned (t':=s.toks) (fun b o hb e=>eb b o hb e) f0 f1 f3 f4 f5⟩
 self:=fun _ _ _ _ _ st h=>wpAny_pyIter_listiter st h
theorem LD {tg:Expr} (a it:Addr):LB P w K tg (Itt K a) [it] it (fun i h=>h.IsTupleIter it a i) where
 mem:=by simp
 obj:=fun i h st b hb=>by
  have e:b=it:=by simpa using hb
  subst e;obtain ⟨o,e,c,d⟩:=st;exact ⟨o,e,fun v z=>by rw [d] at z; cases z⟩
 keep:=fun i h h' st k=>st.at fun o e=>k it (by simp) o e
 item:=by
  intro X hP hw hK hc i aa s σ H E I hf st hg;subst hP hw hK;obtain ⟨xs,x,hq,hx⟩:=hg;obtain ⟨its,rv,p,hz⟩:=I.tuple hq;obtain ⟨u,hu,ru⟩:=rv.get hx;obtain ⟨f0,f1,f2,f3,f4,f5⟩:=hf it (by simp);refine wpAny_pyNext_tuple_item st (show s.heap.IsTuple a its.toArray from p) (x:=u) (by simpa using hu) fun h' st' sb=>?_;have I1:Inv X aa σ H { s with heap:=h' }:=I.turned (t':=s.toks) (fun b o hb e=>(sb.2 b hb).trans e) f0 f1 f3 f4 f5;obtain ⟨o,e,c,d⟩:=id st';exact ⟨u,rfl,MR (s:={ s with heap:=h' }) e c d (by decide) ⟨x,H,I1,ru,⟨rfl,fun ys hy=>by rw [I.tuple_inj hy hq]; exact hx⟩,st',fun b hb=>(hf b hb).1⟩⟩
 done:=by
  intro X hP hw hK hc i aa s σ H E I hf st hg;subst hP hw hK;obtain ⟨xs,hq,hx⟩:=hg;obtain ⟨its,rv,p,hz⟩:=I.tuple hq;obtain ⟨f0,f1,f2,f3,f4,f5⟩:=hf it (by simp);have hl:=rv.length;exact wpAny_pyNext_tuple_end (I.ok.hd hc) st (show s.heap.IsTuple a its.toArray from p) (by simp; omega) fun h' eb=>⟨rfl,I.turned (t':=s.toks) (fun b o hb e=>eb b o hb e) f0 f1 f3 f4 f5⟩
 self:=fun _ _ _ _ _ st h=>wpAny_pyIter_tupleiter st h
theorem LF {tg:Expr} (it:Addr) (lo:Int) (n:Nat):LB P w K tg (Itr lo n) [it] it (fun i h=>IsRangeIter h it (lo + (i:Nat) * 1) ((n:Int) - (i:Nat)) 1) where
 mem:=by simp
 obj:=fun i h st b hb=>by
  have e:b=it:=by simpa using hb
  subst e
  exact ⟨_,st,fun v z=>by
   have z':Data.fields _=Data.cell v:=z
   cases z'⟩
 keep:=fun i h h' st k=>k it (by simp) _ st
 item:=by
  intro X hP hw hK hc i aa s σ H E I hf st hg;subst hP hw hK;obtain ⟨f0,f1,f2,f3,f4,f5⟩:=hf it (by simp);have W:=Walks.range (prog:=X.prog) (w:=X.w) (I.ok.hd hc) it lo 1 n;refine W.item i s _ _ hg st fun v h' tk hv st' kk=>?_;obtain ⟨t,rfl⟩:=hv;have I1:Inv X aa σ H { s with heap:=h',toks:=tk }:=I.turned (fun b o hb e=>kk b o (by simpa using hb) e) f0 f1 f3 f4 f5;refine ⟨_,rfl,MR (s:={ s with heap:=h',toks:=tk }) (n := "range_iterator") st' rfl rfl (by decide) ⟨.int (lo + i),H,I1,⟨t,?_⟩,⟨rfl,rfl⟩,st',fun b hb=>(hf b hb).1⟩⟩;rw [Int.mul_one]
 done:=by
  intro X hP hw hK hc i aa s σ H E I hf st hg;subst hP hw hK;obtain ⟨f0,f1,f2,f3,f4,f5⟩:=hf it (by simp);exact wpAny_pyNext_range_end (I.ok.hd hc) st (by have:n <= i:=hg; omega) fun h' eb=>⟨rfl,I.turned (t':=s.toks) (fun b o hb e=>eb b o hb e) f0 f1 f3 f4 f5⟩
 self:=fun _ _ _ _ _ st h=>wpAny_pyIter_rangeiter st h
end L2
namespace L2
open PySem PySem.Spec PyProof.Rows
section
variable {tg:Expr}
def MS (K:FG) (tl:TE):TI:=fun σ H R=>tl σ H fun x H1=>∃ a,x=.ref a/\(∃ xs,SqL K H1 a xs)/\R (Itl K a) H1
def US (K:FG) (tl:TE):TI:=fun σ H R=>tl σ H fun x H1=>∃ a,x=.ref a/\(∃ xs,SqT K H1 a xs)/\R (Itt K a) H1
theorem Ac {l:Expr} {tl:TE} (hl:PE X l tl):PI X tg l (MS X.K tl):=by
 intro aa s σ H R I h;refine thn (hl aa s σ H _ I h) fun v s1 ⟨x,H1,I1,r1,q1⟩=>?_;obtain ⟨a,e,⟨xs,hq⟩,q⟩:=q1;subst e;cases r1;obtain ⟨its,rv,p,hz⟩:=I1.list hq;refine wpAny_pyIter_list p.isList ?_;refine ⟨s1.heap.objs.size,[s1.heap.objs.size],_,_,H1,rfl,I1.kept (t':=s1.toks) fun b o e=>get?_push_of_some _ e,Hz a _,⟨_,get?_push_size _ rfl,rfl,rfl⟩,fun b hb=>?_,q⟩;have e:b=s1.heap.objs.size:=by simpa using hb
 subst e;exact I1.fpOk (Nat.le_refl _) (I1.hok.fresh (Nat.le_refl _))
theorem JG {l:Expr} {tl:TE} (hl:PE X l tl):PI X tg l (US X.K tl):=by
 intro aa s σ H R I h;refine thn (hl aa s σ H _ I h) fun v s1 ⟨x,H1,I1,r1,q1⟩=>?_;obtain ⟨a,e,⟨xs,hq⟩,q⟩:=q1;subst e;cases r1;obtain ⟨its,rv,p,hz⟩:=I1.tuple hq;refine wpAny_pyIter_tuple (show s1.heap.IsTuple a its.toArray from p) ?_;refine ⟨s1.heap.objs.size,[s1.heap.objs.size],_,_,H1,rfl,I1.kept (t':=s1.toks) fun b o e=>get?_push_of_some _ e,LD a _,⟨_,get?_push_size _ rfl,rfl,rfl⟩,fun b hb=>?_,q⟩;have e:b=s1.heap.objs.size:=by simpa using hb
 subst e;exact I1.fpOk (Nat.le_refl _) (I1.hok.fresh (Nat.le_refl _))
theorem Ob {s:Shared} {R:It->Hp->Prop} {lo hi:Int} {t u v:Tok} {tk:Nat} (I:Inv X aa σ H s) (h1:-(2 ^ 62) <= lo) (h2:lo < 2 ^ 62) (h3:-(2 ^ 62) <= hi) (h4:hi < 2 ^ 62)
  (q:R (Itr lo (hi - lo).toNat) H):wpAny (model X.prog X.w) X.A (pyIter (.ref s.heap.objs.size)) (PIE X aa σ tg R) E { s with heap:=s.heap.push { cls:=.type "range", data:=.fields #[.int lo t,.int hi u,.int 1 v] },toks:=tk }:=by
 refine wpAny_pyIter_range (IsRange.new ..) (small_one h1 h2 h3 h4) ?_;have I1:Inv X aa σ H { s with heap:=s.heap.push { cls:=.type "range", data:=.fields #[.int lo t,.int hi u,.int 1 v] },toks:=tk }:=I.kept fun b o e=>get?_push_of_some _ e
 refine ⟨(s.heap.push { cls:=.type "range", data:=.fields #[.int lo t,.int hi u,.int 1 v] }).objs.size,[(s.heap.push { cls:=.type "range", data:=.fields #[.int lo t,.int hi u,.int 1 v] }).objs.size],_,_,H,rfl,
  I1.kept (t':=tk) fun b o e=>get?_push_of_some _ e,LF _ lo (hi - lo).toNat,?_,fun b hb=>?_,q⟩
 ·have e1:lo + ((0:Nat):Int) * 1=lo:=by simp
  have e2:(((hi - lo).toNat:Nat):Int) - ((0:Nat):Int)=Builtin.Range.rangeSize lo hi 1:=by rw [rangeSize_one]; split <;> omega
  show IsRangeIter _ _ (lo + ((0:Nat):Int) * 1) ((((hi - lo).toNat:Nat):Int) - ((0:Nat):Int)) 1;rw [e1,e2];exact get?_push_size _ rfl
 ·have e:b=(s.heap.push { cls:=.type "range", data:=.fields #[.int lo t,.int hi u,.int 1 v] }).objs.size:=by simpa using hb
  subst e;exact I1.fpOk (Nat.le_refl _) (I1.hok.fresh (Nat.le_refl _))
def Ta (ta:TA):TI:=fun σ H R=>ta σ H fun vs H1=>∃ j:Int,vs=[.int j]/\-(2 ^ 62) <= j/\j < 2 ^ 62/\R (Itr 0 j.toNat) H1
theorem Cz {a:Expr} {ta:TA} {p:Pos} (hg:Gl X "range") (hm:X.mg "range" = none) (ha:PA X [a] ta) (hs:starEach [a] X.env=[(false,eval a X.env)]:=by rfl):PI X tg (.Call (.Name "range" p) [a] [] pos) (Ta ta):=by
 intro aa s σ H R I h;refine Call_ (D8 I hg hm boot_range (PyProof.Rows.callWith_type1 (thn (ha pos aa s σ H _ I h) fun us s1 ⟨vs,H1,I1,r1,q1⟩=>?_) hs rfl));obtain ⟨j,e,q1,q2,q⟩:=q1;subst e;cases r1 with
 | cons r rr =>
  cases rr;obtain ⟨t,rfl⟩:=r;exact call_range_1 (Ob I1 (by omega) (by omega) q1 q2 (by simpa using q))
def Tb (wi:TI) (g:TG) (tb:TS):TS:=fun D σ H=>wi σ H fun J H1=>∃ W:Nat->Nat->St->Hp->Prop,(∃ m,W 0 m σ H1)/\∀ i m σ H,W i m σ H ->
 (J.stop i H/\D.nx σ H)\/(J.go i H/\∃ N:St->Hp->Prop,(∀ σ' H',N σ' H'->∃ m',m' < m/\W (i + 1) m' σ' H')/\∀ x H',J.yld i H x H'->g x σ H' fun σ2 H2=>tb { D with nx:=N,ct:=N,bk:=D.nx } σ2 H2)
noncomputable def Cq (fp:List Addr) (h:Heap):LO:=fp.filterMap fun b=>(h.get? b).map fun o=>(b,o)
theorem Bw {fp:List Addr} {b:Addr} {o:Obj} (hb:b ∈ fp) (e:h.get? b=some o):(b,o) ∈ Cq fp h:=List.mem_filterMap.mpr ⟨b,hb,by rw [e]; rfl⟩
theorem FQ {fp:List Addr} {p:Addr × Obj} (hp:p ∈ Cq fp h):p.1 ∈ fp/\h.get? p.1=some p.2:=by
 obtain ⟨b,hb,e⟩:=List.mem_filterMap.mp hp;cases q:h.get? b with
 | none=>rw [q] at e; cases e
 | some o =>
  rw [q] at e;have e':(b,o)=p:=Option.some.inj e;subst e';exact ⟨hb,q⟩
theorem Inv.pinned {s:Shared} {fp:List Addr} (I:Inv X aa σ H s) (hf:∀ b ∈ fp,DW X aa H b) (ho:∀ b ∈ fp,∃ o,s.heap.get? b=some o/\∀ v,o.data ≠ .cell v):Inv X (aa++Cq fp s.heap) σ H s :=
 I.pins_of fun p hp=>(mem_append.mp hp).elim (fun z=>I.pin p (mem_append_right _ z)) fun z=>by
  obtain ⟨hb,e⟩:=FQ z;obtain ⟨f0,f1,f2,_⟩:=hf p.1 hb;obtain ⟨o,e',d⟩:=ho p.1 hb;rw [e] at e'; cases e';exact ⟨e,f0,f1,f2,d⟩
theorem Inv.unpinned {pl:LO} {s:Shared} (I:Inv X (aa++pl) σ H s):Inv X aa σ H s:=I.pins_of fun p hp=>I.pin p (mem_append_right _ (mem_append_left _ hp))
theorem Bg {iter:Expr} {body:List Stmt} {wi:TI} {g:TG} {tb:TS} (hp:PassesOwn (model X.prog X.w) X.A X.env X.xe) (hc:X.calm=true) (hi:PI X tg iter wi) (hg:PG X tg g) (hb:PSs X body tb)
  (hs:∀ x,foldedSetIterable iter X.env x=pure x:=by intro _; rfl):PS X (.For tg iter body [] pos) (Tb wi g tb):=by
 intro aa s σ H D I h;refine wpAny_For (thn (hi aa s σ H _ I h) fun v s1 h1=>thn h1 fun itv s2 h2=>?_) hs;obtain ⟨it,fp,tn,J,H2,e,I2,T,st2,f2,W,⟨m0,w0⟩,turn⟩:=h2;subst e;have stat:∀ {H':Hp},(∀ b ∈ fp,H' b=none)->∀ b ∈ fp,DW X aa H' b:=fun hn b hb=>⟨hn b hb,(f2 b hb).2⟩;refine codeAny_forLoop_any (fun n s'=>∃ i σ' H',Inv X aa σ' H' s'/\tn i s'.heap/\(∀ b ∈ fp,H' b=none)/\W i n σ' H') ?_ m0 ⟨0,σ,H2,I2,st2,fun b hb=>(f2 b hb).1,w0⟩;rintro n s3 ⟨i,σ3,H3,I3,st3,fr3,w3⟩;rcases turn i n σ3 H3 w3 with ⟨stop,qn⟩ | ⟨go,N,hN,step⟩
 ·refine wpAny_passesOwn hp (thn (T.done X rfl rfl rfl hc i aa s3 σ3 H3 X.xe I3 (stat fr3) st3 stop) fun r s4 ⟨hr,I4⟩=>?_);subst hr;exact wpAny_execs_nil ⟨σ3,H3,I4,qn⟩
 ·refine wpAny_passesOwn hp (thn (T.item X rfl rfl rfl hc i aa s3 σ3 H3 X.xe I3 (stat fr3) st3 go) fun r s4 ⟨u,hr,h4⟩=>?_);subst hr;refine wpAny_passesOwn hp (thn h4 fun _ s5 ⟨x,H5,I5,r5,y5,st5,fr5⟩=>?_);have I5':=I5.pinned (stat fr5) (T.obj _ _ st5);refine wpAny_passesOwn hp (thn (hg _ s5 σ3 H5 x u _ I5' r5 (step x H5 y5)) fun _ s6 ⟨σ6,H6,I6,q6⟩=>?_);refine wpAny_passesOwn hp (thn (hb _ s6 σ6 H6 _ I6 q6) fun f s7 q7=>?_)
  have again:∀ {σ7:St} {H7:Hp},Inv X (aa++Cq fp s5.heap) σ7 H7 s7->N σ7 H7->∃ m,m < n/\∃ i σ' H',Inv X aa σ' H' s7/\tn i s7.heap/\(∀ b ∈ fp,H' b=none)/\W i m σ' H':=fun {σ7 H7} I7 n7=>by
   obtain ⟨m',hm,w7⟩:=hN σ7 H7 n7;refine ⟨m',hm,i + 1,σ7,H7,I7.unpinned,T.keep _ _ _ st5 fun b hb o e=>(I7.pin (b,o) (mem_append_right _ (mem_append_right _ (Bw hb e)))).1,fun b hb=>?_,w7⟩;obtain ⟨o,e,d⟩:=T.obj _ _ st5 b hb;exact (I7.pin (b,o) (mem_append_right _ (mem_append_right _ (Bw hb e)))).2.1
  cases f with
  | next=>obtain ⟨σ7,H7,I7,n7⟩:=q7; exact again I7 n7
  | cont=>obtain ⟨σ7,H7,I7,n7⟩:=q7; exact again I7 n7
  | brk=>obtain ⟨σ7,H7,I7,q7⟩:=q7; exact ⟨σ7,H7,I7.unpinned,q7⟩
  | ret v=>obtain ⟨x7,σ7,H7,I7,r7,q7⟩:=q7; exact ⟨x7,σ7,H7,I7.unpinned,r7,q7⟩
end
theorem BC {g:TG} {tb:TS} {D:D7} (Pv:Nat->St->Hp->Prop) (h0:Pv 0 σ H) (hl:∀ i σ H,i <= xs.length->Pv i σ H->SqL K H a xs)
  (hs:∀ i x σ H,xs[i]?=some x->Pv i σ H->g x σ H fun σ2 H2=>tb { D with nx:=Pv (i + 1),ct:=Pv (i + 1),bk:=D.nx } σ2 H2) (hd:∀ σ H,Pv xs.length σ H->D.nx σ H) :
  ∃ W:Nat->Nat->St->Hp->Prop,(∃ m,W 0 m σ H)/\∀ i m σ H,W i m σ H ->
   ((Itl K a).stop i H/\D.nx σ H)\/((Itl K a).go i H/\∃ N:St->Hp->Prop,(∀ σ' H',N σ' H'->∃ m',m' < m/\W (i + 1) m' σ' H')/\∀ x H',(Itl K a).yld i H x H'->g x σ H' fun σ2 H2=>tb { D with nx:=N,ct:=N,bk:=D.nx } σ2 H2):=by
 refine ⟨fun i m σ H=>m=xs.length - i/\i <= xs.length/\Pv i σ H,⟨xs.length,by simp,Nat.zero_le _,h0⟩,?_⟩;rintro i m σ H ⟨rfl,hi,p⟩;have q:=hl i σ H hi p;by_cases hlt:i < xs.length
 ·refine .inr ⟨⟨xs,xs[i],q,by simp [hlt]⟩,Pv (i + 1),fun σ' H' p'=>⟨xs.length - (i + 1),by omega,rfl,hlt,p'⟩,fun x H' y=>?_⟩;obtain ⟨e,y⟩:=y;subst e;exact hs i x σ _ (y xs q) p
 ·have e:i=xs.length:=by omega
  subst e;exact .inl ⟨⟨xs,q,Nat.le_refl _⟩,hd σ H p⟩
theorem IA {lo:Int} {n:Nat} {g:TG} {tb:TS} {D:D7} (Pv:Nat->St->Hp->Prop) (h0:Pv 0 σ H)
  (hs:∀ i σ H,i < n->Pv i σ H->g (.int (lo + i)) σ H fun σ2 H2=>tb { D with nx:=Pv (i + 1),ct:=Pv (i + 1),bk:=D.nx } σ2 H2) (hd:∀ σ H,Pv n σ H->D.nx σ H) :
  ∃ W:Nat->Nat->St->Hp->Prop,(∃ m,W 0 m σ H)/\∀ i m σ H,W i m σ H ->
   ((Itr lo n).stop i H/\D.nx σ H)\/((Itr lo n).go i H/\∃ N:St->Hp->Prop,(∀ σ' H',N σ' H'->∃ m',m' < m/\W (i + 1) m' σ' H')/\∀ x H',(Itr lo n).yld i H x H'->g x σ H' fun σ2 H2=>tb { D with nx:=N,ct:=N,bk:=D.nx } σ2 H2):=by
 refine ⟨fun i m σ H=>m=n - i/\i <= n/\Pv i σ H,⟨n,by simp,Nat.zero_le _,h0⟩,?_⟩;rintro i m σ H ⟨rfl,hi,p⟩;by_cases hlt:i < n
 ·refine .inr ⟨hlt,Pv (i + 1),fun σ' H' p'=>⟨n - (i + 1),by omega,rfl,hlt,p'⟩,fun x H' y=>?_⟩;obtain ⟨e,y⟩:=y;subst e y;exact hs i σ _ hlt p
 ·have e:i=n:=by omega
  subst e;exact .inl ⟨Nat.le_refl _,hd σ H p⟩
theorem Oc {c:TT} {tb:TS} {D:D7} (Pv:St->Hp->Prop) (μ:St->Hp->Nat) (h0:Pv σ H)
  (hs:∀ σ H,Pv σ H->c σ H fun b H1=>if b=true then tb { D with nx:=fun σ' H'=>Pv σ' H'/\μ σ' H' < μ σ H,ct:=fun σ' H'=>Pv σ' H'/\μ σ' H' < μ σ H,bk:=D.nx } σ H1 else D.nx σ H1)
  (mono:∀ σ H Q Q',(∀ b H1,Q b H1->Q' b H1)->c σ H Q->c σ H Q'):OZ c tb D σ H:=by
 refine ⟨fun m σ H=>m=μ σ H/\Pv σ H,⟨_,rfl,h0⟩,?_⟩;rintro m σ H ⟨rfl,p⟩;refine mono σ H _ _ (fun b H1 q=>?_) (hs σ H p);cases b with
 | true=>exact ⟨_,fun σ' H' ⟨p',l⟩=>⟨_,l,rfl,p'⟩,q⟩
 | false=>exact q
end L2
namespace L2
open PySem PySem.Spec PyProof.Rows
abbrev R2:=V->V->Hp->VK->Prop
def OpR (X:Cx) (f:Value->Value->Sem Value) (r:R2):Prop :=
 ∀ (aa:LO) (s:Shared) (σ:St) (H:Hp) (x y:V) (v u:Value) (Q:VK),Inv X aa σ H s->RelV x v->RelV y u->r x y H Q ->
  wpAny (model X.prog X.w) X.A (f v u) (EP X aa σ Q) X.xe s
def UnR (X:Cx) (f:Value->Sem Value) (r:V->Hp->VK->Prop):Prop :=
 ∀ (aa:LO) (s:Shared) (σ:St) (H:Hp) (x:V) (v:Value) (Q:VK),Inv X aa σ H s->RelV x v->r x H Q ->
  wpAny (model X.prog X.w) X.A (f v) (EP X aa σ Q) X.xe s
def Bb (X:Cx) (f:Value) (r:List V->Hp->VK->Prop):Prop :=
 ∀ (aa:LO) (s:Shared) (σ:St) (H:Hp) (xs:List V) (us:List Value) (Q:VK),Inv X aa σ H s->Vals xs us->r xs H Q ->
  wpAny (model X.prog X.w) X.A (call f us) (EP X aa σ Q) X.xe s
def tOp (r:R2) (ta tb:TE):TE:=fun σ H Q=>ta σ H fun x H1=>tb σ H1 fun y H2=>r x y H2 Q
def tUn (r:V->Hp->VK->Prop) (ta:TE):TE:=fun σ H Q=>ta σ H fun x H1=>r x H1 Q
def rI (C:Int->Int->Prop) (g:Int->Int->V):R2:=fun x y H Q=>∃ i j,x=.int i/\y=.int j/\C i j/\Q (g i j) H
def rI0 (g:Int->Int->V):R2:=fun x y H Q=>∃ i j,x=.int i/\y=.int j/\Q (g i j) H
def rU (g:Int->V):V->Hp->VK->Prop:=fun x H Q=>∃ i,x=.int i/\Q (g i) H
section
variable {a b c:Expr} {ta tb tc:TE}
theorem SJ (ha:PE X a ta) (hb:PE X b tb) {s:Shared} {R:V->V->Hp->Prop} (I:Inv X aa σ H s)
  (h:ta σ H fun x H1=>tb σ H1 fun y H2=>R x y H2) {Q:VS} {f:Value->Value->Sem Value}
  (hf:∀ v u s2 x y H2,Inv X aa σ H2 s2->RelV x v->RelV y u->R x y H2->wpAny (model X.prog X.w) X.A (f v u) Q X.xe s2) :
  wpAny (model X.prog X.w) X.A (eval a X.env) (fun v s₁=>wpAny (model X.prog X.w) X.A (eval b X.env) (fun u s₂=>wpAny (model X.prog X.w) X.A (f v u) Q X.xe s₂) X.xe s₁) X.xe s:=by
 refine thn (ha aa s σ H _ I h) fun v s1 ⟨x,H1,I1,r1,q1⟩=>?_;refine thn (hb aa s1 σ H1 _ I1 q1) fun u s2 ⟨y,H2,I2,r2,q2⟩=>?_;exact hf v u s2 x y H2 I2 r1 r2 q2
theorem AU {op:Operator} {r:R2} (ho:OpR X (binaryOp op) r) (ha:PE X a ta) (hb:PE X b tb):PE X (.BinOp a op b pos) (tOp r ta tb):=by
 intro aa s σ H Q I h;exact wpAny_BinOp (SJ ha hb I h fun v u s2 x y H2 I2 rx ry q=>ho aa s2 σ H2 x y v u Q I2 rx ry q)
theorem Tc {op:UnaryOp} {r:V->Hp->VK->Prop} (ho:UnR X (unaryOp op) r) (ha:PE X a ta):PE X (.UnaryOp op a pos) (tUn r ta):=by
 intro aa s σ H Q I h;exact UnaryOp_ (thn (ha aa s σ H _ I h) fun v s1 ⟨x,H1,I1,r1,q1⟩=>ho aa s1 σ H1 x v Q I1 r1 q1)
theorem opI {f:Value->Value->Sem Value} {C:Int->Int->Prop} {g:Int->Int->Int}
  (rule:∀ (i j:Int) (t u:Tok) (s:Shared) (Q:VS) (E:VS),C i j->Q (.int (g i j) s.toks) { s with toks:=s.toks + 1 }->wpAny (model X.prog X.w) X.A (f (.int i t) (.int j u)) Q E s) :
  OpR X f (rI C fun i j=>.int (g i j)):=by
 intro aa s σ H x y v u Q I rx ry h;obtain ⟨i,j,rfl,rfl,hc,q⟩:=h;obtain ⟨t,rfl⟩:=rx;obtain ⟨t',rfl⟩:=ry;exact rule i j t t' s _ _ hc ⟨.int (g i j),H,I.tok _,⟨_,rfl⟩,q⟩
theorem NS {f:Value->Value->Sem Value} {g:Int->Int->Int}
  (rule:∀ (i j:Int) (t u:Tok) (s:Shared) (Q:VS) (E:VS),Q (.int (g i j) s.toks) { s with toks:=s.toks + 1 }->wpAny (model X.prog X.w) X.A (f (.int i t) (.int j u)) Q E s) :
  OpR X f (rI0 fun i j=>.int (g i j)):=by
 intro aa s σ H x y v u Q I rx ry h;obtain ⟨i,j,rfl,rfl,q⟩:=h;obtain ⟨t,rfl⟩:=rx;obtain ⟨t',rfl⟩:=ry;exact rule i j t t' s _ _ ⟨.int (g i j),H,I.tok _,⟨_,rfl⟩,q⟩
theorem Qh {f:Value->Value->Sem Value} {g:Int->Int->Bool}
  (rule:∀ (i j:Int) (t u:Tok) (s:Shared) (Q:VS) (E:VS),Q (.bool (g i j)) s->wpAny (model X.prog X.w) X.A (f (.int i t) (.int j u)) Q E s) :
  OpR X f (rI0 fun i j=>.bl (g i j)):=by
 intro aa s σ H x y v u Q I rx ry h;obtain ⟨i,j,rfl,rfl,q⟩:=h;obtain ⟨t,rfl⟩:=rx;obtain ⟨t',rfl⟩:=ry;exact rule i j t t' s _ _ ⟨.bl (g i j),H,I,rfl,q⟩
def UT (i j:Int):Prop:=0 < j/\j < 1073741824
def SK (i j:Int):Prop:=0 <= j/\j <= 1000000/\i.natAbs < 2 ^ 64
def CMul (i j:Int):Prop:=(-(2 ^ 64) < i/\i < 2 ^ 64)\/(-(2 ^ 64) < j/\j < 2 ^ 64)
theorem CMul.ok {i j:Int} (h:CMul i j):IntMulOk i j:=by
 rcases h with ⟨h1,h2⟩ | ⟨h1,h2⟩
 ·exact .of_left (intBits_le_64 h1 h2)
 ·exact .of_right (intBits_le_64 h1 h2)
theorem LG (k:Nat):(0:Int) <= 2 ^ k:=by
 rw [two_pow_cast];exact Int.natCast_nonneg _
theorem Cr:OpR X (binaryOp .Add) (rI0 fun i j=>.int (i + j)):=NS fun _ _ _ _ _ _ _ q=>add_int q
theorem Od:OpR X (binaryOp .Sub) (rI0 fun i j=>.int (i - j)):=NS fun _ _ _ _ _ _ _ q=>sub_int q
theorem Gd:OpR X (binaryOp .Mult) (rI CMul fun i j=>.int (i * j)):=opI fun _ _ _ _ _ _ _ hc q=>mul_int q hc.ok
theorem JH:OpR X (binaryOp .FloorDiv) (rI UT fun i j=>.int (i / j)):=opI fun i j _ _ _ _ _ hc q=>by
 have h1:(0:Int) < j:=hc.1;have h2:j < 1073741824:=hc.2;exact floordiv_int (by omega) (by rw [Int.fdiv_eq_ediv_of_nonneg i (by omega)]; exact q) (.inl (PyProof.noPylong_small (by omega)))
theorem DY:OpR X (binaryOp .Mod) (rI (fun _ j=>0 < j) fun i j=>.int (i % j)):=opI fun i j _ _ _ _ _ hc q=>by
 have h1:(0:Int) < j:=hc;exact mod_int' (by omega) (by rw [Int.fmod_eq_emod_of_nonneg i (by omega)]; exact q)
theorem Oe:OpR X (binaryOp .Pow) (rI SK fun i j=>.int (i ^ j.toNat)):=opI fun _ _ _ _ _ _ _ hc q=>pow_int_small hc.1 hc.2.1 hc.2.2 q
theorem Ge:OpR X (binaryOp .LShift) (rI SK fun i j=>.int (i * 2 ^ j.toNat)):=opI fun _ _ _ _ _ _ _ hc q=>lshift_int_small hc.1 hc.2.1 hc.2.2 q
theorem SL:OpR X (binaryOp .RShift) (rI (fun _ j=>0 <= j) fun i j=>.int (i / 2 ^ j.toNat)):=opI fun i j _ _ _ _ _ hc q =>
 rshift_int hc (by rw [Int.fdiv_eq_ediv_of_nonneg i (LG _)]; exact q)
theorem Bx:OpR X (binaryOp .BitAnd) (rI0 fun i j=>.int (Builtin.bitAnd i j)):=NS fun _ _ _ _ _ _ _ q=>and_int q
theorem MU:OpR X (binaryOp .BitOr) (rI0 fun i j=>.int (Builtin.bitOr i j)):=NS fun _ _ _ _ _ _ _ q=>or_int q
theorem Qi:OpR X (inplaceOp .BitAnd) (rI0 fun i j=>.int (Builtin.bitAnd i j)):=NS fun _ _ _ _ _ _ _ q=>iand_int q
theorem SM:OpR X (inplaceOp .BitOr) (rI0 fun i j=>.int (Builtin.bitOr i j)):=NS fun _ _ _ _ _ _ _ q=>ior_int q
theorem unI {f:Value->Sem Value} {g:Int->Int}
  (rule:∀ (i:Int) (t:Tok) (s:Shared) (Q:VS) (E:VS),Q (.int (g i) s.toks) { s with toks:=s.toks + 1 }->wpAny (model X.prog X.w) X.A (f (.int i t)) Q E s) :
  UnR X f (rU fun i=>.int (g i)):=by
 intro aa s σ H x v Q I rx h;obtain ⟨i,rfl,q⟩:=h;obtain ⟨t,rfl⟩:=rx;exact rule i t s _ _ ⟨.int (g i),H,I.tok _,⟨_,rfl⟩,q⟩
theorem SN:UnR X (unaryOp .Invert) (rU fun i=>.int (Builtin.bitNot i)):=unI fun _ _ _ _ _ q=>invert_int q
end
noncomputable def Td:V->V->Bool
 | .non,.non=>true | .non,.int _=>true | .int _,.non=>true | .non,.bl _=>true | .bl _,.non=>true | .non,.str _=>true | .str _,.non=>true
 | .int _,.int _=>true | .bl _,.bl _=>true | .str _,.str _=>true | .byt _,.byt _=>true
 | .int _,.str _=>true | .str _,.int _=>true | .bl _,.str _=>true | .str _,.bl _=>true
 | _,_=>false
def rEq:R2:=fun x y H Q=>Td x y=true/\Q (.bl (decide (x=y))) H
def rNe:R2:=fun x y H Q=>Td x y=true/\Q (.bl (!decide (x=y))) H
theorem MV {i j:Int}:decide (V.int i=V.int j)=(i == j):=by
 rw [Bool.eq_iff_iff];simp
theorem Of {i j:Bool}:decide (V.bl i=V.bl j)=(i == j):=by
 rw [Bool.eq_iff_iff];simp
theorem MW {i j:Str}:decide (V.str i=V.str j)=(i == j):=by
 rw [Bool.eq_iff_iff];simp
theorem MY {i j:Array UInt8}:decide (V.byt i=V.byt j)=(i.toList == j.toList):=by
 rw [Bool.eq_iff_iff];cases i;cases j;simp
section
variable {a b c:Expr} {ta tb tc:TE}
theorem Ao {s:Shared} {Q:VK} {k k':Bool} (I:Inv X aa σ H s) (q:Q (.bl k) H) (e:k=k'):EP X aa σ Q (.bool k') s:=by
 subst e;exact ⟨.bl k,H,I,rfl,q⟩
theorem IB:OpR X (compareOp .Eq) rEq:=by
 intro aa s σ H x y v u Q I rx ry h;obtain ⟨hs,q⟩:=h;cases x with
 | non =>
  cases rx;cases y with
  | non=>cases ry; exact PySem.EqNone.eq_none_none (Ao I q (by simp))
  | bl j=>cases ry; exact PySem.EqNone.eq_none_bool (Ao I q (by simp))
  | int j=>obtain ⟨t',rfl⟩:=ry; exact PySem.EqNone.eq_none_int (Ao I q (by simp))
  | str j=>obtain ⟨t',rfl⟩:=ry; exact PySem.EqNone.eq_none_str (Ao I q (by simp))
  | _=>exact absurd (show false=true from hs) Bool.false_ne_true
 | bl i =>
  cases rx;cases y with
  | non=>cases ry; exact PySem.EqNone.eq_bool_none (Ao I q (by simp))
  | bl j=>cases ry; exact eq_bool (Ao I q Of)
  | str j=>obtain ⟨t',rfl⟩:=ry; exact PySem.EqMixed.eq_bool_str (Ao I q (by simp))
  | _=>exact absurd (show false=true from hs) Bool.false_ne_true
 | int i =>
  obtain ⟨t,rfl⟩:=rx;cases y with
  | non=>cases ry; exact PySem.EqNone.eq_int_none (Ao I q (by simp))
  | int j=>obtain ⟨t',rfl⟩:=ry; exact eq_int (Ao I q MV)
  | str j=>obtain ⟨t',rfl⟩:=ry; exact PySem.EqMixed.eq_int_str (Ao I q (by simp))
  | _=>exact absurd (show false=true from hs) Bool.false_ne_true
 | str i =>
  obtain ⟨t,rfl⟩:=rx;cases y with
  | non=>cases ry; exact PySem.EqNone.eq_str_none (Ao I q (by simp))
  | bl j=>cases ry; exact PySem.EqMixed.eq_str_bool (Ao I q (by simp))
  | int j=>obtain ⟨t',rfl⟩:=ry; exact PySem.EqMixed.eq_str_int (Ao I q (by simp))
  | str j=>obtain ⟨t',rfl⟩:=ry; exact eq_str (Ao I q MW)
  | _=>exact absurd (show false=true from hs) Bool.false_ne_true
 | byt i =>
  obtain ⟨t,rfl⟩:=rx;cases y with
  | byt j=>obtain ⟨t',rfl⟩:=ry; exact W.eq_bytes (Ao I q MY)
  | _=>exact absurd (show false=true from hs) Bool.false_ne_true
 | _=>cases y <;> exact absurd (show false=true from hs) Bool.false_ne_true
theorem CZ:OpR X (compareOp .NotEq) rNe:=by
 intro aa s σ H x y v u Q I rx ry h;obtain ⟨hs,q⟩:=h;cases x with
 | non =>
  cases rx;cases y with
  | non=>cases ry; exact PySem.EqNone.ne_none_none (Ao I q (by simp))
  | bl j=>cases ry; exact PySem.EqNone.ne_none_bool (Ao I q (by simp))
  | int j=>obtain ⟨t',rfl⟩:=ry; exact PySem.EqNone.ne_none_int (Ao I q (by simp))
  | str j=>obtain ⟨t',rfl⟩:=ry; exact PySem.EqNone.ne_none_str (Ao I q (by simp))
  | _=>exact absurd (show false=true from hs) Bool.false_ne_true
 | bl i =>
  cases rx;cases y with
  | non=>cases ry; exact PySem.EqNone.ne_bool_none (Ao I q (by simp))
  | bl j=>cases ry; exact ne_bool (Ao I q (congrArg not Of))
  | str j=>obtain ⟨t',rfl⟩:=ry; exact PySem.EqMixed.ne_bool_str (Ao I q (by simp))
  | _=>exact absurd (show false=true from hs) Bool.false_ne_true
 | int i =>
  obtain ⟨t,rfl⟩:=rx;cases y with
  | non=>cases ry; exact PySem.EqNone.ne_int_none (Ao I q (by simp))
  | int j=>obtain ⟨t',rfl⟩:=ry; exact ne_int (Ao I q (congrArg not MV))
  | str j=>obtain ⟨t',rfl⟩:=ry; exact PySem.EqMixed.ne_int_str (Ao I q (by simp))
  | _=>exact absurd (show false=true from hs) Bool.false_ne_true
 | str i =>
  obtain ⟨t,rfl⟩:=rx;cases y with
  | non=>cases ry; exact PySem.EqNone.ne_str_none (Ao I q (by simp))
  | bl j=>cases ry; exact PySem.EqMixed.ne_str_bool (Ao I q (by simp))
  | int j=>obtain ⟨t',rfl⟩:=ry; exact PySem.EqMixed.ne_str_int (Ao I q (by simp))
  | str j=>obtain ⟨t',rfl⟩:=ry; exact ne_str (Ao I q (congrArg not MW))
  | _=>exact absurd (show false=true from hs) Bool.false_ne_true
 | byt i =>
  obtain ⟨t,rfl⟩:=rx;cases y with
  | byt j=>obtain ⟨t',rfl⟩:=ry; exact W.ne_bytes (Ao I q (congrArg not MY))
  | _=>exact absurd (show false=true from hs) Bool.false_ne_true
 | _=>cases y <;> exact absurd (show false=true from hs) Bool.false_ne_true
theorem Te:OpR X (compareOp .Lt) (rI0 fun i j=>.bl (decide (i < j))):=Qh fun _ _ _ _ _ _ _ q=>lt_int q
theorem Gf:OpR X (compareOp .LtE) (rI0 fun i j=>.bl (decide (i <= j))):=Qh fun _ _ _ _ _ _ _ q=>le_int q
theorem MZ:OpR X (compareOp .Gt) (rI0 fun i j=>.bl (decide (j < i))):=Qh fun _ _ _ _ _ _ _ q=>gt_int q
theorem Ru:OpR X (compareOp .GtE) (rI0 fun i j=>.bl (decide (j <= i))):=Qh fun _ _ _ _ _ _ _ q=>ge_int q
theorem Ak (b:Expr) {op:CmpOp} (h:op ≠ .In:=by decide) (h2:op ≠ .NotIn:=by decide):behindInMarks op b=false:=by
 have e1:(op == CmpOp.In)=false:=by cases op <;> first | rfl | exact absurd rfl h
 have e2:(op == CmpOp.NotIn)=false:=by cases op <;> first | rfl | exact absurd rfl h2
 cases b <;> simp [behindInMarks,e1,e2]
theorem Em {op:CmpOp} {r:R2} (ho:OpR X (compareOp op) r) (ha:PE X a ta) (hb:PE X b tb) (hm:behindInMarks op b=false):PE X (.Compare a [op] [b] pos) (tOp r ta tb):=by
 intro aa s σ H Q I h;exact wpAny_Compare1 (SJ ha hb I h fun v u s2 x y H2 I2 rx ry q=>ho aa s2 σ H2 x y v u Q I2 rx ry q) hm
def Gg (t:TE):TT:=fun σ H Q=>t σ H fun x H'=>∃ k,x=.bl k/\Q k H'
theorem AX {op:CmpOp} {r:R2} (ho:OpR X (compareOp op) r) (ha:PE X a ta) (hb:PE X b tb) (hm:behindInMarks op b=false):PT X (.Compare a [op] [b] pos) (Gg (tOp r ta tb)):=by
 intro aa s σ H Q I h
 refine wpAny_isTrue_Compare1 (thn (ha aa s σ H _ I h) fun v s1 ⟨x,H1,I1,r1,q1⟩=>thn (hb aa s1 σ H1 _ I1 q1) fun u s2 ⟨y,H2,I2,r2,q2⟩ =>
  thn (ho aa s2 σ H2 x y v u _ I2 r1 r2 q2) fun c s3 ⟨z,H3,I3,r3,k,e,q3⟩=>?_) hm
 subst e;cases r3;exact wpAny_truthy_bool ⟨H3,I3,q3⟩
def Og (r r':R2) (ta tb tc:TE):TE:=fun σ H Q=>ta σ H fun x H1=>tb σ H1 fun y H2=>r x y H2 fun z H3=>∃ k,z=.bl k /\
 (if k=true then tc σ H3 fun w' H4=>r' y w' H4 Q else Q (.bl false) H3)
theorem Oh {op op':CmpOp} {r r':R2} (ho:OpR X (compareOp op) r) (ho':OpR X (compareOp op') r') (ha:PE X a ta) (hb:PE X b tb) (hc:PE X c tc)
  (hm:lastMarks [op,op'] [b,c]=false:=by with_unfolding_all rfl):PE X (.Compare a [op,op'] [b,c] pos) (Og r r' ta tb tc):=by
 intro aa s σ H Q I h
 refine Compare_chain (thn (ha aa s σ H _ I h) fun v s1 ⟨x,H1,I1,r1,q1⟩=>chain_link (thn (hb aa s1 σ H1 _ I1 q1) fun u s2 ⟨y,H2,I2,r2,q2⟩ =>
  thn (ho aa s2 σ H2 x y v u _ I2 r1 r2 q2) fun d s3 ⟨z,H3,I3,r3,k,e,q3⟩=>?_)) hm
 subst e;cases r3;refine wpAny_truthy_bool ?_;cases k with
 | false=>exact ite_ff ⟨.bl false,H3,I3,rfl,q3⟩
 | true=>exact ite_tt (chain_last (thn (hc aa s3 σ H3 _ I3 q3) fun w' s4 ⟨z',H4,I4,r4,q4⟩=>ho' aa s4 σ H4 y z' u w' Q I4 r2 r4 q4))
theorem Gh {op op':CmpOp} {r r':R2} (ho:OpR X (compareOp op) r) (ho':OpR X (compareOp op') r') (ha:PE X a ta) (hb:PE X b tb) (hc:PE X c tc)
  (hm:lastMarks [op,op'] [b,c]=false:=by with_unfolding_all rfl):PT X (.Compare a [op,op'] [b,c] pos) (Gg (Og r r' ta tb tc)):=by
 intro aa s σ H Q I h
 refine isTrue_chain (thn (ha aa s σ H _ I h) fun v s1 ⟨x,H1,I1,r1,q1⟩=>test_link (thn (hb aa s1 σ H1 _ I1 q1) fun u s2 ⟨y,H2,I2,r2,q2⟩ =>
  thn (ho aa s2 σ H2 x y v u _ I2 r1 r2 q2) fun d s3 ⟨z,H3,I3,r3,k,e,q3⟩=>?_)) hm
 subst e;cases r3;refine wpAny_truthy_bool ?_;cases k with
 | false =>
  obtain ⟨k',e',q'⟩:=q3;cases e';exact ite_ff ⟨H3,I3,q'⟩
 | true =>
  refine ite_tt (test_last (thn (hc aa s3 σ H3 _ I3 q3) fun w' s4 ⟨z',H4,I4,r4,q4⟩=>thn (ho' aa s4 σ H4 y z' u w' _ I4 r2 r4 q4) fun d' s5 ⟨z2,H5,I5,r5,k2,e2,q5⟩=>?_));subst e2;cases r5;exact wpAny_truthy_bool ⟨H5,I5,q5⟩
theorem Gi:(sizeLine:Nat) < 2 ^ 63:=by rw [sizeLine_eq]; decide
theorem CP {x:V} (r:Vals [x] us):∃ u,us=[u]/\RelV x u:=by
 cases r with
 | cons r1 r2=>cases r2; exact ⟨_,rfl,r1⟩
theorem Fu {x y:V} (r:Vals [x,y] us):∃ u w',us=[u,w']/\RelV x u/\RelV y w':=by
 cases r with
 | cons r1 r2 =>
  cases r2 with
  | cons r3 r4=>cases r4; exact ⟨_,_,rfl,r1,r3⟩
theorem NU (hc:X.calm=true):Bb X (.builtin "max") (fun xs H Q=>∃ i j,xs=[.int i,.int j]/\Q (.int (if j > i then j else i)) H):=by
 intro aa s σ H xs us Q I r h;obtain ⟨i,j,rfl,q⟩:=h;obtain ⟨u,w',rfl,⟨t,rfl⟩,⟨t',rfl⟩⟩:=Fu r;refine max_two_ints (I.ok.hd hc) fun h' tk k=>⟨_,H,I.kept k,?_,q⟩;by_cases hj:j > i
 ·rw [if_pos hj,if_pos hj]; exact ⟨_,rfl⟩
 ·rw [if_neg hj,if_neg hj]; exact ⟨_,rfl⟩
theorem NV (hc:X.calm=true):Bb X (.builtin "min") (fun xs H Q=>∃ i j,xs=[.int i,.int j]/\Q (.int (if j < i then j else i)) H):=by
 intro aa s σ H xs us Q I r h;obtain ⟨i,j,rfl,q⟩:=h;obtain ⟨u,w',rfl,⟨t,rfl⟩,⟨t',rfl⟩⟩:=Fu r;refine min_two_ints (I.ok.hd hc) fun h' tk k=>⟨_,H,I.kept k,?_,q⟩;by_cases hj:j < i
 ·rw [if_pos hj,if_pos hj]; exact ⟨_,rfl⟩
 ·rw [if_neg hj,if_neg hj]; exact ⟨_,rfl⟩
theorem NW:Bb X (.type "int") (fun xs H Q=>(∃ i,xs=[.int i]/\Q (.int i) H)\/∃ k,xs=[.bl k]/\Q (.int (if k then 1 else 0)) H):=by
 intro aa s σ H xs us Q I r h;rcases h with ⟨i,rfl,q⟩ | ⟨k,rfl,q⟩
 ·obtain ⟨u,rfl,t,rfl⟩:=CP r;exact call_int_int ⟨.int i,H,I,⟨_,rfl⟩,q⟩
 ·obtain ⟨u,rfl,r1⟩:=CP r;cases r1;exact call_int_bool ⟨.int (if k then 1 else 0),H,I.tok _,⟨_,rfl⟩,q⟩
end
end L2
namespace L2
open PySem PySem.Spec PyProof.Rows
structure ObjM (h:Heap) (x dx C:Addr) (mA:SV):Prop where
 obj:h.get? x=some (W.instObj C dx)
 ns:h.Ns1 dx mA
 ne:dx ≠ x
theorem IC {dx:Addr} {mA:SV} (n:h.Ns1 dx mA):∃ od,h.get? dx=some od/\∀ name,W.lookIn name od=some (mA name):=by
 obtain ⟨o,es,ep,ho,hd,hk,_,hm⟩:=n;refine ⟨o,ho,fun name=>?_⟩;have e:=hm name;unfold nsFind findBy at e;rw [← Array.find?_toList] at e;unfold W.lookIn;rw [hd]
 dsimp only
 split
 ·rename_i y q;rw [q] at e;exact congrArg some e
 ·rename_i q;rw [q] at e
  have a:es.toList.any (·.refKey)=false:=by
   rw [List.any_eq_false];intro y hy;obtain ⟨z,t,ci⟩:=hk y (Array.mem_toList_iff.mp hy);simp [DictEntry.refKey,ci]
  have a':¬ es.toList.any (·.refKey)=true:=by rw [a]; exact Bool.false_ne_true
  rw [if_neg a'];exact congrArg some e
theorem ObjM.look {x dx:Addr} {mA:SV} (I:ObjM h x dx C mA):∃ od,W.InstAt h x (W.instObj C dx) C (some od)/\∀ name,W.lookIn name od=some (mA name) :=
 let ⟨od,ho,hl⟩:=IC I.ns
 ⟨od,⟨I.obj,rfl,rfl,ho⟩,hl⟩
section
variable {prog:Program} {s:Shared} {x dx:Addr} {mA:SV} {name:Str} {v:Value}
theorem Qj {expr:Bool} {Q:VS} (X:K.In s.heap) (I:ObjM s.heap x dx C mA) (hg:W.plainGet K C name=true) (hh:W.hasDictIn K C=true)
  (ha:W.findIn K (.ref C) name=some none) (hv:mA name=some v) (hv':W.handedIn v=true) (h:Q v { s with toks:=s.toks + 1 }) :
  wpAny (model prog w) A (getAttr (.ref x) name expr) Q E s:=by
 obtain ⟨od,J,hl⟩:=I.look;exact W.get_value X J (W.plainGet_of hg).1 (W.findObj_own hh ha rfl (by rw [hl,hv])) hv' h
theorem Oi {pl:Sem Bool} {Q:Value × List Value->Shared->Prop} (X:K.In s.heap) (I:ObjM s.heap x dx C mA) (hg:W.plainGet K C name=true)
  (hf:W.findIn K (.ref C) name=some (some (.ref f))) (ht:W.isFn K (.ref f)=true) (hv:mA name=none) (h:Q (.ref f,[.ref x]) s) :
  wpAny (model prog w) A (getMethod (.ref x) name pl) Q E s:=by
 obtain ⟨od,J,hl⟩:=I.look;exact W.method_fn X J (W.plainGet_of hg).1 (W.plainGet_of hg).2 hf (beq_iff_eq.mp ht) (by show (W.lookIn name od).map (·.isSome)=some false; rw [hl,hv]; rfl) h
theorem Qk {ns:List Str} {Q:Unit->Shared->Prop} (X:K.In s.heap) (I:ObjM s.heap x dx C mA)
  (hs:W.findIn K (.ref C) "__setattr__" = some (some (.builtin "object.__setattr__"))) (hp:W.plainOver K C=true) (ht:W.takerIn K C name=some none) (hh:W.hasDictIn K C=true)
  (hw:PySem.Within mA ns) (hsz:ns.length <= sizeLine)
  (h:∀ h',ObjM h' x dx C (fun y=>if y=name then some v else mA y)->Heap.SameBut dx s.heap h'->Q () { s with heap:=h',toks:=s.toks + 2 }) :
  wpAny (model prog w) A (setAttr (.ref x) name v) Q E s:=by
 obtain ⟨od,J,hl⟩:=I.look;refine W.set_plain X J hs (W.osa_open (s:={ s with toks:=s.toks + 1 }) (r:=none) X J hp ht fun b=>?_);obtain ⟨cd,hc,hd'⟩:=W.any_some hh;have hx:s.heap.get? x=some ⟨.ref C,some dx,.plain,#[]⟩:=I.obj;refine wpAny_bind (wpAny_pure (wpAny_bind (wpAny_bind (wpAny_loadPart hx (wpAny_bind (W.Looks.here (s:={ s with toks:=s.toks + 1 }) (W.looks_clsIn X hc) ?_))))));rw [hd'];refine wpAny_pure (a:=some dx) (wpAny_bind (wpAny_pure (wpAny_bind ?_)));refine wpAny_nsSet1 (s:={ s with toks:=s.toks + 1 }) I.ns fun h' hn2 hs2=>?_;obtain ⟨oD,esD,epD,hoD,hdD,hcD⟩:=hn2.count (PySem.Within.cons name v hw);refine wpAny_bind (wpAny_lookBehind hoD (by rw [hdD]; exact pastItsLine_dict (Nat.le_trans hcD (by rw [length_cons]; omega))) ?_);exact wpAny_pure (h _ ⟨(hs2.2 _ (Ne.symm I.ne)).trans I.obj,hn2,I.ne⟩ hs2)
theorem Gj {R:Result->Shared->Prop} {vs:List Value} {kw:List (Str × Value)} (X:K.In s.heap) (hm:W.makesIn K C=true)
  (hi:W.findIn K (.ref C) "__init__" = some (some (.ref f))) (hf:W.typeIn K (.ref f)=some (.type "function"))
  (h:codeAny (model prog w) (A.under (.builtin "type.__call__" ⟨.ref C :: vs,kw⟩)) (.call (.ref f) ⟨.ref (s.heap.objs.size + 1) :: vs,kw⟩) (W.InitBack (s.heap.objs.size + 1) R)
   { s with heap:=(s.heap.push W.emptyDict).push (W.instObj C s.heap.objs.size) }) :
  codeAny (model prog w) A (.call (.ref C) ⟨vs,kw⟩) R s:=by
 obtain ⟨hh,g,d,t,os⟩:=s;exact W.make_core (W.makes_of X hm) (W.looks_findIn X hi) (fun self=>W.bind_fn X self hf) (.inl rfl) h
end
noncomputable def Af (f:Str) (v:V):List (Str × V)->List (Str × V)
  | []=>[(f,v)]
  | (g,x) :: r=>if g=f then (g,v) :: r else (g,x) :: Af f v r
theorem AK (f g:Str) (v:V):∀ fs:List (Str × V),(Af f v fs).lookup g=if g=f then some v else fs.lookup g
  | []=>by
    show List.lookup g [(f,v)]=_;by_cases h:g=f
    · have hb:(g == f)=true:=beq_iff_eq.mpr h
      simp only [List.lookup,hb,if_pos h]
    · have hb:(g == f)=false:=beq_eq_false_iff_ne.mpr h
      simp only [List.lookup,hb,if_neg h]
  | (k,x) :: r=>by
    have ih:=AK f g v r;rw [show Af f v ((k,x) :: r)=(if k=f then (k,v) :: r else (k,x) :: Af f v r) from rfl];by_cases hk:k=f
    · rw [if_pos hk]
      by_cases h:g=k
      · have hb:(g == k)=true:=beq_iff_eq.mpr h
        simp only [List.lookup,hb,if_pos (h.trans hk)]
      · have hb:(g == k)=false:=beq_eq_false_iff_ne.mpr h
        simp only [List.lookup,hb,if_neg (fun e:g=f=>h (e.trans hk.symm))]
    · rw [if_neg hk]
      by_cases h:g=k
      · have hb:(g == k)=true:=beq_iff_eq.mpr h
        simp only [List.lookup,hb,if_neg (fun e:g=f=>hk (h.symm.trans e))]
      · have hb:(g == k)=false:=beq_eq_false_iff_ne.mpr h
        simp only [List.lookup,hb];exact ih
theorem FR (f:Str) (v:V):∀ fs:List (Str × V),f ∈ (Af f v fs).map (·.1)/\∀ g,g ∈ fs.map (·.1)->g ∈ (Af f v fs).map (·.1)
  | []=>⟨by simp [Af],fun g h=>by simp at h⟩
  | (k,x) :: r=>by
    obtain ⟨i1,i2⟩:=FR f v r;rw [show Af f v ((k,x) :: r)=(if k=f then (k,v) :: r else (k,x) :: Af f v r) from rfl];by_cases hk:k=f
    · rw [if_pos hk]
      subst hk;exact ⟨by simp,fun g h=>by simpa using h⟩
    · rw [if_neg hk]
      refine ⟨?_,fun g h=>?_⟩
      · rw [map_cons]
        exact mem_cons_of_mem _ i1
      · rw [map_cons] at h ⊢
        rcases mem_cons.mp h with e | e
        · exact mem_cons.mpr (.inl e)
        · exact mem_cons_of_mem _ (i2 g e)
theorem BA (f:Str) (v:V):∀ fs:List (Str × V),(Af f v fs).length <= fs.length + 1
  | []=>by simp [Af]
  | (k,x) :: r=>by
    have ih:=BA f v r;rw [show Af f v ((k,x) :: r)=(if k=f then (k,v) :: r else (k,x) :: Af f v r) from rfl];by_cases hk:k=f
    · rw [if_pos hk,length_cons,length_cons]; omega
    · rw [if_neg hk,length_cons,length_cons]; omega
theorem RelO.some_of {v:V} {o:Option Value} (r:RelO (some v) o):∃ u,o=some u/\RelV v u:=by
 cases o with
 | none=>exact (show False from r).elim
 | some u=>exact ⟨u,rfl,r⟩
theorem RelO.none_of {o:Option Value} (r:RelO none o):o=none:=by
 cases o with
 | none=>rfl
 | some u=>exact (show False from r).elim
theorem ID {v:V} (r:RelV v u):W.handedIn u=true:=by
 cases v with
 | non=>cases (show u=Value.none from r); rfl
 | bl b=>cases (show u=Value.bool b from r); rfl
 | int i=>obtain ⟨t,e⟩:=(show ∃ t,u=Value.int i t from r); cases e; rfl
 | str x=>obtain ⟨t,e⟩:=(show ∃ t,u=Value.str x t from r); cases e; rfl
 | byt b=>obtain ⟨t,e⟩:=(show ∃ t,u=Value.bytes b t from r); cases e; rfl
 | flt b=>obtain ⟨t,e⟩:=(show ∃ t,u=Value.float b t from r); cases e; rfl
 | ref a=>cases (show u=Value.ref a from r); rfl
 | ty n=>cases (show u=Value.type n from r); rfl
section
variable {h':Heap} {dx:Addr} {fs fs':List (Str × V)}
theorem F5 (hok:HOk P w H h) (e:H a=some (.ins C dx fs)):∃ mA,ObjM h a dx C mA/\(∀ f,RelO (fs.lookup f) (mA f))/\PySem.Within mA (fs.map (·.1))/\fs.length <= 1000/\H dx=some (.own a):=by
 obtain ⟨d,z,ne,ob,mA,n,r,q⟩:=(show ObjOk P w H h a (.ins C dx fs) from hok a _ e);exact ⟨mA,⟨ob,n,ne⟩,r,q,z,d⟩
end
structure Cls (K:FG) (C:Addr):Prop where
 pg:W.plainGet K C Str.empty=true
 hd:W.hasDictIn K C=true
 po:W.plainOver K C=true
 sa:W.findIn K (.ref C) "__setattr__" = some (some (.builtin "object.__setattr__"))
theorem Cls.get (c:Cls K C) (f:Str):W.plainGet K C f=true:=c.pg
def NoAttr (K:FG) (C:Addr) (f:Str):Prop:=W.findIn K (.ref C) f=some none
theorem NoAttr.taker {f:Str} (n:NoAttr K C f):W.takerIn K C f=some none:=by
 unfold W.takerIn;rw [show W.findIn K (.ref C) f=some none from n];rfl
structure NX (K:FG) (C:Addr) (m:Str) (f:Addr):Prop where
 at_:W.findIn K (.ref C) m=some (some (.ref f))
 fn:W.isFn K (.ref f)=true
 kp:W.keepIn K (.ref f)=true
section
variable {s:Shared} {dx:Addr} {fs:List (Str × V)} {f:Str} {v:V}
theorem LH {b:Bool} {Q:VS} (I:Inv X aa σ H s) (e:H a=some (.ins C dx fs)) (c:Cls X.K C) (n:NoAttr X.K C f) (l:fs.lookup f=some v)
  (h:∀ u s',Inv X aa σ H s'->RelV v u->Q u s'):wpAny (model X.prog X.w) A (getAttr (.ref a) f b) Q E s:=by
 obtain ⟨mA,O,r,_,_,_⟩:=F5 I.hok e;obtain ⟨u,hu,ru⟩:=RelO.some_of (v:=v) (o:=mA f) (by rw [← l]; exact r f);exact Qj I.kIn O (c.get f) c.hd n hu (ID ru) (h u _ (I.tok _) ru)
theorem Gk {m:Str} {g:Addr} {pl:Sem Bool} {Q:Value × List Value->Shared->Prop} (I:Inv X aa σ H s) (e:H a=some (.ins C dx fs)) (c:Cls X.K C) (k:NX X.K C m g) (l:fs.lookup m=none)
  (h:Q (.ref g,[.ref a]) s):wpAny (model X.prog X.w) A (getMethod (.ref a) m pl) Q E s:=by
 obtain ⟨mA,O,r,_,_,_⟩:=F5 I.hok e;have hn:mA m=none:=RelO.none_of (by rw [← l]; exact r m);exact Oi I.kIn O (c.get m) k.at_ k.fn hn h
theorem LI {y:V} {Q:Unit->Shared->Prop} (I:Inv X aa σ H s) (e:H a=some (.ins C dx fs)) (c:Cls X.K C) (n:NoAttr X.K C f) (hl:fs.length < 1000) (ry:RelV y u)
  (h:∀ s',Inv X aa σ (upd H a (.ins C dx (Af f y fs))) s'->Q () s'):wpAny (model X.prog X.w) A (setAttr (.ref a) f u) Q E s:=by
 obtain ⟨mA,O,r,wi,_,ho⟩:=F5 I.hok e;have hz:(fs.map (·.1)).length <= sizeLine:=by rw [AI,sizeLine_eq]; omega
 refine Qk I.kIn O c.sa c.po n.taker c.hd wi hz fun h' O' sb=>h _ ?_;have hd:∃ o,h'.get? dx=some o:=let ⟨o,_,_,e',_⟩:=O'.ns; ⟨o,e'⟩
 refine I.write (x:=a) (e:=dx) (by rw [e]; exact True.intro) (.inr ho) (fun b q hb z=>(sb.2 b hb).trans z) hd ?_;refine ⟨by rw [AE O.ne]; exact ho,?_,O.ne,O'.obj,_,O'.ns,fun g=>?_,fun g hg=>?_⟩
 ·have:=BA f y fs; omega
 ·show RelO ((Af f y fs).lookup g) (if g=f then some u else mA g);rw [AK];by_cases q:g=f
  ·rw [if_pos q,if_pos q]; exact ry
  ·rw [if_neg q,if_neg q]; exact r g
 ·by_cases q:g=f
  ·rw [q]; exact (FR f y fs).1
  ·refine (FR f y fs).2 g (wi g fun z=>hg ?_);show (if g=f then some u else mA g)=none;rw [if_neg q]; exact z
theorem Inv.made (I:Inv X aa σ H s):Inv X aa σ (upd (upd H s.heap.objs.size (.own (s.heap.objs.size + 1))) (s.heap.objs.size + 1) (.ins C s.heap.objs.size []))
  { s with heap:=(s.heap.push W.emptyDict).push (W.instObj C s.heap.objs.size) }:=by
 have e1:(s.heap.push W.emptyDict).get? s.heap.objs.size=some W.emptyDict:=get?_push_size s.heap rfl
 have e2:((s.heap.push W.emptyDict).push (W.instObj C s.heap.objs.size)).get? (s.heap.objs.size + 1)=some (W.instObj C s.heap.objs.size):=by
  have:=get?_push_size (s.heap.push W.emptyDict) (o:=W.instObj C s.heap.objs.size) rfl
  rwa [size_push] at this
 have e3:(s.heap.push W.emptyDict).Ns s.heap.objs.size (fun _=>none):=⟨W.emptyDict,#[],_,e1,rfl,(fun e he=>absurd he (by simp)),fun _=>rfl⟩;have I1:=I.laid (a:=s.heap.objs.size) (o:=.own (s.heap.objs.size + 1)) (h':=s.heap.push W.emptyDict) (t':=s.toks) (fun b u q=>get?_push_of_some _ q) (Nat.le_refl _) ⟨_,e1⟩;refine I1.laid (a:=s.heap.objs.size + 1) (o:=.ins C s.heap.objs.size []) (t':=s.toks) (fun b u q=>get?_push_of_some _ q) (Nat.le_of_eq (size_push _ _)) ?_;have ne:s.heap.objs.size ≠ s.heap.objs.size + 1:=Nat.ne_of_lt (Nat.lt_succ_self _);refine ⟨by rw [AE ne,upd_same],Nat.zero_le _,ne,e2,fun _=>none,(Heap.Ns1.of_empty e3).at fun o q=>get?_push_of_some _ q,fun _=>True.intro,fun y hy=>absurd rfl hy⟩
theorem Ma {prog:Program} {env:Env} {f:Str} {s:Shared} {Q:VS} (hb:attributeBase e f env (eval e env)=eval e env)
  (h:wpAny (model prog w) A (eval e env) (fun o s₁=>wpAny (model prog w) A (getAttr o f true) Q E s₁) E s):wpAny (model prog w) A (eval (.Attribute e f pos) env) Q E s :=
 Attribute_any_ h (by rw [arm_eval_Attribute,hb])
end
def Tf (K:FG) (ta:TE) (f:Str):TE:=fun σ H Q=>ta σ H fun x H1=>∃ a C dx fs v,x=.ref a/\H1 a=some (.ins C dx fs)/\Cls K C/\NoAttr K C f/\fs.lookup f=some v/\Q v H1
def UU (K:FG) (ta tv:TE) (f:Str):TS:=fun D σ H=>tv σ H fun y H1=>ta σ H1 fun x H2=>∃ a C dx fs,x=.ref a/\H2 a=some (.ins C dx fs)/\Cls K C/\NoAttr K C f/\fs.length < 1000 /\
 D.nx σ (upd H2 a (.ins C dx (Af f y fs)))
section
variable {o value:Expr} {f:Str} {pos' tpos:Pos} {ta tv:TE}
theorem BD (he:PE X e ta) (hb:attributeBase e f X.env (eval e X.env)=eval e X.env):PE X (.Attribute e f pos) (Tf X.K ta f):=by
 intro aa s σ H Q I h;refine Ma hb (thn (he aa s σ H _ I h) fun u s1 ⟨x,H1,I1,rx,a,C,dx,fs,v,ex,ea,c,n,l,q⟩=>?_);subst ex;obtain rfl:u=Value.ref a:=rx;exact LH I1 ea c n l fun u' s2 I2 ru=>⟨v,H1,I2,ru,q⟩
theorem Bh (ha:PE X o ta) (hv:PE X value tv) (hs:swapsWith value (some (.Attribute o f pos')) pos.line X.env=pure false):PS X (.Assign [.Attribute o f pos'] value pos) (UU X.K ta tv f):=by
 intro aa s σ H D I h;refine plainObj_wpAny_Assign_Attribute (thn (hv aa s σ H _ I h) fun u s1 ⟨y,H1,I1,ry,q⟩=>thn (ha aa s1 σ H1 _ I1 q) fun ov s2 ⟨x,H2,I2,rx,a,C,dx,fs,ex,ea,c,n,l,q2⟩=>?_) hs;subst ex;obtain rfl:ov=Value.ref a:=rx;exact LI I2 ea c n l ry fun s3 I3=>⟨σ,_,I3,q2⟩
end
section
variable {s:Shared} {Q:VS} {c:Value} {b:Bool}
inductive TyOf (K:FG) (H:Hp):V->Value->Prop where
 | non:TyOf K H .non (.type "NoneType")
 | bl (x:Bool):TyOf K H (.bl x) (.type "bool")
 | int (i:Int):TyOf K H (.int i) (.type "int")
 | str (x:Str):TyOf K H (.str x) (.type "str")
 | flt (x:UInt64):TyOf K H (.flt x) (.type "float")
 | lst {a:Addr} {xs:List V} (e:H a=some (.lst xs)):TyOf K H (.ref a) (.type "list")
 | frz {a:Addr} {o:Obj} {xs:List V} (e:H a=some (.frz o (.lst xs))):TyOf K H (.ref a) (.type "list")
 | tup {a:Addr} {xs:List V} (e:H a=some (.tup xs)):TyOf K H (.ref a) (.type "tuple")
 | dK {a:Addr} {kvs:LK} (e:H a=some (.dK kvs)):TyOf K H (.ref a) (.type "dict")
 | dT {a:Addr} {kvs:List (List Key × V)} (e:H a=some (.dT kvs)):TyOf K H (.ref a) (.type "dict")
 | ins {a C dx:Addr} {fs:List (Str × V)} (e:H a=some (.ins C dx fs)) (cl:Cls K C) (ha:W.findIn K (.ref C) "__class__" = some (some (.builtin "object.__class__")))
   (hn:W.specialIn K (.builtin "object.__class__") "__get__" = some (some (.builtin "getset_descriptor.__get__"))) (htk:W.takesIn K (.builtin "object.__class__")=some true)
   (hm:W.mroIn K C (.type "object")=some true):TyOf K H (.ref a) (.ref C)
theorem NY {x:V} {t:Value} (I:Inv X aa σ H s) (rx:RelV x u) (ty:TyOf X.K H x t) (e:W.kitOne X.K t c=some b) (h:∀ tk,Q (.bool b) { s with toks:=tk }) :
  wpAny (model X.prog X.w) A (call (.builtin "isinstance") [u,c]) Q E s:=by
 cases ty with
 | non=>cases (show u=Value.none from rx); exact W.kia_one W.kitx_none I.kIn True.intro e (fun z=>nomatch z) h
 | bl y=>cases (show u=Value.bool y from rx); exact W.kia_one W.kitx_bool I.kIn True.intro e (fun z=>nomatch z) h
 | int i=>obtain ⟨t,q⟩:=(show ∃ t,u=Value.int i t from rx); cases q; exact W.kia_one W.kitx_int I.kIn True.intro e (fun z=>nomatch z) h
 | str y=>obtain ⟨t,q⟩:=(show ∃ t,u=Value.str y t from rx); cases q; exact W.kia_one W.kitx_str I.kIn True.intro e (fun z=>nomatch z) h
 | flt y=>obtain ⟨t,q⟩:=(show ∃ t,u=Value.float y t from rx); cases q; exact W.kia_one W.kitx_float I.kIn True.intro e (fun z=>nomatch z) h
 | @lst a xs ea =>
  cases (show u=Value.ref a from rx);obtain ⟨_,_,n,_,h1⟩:=(show ObjOk X.prog X.w H s.heap a (.lst xs) from I.hok a _ ea);exact W.kia_one W.kitx_list I.kIn ⟨_,h1,rfl⟩ e (fun z=>nomatch z) h
 | @frz a ob xs ea =>
  cases (show u=Value.ref a from rx);obtain ⟨_,_,_,n,_,h1⟩:=(show ObjOk X.prog X.w H s.heap a (.frz ob (.lst xs)) from I.hok a _ ea);exact W.kia_one W.kitx_list I.kIn ⟨_,h1,rfl⟩ e (fun z=>nomatch z) h
 | @tup a xs ea =>
  cases (show u=Value.ref a from rx);obtain ⟨_,_,_,p⟩:=(show ObjOk X.prog X.w H s.heap a (.tup xs) from I.hok a _ ea);obtain ⟨o,h1,h2,_⟩:=p;exact W.kia_one W.kitx_tuple I.kIn ⟨o,h1,h2⟩ e (fun z=>nomatch z) h
 | @dK a kvs ea =>
  cases (show u=Value.ref a from rx);obtain ⟨_,_,vs,_,p⟩:=(show ObjOk X.prog X.w H s.heap a (.dK kvs) from I.hok a _ ea);obtain ⟨o,es,ep,h1,h2,_⟩:=p;exact W.kia_one W.kitx_dict I.kIn ⟨o,h1,h2.1⟩ e (fun z=>nomatch z) h
 | @dT a kvs ea =>
  cases (show u=Value.ref a from rx);obtain ⟨_,_,xs,_,o,es,ep,h1,h2,_⟩:=(show ObjOk X.prog X.w H s.heap a (.dT kvs) from I.hok a _ ea);exact W.kia_one W.kitx_dict I.kIn ⟨o,h1,h2.1⟩ e (fun z=>nomatch z) h
 | @ins a C dx fs ea cl ha hn htk hm =>
  cases (show u=Value.ref a from rx);obtain ⟨mA,O,_⟩:=F5 I.hok ea;obtain ⟨od,J,_⟩:=O.look;exact W.kia_one (W.kitx_own (cl.get _) cl.hd ha hn htk hm) I.kIn J e (fun z=>nomatch z) h
end
end L2
namespace L2
open PySem PySem.Spec PyProof.Rows
structure Room (k:Nat) (A:Around):Prop where
 hd:A.handled=none
 dp:A.depth + 3 * k + 5 < recursionLimit
 un:A.units + 16 * k + 200 < cLine
theorem Room.mono {j k:Nat} (r:Room k A) (h:j <= k):Room j A:=⟨r.hd,by have:=r.dp; omega,by have:=r.un; omega⟩
theorem Room.deeper {k:Nat} {A:Around} (r:Room (k + 1) A) (env:Env):Room k (A.deeper env) :=
 ⟨r.hd,by have:=r.dp; show A.depth + 1 + 3 * k + 5 < _; omega,by have:=r.un; show A.units + 3 + 16 * k + 200 < _; omega⟩
theorem LJ {kw:List (Str × Value)}:(A.under (.builtin "type.__call__" ⟨.ref C :: us,kw⟩)).depth=A.depth + 1:=by
 first | rfl | simp [Around.under,Code.weight,Code.isCreation,Code.isGuard,Code.isCaller,Code.frames,Code.isFrame,guardIds]
theorem LL {kw:List (Str × Value)}:(A.under (.builtin "type.__call__" ⟨.ref C :: us,kw⟩)).units=A.units + 1:=by
 first | rfl | simp [Around.under,Code.cUnits,Code.frames,Code.isFrame]
theorem Room.make {k:Nat} (r:Room (k + 1) A) (C:Addr) (us:List Value) (kw:List (Str × Value)):Room k (A.under (.builtin "type.__call__" ⟨.ref C :: us,kw⟩)) :=
 ⟨r.hd,by have:=r.dp; rw [LJ]; omega,by have:=r.un; rw [LL]; omega⟩
theorem Room.depth {k:Nat} {A:Around} (r:Room k A):A.depth < recursionLimit:=by have:=r.dp; omega
theorem Room.units {k:Nat} {A:Around} (r:Room k A):A.units + 64 < cLine:=by have:=r.un; omega
def By:TA:=fun _ H Q=>Q [] H
def Ah (ta:TE) (tr:TA):TA:=fun σ H Q=>ta σ H fun x H1=>tr σ H1 fun xs H2=>Q (x :: xs) H2
section
variable {es:List Expr} {t:TA}
theorem AC:PA X [] By:=fun _ _ _ _ H Q I h=>Calls.spliced_nil ⟨[],H,I,.nil,h⟩
theorem AA (ha:PE X e te) (hr:PA X es t) (hs:starEach (e :: es) X.env=(false,eval e X.env) :: starEach es X.env:=by rfl):PA X (e :: es) (Ah te t):=by
 intro pos aa s σ H Q I h;rw [hs];show wpAny _ _ (spliced ((false,eval e X.env) :: backTo pos (starEach es X.env))) _ _ s;refine Calls.spliced_cons (thn (ha aa s σ H _ I h) fun u s1 ⟨x,H1,I1,r1,q1⟩=>?_);exact thn (hr pos aa s1 σ H1 _ I1 q1) fun us s2 ⟨xs,H2,I2,r2,q2⟩=>⟨x :: xs,H2,I2,.cons r1 r2,q2⟩
def Oj (t:TA):TE:=fun σ H Q=>t σ H fun xs H1=>xs.length <= sizeLine/\∀ p,H1 p=none->Q (.ref p) (upd H1 p (.tup xs))
def JI (t:TA):TE:=fun σ H Q=>t σ H fun xs H1=>xs.length <= sizeLine/\∀ p,H1 p=none->Q (.ref p) (upd H1 p (.lst xs))
theorem A4 {x1} (h:PA X es t):PE X (.Tuple es x1 pos) (Oj t):=by
 intro aa s σ H Q I hq;refine wpAny_Tuple_spliced (thn (h pos aa s σ H _ I hq) fun us s1 ⟨xs,H1,I1,r,z,q⟩=>⟨by rw [← r.length]; exact z,?_⟩);have hf:H1 s1.heap.objs.size=none:=I1.hok.fresh (Nat.le_refl _);refine ⟨.ref s1.heap.objs.size,upd H1 s1.heap.objs.size (.tup xs),I1.laid (t':=s1.toks) (fun b u e=>get?_push_of_some _ e) (Nat.le_refl _) ?_,rfl,q _ hf⟩;exact ⟨z,us,r,⟨_,get?_push_size _ rfl,rfl,_,rfl⟩⟩
theorem Ay (h:PA X es t):PE X (.List es pos) (JI t):=by
 intro aa s σ H Q I hq;refine wpAny_List_spliced (thn (h pos aa s σ H _ I hq) fun us s1 ⟨xs,H1,I1,r,z,q⟩=>⟨by rw [← r.length]; exact z,?_⟩);have hf:H1 s1.heap.objs.size=none:=I1.hok.fresh (Nat.le_refl _);refine ⟨.ref s1.heap.objs.size,upd H1 s1.heap.objs.size (.lst xs),I1.laid (t':=s1.toks) (fun b u e=>get?_push_of_some _ e) (Nat.le_refl _) ?_,rfl,q _ hf⟩;exact ⟨z,us,0,r,get?_push_size _ rfl⟩
end
abbrev Sp:=List V->Hp->VK->XK->Prop
abbrev CXT:=List Env->Hp->Shared->XK->Value->Shared->Prop
structure Env0 (P:Program) (w:World) (K:FG) (mg:SV) (base:Heap) (A:Around) (outer:List Env) (s:Shared) (H:Hp):Prop where
 frames:A.frames=some outer
 mod:Mod K mg base
 bs:∀ b o,base.get? b=some o->s.heap.get? b=some o/\H b=none
 bsz:base.objs.size <= s.heap.objs.size
 funs:s.heap.FunFrames base outer
 frf:∀ b ∈ frs outer,H b=none
 hok:HOk P w H s.heap
 bare:AllBare s.gens
def CE (outer:List Env) (P:Program) (w:World) (H:Hp) (s:Shared) (Q:VK) (u:Value) (s':Shared):Prop :=
 ∃ v H',s'.os=s.os/\AllBare s'.gens/\Un (frs outer) [] H H' s.heap s'.heap/\HOk P w H' s'.heap/\RelV v u/\Q v H'
def CR (CX:CXT) (outer:List Env) (P:Program) (w:World) (H:Hp) (s:Shared) (Q:VK) (E:XK) (r:Result) (s':Shared):Prop :=
 match r with
 | .ok (.ret u)=>CE outer P w H s Q u s'
 | .ok _=>False
 | .error e=>CX outer H s E e s'
structure Aj (P:Program) (w:World) (K:FG) (mg:SV) (base:Heap) (CX:CXT) (k:Nat) (f:Addr) (fd:FuncData) (ps:List Str) (sp:Sp):Prop where
 len:∀ vs H Q E,sp vs H Q E->vs.length=ps.length
 run:∀ (A:Around) (outer:List Env) (s:Shared) (H:Hp) (args:Args) (us:List Value) (vs:List V) (Q:VK) (E:XK),Room k A->Env0 P w K mg base A outer s H->BindsTo s fd args (ps.zip us)->Vals vs us->sp vs H Q E ->
  codeAny (model P w) A (.call (.ref f) args) (CR CX outer P w H s Q E) s
theorem Env0.make {outer:List Env} {s:Shared} (e:Env0 P w K mg base A outer s H) (C:Addr) (us:List Value) (kw:List (Str × Value)) :
  Env0 P w K mg base (A.under (.builtin "type.__call__" ⟨.ref C :: us,kw⟩)) outer s H:=⟨by first | exact e.frames | (simpa [Around.under,Code.envs,Code.isFrame,pushEnvs] using e.frames),e.mod,e.bs,e.bsz,e.funs,e.frf,e.hok,e.bare⟩
section
variable {s s':Shared}
theorem Inv.env0 (I:Inv X aa σ H s):Env0 X.prog X.w X.K X.mg X.base X.A X.stack s H :=
 ⟨I.ok.frames,I.ok.mod,I.bs,Nat.le_trans I.ok.bsz I.sz,I.stack,I.stkFree,I.hok,I.bare⟩
theorem Inv.after {Q:VK} (I:Inv X aa σ H s) (h:CE X.stack X.prog X.w H s Q u s'):EP X aa σ Q u s':=by
 obtain ⟨v,H',os,bare,un,hok,r,q⟩:=h;obtain ⟨hh,g,d,t,os'⟩:=s';obtain rfl:os'=s.os:=os;exact ⟨v,H',I.call (h':=hh) (g':=g) (d':=d) (t':=t) (ch:=[]) un hok bare (fun b z=>absurd z (by simp)),r,q⟩
end
def Tg (sp:Sp) (dvs:List V) (E:XK) (t:TA):TE:=fun σ H Q=>t σ H fun vs H1=>sp (vs++dvs) H1 Q E
def Ol (C:Addr) (m:Str) (sp:Sp) (dvs:List V) (E:XK) (ta:TE) (t:TA):TE:=fun σ H Q=>ta σ H fun x H1=>∃ a dx fs,x=.ref a/\H1 a=some (.ins C dx fs)/\fs.lookup m=none /\
 t σ H1 fun vs H2=>sp (x :: (vs++dvs)) H2 Q E
def Ti (C:Addr) (sp:Sp) (dvs:List V) (E:XK) (t:TA):TE:=fun σ H Q=>t σ H fun vs H1=>∀ x dx,H1 x=none->H1 dx=none->dx ≠ x ->
 sp (.ref x :: (vs++dvs)) (upd (upd H1 dx (.own x)) x (.ins C dx [])) (fun v H2=>v=.non/\Q (.ref x) H2) E
def Binds (K:FG) (fd:FuncData) (ps:List Str) (ds:List Value):Prop :=
 ∀ (s:Shared) (us:List Value),K.In s.heap->(us++ds).length=ps.length->BindsTo s fd ⟨us,[]⟩ (ps.zip (us++ds))
theorem Binds.all {fd:FuncData} {ps:List Str} (h:∀ us:List Value,us.length=ps.length->bindArgs fd ⟨us,[]⟩=pure (ps.zip us)):Binds K fd ps []:=fun s us _ hl=>by
 rw [append_nil] at hl ⊢;exact .of_eq (h us hl)
def Bi (CX:CXT) (X:Cx) (E:XK):Prop:=∀ (aa:LO) (σ:St) (H:Hp) (s:Shared) (e:Value) (s':Shared),Inv X aa σ H s->CX X.stack H s E e s'->X.xe e s'
section
variable {CX:CXT} {k:Nat} {fd:FuncData} {ps:List Str} {sp:Sp} {dvs:List V} {ds:List Value} {E:XK} {m:Str} {p apos:Pos} {o:Expr} {es:List Expr} {ta:TE} {t:TA}
theorem LM {s:Shared} {Q:VK} {vs:List V} (F:Aj X.prog X.w X.K X.mg X.base CX k f fd ps sp) (hr:Room k X.A) (hb:Binds X.K fd ps ds) (hd:Vals dvs ds) (hx:Bi CX X E)
  (I:Inv X aa σ H s) (r:Vals vs us) (h:sp (vs++dvs) H Q E):wpAny (model X.prog X.w) X.A (call (.ref f) us) (EP X aa σ Q) X.xe s:=by
 have r2:Vals (vs++dvs) (us++ds):=r.append hd;have hl:(us++ds).length=ps.length:=by rw [← r2.length]; exact F.len _ _ _ _ h
 refine wpAny_call (codeAny_mono (F.run X.A X.stack s H ⟨us,[]⟩ (us++ds) (vs++dvs) Q E hr I.env0 (hb s us I.kIn hl) r2 h) fun r s' hq=>?_);cases r with
 | error e=>exact hx aa σ H s e s' I hq
 | ok fl =>
  cases fl with
  | ret u=>exact I.after hq
  | next=>exact False.elim hq
  | brk=>exact False.elim hq
  | cont=>exact False.elim hq
theorem AQ (F:Aj X.prog X.w X.K X.mg X.base CX k f fd ps sp) (hr:Room k X.A) (hg:Gl X x) (hm:X.mg x=some (.ref f)) (hk:W.keepIn X.K (.ref f)=true) (hb:Binds X.K fd ps ds) (hd:Vals dvs ds) (hx:Bi CX X E)
  (ha:PA X (e :: es) t) (hdb:(x == ("__debug__" : Str))=false:=by decide) (he:starEach (e :: es) X.env=(false,eval e X.env) :: starEach es X.env:=by rfl) (hpl:(backTo pos (starEach es X.env)).any (·.1)=false:=by rfl) :
  PE X (.Call (.Name x p) (e :: es) [] pos) (Tg sp dvs E t):=by
 intro aa s σ H Q I h;refine wpAny_Call_Name_kw (B6 I hg hm ?_ hdb);refine W.callWith_K (h₀:=X.base) I.ok.mod.kin hk (thn (ha pos aa s σ H _ I h) fun us s1 ⟨vs,H1,I1,r,q⟩=>⟨I1.kIn,?_⟩) he hpl;exact LM F hr hb hd hx I1 r q
theorem En {pl:Sem Bool} (he:PE X o ta) (c:Cls X.K C) (hm:NX X.K C m f) (F:Aj X.prog X.w X.K X.mg X.base CX k f fd ps sp) (hr:Room k X.A) (hb:Binds X.K fd ps ds) (hd:Vals dvs ds) (hx:Bi CX X E) (ha:PA X (e :: es) t)
  (hst:starEach (e :: es) X.env=(false,eval e X.env) :: starEach es X.env:=by rfl) (hpl:(backTo pos (starEach es X.env)).any (·.1)=false:=by rfl)
  (ht:eval (.Call (.Attribute o m apos) (e :: es) [] pos) X.env=(do
   let ov ← eval o X.env
   standAt apos.atName
   let (f,first) ← holding [ov] (getMethod ov m pl)
   callWith pos f first (backTo pos (starEach (e :: es) X.env)) (backToKw pos (keywordEach [] X.env))):=by rfl) :
  PE X (.Call (.Attribute o m apos) (e :: es) [] pos) (Ol C m sp dvs E ta t):=by
 intro aa s σ H Q I h;refine W.methodCall_KW (pl:=pl) (thn (he aa s σ H _ I h) fun u s1 ⟨x,H1,I1,rx,a,dx,fs,ex,ea,l,q⟩=>?_) ht;subst ex;obtain rfl:u=Value.ref a:=rx;refine Gk I1 ea c hm l ?_;refine W.callWith_K (first:=[.ref a]) (h₀:=X.base) I.ok.mod.kin hm.kp (thn (ha pos aa s1 σ H1 _ I1 q) fun us s2 ⟨vs,H2,I2,r,q2⟩=>⟨I2.kIn,?_⟩) hst hpl;exact LM (us:=.ref a :: us) (vs:=.ref a :: vs) F hr hb hd hx I2 (.cons rfl r) q2
theorem Ca {pl:Sem Bool} (he:PE X o ta) (c:Cls X.K C) (hm:NX X.K C m f) (F:Aj X.prog X.w X.K X.mg X.base CX k f fd ps sp) (hr:Room k X.A) (hb:Binds X.K fd ps ds) (hd:Vals dvs ds) (hx:Bi CX X E)
  (ht:eval (.Call (.Attribute o m apos) [] [] pos) X.env=(do
   let ov ← eval o X.env
   standAt apos.atName
   let (f,first) ← holding [ov] (getMethod ov m pl)
   callWith pos f first (backTo pos (starEach [] X.env)) (backToKw pos (keywordEach [] X.env))):=by rfl) :
  PE X (.Call (.Attribute o m apos) [] [] pos) (Ol C m sp dvs E ta By):=by
 intro aa s σ H Q I h;refine W.methodCall_KW (pl:=pl) (thn (he aa s σ H _ I h) fun u s1 ⟨x,H1,I1,rx,a,dx,fs,ex,ea,l,q⟩=>?_) ht;subst ex;obtain rfl:u=Value.ref a:=rx;refine Gk I1 ea c hm l ?_;exact W.callWith_K0 (first:=[.ref a]) I1.kIn hm.kp (LM (us:=[.ref a]) (vs:=[.ref a]) F hr hb hd hx I1 (.cons rfl .nil) q)
structure Mk (K:FG) (C f:Addr):Prop where
 makes:W.makesIn K C=true
 init:W.findIn K (.ref C) "__init__" = some (some (.ref f))
 fn:W.isFn K (.ref f)=true
 kp:W.keepIn K (.ref C)=true
theorem Om {s:Shared} {Q:VK} {vs:List V} (M:Mk X.K C f) (F:Aj X.prog X.w X.K X.mg X.base CX k f fd ps sp) (hr:Room (k + 1) X.A) (hb:Binds X.K fd ps ds) (hd:Vals dvs ds)
  (hx:Bi CX X E) (I:Inv X aa σ H s) (r:Vals vs us)
  (h:∀ x dx,H x=none->H dx=none->dx ≠ x->sp (.ref x :: (vs++dvs)) (upd (upd H dx (.own x)) x (.ins C dx [])) (fun v H2=>v=.non/\Q (.ref x) H2) E) :
  wpAny (model X.prog X.w) X.A (call (.ref C) us) (EP X aa σ Q) X.xe s:=by
 have hq:=h (s.heap.objs.size + 1) s.heap.objs.size (I.hok.fresh (Nat.le_succ _)) (I.hok.fresh (Nat.le_refl _)) (Nat.ne_of_lt (Nat.lt_succ_self _));have I2:=Inv.made (C:=C) I;have r2:Vals (V.ref (s.heap.objs.size + 1) :: (vs++dvs)) (Value.ref (s.heap.objs.size + 1) :: (us++ds)):=.cons rfl (r.append hd)
 have hl:(Value.ref (s.heap.objs.size + 1) :: us++ds).length=ps.length:=by
  have e:=r2.length;rw [F.len _ _ _ _ hq] at e;exact e.symm
 refine wpAny_call (Gj (f:=f) I.kIn M.makes M.init (beq_iff_eq.mp M.fn) (codeAny_mono (F.run _ X.stack _ _ ⟨Value.ref (s.heap.objs.size + 1) :: us,[]⟩ (Value.ref (s.heap.objs.size + 1) :: (us++ds)) _ _ E (hr.make C us [])
  (I2.env0.make C us []) (hb _ (Value.ref (s.heap.objs.size + 1) :: us) I2.kIn hl) r2 hq) fun r s' hq'=>?_))
 cases r with
 | error e=>exact hx aa σ _ _ e s' I2 hq'
 | ok fl =>
  cases fl with
  | ret u =>
   obtain ⟨v,H',I3,rv,ev,q3⟩:=I2.after hq';subst ev;exact ⟨rv,⟨V.ref (s.heap.objs.size + 1),H',I3,rfl,q3⟩⟩
  | next=>exact False.elim hq'
  | brk=>exact False.elim hq'
  | cont=>exact False.elim hq'
theorem Ql (M:Mk X.K C f) (F:Aj X.prog X.w X.K X.mg X.base CX k f fd ps sp) (hr:Room (k + 1) X.A) (hg:Gl X x) (hm:X.mg x=some (.ref C)) (hb:Binds X.K fd ps ds) (hd:Vals dvs ds) (hx:Bi CX X E)
  (ha:PA X (e :: es) t) (hdb:(x == ("__debug__" : Str))=false:=by decide) (he:starEach (e :: es) X.env=(false,eval e X.env) :: starEach es X.env:=by rfl) (hpl:(backTo pos (starEach es X.env)).any (·.1)=false:=by rfl) :
  PE X (.Call (.Name x p) (e :: es) [] pos) (Ti C sp dvs E t):=by
 intro aa s σ H Q I h;refine wpAny_Call_Name_kw (B6 I hg hm ?_ hdb);refine W.callWith_K (h₀:=X.base) I.ok.mod.kin M.kp (thn (ha pos aa s σ H _ I h) fun us s1 ⟨vs,H1,I1,r,q⟩=>⟨I1.kIn,?_⟩) he hpl;exact Om M F hr hb hd hx I1 r q
end
def PK (X:Cx) (kws:List Keyword) (t:TA):Prop :=
 ∀ (pos:Pos) (aa:LO) (s:Shared) (σ:St) (H:Hp) (Q:List V->Hp->Prop),Inv X aa σ H s->t σ H Q->wpAny (model X.prog X.w) X.A (evalAll ((backToKw pos (keywordEach kws X.env)).map (·.2))) (AP X aa σ Q) X.xe s
section
variable {CX:CXT} {k:Nat} {fd:FuncData} {ps ks:List Str} {sp:Sp} {E:XK} {m:Str} {p apos kpos:Pos} {o:Expr} {es:List Expr} {kws:List Keyword} {ta:TE} {t tk:TA} {nm:Option Str}
theorem FS:PK X [] By:=fun _ _ _ _ H Q I h=>wpAny_evalAll_nil ⟨[],H,I,.nil,h⟩
theorem B9 (ha:PE X e te) (hr:PK X kws t):PK X (⟨nm,e,kpos⟩ :: kws) (Ah te t):=by
 intro pos aa s σ H Q I h;show wpAny _ _ (evalAll ((do let v ← eval e X.env; standAt pos; pure v) :: (backToKw pos (keywordEach kws X.env)).map (·.2))) _ _ s;refine wpAny_evalAll_cons (wpAny_bind (thn (ha aa s σ H _ I h) fun u s1 ⟨x,H1,I1,r1,q1⟩=>wpAny_bind (wpAny_standAt (wpAny_pure ?_))));exact thn (hr pos aa s1 σ H1 _ I1 q1) fun us s2 ⟨xs,H2,I2,r2,q2⟩=>⟨x :: xs,H2,I2,.cons r1 r2,q2⟩
structure DZ (K:FG) (fd:FuncData) (ps ks:List Str) (g:List Value->List Value->List Value) (gV:List V->List V->List V):Prop where
 to:∀ (s:Shared) (us ws:List Value),K.In s.heap->(g us ws).length=ps.length->BindsTo s fd ⟨us,ks.zip ws⟩ (ps.zip (g us ws))
 rel:∀ {vs:List V} {us:List Value} {zs:List V} {ws:List Value},Vals vs us->Vals zs ws->Vals (gV vs zs) (g us ws)
variable {g:List Value->List Value->List Value} {gV:List V->List V->List V}
end
structure AR (N P:List Str) (sc:Scope):Prop where
 kind:sc.kind=.function
 co:sc.isCoroutine=false
 gen:sc.isGenerator=false
 nd:N.Nodup
 pre:N.take P.length=P
 par:∀ x ∈ P,sc.names.lookup x=some .local\/sc.names.lookup x=some .cell
 nofree:∀ y ∈ sc.names,y.2 ≠ .free
theorem fsc {N P:List Str} {sc:Scope} (a:sc.kind=.function:=by exact rfl) (b:sc.isCoroutine=false:=by exact rfl) (c:sc.isGenerator=false:=by exact rfl) (d:N.Nodup:=by decide +kernel) (e:N.take P.length=P:=by exact rfl) (f:∀ x ∈ P,sc.names.lookup x=some .local\/sc.names.lookup x=some .cell:=by decide +kernel) (g:∀ y ∈ sc.names,y.2 ≠ .free:=by decide +kernel):AR N P sc:=⟨a,b,c,d,e,f,g⟩
theorem IE {kindOf:Str->Option NameKind} {x:Str}:∀ {binds:List (Str × Value)} {m:SV},(∀ v,(x,v) ∉ binds)->bindL kindOf binds m x=m x
  | [],_,_=>rfl
  | (n,v) :: r,m,h=>by
    unfold bindL;rw [IE fun w hw=>h w (mem_cons_of_mem _ hw)];split
    · have:x ≠ n:=by rintro rfl; exact h v mem_cons_self
      simp [this]
    · rfl
theorem IF {kindOf:Str->Option NameKind} {x:Str}:∀ {binds:List (Str × Value)} {m:SV},(∀ v,(x,v) ∉ binds)->bindC kindOf binds m x=m x
  | [],_,_=>rfl
  | (n,v) :: r,m,h=>by
    unfold bindC;rw [IF fun w hw=>h w (mem_cons_of_mem _ hw)];split
    · rfl
    · have:x ≠ n:=by rintro rfl; exact h v mem_cons_self
      simp [this]
theorem IG {kindOf:Str->Option NameKind} {x:Str} {v:Value}:∀ {P:List Str} {vs:List Value} {i:Nat} {m:SV},P.Nodup->P[i]?=some x->vs[i]?=some v->kindOf x=some .local ->
  bindL kindOf (P.zip vs) m x=some v
 | [],_,_,_,_,h,_,_=>by simp at h
 | _ :: _,[],_,_,_,_,h,_=>by simp at h
 | p :: P,w :: vs,0,m,nd,h1,h2,hk=>by
  simp at h1 h2; subst h1; subst h2;show bindL kindOf ((p,w) :: P.zip vs) m p=_;unfold bindL;rw [IE fun v hv=>(nodup_cons.mp nd).1 (of_mem_zip hv).1,if_pos hk];simp
 | p :: P,w :: vs,i + 1,m,nd,h1,h2,hk=>by
  show bindL kindOf ((p,w) :: P.zip vs) m x=_;unfold bindL;exact IG (i:=i) (nodup_cons.mp nd).2 (by simpa using h1) (by simpa using h2) hk
theorem IH {kindOf:Str->Option NameKind} {x:Str} {v:Value}:∀ {P:List Str} {vs:List Value} {i:Nat} {m:SV},P.Nodup->P[i]?=some x->vs[i]?=some v->kindOf x ≠ some .local ->
  bindC kindOf (P.zip vs) m x=some v
 | [],_,_,_,_,h,_,_=>by simp at h
 | _ :: _,[],_,_,_,_,h,_=>by simp at h
 | p :: P,w :: vs,0,m,nd,h1,h2,hk=>by
  simp at h1 h2; subst h1; subst h2;show bindC kindOf ((p,w) :: P.zip vs) m p=_;unfold bindC;rw [IF fun v hv=>(nodup_cons.mp nd).1 (of_mem_zip hv).1,if_neg hk];simp
 | p :: P,w :: vs,i + 1,m,nd,h1,h2,hk=>by
  show bindC kindOf ((p,w) :: P.zip vs) m x=_;unfold bindC;exact IH (i:=i) (nodup_cons.mp nd).2 (by simpa using h1) (by simpa using h2) hk
noncomputable def Bm (N:List Str) (vs:List V):St:=vs.map some++List.replicate (N.length - vs.length) none
noncomputable def BI (CX:CXT) (P:Program) (w:World) (K:FG) (mg:SV) (base:Heap) (N:List Str) (qual:Str) (scope:Scope) (f:Addr) (cd:Value) (A:Around) (outer:List Env) (s:Shared) (H:Hp) (E:XK):Cx where
 prog:=P
 w:=w
 K:=K
 mg:=mg
 base:=base
 A:=A.deeper (envOfC qual scope s.heap.objs.size f cd)
 N:=N
 s₀:=s
 H₀:=H
 env:=envOfC qual scope s.heap.objs.size f cd
 outer:=outer
 stack:=envOfC qual scope s.heap.objs.size f cd :: outer
 ex:=[]
 calm:=true
 fn:=fun _=>true
 pn:=[]
 xe:=fun e s'=>wpAny (model P w) (A.deeper (envOfC qual scope s.heap.objs.size f cd)) (leaving (envOfC qual scope s.heap.objs.size f cd) e) (fun _ s''=>CX outer H s E e s'') (fun e' s''=>CX outer H s E e' s'') s'
theorem Jz {sc:Scope} {n:Nat} (h:sc.names.lookup x=some .cell):∃ c,(cellsFrom n sc.names []).lookup x=some c:=by
 have q:=W.cellsFrom_some sc.names n [] (.inl h);exact Option.isSome_iff_exists.mp q
theorem FU {CX:CXT} {ps:List Str} {qual:Str} {scope:Scope} {cd:Value} {outer:List Env} {s s1:Shared} {E:XK} {vs:List V}
  (S:AR N ps scope) (hd:A.handled=none) (e0:Env0 P w K mg base A outer s H) (hl:vs.length=ps.length) (r:Vals vs us)
  (x:InCallC s s.heap.objs.size (bindL (envOfC qual scope s.heap.objs.size f cd).kindOf (ps.zip us) fun _=>none) (cellsFrom (s.heap.objs.size + 1) scope.names []) (bindC (envOfC qual scope s.heap.objs.size f cd).kindOf (ps.zip us) fun _=>none) s1) :
  Inv (BI CX P w K mg base N qual scope f cd A outer s H E) [] (Bm N vs) H s1:=by
 have hpl:ps.length <= N.length:=by have:=congrArg List.length S.pre; rw [length_take] at this; omega
 obtain ⟨h1,tk,rfl,hk⟩:=x.done;have noA:∀ b:Addr,b ∉ (BI CX P w K mg base N qual scope f cd A outer s H E).ex:=fun b z=>absurd (show b ∈ ([]:List Addr) from z) (by simp)
 refine ⟨⟨e0.mod,S.kind,rfl,rfl,Nat.le_refl _,fun y z c h1 h2=>?_,fun y hy=>?_,fun y c _ h=>?_,fun _=>hd,Around.frames_deeper e0.frames,.inr ⟨rfl,rfl⟩,fun b z=>absurd z (noA b),e0.bs,e0.bsz,fun b _ _=>noA b,fun b z=>absurd z (noA b),e0.funs,e0.frf⟩,
  rfl,e0.bare,Un.kept hk,⟨_,x.toInCall.ns,fun i y v h1 h2 h3=>?_⟩,fun y c h=>⟨_,x.cell y c h⟩,e0.hok.fresh (Nat.le_refl _),fun y c h=>?_,fun p hp=>absurd (show p ∈ ([]:LO) from hp) (by simp),e0.hok.kept hk,?_⟩
 ·exact name_of_addr x.apart (PySem.mem_of_lookup h1) (PySem.mem_of_lookup h2)
 ·have hy:scope.names.lookup y=some .cell\/scope.names.lookup y=some .free:=hy;rcases hy with hy | hy
  ·exact Jz hy
  ·exact absurd rfl (S.nofree _ (PySem.mem_of_lookup hy))
 ·exact Nat.le_of_lt (x.above y c (PySem.mem_of_lookup h))
 ·have hi:i < vs.length:=by
   unfold Bm at h2;by_cases hi:i < vs.length
   ·exact hi
   ·rw [List.getElem?_append_right (by simpa using hi)] at h2;rw [List.getElem?_replicate] at h2;split at h2 <;> cases h2
  have ha:vs[i]?=some v:=by
   unfold Bm at h2;rw [List.getElem?_append_left (by simpa using hi),getElem?_map] at h2;cases e:vs[i]? with
   | none=>rw [e] at h2; cases h2
   | some a=>rw [e] at h2; cases h2; rfl
  obtain ⟨u,hu,rv⟩:=r.get ha
  have hp:ps[i]?=some y:=by
   rw [← S.pre,List.getElem?_take_of_lt (by omega)]; exact h1
  have ndP:ps.Nodup:=by rw [← S.pre]; exact S.nd.sublist (List.take_sublist _ _)
  refine ⟨u,rv,?_⟩;rcases S.par y (mem_of_getElem? hp) with k | k
  ·exact .inl ⟨k,IG ndP hp hu k⟩
  ·obtain ⟨c,e⟩:=Jz (n:=s.heap.objs.size + 1) k;refine .inr ⟨.inl k,c,e,?_⟩;have q:=x.cell y c e;rw [IH ndP hp hu (by show scope.names.lookup y ≠ _; rw [k]; decide)] at q;exact q
 ·exact e0.hok.fresh (Nat.le_of_lt (x.above y c (PySem.mem_of_lookup h)))
 ·unfold Bm;show _=N.length;rw [length_append,AI,List.length_replicate];omega
theorem Mb {CX:CXT} {k:Nat} {name qual:Str} {params:Arguments} {body:List Stmt} {scope:Scope} {dV kV doc pm ad ct oc:Value} {an od:Option Addr}
  {osl:Array (Option Value)} {N ps:List Str} {sp:Sp} (lk:K.lookup f=some ⟨oc,od,.func (W.fnOf name qual params body scope dV kV doc pm an ad ct),osl⟩) (hcd:W.codeIn K ad qual=true) (S:AR N ps scope)
  (len:∀ vs H Q E,sp vs H Q E->vs.length=ps.length)
  (bc:∀ (A:Around) (outer:List Env) (s:Shared) (H:Hp) (vs:List V) (Q:VK) (E:XK),Room k (A.deeper (envOfC qual scope s.heap.objs.size f ad))->sp vs H Q E ->
   ∃ t,PSs (BI CX P w K mg base N qual scope f ad A outer s H E) body t/\t { nx:=fun _ H'=>Q .non H',rt:=Q } (Bm N vs) H) :
  Aj P w K mg base CX (k + 1) f (W.fnOf name qual params body scope dV kV doc pm an ad ct) ps sp:=by
 refine ⟨len,fun A outer s H args us vs Q E hr e0 hb r hsp=>?_⟩;have hl:=len _ _ _ _ hsp;have KX:K.In s.heap:=e0.mod.kin.keeps fun b o e=>(e0.bs b o e).1;have lim:s.heap.NoLimit:=e0.mod.nolimit.keeps fun b o e=>(e0.bs b o e).1
 have hkind:∀ y ∈ ps.zip us,scope.names.lookup y.1=some .local\/(scope.names.lookup y.1=some .cell/\((cellsFrom (s.heap.objs.size + 1) scope.names []).lookup y.1).isSome=true):=fun ⟨n,v⟩ hy=>by
  rcases S.par n (of_mem_zip hy).1 with q | q
  ·exact .inl q
  ·exact .inr ⟨q,W.cellsFrom_some _ _ _ (.inl q)⟩
 refine codeAny_call_function hr.depth (KX _ _ lk) rfl S.co S.gen rfl (W.codeRec_of KX hcd) (hb _ _ _ _ ?_);refine wpAny_newFunctionEnv_cells S.kind hkind fun env he s1 x=>?_;subst he;refine ⟨lim.keeps x.toInCall.keep,codeAny_func ?_⟩;obtain ⟨t,ht,hq⟩:=bc A outer s H vs Q E (hr.deeper _) hsp;have I:Inv (BI CX P w K mg base N qual scope f ad A outer s H E) [] (Bm N vs) H s1:=FU S hr.hd e0 hl r x;refine wpAny_mono (ht [] s1 (Bm N vs) H _ I hq) (fun fl s' hs=>?_) fun e s' hs=>hs
 have fin:∀ {σ':St} {H':Hp} {v:V} {u:Value},Inv (BI CX P w K mg base N qual scope f ad A outer s H E) [] σ' H' s'->RelV v u->Q v H'->CE outer P w H s Q u s' :=
  fun {σ' H' v u} J rv q=>⟨v,H',J.os,J.bare,J.base,J.hok,rv,q⟩
 cases fl with
 | ret u =>
  obtain ⟨v,σ',H',J,rv,q⟩:=hs;exact fin J rv q
 | next =>
  obtain ⟨σ',H',J,q⟩:=hs;exact fin (v:=V.non) (u:=Value.none) J rfl q
 | brk =>
  obtain ⟨_,_,_,q⟩:=hs;exact False.elim q
 | cont =>
  obtain ⟨_,_,_,q⟩:=hs;exact False.elim q
end L2
namespace L2
open PySem PySem.Spec PyProof.Rows
section
variable {p:Pos} {es:List Expr} {t:TA} {id T:String} {r:List V->Hp->VK->Prop}
def tCB (r:List V->Hp->VK->Prop) (t:TA):TE:=fun σ H Q=>t σ H fun vs H1=>r vs H1 Q
theorem AS (hc:Bb X (.builtin id) r) (hg:Gl X x) (hm:X.mg x=none) (hv:bootBuiltins x=some (.builtin id)) (ha:PA X (e :: es) t) (hn:x ≠ "__name__" := by decide) (hdb:(x == ("__debug__" : Str))=false:=by decide)
  (he:starEach (e :: es) X.env=(false,eval e X.env) :: starEach es X.env:=by rfl) (hpl:(backTo pos (starEach es X.env)).any (·.1)=false:=by rfl):PE X (.Call (.Name x p) (e :: es) [] pos) (tCB r t):=by
 intro aa s σ H Q I h;refine wpAny_Call_Name_kw (D8 I hg hm hv ?_ hn hdb);exact PyProof.Rows.callWith_builtin1 (thn (ha pos aa s σ H _ I h) fun us s1 ⟨vs,H1,I1,r1,q1⟩=>hc aa s1 σ H1 vs us Q I1 r1 q1) he hpl
theorem BP (hc:Bb X (.type T) r) (hg:Gl X x) (hm:X.mg x=none) (hv:bootBuiltins x=some (.type T)) (ha:PA X (e :: es) t) (hn:x ≠ "__name__" := by decide) (hdb:(x == ("__debug__" : Str))=false:=by decide)
  (he:starEach (e :: es) X.env=(false,eval e X.env) :: starEach es X.env:=by rfl) (hpl:(backTo pos (starEach es X.env)).any (·.1)=false:=by rfl):PE X (.Call (.Name x p) (e :: es) [] pos) (tCB r t):=by
 intro aa s σ H Q I h;refine wpAny_Call_Name_kw (D8 I hg hm hv ?_ hn hdb);exact PyProof.Rows.callWith_type1 (thn (ha pos aa s σ H _ I h) fun us s1 ⟨vs,H1,I1,r1,q1⟩=>hc aa s1 σ H1 vs us Q I1 r1 q1) he hpl
end
end L2
namespace HT
open PySem PyProof.Rows
section
variable {prog:Program} {s:Shared}
theorem cat_tup {t b:Addr} {vs ws:List Value} {Q:VS} (ht:IsTup s.heap t vs.toArray) (hb:IsTup s.heap b ws.toArray) (hv:vs ≠ [])
  (h1:ws=[]->Q (.ref t) s) (h2:ws ≠ []->Q (.ref s.heap.objs.size) { s with heap:=s.heap.push { cls:=.type "tuple", data:=.seq (vs++ws).toArray } })
  (hsz:vs.length + ws.length <= sizeLine):wpAny (model prog w) A (binaryOp .Add (.ref t) (.ref b)) Q E s:=by
 obtain ⟨⟨cls,dd,data,sl⟩,ho,hc,n,hd⟩:=id ht;obtain ⟨⟨cls2,dd2,data2,sl2⟩,ho2,hc2,n2,hd2⟩:=id hb;simp only at hc hd hc2 hd2;subst hc hd hc2 hd2;have e:vs.toArray++ws.toArray=(vs++ws).toArray:=by simp
 by_cases hw:ws=[]
 ·exact concat_meets ⟨_,ho,rfl⟩ ⟨_,ho2,rfl⟩ noFill_tuple_add seq_tuple_add PySem.F.slot_tuple_add PySem.F.entry_tuple_add (PySem.F.args_tuple_add_2 _ _)
   (tuple_addW1 t b vs.toArray ws.toArray n n2 dd dd2 sl sl2 (by simpa using hv) (by simp [hw])) ⟨ho,ho2,h1 hw⟩
 ·refine concat_meets ⟨_,ho,rfl⟩ ⟨_,ho2,rfl⟩ noFill_tuple_add seq_tuple_add PySem.F.slot_tuple_add PySem.F.entry_tuple_add (PySem.F.args_tuple_add_2 _ _)
   (tuple_addW2 t b vs.toArray ws.toArray n n2 dd dd2 sl sl2 (by simpa using hv) (by simpa using hw) (by rw [size_toArray,size_toArray]; exact hsz)) ⟨ho,ho2,?_⟩
  rw [e];exact h2 hw
noncomputable def sIx (n d:Nat):Option Int->Nat
 | none=>d
 | some v=>if v < 0 then (v + (n:Int)).toNat else min v.toNat n
end
end HT
namespace L2
open PySem PySem.Spec PyProof.Rows
abbrev TO:=St->Hp->(Option Int->Hp->Prop)->Prop
def PO (X:Cx) (e:Option Expr) (t:TO):Prop :=
 ∀ (aa:LO) (s:Shared) (σ:St) (H:Hp) (Q:Option Int->Hp->Prop),Inv X aa σ H s->t σ H Q ->
  wpAny (model X.prog X.w) X.A (evalPart e X.env) (fun u s'=>∃ o H',Inv X aa σ H' s'/\IsPart u o/\Q o H') X.xe s
def Qm:TO:=fun _ H Q=>Q none H
def Tj (t:TE):TO:=fun σ H Q=>t σ H fun x H1=>∃ i,x=.int i/\Q (some i) H1
theorem Cb {ns:List Int}:∀ {us:List Value},Vals (ns.map V.int) us->IntsAre us ns:=by
 induction ns with
 | nil=>intro us r; rw [map_nil] at r; cases r; exact .nil
 | cons n ns ih =>
  intro us r;rw [map_cons] at r;cases r with
  | cons r1 r2 =>
   obtain ⟨t,e⟩:=r1;subst e;exact .cons n t (ih r2)
section
variable {lo hi:Option Expr} {tl th:TO} {p2:Pos}
theorem Mc:PO X none Qm:=by
 intro aa s σ H Q I h;rw [evalPart_none];exact wpAny_pure ⟨none,H,I,.none,h⟩
theorem Md (h:PE X e te):PO X (some e) (Tj te):=by
 intro aa s σ H Q I hw;rw [evalPart_some];refine thn (h aa s σ H _ I hw) fun u s1 ⟨x,H1,I1,r1,q1⟩=>?_;obtain ⟨i,rfl,q⟩:=q1;obtain ⟨t,rfl⟩:=r1;exact ⟨some i,H1,I1,.int i t,q⟩
def SlR (X:Cx) (r:V->Option Int->Option Int->Hp->VK->Prop):Prop :=
 ∀ (aa:LO) (s:Shared) (σ:St) (H:Hp) (x:V) (v vl vu:Value) (lo hi:Option Int) (sl:Addr) (Q:VK),Inv X aa σ H s->RelV x v->s.heap.IsSliceOf sl vl vu .none->IsPart vl lo->IsPart vu hi->r x lo hi H Q ->
  ∃ T id,typeLookup (.type T) "__getitem__" = pure (some (.builtin id))/\s.TypeIs v T/\wpAny (model X.prog X.w) X.A (getItem v (.ref sl)) (EP X aa σ Q) X.xe s
def tSl (r:V->Option Int->Option Int->Hp->VK->Prop) (te:TE) (tl th:TO):TE:=fun σ H Q=>te σ H fun x H1=>tl σ H1 fun l H2=>th σ H2 fun u H3=>r x l u H3 Q
theorem J0 {r:V->Option Int->Option Int->Hp->VK->Prop} (hr:SlR X r) (he:PE X e te) (hl:PO X lo tl) (hu:PO X hi th):PE X (.Subscript e (.Slice lo hi none p2) pos) (tSl r te tl th):=by
 intro aa s σ H Q I h;refine Subscript_ (thn (he aa s σ H _ I h) fun v s1 ⟨x,H1,I1,r1,q1⟩=>?_);refine wpAny_Slice (thn (hl aa s1 σ H1 _ I1 q1) fun vl s2 ⟨l,H2,I2,pl,q2⟩=>thn (hu aa s2 σ H2 _ I2 q2) fun vu s3 ⟨u,H3,I3,pu,q3⟩=>?_);rw [evalPart_none];refine wpAny_pure ?_;have I4:Inv X aa σ H3 { s3 with heap:=s3.heap.push { cls:=.type "slice", data:=.fields #[vl,vu,.none] } }:=I3.kept (t':=s3.toks) fun b ob q=>get?_push_of_some _ q;obtain ⟨T,id,hT,ht,hg⟩:=hr aa { s3 with heap:=s3.heap.push { cls:=.type "slice", data:=.fields #[vl,vu,.none] } } σ H3 x v vl vu l u s3.heap.objs.size Q I4 r1 (Heap.IsSliceOf.new ..) pl pu q3;show wpAny (model X.prog X.w) X.A (subscriptTail e (.Slice lo hi none p2) v (.ref s3.heap.objs.size)) (EP X aa σ Q) X.xe { s3 with heap:=s3.heap.push { cls:=.type "slice", data:=.fields #[vl,vu,.none] } };exact tail_any (ops:=[.ref s3.heap.objs.size,v]) ht hT hg (by with_unfolding_all rfl)
noncomputable def Ho (xs:List V) (lo hi:Option Int):List V:=(xs.drop (HT.sIx xs.length 0 lo)).take (HT.sIx xs.length xs.length hi - HT.sIx xs.length 0 lo)
theorem J1 (xs:List V) (lo hi:Option Int):(Ho xs lo hi).length <= xs.length:=by
 unfold Ho;rw [length_take,List.length_drop];omega
def Me (K:FG):R2:=fun x y H Q=>∃ a b xs ys,x=.ref a/\y=.ref b/\SqT K H a xs/\SqT K H b ys/\xs ≠ []/\xs.length + ys.length <= sizeLine /\
 (ys=[]->Q (.ref a) H)/\(ys ≠ []->∀ p,H p=none->Q (.ref p) (upd H p (.tup (xs++ys))))
theorem Vals.nil_iff (r:Vals xs us):us=[] ↔ xs=[]:=by
 cases r with
 | nil=>simp
 | cons _ _=>simp
theorem Qn:OpR X (binaryOp .Add) (Me X.K):=by
 intro aa s σ H x y v u Q I rx ry h;obtain ⟨a,b,xs,ys,rfl,rfl,ha,hb,hx,hz,q1,q2⟩:=h;cases rx;cases ry;obtain ⟨its,r1,p1,_⟩:=I.tuple ha;obtain ⟨its2,r2,p2,_⟩:=I.tuple hb;refine HT.cat_tup p1 p2 (fun z=>hx (r1.nil_iff.mp z)) (fun z=>⟨.ref a,H,I,rfl,q1 (r2.nil_iff.mp z)⟩) (fun z=>?_) (by rw [← r1.length,← r2.length]; exact hz);refine ⟨.ref s.heap.objs.size,_,I.laid (t':=s.toks) (o:=.tup (xs++ys)) (fun b ob q=>get?_push_of_some _ q) (Nat.le_refl _) ?_,rfl,q2 (fun w=>z (r2.nil_iff.mpr w)) _ (I.hok.fresh (Nat.le_refl _))⟩;exact ⟨by rw [length_append]; exact hz,_,r1.append r2,IsTup.new _ _⟩
end
end L2
namespace L2
open PySem PySem.Spec PyProof.Rows
noncomputable def ixN (n:Nat) (i:Int):Option Nat:=if 0 <= i then (if i < n then some i.toNat else none) else if -(n:Int) <= i then some (i + n).toNat else none
noncomputable def atI {α:Type} (xs:List α) (i:Int):Option α:=(ixN xs.length i).bind fun j=>xs[j]?
theorem Mf {n:Nat} {i:Int} {j:Nat} (h:ixN n i=some j):seqIndex? i n=some j/\j < n/\-(n:Int) <= i/\i < n:=by
 unfold ixN at h;by_cases h0:0 <= i
 ·rw [if_pos h0] at h;by_cases h1:i < n
  ·rw [if_pos h1] at h;have e:i.toNat=j:=Option.some.inj h;exact ⟨by rw [seqIndex_of h0 h1,e],by omega,by omega,h1⟩
  ·rw [if_neg h1] at h; cases h
 ·rw [if_neg h0] at h;by_cases h1:-(n:Int) <= i
  ·rw [if_pos h1] at h;have e:(i + n).toNat=j:=Option.some.inj h;exact ⟨by rw [seqIndex_neg (by omega) h1,e],by omega,h1,by omega⟩
  ·rw [if_neg h1] at h; cases h
theorem Mg {α:Type} {xs:List α} {i:Int} {v:α} (h:atI xs i=some v):∃ j,seqIndex? i xs.length=some j/\xs[j]?=some v/\j < xs.length/\-(xs.length:Int) <= i/\i < xs.length:=by
 unfold atI at h;cases e:ixN xs.length i with
 | none=>rw [e] at h; cases h
 | some j =>
  rw [e] at h;obtain ⟨h1,h2,h3,h4⟩:=Mf e;exact ⟨j,h1,h,h2,h3,h4⟩
theorem CS {α:Type} {xs:List α} {j:Nat} {v:α} (h:xs[j]?=some v):atI xs (j:Int)=some v:=by
 have hj:j < xs.length:=(List.getElem?_eq_some_iff.mp h).1
 have e:ixN xs.length (j:Int)=some j:=by
  unfold ixN;rw [if_pos (by omega),if_pos (by omega)]; simp
 unfold atI; rw [e]; exact h
def Qo (b:Expr):Prop:=∀ o i,subscripted b false o i=operate [o,i] (getItem o i)
def IxR (X:Cx) (r:R2):Prop :=
 ∀ (value slice:Expr) (aa:LO) (s:Shared) (σ:St) (H:Hp) (x y:V) (v u:Value) (Q:VK),Inv X aa σ H s->RelV x v->RelV y u->r x y H Q ->
  subscripted slice false v u=operate [v,u] (getItem v u)->wpAny (model X.prog X.w) X.A (subscriptTail value slice v u) (EP X aa σ Q) X.xe s
def MtR (X:Cx) (id:String) (r:V->List V->Hp->VK->Prop):Prop :=
 ∀ (aa:LO) (s:Shared) (σ:St) (H:Hp) (x:V) (xs:List V) (v:Value) (us:List Value) (Q:VK),Inv X aa σ H s->RelV x v->Vals xs us->r x xs H Q ->
  wpAny (model X.prog X.w) X.A (call (.builtin id) (v :: us)) (EP X aa σ Q) X.xe s
section
variable {a b:Expr} {ta tb:TE}
theorem Bq {r:R2} (hr:IxR X r) (ha:PE X a ta) (hb:PE X b tb) (hs:Qo b):PE X (.Subscript a b pos) (tOp r ta tb):=by
 intro aa s σ H Q I h;exact Subscript_ (SJ ha hb I h fun v u s2 x y H2 I2 rx ry q=>hr a b aa s2 σ H2 x y v u Q I2 rx ry q (hs _ _))
def Tl (K:FG):R2:=fun x y H Q=>∃ p xs i v,x=.ref p/\y=.int i/\SqL K H p xs/\atI xs i=some v/\Q v H
def Tm (K:FG):R2:=fun x y H Q=>∃ p xs i v,x=.ref p/\y=.int i/\SqT K H p xs/\atI xs i=some v/\Q v H
theorem Qp:IxR X (Tl X.K):=by
 intro value slice aa s σ H x y v u Q I rx ry h hs;obtain ⟨p,xs,i,z,rfl,rfl,hq,he,q⟩:=h;cases rx;obtain ⟨t,rfl⟩:=ry;obtain ⟨its,r,pl,hz⟩:=I.list hq;obtain ⟨j,h1,h2,h3,h4,h5⟩:=Mg he;obtain ⟨w,ew,rw'⟩:=r.get h2;have hl:=r.length;have hn:=Gi;have fin:EP X aa σ Q w s:=⟨z,H,I,rw',q⟩;by_cases h0:0 <= i
 ·have hj:i.toNat=j:=by
   rw [seqIndex_of h0 h5] at h1;exact Option.some.inj h1
  exact item_listR pl.isList h0 (by omega) (by rw [hj]; simpa using ew) fin hs
 ·have hj:(i + (its.toArray.size:Int)).toNat=j:=by
   rw [seqIndex_neg (by omega) h4] at h1;rw [size_toArray,← hl];exact Option.some.inj h1
  exact subscriptTail_builtinR (x:=w) pl.isList.typeIs slot_list_getitem.lookup
   (wpAny_getItem_list_neg (Q:=fun r s'=>r=w/\EP X aa σ Q r s') pl.isList (by omega) (by rw [size_toArray] <;> omega) (by omega) (by rw [hj]; simpa using ew) ⟨rfl,fin⟩) hs
theorem SO:IxR X (Tm X.K):=by
 intro value slice aa s σ H x y v u Q I rx ry h hs;obtain ⟨p,xs,i,z,rfl,rfl,hq,he,q⟩:=h;cases rx;obtain ⟨t,rfl⟩:=ry;obtain ⟨its,r,pl,hz⟩:=I.tuple hq;obtain ⟨j,h1,h2,h3,h4,h5⟩:=Mg he;obtain ⟨w,ew,rw'⟩:=r.get h2;have hl:=r.length;have hn:=Gi;have fin:EP X aa σ Q w s:=⟨z,H,I,rw',q⟩
 exact subscriptTail_builtinR (x:=w) pl.typeIs slot_tuple_getitem.lookup
  (getItem_tuple (j:=j) (Q:=fun r s'=>r=w/\EP X aa σ Q r s') pl (by omega) (by omega) (by rw [size_toArray,← hl]; exact h1) (by simpa using ew) ⟨rfl,fin⟩) hs
theorem LP (its:List Value) (n j:Nat) (u:Value):Obj.mapSeq (·.setIfInBounds j u) { cls:=.type "list", data:=.seq its.toArray n }={ cls:=.type "list", data:=.seq (its.set j u).toArray n }:=by
 simp [Obj.mapSeq]
theorem Inv.lst {aa:LO} {σ:St} {H:Hp} {s:Shared} {p:Addr} {xs:List V} (I:Inv X aa σ H s) (h:H p=some (.lst xs)) :
  ∃ (its:List Value) (n:Nat),Vals xs its/\s.heap.get? p=some { cls:=.type "list", data:=.seq its.toArray n }/\xs.length <= sizeLine:=by
 obtain ⟨z,its,n,r,e⟩:=I.hok p _ h;exact ⟨its,n,r,e,z⟩
theorem Inv.lstUpd {s:Shared} {p:Addr} {ys:List V} {its its':List Value} {n n':Nat} {f:Obj->Obj} (I:Inv X aa σ H s) (h:H p=some (.lst xs))
  (ho:s.heap.get? p=some { cls:=.type "list", data:=.seq its.toArray n }) (hf:f { cls:=.type "list", data:=.seq its.toArray n }={ cls:=.type "list", data:=.seq its'.toArray n' }) (r:Vals ys its') (hz:ys.length <= sizeLine) (t:Nat) :
  Inv X aa σ (upd H p (.lst ys)) { s with heap:=s.heap.update p f,toks:=t }:=by
 have e:(s.heap.update p f).get? p=some { cls:=.type "list", data:=.seq its'.toArray n' }:=by
  rw [get?_update_self f ho (by rw [hf] <;> rfl),hf]
 refine I.write (x:=p) (e:=p) (by rw [h]; trivial) (.inl rfl) (fun b u hb q=>(get?_update_other _ _ (Ne.symm hb)).trans q) ⟨_,e⟩ ?_;exact ⟨hz,its',n',r,e⟩
def Tn:V->V->V->Hp->(Hp->Prop)->Prop:=fun o i v H Q=>∃ p xs k j,o=.ref p/\i=.int k/\H p=some (.lst xs)/\ixN xs.length k=some j/\Q (upd H p (.lst (xs.set j v)))
theorem J3:TZ X Tn:=by
 intro aa s σ H o i v ov iv u Q I ro ri rv h;obtain ⟨p,xs,k,j,rfl,rfl,hp,hj,q⟩:=h;cases ro;obtain ⟨t,rfl⟩:=ri;obtain ⟨its,n,r,ho,hz⟩:=I.lst hp;obtain ⟨h1,h2,h3,h4⟩:=Mf hj;have hl:=r.length;have hn:=Gi
 have I':Inv X aa σ (upd H p (.lst (xs.set j v))) { s with heap:=s.heap.update p (Obj.mapSeq (·.setIfInBounds j u)) } :=
  I.lstUpd hp ho (LP its n j u) (r.set rv j) (by rw [List.length_set]; exact hz) s.toks
 by_cases h0:0 <= k
 ·have hk:k.toNat=j:=by
   rw [seqIndex_of h0 h4] at h1;exact Option.some.inj h1
  exact W.ki_setAt ho h0 (by omega) (by rw [size_toArray,← hl]; exact h4) (by rw [hk]; exact ⟨_,I',q⟩)
 ·have hk:(k + (its.toArray.size:Int)).toNat=j:=by
   rw [seqIndex_neg (by omega) h3] at h1;rw [size_toArray,← hl];exact Option.some.inj h1
  exact W.ki_setBack ho (by omega) (by rw [size_toArray,← hl]; exact h3) (by omega) (by rw [hk]; exact ⟨_,I',q⟩)
theorem JJ (lo hi:Option Int) (n:Nat):(sliceBounds lo hi none n).1=((HT.sIx n 0 lo:Nat):Int)/\(sliceBounds lo hi none n).2.1=((HT.sIx n n hi:Nat):Int)/\(sliceBounds lo hi none n).2.2=1:=by
 refine ⟨?_,?_,rfl⟩
 ·cases lo with
  | none=>simp [sliceBounds,HT.sIx]
  | some i =>
   simp only [sliceBounds,HT.sIx,Option.getD_none,show (1:Int) > 0 by decide,if_true];by_cases h:i < 0
   ·simp only [h,if_true] <;> omega
   ·simp only [h,if_false] <;> omega
 ·cases hi with
  | none=>simp [sliceBounds,HT.sIx]
  | some i =>
   simp only [sliceBounds,HT.sIx,Option.getD_none,show (1:Int) > 0 by decide,if_true];by_cases h:i < 0
   ·simp only [h,if_true] <;> omega
   ·simp only [h,if_false] <;> omega
theorem Hq (its:List Value) (lo hi:Option Int):slicePick its.toArray lo hi none=((its.drop (HT.sIx its.length 0 lo)).take (HT.sIx its.length its.length hi - HT.sIx its.length 0 lo)).toArray:=by
 obtain ⟨h1,h2,h3⟩:=JJ lo hi its.toArray.size;unfold slicePick;rw [h1,h2,h3];simp only [sliceRange_one,pick_run,size_toArray] <;> rfl
def UV (K:FG):V->Option Int->Option Int->Hp->VK->Prop:=fun x lo hi H Q=>∃ a xs,x=.ref a/\SqL K H a xs/\∀ p,H p=none->Q (.ref p) (upd H p (.lst (Ho xs lo hi)))
theorem Mh:SlR X (UV X.K):=by
 intro aa s σ H x v vl vu lo hi sl Q I rx hs pl pu h;obtain ⟨a,xs,rfl,hx,q⟩:=h;cases rx;obtain ⟨its,r,ht,hz⟩:=I.list hx;have ay:=r.length;refine ⟨"list", _,slot_list_getitem.lookup,ht.isList.typeIs,?_⟩;refine wpAny_getItem_list_slice ht.isList hs pl pu .none (by simp) ?_ (by rw [size_toArray] <;> omega);rw [Hq,← ay];refine ⟨.ref s.heap.objs.size,_,I.laid (t':=s.toks) (o:=.lst (Ho xs lo hi)) (fun b ob q=>get?_push_of_some _ q) (Nat.le_refl _) ?_,rfl,q _ (I.hok.fresh (Nat.le_refl _))⟩;exact ⟨Nat.le_trans (J1 xs lo hi) hz,_,0,(r.drop (HT.sIx xs.length 0 lo)).take (HT.sIx xs.length xs.length hi - HT.sIx xs.length 0 lo),get?_push_size _ rfl⟩
noncomputable def Eo:V->Bool
 | .non=>true
 | .bl _=>true
 | .int _=>true
 | .str _=>true
 | _=>false
noncomputable def eqV:V->V->Bool
 | .non,.non=>true
 | .bl a,.bl b=>a == b
 | .bl a,.int b=>(if a then 1 else 0) == b
 | .int a,.bl b=>a == (if b then 1 else 0)
 | .int a,.int b=>a == b
 | .str a,.str b=>a == b
 | _,_=>false
theorem SQ {s:Shared} {y x:V} {v:Value} (ry:RelV y u) (rx:RelV x v) (fy:Eo y=true) (fx:Eo x=true):SeqAt.EqAt A s u v (eqV y x):=by
 cases y with
 | non =>
  cases ry;cases x with
  | non=>cases rx; exact SeqAt.EqAt.same _
  | bl b=>cases rx; exact SeqAt.EqAt.none_bool b
  | int b=>obtain ⟨t,rfl⟩:=rx; exact SeqAt.EqAt.none_int b t
  | str b=>obtain ⟨t,rfl⟩:=rx; exact SeqAt.EqAt.none_str b t
  | _=>exact absurd (show false=true from fx) Bool.false_ne_true
 | bl a =>
  cases ry;cases x with
  | non=>cases rx; exact SeqAt.EqAt.bool_none a
  | bl b=>cases rx; exact SeqAt.EqAt.bool_bool a b
  | int b=>obtain ⟨t,rfl⟩:=rx; exact SeqAt.EqAt.bool_int a b t
  | str b=>obtain ⟨t,rfl⟩:=rx; exact SeqAt.EqAt.bool_str a b t
  | _=>exact absurd (show false=true from fx) Bool.false_ne_true
 | int a =>
  obtain ⟨t',rfl⟩:=ry;cases x with
  | non=>cases rx; exact SeqAt.EqAt.int_none a t'
  | bl b=>cases rx; exact SeqAt.EqAt.int_bool a t' b
  | int b=>obtain ⟨t,rfl⟩:=rx; exact SeqAt.EqAt.int_int a t' b t
  | str b=>obtain ⟨t,rfl⟩:=rx; exact SeqAt.EqAt.int_str a t' b t
  | _=>exact absurd (show false=true from fx) Bool.false_ne_true
 | str a =>
  obtain ⟨t',rfl⟩:=ry;cases x with
  | non=>cases rx; exact SeqAt.EqAt.str_none a t'
  | bl b=>cases rx; exact SeqAt.EqAt.str_bool a t' b
  | int b=>obtain ⟨t,rfl⟩:=rx; exact SeqAt.EqAt.str_int a t' b t
  | str b=>obtain ⟨t,rfl⟩:=rx; exact SeqAt.EqAt.str_str a t' b t
  | _=>exact absurd (show false=true from fx) Bool.false_ne_true
 | _=>exact absurd (show false=true from fy) Bool.false_ne_true
noncomputable def eqU (x:V) (u:Value):Bool:=match u with
 | .none=>eqV .non x
 | .bool b=>eqV (.bl b) x
 | .int i _=>eqV (.int i) x
 | .str z _=>eqV (.str z) x
 | _=>false
theorem On {x y:V} (r:RelV y u) (f:Eo y=true):eqU x u=eqV y x:=by
 cases y with
 | non=>cases r; rfl
 | bl b=>cases r; rfl
 | int i=>obtain ⟨t,rfl⟩:=r; rfl
 | str z=>obtain ⟨t,rfl⟩:=r; rfl
 | _=>exact absurd (show false=true from f) Bool.false_ne_true
theorem Ep {x:V}:∀ {xs:List V} {us:List Value},Vals xs us->xs.all Eo=true->us.any (eqU x)=xs.any fun y=>eqV y x
 | _,_,.nil,_=>rfl
 | y :: xs,u :: us,.cons r t,f=>by
  rw [all_cons,Bool.and_eq_true] at f;rw [any_cons,any_cons,On r f.1,Ep t f.2]
theorem Db {A:Around} {s:Shared} {x:V} {v:Value} (rx:RelV x v) (fx:Eo x=true):∀ {xs:List V} {us:List Value},Vals xs us->xs.all Eo=true->∀ u ∈ us,SeqAt.EqAt A s u v (eqU x u)
 | _,_,.nil,_=>fun u hu=>by cases hu
 | y :: xs,u :: us,.cons r t,f=>fun u' hu=>by
  rw [all_cons,Bool.and_eq_true] at f;rcases mem_cons.mp hu with rfl | hu
  ·rw [On r f.1]; exact SQ r rx f.1 fx
  ·exact Db rx fx t f.2 u' hu
noncomputable def inV (x:V) (xs:List V):Bool:=xs.any fun y=>eqV y x
def rIn (K:FG) (neg:Bool):R2:=fun x y H Q=>∃ p xs,y=.ref p/\(SqL K H p xs\/SqT K H p xs)/\Eo x=true/\xs.all Eo=true/\Q (.bl (if neg then !inV x xs else inV x xs)) H
theorem C0:OpR X (compareOp .In) (rIn X.K false):=by
 intro aa s σ H x y v u Q I rx ry h;obtain ⟨p,xs,rfl,hq,fx,fs,q⟩:=h;cases ry;rcases hq with hq | hq
 ·obtain ⟨its,r,pl,hz⟩:=I.list hq;refine SeqAt.in_listAt (eqU x) pl.isList (fun w hw=>Db rx fx r fs w (by simpa using hw)) ⟨.bl _,H,I,rfl,?_⟩;rw [show its.toArray.any (eqU x)=its.any (eqU x) by simp,Ep r fs];exact q
 ·obtain ⟨its,r,pl,hz⟩:=I.tuple hq;refine SeqAt.in_tupleAt (eqU x) pl (fun w hw=>Db rx fx r fs w (by simpa using hw)) ⟨.bl _,H,I,rfl,?_⟩;rw [show its.toArray.any (eqU x)=its.any (eqU x) by simp,Ep r fs];exact q
theorem Er:OpR X (compareOp .NotIn) (rIn X.K true):=by
 intro aa s σ H x y v u Q I rx ry h;obtain ⟨p,xs,rfl,hq,fx,fs,q⟩:=h;cases ry;rcases hq with hq | hq
 ·obtain ⟨its,r,pl,hz⟩:=I.list hq;refine SeqAt.notIn_listAt (eqU x) pl.isList (fun w hw=>Db rx fx r fs w (by simpa using hw)) ⟨.bl _,H,I,rfl,?_⟩;rw [show its.toArray.any (eqU x)=its.any (eqU x) by simp,Ep r fs];exact q
 ·obtain ⟨its,r,pl,hz⟩:=I.tuple hq;refine SeqAt.notIn_tupleAt (eqU x) pl (fun w hw=>Db rx fx r fs w (by simpa using hw)) ⟨.bl _,H,I,rfl,?_⟩;rw [show its.toArray.any (eqU x)=its.any (eqU x) by simp,Ep r fs];exact q
theorem Es:Bb X (.builtin "len") (fun xs H Q=>∃ p ys,xs=[.ref p]/\(SqL X.K H p ys\/SqT X.K H p ys)/\Q (.int ys.length) H):=by
 intro aa s σ H xs us Q I r h;obtain ⟨p,ys,rfl,hq,q⟩:=h;obtain ⟨u,rfl,rx⟩:=CP r;cases rx;have hn:=Gi;rcases hq with hq | hq
 ·obtain ⟨its,r',pl,hz⟩:=I.list hq;have ay:=r'.length;exact Calls.call_len_list pl.isList (by simp only [size_toArray] <;> omega) ⟨.int ys.length,H,I.tok _,⟨s.toks + 1,by rw [size_toArray,ay]⟩,q⟩
 ·obtain ⟨its,r',pl,hz⟩:=I.tuple hq;have ay:=r'.length;exact len_tuple pl (by simp only [size_toArray] <;> omega) ⟨.int ys.length,H,I.tok _,⟨s.toks + 1,by rw [size_toArray,ay]⟩,q⟩
theorem JK:Bb X (.builtin "len") (fun xs H Q=>∃ z,xs=[.str z]/\z.length <= sizeLine/\Q (.int z.length) H):=by
 intro aa s σ H xs us Q I r h;obtain ⟨z,rfl,hz,q⟩:=h;obtain ⟨u,rfl,t,rfl⟩:=CP r;have hn:=Gi;exact len_str (by omega) ⟨.int z.length,H,I.tok _,⟨_,rfl⟩,q⟩
theorem Et:Bb X (.type "list") (fun xs H Q=>∃ p ys,xs=[.ref p]/\(SqL X.K H p ys\/SqT X.K H p ys)/\∀ l,H l=none->Q (.ref l) (upd H l (.lst ys))):=by
 intro aa s σ H xs us Q I r h;obtain ⟨p,ys,rfl,hq,q⟩:=h;obtain ⟨u,rfl,rx⟩:=CP r;cases rx
 have fin:∀ (its:List Value),Vals ys its->ys.length <= sizeLine->∀ (h':Heap) (c':Nat),(∀ b o',s.heap.get? b=some o'->h'.get? b=some o') ->
   h'.get? s.heap.objs.size=some { cls:=.type "list", dict:=none,data:=.seq its.toArray c',slots:=#[] }->EP X aa σ Q (.ref s.heap.objs.size) { s with heap:=h' }:=fun its r' hz h' c' kp e =>
  ⟨.ref s.heap.objs.size,_,I.laid (t':=s.toks) kp (Nat.le_refl _) (show ObjOk X.prog X.w _ h' _ (.lst ys) from ⟨hz,its,c',r',e⟩),rfl,q _ (I.hok.fresh (Nat.le_refl _))⟩
 rcases hq with hq | hq
 ·obtain ⟨its,r',pl,hz⟩:=I.list hq;have ay:=r'.length;obtain ⟨o,ho,hc,n,hd⟩:=pl.isList;exact call_list_seq p (.inl rfl) ho hc hd (fun h' c' kp e=>fin its r' hz h' c' kp e) (by simp only [size_toArray] <;> omega)
 ·obtain ⟨its,r',pl,hz⟩:=I.tuple hq;have ay:=r'.length;obtain ⟨o,ho,hc,n,hd⟩:=pl;exact call_list_seq p (.inr rfl) ho hc hd (fun h' c' kp e=>fin its r' hz h' c' kp e) (by simp only [size_toArray] <;> omega)
theorem Dz:Bb X (.type "tuple") (fun xs H Q=>∃ p ys,xs=[.ref p]/\((SqL X.K H p ys/\∀ l,H l=none->Q (.ref l) (upd H l (.tup ys)))\/(SqT X.K H p ys/\Q (.ref p) H))):=by
 intro aa s σ H xs us Q I r h;obtain ⟨p,ys,rfl,h⟩:=h;obtain ⟨u,rfl,rx⟩:=CP r;cases rx;rcases h with ⟨hq,q⟩ | ⟨hq,q⟩
 ·obtain ⟨its,r',pl,hz⟩:=I.list hq;have ay:=r'.length;refine call_tuple_list pl.isList (fun h' kp=>?_) (by simp only [size_toArray] <;> omega);have I1:Inv X aa σ H { s with heap:=h' }:=I.kept (t':=s.toks) kp
  have I2:Inv X aa σ (upd H h'.objs.size (.tup ys)) { s with heap:=h'.push { cls:=.type "tuple", data:=.seq its.toArray } } :=
   I1.laid (t':=s.toks) (fun b o e=>get?_push_of_some _ e) (Nat.le_refl _) (show ObjOk X.prog X.w _ _ _ (.tup ys) from ⟨hz,its,r',IsTup.new _ _⟩)
  exact ⟨.ref h'.objs.size,_,I2,rfl,q _ (I1.hok.fresh (Nat.le_refl _))⟩
 ·obtain ⟨its,r',pl,hz⟩:=I.tuple hq;exact call_tuple_same pl ⟨.ref p,H,I,rfl,q⟩
def tyV (K:FG) (T:String) (x:V) (H:Hp):Prop:=match x with
 | .str _=>T = "str"
 | .int _=>T = "int"
 | .ref p=>(T = "list" /\ ∃ xs,SqL K H p xs)\/(T = "tuple" /\ ∃ o,K.lookup p=some o/\o.cls=.type "tuple" /\ o.dict=none) \/
   (T = "dict" /\ ((∃ kvs,H p=some (.dK kvs))\/∃ kvs,H p=some (.dT kvs)))\/(T = "set" /\ ∃ S n,H p=some (.set S n))
 | _=>False
theorem Oo {s:Shared} {T:String} {x:V} {v:Value} (I:Inv X aa σ H s) (r:RelV x v) (ty:tyV X.K T x H) :
  s.TypeIs v T/\∀ a,v=.ref a->∃ ob,s.heap.get? a=some ob/\ob.dict=none:=by
 cases x with
 | str z =>
  obtain ⟨t,rfl⟩:=r;cases (show T = "str" from ty);exact ⟨typeIs_str s z t,fun _ e=>nomatch e⟩
 | int i =>
  obtain ⟨t,rfl⟩:=r;cases (show T = "int" from ty);exact ⟨typeIs_int s i t,fun _ e=>nomatch e⟩
 | ref p =>
  cases r;rcases ty with ⟨rfl,xs,hq⟩ | ⟨rfl,o,hk,hc,hd⟩ | ⟨rfl,hk⟩ | ⟨rfl,S,n,hk⟩
  ·obtain ⟨its,_,pl,_⟩:=I.list hq;refine ⟨pl.isList.typeIs,fun a e=>?_⟩;cases e;obtain ⟨o,n,e,c,hd,_⟩:=pl;exact ⟨o,e,hd⟩
  ·refine ⟨⟨o,I.kIn p o hk,hc⟩,fun a e=>?_⟩;cases e;exact ⟨o,I.kIn _ o hk,hd⟩
  ·have z:∃ o,s.heap.get? p=some o/\o.ExactDict:=by
    rcases hk with ⟨kvs,hk⟩ | ⟨kvs,hk⟩
    ·obtain ⟨_,_,_,_,o,_,_,e,ex,_⟩:=I.hok p _ hk;exact ⟨o,e,ex⟩
    ·obtain ⟨_,_,_,_,o,_,_,e,ex,_⟩:=I.hok p _ hk;exact ⟨o,e,ex⟩
   obtain ⟨o,e,ex⟩:=z;refine ⟨⟨o,e,ex.1⟩,fun a e2=>?_⟩;cases e2;exact ⟨o,e,ex.2.1⟩
  ·obtain ⟨o,_,_,_,e,ex,_⟩:=I.hok p _ hk;refine ⟨⟨o,e,ex.1⟩,fun a e2=>?_⟩;cases e2;exact ⟨o,e,ex.2.1⟩
 | _=>exact False.elim ty
def UW (K:FG) (T:String) (r:V->List V->Hp->VK->Prop) (to:TE):TE:=fun σ H Q=>to σ H fun x H1=>tyV K T x H1/\r x [] H1 Q
def tBM (K:FG) (T:String) (r:V->List V->Hp->VK->Prop) (to:TE) (t:TA):TE:=fun σ H Q=>to σ H fun x H1=>tyV K T x H1/\t σ H1 fun xs H2=>r x xs H2 Q
variable {o:Expr} {es:List Expr} {to:TE} {t:TA} {name:Str} {apos cpos:Pos} {T id:String} {r:V->List V->Hp->VK->Prop}
theorem SR (pa:PlainAttrs T) (slot:Slot T name id) (hty:typeOf (.builtin id)=pure (.type "method_descriptor")) (hm:MtR X id r) (ho:PE X o to)
  (bg:attributeBase o name X.env (eval o X.env)=eval o X.env:=by rfl) (bn:(apos.endLine == cpos.line)=true:=by rfl):PE X (.Call (.Attribute o name apos) [] [] cpos) (UW X.K T r to):=by
 intro aa s σ H Q I h;refine wpAny_Call_method0_late bg bn (thn (ho aa s σ H _ I h) fun v s1 ⟨x,H1,I1,r1,ty,q1⟩=>?_);obtain ⟨h1,h2⟩:=Oo I1 r1 ty;exact ⟨T,id,pa,slot,hty,h1,h2,Calls.callWith_builtin rfl (PySem.evalArgs_none (hm aa s1 σ H1 x [] v [] Q I1 r1 .nil q1))⟩
theorem Gm (pa:PlainAttrs T) (slot:Slot T name id) (hty:typeOf (.builtin id)=pure (.type "method_descriptor")) (hm:MtR X id r) (ho:PE X o to) (ha:PA X (e :: es) t)
  (bg:attributeBase o name X.env (eval o X.env)=eval o X.env:=by rfl)
  (hfew:((backTo cpos (starEach (e :: es) X.env)).all (fun x=>!x.1) && (backToKw cpos (keywordEach [] X.env)).all (fun x=>x.1.isSome)
   && decide ((e :: es).length + ([]:List Keyword).length + (if ([]:List Keyword).isEmpty then 0 else 1) < 30))=true:=by rfl)
  (bn:(apos.endLine == cpos.line)=true:=by rfl) (hs:starEach (e :: es) X.env=(false,eval e X.env) :: starEach es X.env:=by rfl) (hplain:(backTo cpos (starEach es X.env)).any (·.1)=false:=by rfl) :
  PE X (.Call (.Attribute o name apos) (e :: es) [] cpos) (tBM X.K T r to t):=by
 intro aa s σ H Q I h;refine wpAny_Call_method_late bg hfew bn rfl (thn (ho aa s σ H _ I h) fun v s1 ⟨x,H1,I1,r1,ty,q1⟩=>?_);obtain ⟨h1,h2⟩:=Oo I1 r1 ty;refine ⟨T,id,pa,slot,hty,h1,h2,?_⟩;have hA:=ha cpos aa s1 σ H1 _ I1 q1;rw [hs] at hA ⊢;refine Calls.callWith_builtin (by show (false || (backTo cpos (starEach es X.env)).any (·.1))=false; rw [hplain] <;> rfl) (Calls.evalArgs_plain ?_);exact thn hA fun us s2 ⟨vs,H2,I2,r2,q2⟩=>hm aa s2 σ H2 x vs v us Q I2 r1 r2 q2
end
end L2
namespace L2
open PySem PySem.Spec PyProof.Rows
def MtM (X:Cx) (id:String) (r:V->List V->Hp->VK->Prop):Prop :=
 ∀ (aa:LO) (s:Shared) (σ:St) (H:Hp) (x:V) (xs:List V) (v:Value) (us:List Value) (Q:VK),Inv X aa σ H s->RelV x v->Vals xs us->r x xs H Q ->
  wpAny (model X.prog X.w) X.A (call (.builtin id) (v :: us)) (EP X aa σ Q) X.xe s
theorem Vals.one:∀ {x:V} {us:List Value},Vals [x] us->∃ u,us=[u]/\RelV x u
 | _,_,.cons r .nil=>⟨_,rfl,r⟩
theorem Vals.rep {xs:List V} {us:List Value} (h:Vals xs us):∀ k:Nat,Vals (List.replicate k xs).flatten (List.replicate k us).flatten
 | 0=>.nil
 | k + 1=>by
  rw [replicate_succ,replicate_succ,flatten_cons,flatten_cons];exact Vals.append h (Vals.rep h k)
theorem II (its:List Value):∀ (k:Nat) (acc:List Value),
  List.foldl (fun x1 x2=>x1++x2) acc.toArray (List.replicate k its.toArray)=(acc++(List.replicate k its).flatten).toArray
 | 0,acc=>by simp
 | k + 1,acc=>by
  have e:acc.toArray++its.toArray=(acc++its).toArray:=by simp
  have e2:(acc++its)++(List.replicate k its).flatten=acc++(List.replicate (k + 1) its).flatten:=by
   rw [replicate_succ,flatten_cons,List.append_assoc]
  rw [← e2,← II its k (acc++its),← e,replicate_succ,foldl_cons]
section
variable {s:Shared} {l b:Addr} {ys zs:List V}
theorem Inv.lset {its its':List Value} {n:Nat} {f:Array Value->Array Value} {t':Nat} (I:Inv X aa σ H s) (hH:H l=some (.lst xs))
  (e:s.heap.get? l=some { cls:=.type "list", data:=.seq its.toArray n }) (hf:f its.toArray=its'.toArray) (hv:Vals ys its') (hz:ys.length <= sizeLine) :
  Inv X aa σ (upd H l (.lst ys)) { s with heap:=s.heap.update l (Obj.mapSeq f),toks:=t' }:=by
 have q:=PySem.IsL.update e f;rw [hf] at q;refine I.write (x:=l) (e:=l) (by rw [hH]; exact trivial) (.inl rfl) (fun b' u hb hu=>(get?_update_other s.heap (Obj.mapSeq f) (Ne.symm hb)).trans hu) ⟨_,q⟩ ?_;exact ⟨hz,its',_,hv,q⟩
theorem Inv.lnew {its:List Value} {t':Nat} (I:Inv X aa σ H s) (hv:Vals ys its) (hz:ys.length <= sizeLine) :
  Inv X aa σ (upd H s.heap.objs.size (.lst ys)) { s with heap:=s.heap.push { cls:=.type "list", data:=.seq its.toArray },toks:=t' } :=
 I.laid (fun _ _ q=>get?_push_of_some _ q) (Nat.le_refl _) ⟨hz,its,0,hv,get?_push_size _ rfl⟩
theorem Inv.fresh (I:Inv X aa σ H s):H s.heap.objs.size=none:=I.hok.fresh (Nat.le_refl _)
theorem Inv.lstM (I:Inv X aa σ H s) (hH:H l=some (.lst xs)):xs.length <= sizeLine/\∃ (its:List Value) (n:Nat),Vals xs its/\xs.length=its.length/\s.heap.get? l=some { cls:=.type "list", data:=.seq its.toArray n }:=by
 obtain ⟨z,its,n,r,e⟩:=I.hok l _ hH;exact ⟨z,its,n,r,r.length,e⟩
theorem Op {n:Nat} (h:n <= sizeLine):Builtin.List.listTooLong n=false:=by
 unfold Builtin.List.listTooLong;exact decide_eq_false (by omega)
end
section
def Qq:V->List V->Hp->VK->Prop:=fun x vs H Q=>∃ l xs y,x=.ref l/\vs=[y]/\H l=some (.lst xs)/\xs.length < sizeLine/\Q .non (upd H l (.lst (xs++[y])))
theorem C1:MtM X "list.append" Qq:=by
 intro aa s σ H x vs v us Q I rx rv h;obtain ⟨l,xs,y,rfl,rfl,hH,hz,q⟩:=h;cases rx;obtain ⟨u,rfl,ru⟩:=rv.one;obtain ⟨z,its,n,r,hl,e⟩:=I.lstM hH;refine call_meets F.slot_list_append ⟨_,e,rfl⟩ F.entry_list_append (F.args_list_append_2 _ _) (PySem.list_append l its.toArray n u (by rw [size_toArray]; omega)) ⟨e,?_⟩;refine ⟨.non,_,I.lset (its':=its++[u]) hH e (by simp) (r.append (.cons ru .nil)) ?_,rfl,q⟩;rw [length_append,length_singleton];omega
def To:R2:=fun x y H Q=>∃ l b xs zs,x=.ref l/\y=.ref b/\H l=some (.lst xs)/\H b=some (.lst zs)/\xs.length + zs.length <= sizeLine/\∀ p,H p=none->Q (.ref p) (upd H p (.lst (xs++zs)))
theorem CK:OpR X (binaryOp .Add) To:=by
 intro aa s σ H x y v u Q I rx ry h;obtain ⟨l,b,xs,zs,rfl,rfl,hH,hB,hz,q⟩:=h;cases rx;cases ry;obtain ⟨z,its,n,r,hl,e⟩:=I.lstM hH;obtain ⟨z2,its2,n2,r2,hl2,e2⟩:=I.lstM hB;refine PySem.P.add_list e e2 ?_ (by rw [size_toArray,size_toArray]; omega);have ea:its.toArray++its2.toArray=(its++its2).toArray:=by simp
 rw [ea];exact ⟨.ref _,_,I.lnew (t':=s.toks) (r.append r2) (by rw [length_append]; omega),rfl,q _ I.fresh⟩
def UX:R2:=fun x y H Q=>∃ l k xs,x=.ref l/\y=.int k/\H l=some (.lst xs)/\-(2 ^ 63) <= k/\k < 2 ^ 63/\xs.length * k.toNat <= sizeLine /\
 ∀ p,H p=none->Q (.ref p) (upd H p (.lst (List.replicate k.toNat xs).flatten))
theorem Qr {α:Type} (xs:List α) (k:Nat):(List.replicate k xs).flatten.length=k * xs.length:=by
 induction k with
 | zero=>simp
 | succ k ih=>rw [replicate_succ,flatten_cons,length_append,ih,Nat.succ_mul,Nat.add_comm]
theorem SS:OpR X (binaryOp .Mult) UX:=by
 intro aa s σ H x y v u Q I rx ry h;obtain ⟨l,k,xs,rfl,rfl,hH,h1,h2,hz,q⟩:=h;cases rx;obtain ⟨t,rfl⟩:=ry;obtain ⟨z,its,n,r,hl,e⟩:=I.lstM hH;have ay:its.toArray.size * k.toNat <= sizeLine:=by rw [size_toArray,← hl]; exact hz
 have hcap:¬ its.toArray.size * k.toNat > (2 ^ 63 - 1) / 8:=by
  have:(sizeLine:Nat) <= (2 ^ 63 - 1) / 8:=by decide
  omega
 have hfit:¬ (!Builtin.List.listFitsIndex k)=true:=by
  rw [fitsIndex_both h1 h2];exact Bool.false_ne_true
 have hlong:¬ Builtin.List.listTooLong (its.toArray.size * k.toNat)=true:=by
  rw [Op ay];exact Bool.false_ne_true
 have bo:List.foldl (fun x1 x2=>x1++x2) #[] (List.replicate (if its.toArray.isEmpty=true then 0 else k.toNat) its.toArray)=(List.replicate k.toNat its).flatten.toArray:=by
  have f0:∀ m:Nat,List.foldl (fun x1 x2=>x1++x2) #[] (List.replicate m its.toArray)=(List.replicate m its).flatten.toArray:=fun m=>by
   have:=II its m [];rw [List.nil_append] at this;exact this
  rw [f0];cases its with
  | nil=>simp
  | cons a r'=>rw [if_neg (by simp)]
 refine wpAny_binaryOp_repeat_ref (T := "list") (U := "int") (by decide) ⟨_,e,rfl⟩ (fun s'=>typeIs_int s' k t) noFill_list_mul F.fills_int_mul F.slot_int_rmul repeat_list F.slot_int_index.lookup
  (call_meets F.slot_int_rmul (typeIs_int s k t) F.entry_int_rmul (F.args_int_rmul_2 _ _) (int___rmul___int_list k t l its.toArray n)
   ⟨e,rfl,⟨_,e,rfl⟩,call_meets F.slot_list_mul ⟨_,e,rfl⟩ F.entry_list_mul (F.args_list_mul_2 _ _) (AutoListH.list___mul___list_int_3 l its.toArray n k t hfit hcap hlong) ⟨e,?_⟩⟩)
 rw [bo];exact ⟨.ref _,_,I.lnew (t':=s.toks) (r.rep k.toNat) (by rw [Qr,Nat.mul_comm]; exact hz),rfl,q _ I.fresh⟩
end
end L2
namespace L2
open PySem PySem.Spec PyProof.Rows
section
variable {κ:Type} [DecidableEq κ]
noncomputable def A7 (kvs:List (κ × V)) (k:κ):Option V:=(kvs.find? fun kv=>decide (kv.1=k)).map (·.2)
noncomputable def CG (kvs:List (κ × V)) (k:κ) (v:V):List (κ × V) :=
 if (kvs.any fun kv=>decide (kv.1=k))=true then kvs.map (fun kv=>if kv.1=k then (kv.1,v) else kv) else kvs++[(k,v)]
theorem C2 {p:κ × V} {r:List (κ × V)} {k:κ} (e:p.1=k):A7 (p :: r) k=some p.2:=by simp [A7,find?_cons,e]
theorem C3 {p:κ × V} {r:List (κ × V)} {k:κ} (e:¬ p.1=k):A7 (p :: r) k=A7 r k:=by simp [A7,find?_cons,e]
theorem Eu (k:κ):∀ kvs:List (κ × V),(kvs.any fun kv=>decide (kv.1=k))=(A7 kvs k).isSome
 | []=>rfl
 | p :: r=>by
  rw [any_cons];by_cases e:p.1=k
  ·simp only [C2 e,decide_eq_true e,Bool.true_or,Option.isSome_some]
  ·rw [C3 e,decide_eq_false e,Bool.false_or]; exact Eu k r
theorem CH (kvs:List (κ × V)) (k:κ) (v:V):(CG kvs k v).length <= kvs.length + 1:=by
 unfold CG;split
 ·rw [AI]; omega
 ·rw [length_append,length_cons,length_nil]; omega
theorem Gn {kvs:List (κ × V)} {k:κ} (v:V) (h:A7 kvs k=none):CG kvs k v=kvs++[(k,v)]:=by
 unfold CG;rw [Eu,h];exact if_neg (by decide)
theorem RelO.isSome_eq {o:Option V} {u:Option Value} (r:RelO o u):o.isSome=u.isSome:=by
 cases o with
 | none=>cases u with
  | none=>rfl
  | some _=>exact (show False from r).elim
 | some _=>cases u with
  | none=>exact (show False from r).elim
  | some _=>rfl
theorem KV.val {kvs:List (κ × V)} {vs:List (κ × Value)} (r:KV kvs vs) (k:κ):RelO (A7 kvs k) (valueAt vs k):=by
 unfold KV at r;induction r with
 | nil=>exact True.intro
 | @cons p q ps qs h t ih =>
  obtain ⟨h1,h2⟩:=h;by_cases e:p.1=k
  ·have e':q.1=k:=h1.symm.trans e;have b:valueAt (q :: qs) k=some q.2:=by simp [valueAt,find?_cons,e']
   rw [C2 e,b]; exact h2
  ·have e':¬ q.1=k:=fun z=>e (h1.trans z);have b:valueAt (q :: qs) k=valueAt qs k:=by simp [valueAt,find?_cons,e']
   rw [C3 e,b]; exact ih
theorem KV.any {kvs:List (κ × V)} {vs:List (κ × Value)} (r:KV kvs vs) (k:κ):(kvs.any fun kv=>decide (kv.1=k))=vs.any fun kv=>decide (kv.1=k):=by
 unfold KV at r;induction r with
 | nil=>rfl
 | cons h t ih=>rw [any_cons,any_cons,ih,h.1]
theorem KV.repl {kvs:List (κ × V)} {vs:List (κ × Value)} (r:KV kvs vs) (k:κ) {y:V} (ry:RelV y u) :
  KV (kvs.map fun kv=>if kv.1=k then (kv.1,y) else kv) (vs.map fun kv=>if kv.1=k then (kv.1,u) else kv):=by
 unfold KV at r ⊢;induction r with
 | nil=>exact .nil
 | @cons p q ps qs h t ih =>
  rw [map_cons,map_cons];refine .cons ?_ ih;obtain ⟨h1,h2⟩:=h;by_cases e:p.1=k
  ·rw [if_pos e,if_pos (h1.symm.trans e)]; exact ⟨h1,ry⟩
  ·rw [if_neg e,if_neg (fun z=>e (h1.trans z))]; exact ⟨h1,h2⟩
theorem KV.put {kvs:List (κ × V)} {vs:List (κ × Value)} (r:KV kvs vs) (k:κ) {y:V} (ry:RelV y u):KV (CG kvs k y) (stored vs k u):=by
 unfold CG stored;rw [r.any k];by_cases e:(vs.any fun kv=>decide (kv.1=k))=true
 ·rw [if_pos e,if_pos e]; exact r.repl k ry
 ·rw [if_neg e,if_neg e]; exact Paired.snoc r ⟨rfl,ry⟩
theorem KV.length {kvs:List (κ × V)} {vs:List (κ × Value)} (r:KV kvs vs):kvs.length=vs.length:=Paired.length r
end
theorem Fv {k:Key} (r:RelV (kV k) u):(Ar P w).is k u=true:=by
 cases k with
 | inl i=>obtain ⟨t,e⟩:=(show ∃ t,u=Value.int i t from r); subst e; exact Jv P w i t
 | inr x=>obtain ⟨t,e⟩:=(show ∃ t,u=Value.str x t from r); subst e; exact Jw P w x t
theorem IJ {P:Program} {w:World}:∀ {ks:List Key} {us:List Value},Vals (ks.map kV) us->ItemsAre (Ar P w) ks us
 | [],_,r=>by rw [map_nil] at r; cases r; exact .nil
 | k :: ks,_,r=>by
  rw [map_cons] at r;cases r with
  | cons h t=>exact .cons (Fv h) (IJ t)
abbrev KT (H:Hp):List (List Key × V)->List (List Key × Addr × Value)->Prop:=Paired fun p q=>p.1=q.1/\H q.2.1=some (.tup (p.1.map kV))/\RelV p.2 q.2.2
theorem KT.val {kvs:List (List Key × V)} {xs:List (List Key × Addr × Value)} (r:KT H kvs xs) (k:List Key):RelO (A7 kvs k) ((atKey xs k).map (·.2)):=by
 induction r with
 | nil=>exact True.intro
 | @cons p q ps qs h t ih =>
  obtain ⟨h1,_,h2⟩:=h;by_cases e:p.1=k
  ·have e':q.1=k:=h1.symm.trans e;have b:atKey (q :: qs) k=some q.2:=by simp [atKey,find?_cons,e']
   rw [C2 e,b]; exact h2
  ·have e':¬ q.1=k:=fun z=>e (h1.trans z);have b:atKey (q :: qs) k=atKey qs k:=by simp [atKey,find?_cons,e']
   rw [C3 e,b]; exact ih
theorem KT.repl {kvs:List (List Key × V)} {xs:List (List Key × Addr × Value)} (r:KT H kvs xs) (k:List Key) {y:V} (ry:RelV y u) :
  KT H (kvs.map fun kv=>if kv.1=k then (kv.1,y) else kv) (xs.map (putAt k u)):=by
 induction r with
 | nil=>exact .nil
 | @cons p q ps qs h t ih =>
  rw [map_cons,map_cons];refine .cons ?_ ih;obtain ⟨h1,h2,h3⟩:=h;unfold putAt;by_cases e:p.1=k
  ·rw [if_pos e,if_pos (h1.symm.trans e)]; exact ⟨h1,h2,ry⟩
  ·rw [if_neg e,if_neg (fun z=>e (h1.trans z))]; exact ⟨h1,h2,h3⟩
theorem KT.put {kvs:List (List Key × V)} {xs:List (List Key × Addr × Value)} (r:KT H kvs xs) (k:List Key) {b:Addr} {y:V} (hb:H b=some (.tup (k.map kV))) (ry:RelV y u) :
  KT H (CG kvs k y) (storedH xs k b u):=by
 have e:(kvs.any fun kv=>decide (kv.1=k))=(atKey xs k).isSome:=by
  rw [Eu,(r.val k).isSome_eq,Option.isSome_map]
 unfold CG storedH;rw [e];by_cases q:(atKey xs k).isSome=true
 ·rw [if_pos q,if_pos q]; exact r.repl k ry
 ·rw [if_neg q,if_neg q]; exact Paired.snoc r ⟨rfl,hb,ry⟩
theorem KT.keeps {kvs:List (List Key × V)} {xs:List (List Key × Addr × Value)} (r:KT H kvs xs) (ht:∀ b ys,H b=some (.tup ys)->H' b=some (.tup ys)):KT H' kvs xs :=
 Paired.mapP r fun _ _ z=>⟨z.1,ht _ _ z.2.1,z.2.2⟩
section
theorem Rv {u:HO} (ok:HOk P w H h) (e:Rd H a u):ObjOk P w H h a u:=e.ok ok
theorem Ev {kvs:LK} (ok:HOk P w H h) (e:Rd H a (.dK kvs)):kvs.length <= sizeLine/\(a == sysModules)=false/\∃ vs,KV kvs vs/\h.DictOf (Ar P w) a vs :=
 show ObjOk P w H h a (.dK kvs) from Rv ok e
theorem Mi {kvs:LK} (ok:HOk P w H h) (e:H a=some (.dK kvs)):kvs.length <= sizeLine/\(a == sysModules)=false/\∃ vs,KV kvs vs/\h.DictOf (Ar P w) a vs:=Ev ok (.inl e)
theorem Go {ks:List Key} (ok:HOk P w H h) (e:H a=some (.tup (ks.map kV))):(tupleKind (Ar P w)).is h ks a:=by
 obtain ⟨_,its,r,o,h1,h2,n,h3⟩:=(show ObjOk P w H h a (.tup (ks.map kV)) from ok a _ e);exact ⟨o,its.toArray,n,h1,h2,h3,by simpa using IJ r⟩
theorem IK {kvs:List (List Key × V)} (ok:HOk P w H h) (e:Rd H a (.dT kvs)):kvs.length <= sizeLine/\(a == sysModules)=false /\
  ∃ xs,KT H kvs xs/\h.DictOfH (tupleKind (Ar P w)) a xs:=by
 obtain ⟨z,y,xs,r,o,es,ep,h1,h2,h3,h4,h5⟩:=(show ObjOk P w H h a (.dT kvs) from Rv ok e);refine ⟨z,y,xs,r,o,es,ep,h1,h2,h3,h4,fun x hx=>?_,h5⟩
 have all:∀ {l:List (List Key × V)} {m:List (List Key × Addr × Value)},KT H l m->∀ x ∈ m,(tupleKind (Ar P w)).is h x.1 x.2.1:=by
  intro l m q;induction q with
  | nil=>intro x hx; exact nomatch hx
  | @cons p q ps qs hq t ih =>
   intro x hx;rcases mem_cons.mp hx with e | hx
   ·subst e;exact Go ok (by rw [← hq.1]; exact hq.2.1)
   ·exact ih x hx
 exact all r x hx
theorem Tp {kvs:List (List Key × V)} (ok:HOk P w H h) (e:H a=some (.dT kvs)):kvs.length <= sizeLine/\(a == sysModules)=false /\
  ∃ xs,KT H kvs xs/\h.DictOfH (tupleKind (Ar P w)) a xs:=IK ok (.inl e)
end
def JL (H:Hp) (a:Addr) (y:V) (r:Option V):Prop :=
 (∃ kvs k,Rd H a (.dK kvs)/\y=kV k/\r=A7 kvs k)\/∃ kvs k b,Rd H a (.dT kvs)/\y=.ref b/\H b=some (.tup (k.map kV))/\r=A7 kvs k
def DPut (H:Hp) (a:Addr) (y v:V) (H':Hp):Prop :=
 (∃ kvs k,H a=some (.dK kvs)/\y=kV k/\kvs.length < sizeLine/\H'=upd H a (.dK (CG kvs k v))) \/
 ∃ kvs k b,H a=some (.dT kvs)/\y=.ref b/\H b=some (.tup (k.map kV))/\kvs.length < sizeLine/\H'=upd H a (.dT (CG kvs k v))
theorem DPut.k {H:Hp} {a:Addr} {kvs:LK} {k:Key} {v:V} (e:H a=some (.dK kvs)) (hl:kvs.length < sizeLine):DPut H a (kV k) v (upd H a (.dK (CG kvs k v))):=.inl ⟨kvs,k,e,rfl,hl,rfl⟩
section
variable {s:Shared} {y v:V} {r:Value} {o:Option V}
theorem Inv.big (I:Inv X aa σ H s):sysModules < s.heap.objs.size:=by
 have h:mainGlobals < s.heap.objs.size:=(I.mod.glob.keeps I.bk).lt;exact Nat.lt_trans (by decide) h
theorem NZ {Q:VS} (hu:A.units + 1 < cLine) (I:Inv X aa σ H s) (g:JL H a y (some v)) (ry:RelV y u) (h:∀ w' s',Inv X aa σ H s'->RelV v w'->Q w' s') :
  wpAny (model X.prog X.w) A (getItem (.ref a) u) Q E s:=by
 rcases g with ⟨kvs,k,e,ey,l⟩ | ⟨kvs,k,b,e,ey,eb,l⟩
 ·subst ey;obtain ⟨z,hd,vs,rel,dd⟩:=Ev I.hok e;obtain ⟨w',hw,rw'⟩:=RelO.some_of (v:=v) (o:=valueAt vs k) (by rw [l]; exact rel.val k);exact wpAny_getItem_of (Fv ry) dd.mapOf hw (h w' _ (I.tok _) rw')
 ·subst ey;cases (show u=Value.ref b from ry);obtain ⟨z,hd,xs,rel,dd⟩:=IK I.hok e;obtain ⟨w',hw,rw'⟩:=RelO.some_of (v:=v) (o:=(atKey xs k).map (·.2)) (by rw [l]; exact rel.val k);obtain ⟨p,hp,ak⟩:=Option.map_eq_some_iff.mp hw;refine wpAny_getItem_heap (tupleKind_room_in1 hu) (Go I.hok eb) dd hp ?_;rw [ak];exact h w' _ (I.tok _) rw'
theorem UY {Q:VS} (hu:A.units + 1 < cLine) (I:Inv X aa σ H s) (g:JL H a y o) (ry:RelV y u) (h:∀ s',Inv X aa σ H s'->Q (.bool o.isSome) s') :
  wpAny (model X.prog X.w) A (compareOp .In u (.ref a)) Q E s:=by
 rcases g with ⟨kvs,k,e,ey,l⟩ | ⟨kvs,k,b,e,ey,eb,l⟩
 ·subst ey;obtain ⟨z,hd,vs,rel,dd⟩:=Ev I.hok e;refine wpAny_in_of (Fv ry) hd dd.mapOf ?_;rw [← (rel.val k).isSome_eq,← l];exact h _ (I.tok _)
 ·subst ey;cases (show u=Value.ref b from ry);obtain ⟨z,hd,xs,rel,dd⟩:=IK I.hok e;refine wpAny_in_heap (tupleKind_room_in1 hu) (Go I.hok eb) hd dd ?_;have q:=(rel.val k).isSome_eq;rw [Option.isSome_map] at q;rw [← q,← l];exact h _ (I.tok _)
theorem Qs {Q:VS} (hu:A.units + 1 < cLine) (I:Inv X aa σ H s) (g:JL H a y o) (ry:RelV y u) (h:∀ s',Inv X aa σ H s'->Q (.bool (!o.isSome)) s') :
  wpAny (model X.prog X.w) A (compareOp .NotIn u (.ref a)) Q E s:=by
 rcases g with ⟨kvs,k,e,ey,l⟩ | ⟨kvs,k,b,e,ey,eb,l⟩
 ·subst ey;obtain ⟨z,hd,vs,rel,dd⟩:=Ev I.hok e;refine wpAny_notIn_of (Fv ry) hd dd.mapOf ?_;rw [← (rel.val k).isSome_eq,← l];exact h _ (I.tok _)
 ·subst ey;cases (show u=Value.ref b from ry);obtain ⟨z,hd,xs,rel,dd⟩:=IK I.hok e;refine wpAny_notIn_heap (tupleKind_room_in1 hu) (Go I.hok eb) hd dd ?_;have q:=(rel.val k).isSome_eq;rw [Option.isSome_map] at q;rw [← q,← l];exact h _ (I.tok _)
theorem Ew {h':Heap} {t':Nat} {ob:HO} (I:Inv X aa σ H s) (mu:Mut (H a)) (hs:Heap.SameBut a s.heap h') (he:∃ q,h'.get? a=some q) (new:ObjOk X.prog X.w (upd H a ob) h' a ob) :
  Inv X aa σ (upd H a ob) { s with heap:=h',toks:=t' } :=
 I.write (x:=a) (e:=a) mu (.inl rfl) (fun b q hb z=>(hs.2 b hb).trans z) he new
theorem JM {h':Heap} {kvs:LK} {vs:List (Key × Value)} (z:kvs.length <= sizeLine) (hd:(a == sysModules)=false) (rel:KV kvs vs) (dd:h'.DictOf (Ar P w) a vs) :
  ObjOk P w H' h' a (.dK kvs):=⟨z,hd,vs,rel,dd⟩
theorem Na {Q:Unit->Shared->Prop} (hu:A.units + 1 < cLine) (I:Inv X aa σ H s) (g:DPut H a y v H') (ry:RelV y u) (rv:RelV v r) (h:∀ s',Inv X aa σ H' s'->Q () s') :
  wpAny (model X.prog X.w) A (setItem (.ref a) u r) Q E s:=by
 rcases g with ⟨kvs,k,e,ey,l,eH⟩ | ⟨kvs,k,b,e,ey,eb,l,eH⟩
 ·subst ey eH;obtain ⟨z,hd,vs,rel,dd⟩:=Mi I.hok e;have hz:vs.length <= sizeLine:=by rw [← rel.length]; exact z
  have hl:(CG kvs k v).length <= sizeLine:=by have:=CH kvs k v; omega
  refine wpAny_setItem_pairs (hsz:=hz) (Fv ry) dd fun h' dd' hs=>h _ ?_;have he:∃ q,h'.get? a=some q:=let ⟨q,_,_,hq,_⟩:=dd'; ⟨q,hq⟩
  exact Ew I (by rw [e]; exact True.intro) hs he (JM hl hd (rel.put k rv) dd')
 ·subst ey eH;cases (show u=Value.ref b from ry);obtain ⟨z,hd,xs,rel,dd⟩:=Tp I.hok e;have hz:xs.length <= sizeLine:=by rw [← Paired.length rel]; exact z
  have hl:(CG kvs k v).length <= sizeLine:=by have:=CH kvs k v; omega
  refine wpAny_setItem_heap (hsz:=hz) (tupleKind_room_in1 hu) (Go I.hok eb) dd fun h' dd' hs=>h _ ?_;obtain ⟨q,es,ep,hq,h2,h3,h4,_,h5⟩:=dd';refine Ew I (by rw [e]; exact True.intro) hs ⟨q,hq⟩ ⟨hl,hd,_,(rel.put k eb rv).keeps fun c ys ec=>?_,q,es,ep,hq,h2,h3,h4,h5⟩;rw [AE (TQ ec e (fun z=>nomatch z))];exact ec
end
def Tq (i:Expr):Prop:=∀ ov iv,subscripted i false ov iv=operate [ov,iv] (getItem ov iv)
theorem Qt {prog:Program} {s:Shared} {env:Env} {value slice:Expr} {T id:String} {Q:VS}
  (hl:typeLookup (.type T) "__getitem__" = pure (some (.builtin id))) (hs:Tq slice)
  (h:wpAny (model prog w) A (eval value env) (fun o s₁=>wpAny (model prog w) A (eval slice env) (fun i s₂=>s₂.TypeIs o T/\wpAny (model prog w) A (getItem o i) Q E s₂) E s₁) E s) :
  wpAny (model prog w) A (eval (.Subscript value slice pos) env) Q E s:=by
 refine Subscript_ (wpAny_mono h (fun o s₁ h₁=>wpAny_mono h₁ (fun i s₂ h₂=>?_) fun _ _ x=>x) fun _ _ x=>x);obtain ⟨hT,h₂⟩:=h₂;unfold subscriptTail;refine wpAny_bind ?_;rw [getitemInPython_of_ne hT.not_modules];refine wpAny_bind (wpAny_specialOf hT hl ?_)
 have fin:wpAny (model prog w) A (subscripted slice false o i) (fun r s₃=>wpAny (model prog w) A (letTemporaryGo value o r >>= fun _=>pure r) Q E s₃) E s₂:=by
  rw [hs o i];exact wpAny_operating (wpAny_mono h₂ (fun r s₃ h₃=>wpAny_bind (wpAny_letTemporaryGo (wpAny_pure h₃))) fun _ _ x=>x)
 first
  | exact wpAny_pure (wpAny_bind fin)
  | exact wpAny_bind (wpAny_pure (wpAny_bind fin))
  | exact wpAny_bind fin
theorem J4 {s:Shared} {y:V} {o:Option V} (I:Inv X aa σ H s) (g:JL H a y o):s.TypeIs (.ref a) "dict" := by
 rcases g with ⟨kvs,k,e,_,_⟩ | ⟨kvs,k,b,e,_,_,_⟩
 ·obtain ⟨_,_,vs,_,dd⟩:=Ev I.hok e;exact dd.typeIs
 ·obtain ⟨_,_,xs,_,dd⟩:=IK I.hok e;exact dd.typeIs
def Tr (td ty:TE):TE:=fun σ H Q=>td σ H fun x H1=>ty σ H1 fun y H2=>∃ a v,x=.ref a/\JL H2 a y (some v)/\Q v H2
def UZ (ty td:TE):TE:=fun σ H Q=>ty σ H fun y H1=>td σ H1 fun x H2=>∃ a o,x=.ref a/\JL H2 a y o/\Q (.bl o.isSome) H2
def Qu (ty td:TE):TE:=fun σ H Q=>ty σ H fun y H1=>td σ H1 fun x H2=>∃ a o,x=.ref a/\JL H2 a y o/\Q (.bl (!o.isSome)) H2
def Ts (td ty tv:TE):TS:=fun D σ H=>tv σ H fun v H1=>td σ H1 fun x H2=>ty σ H2 fun y H3=>∃ a H4,x=.ref a/\DPut H3 a y v H4/\D.nx σ H4
section
variable {o i value:Expr} {pos' tpos:Pos} {td ty tv:TE}
theorem BM (hu:X.A.units + 1 < cLine) (ho:PE X o td) (hi:PE X i ty) (hs:Tq i):PE X (.Subscript o i pos) (Tr td ty):=by
 intro aa s σ H Q I h;refine Qt PySem.F.slot_dict_getitem.lookup hs (thn (ho aa s σ H _ I h) fun u s1 ⟨x,H1,I1,rx,q1⟩=>thn (hi aa s1 σ H1 _ I1 q1) fun iv s2 ⟨y,H2,I2,ry,a,v,ex,g,q2⟩=>?_);subst ex;obtain rfl:u=Value.ref a:=rx;exact ⟨J4 I2 g,NZ hu I2 g ry fun w' s3 I3 rw'=>⟨v,H2,I3,rw',q2⟩⟩
theorem LQ (hu:X.A.units + 1 < cLine) (hi:PE X i ty) (ho:PE X o td):PC X .In i o (UZ ty td):=by
 intro aa s σ H Q I h;refine thn (hi aa s σ H _ I h) fun iv s1 ⟨y,H1,I1,ry,q1⟩=>thn (ho aa s1 σ H1 _ I1 q1) fun u s2 ⟨x,H2,I2,rx,a,ov,ex,g,q2⟩=>?_;subst ex;obtain rfl:u=Value.ref a:=rx;exact UY hu I2 g ry fun s3 I3=>⟨.bl ov.isSome,H2,I3,rfl,q2⟩
theorem Nb (hu:X.A.units + 1 < cLine) (hi:PE X i ty) (ho:PE X o td):PC X .NotIn i o (Qu ty td):=by
 intro aa s σ H Q I h;refine thn (hi aa s σ H _ I h) fun iv s1 ⟨y,H1,I1,ry,q1⟩=>thn (ho aa s1 σ H1 _ I1 q1) fun u s2 ⟨x,H2,I2,rx,a,ov,ex,g,q2⟩=>?_;subst ex;obtain rfl:u=Value.ref a:=rx;exact Qs hu I2 g ry fun s3 I3=>⟨.bl (!ov.isSome),H2,I3,rfl,q2⟩
theorem Mj (hu:X.A.units + 1 < cLine) (ho:PE X o td) (hi:PE X i ty) (hv:PE X value tv) (hs:swapsWith value (some (.Subscript o i pos')) pos.line X.env=pure false) :
  PS X (.Assign [.Subscript o i pos'] value pos) (Ts td ty tv):=by
 intro aa s σ H D I h;refine wpAny_Assign_Subscript (thn (hv aa s σ H _ I h) fun r s1 ⟨v,H1,I1,rv,q1⟩=>thn (ho aa s1 σ H1 _ I1 q1) fun u s2 ⟨x,H2,I2,rx,q2⟩=>thn (hi aa s2 σ H2 _ I2 q2) fun iv s3 ⟨y,H3,I3,ry,a,H4,ex,g,q3⟩=>?_) hs;subst ex;obtain rfl:u=Value.ref a:=rx;exact Na hu I3 g ry rv fun s4 I4=>⟨σ,H4,I4,q3⟩
end
theorem Gp (h:Heap) (hb:sysModules < h.objs.size):ObjOk P w H (h.push { cls:=.type "dict", data:=.dict #[] }) h.objs.size (.dK []) :=
 ⟨Nat.zero_le _,beq_eq_false_iff_ne.mpr (Ne.symm (Nat.ne_of_lt hb)),[],.nil,Heap.DictOf.new h⟩
def SU:TE:=fun _ H Q=>∀ p,H p=none->Q (.ref p) (upd H p (.dK []))
section
theorem Gq:PE X (.Dict [] [] pos) SU:=fun aa s σ H Q I h =>
 wpAny_Dict_empty ⟨.ref s.heap.objs.size,_,I.laid (a:=s.heap.objs.size) (o:=.dK []) (t':=s.toks) (fun _ _ q=>get?_push_of_some _ q) (Nat.le_refl _) (Gp s.heap I.big),rfl,h _ (I.hok.fresh (Nat.le_refl _))⟩
end
def LR:List (TE × TE)->St->Hp->(List (V × V)->Hp->Prop)->Prop
  | [],_,H,Q=>Q [] H
  | (tk,tv) :: r,σ,H,Q=>tk σ H fun x H1=>tv σ H1 fun y H2=>LR r σ H2 fun ps H3=>Q ((x,y) :: ps) H3
abbrev VV:List (V × V)->List (Value × Value)->Prop:=Paired fun p q=>RelV p.1 q.1/\RelV p.2 q.2
def PPs (X:Cx) (pos:Pos) (keys:List (Option Expr)) (values:List Expr) (trs:List (TE × TE)):Prop :=
 ∀ (aa:LO) (s:Shared) (σ:St) (H:Hp) (Q:List (V × V)->Hp->Prop),Inv X aa σ H s->LR trs σ H Q ->
  wpAny (model X.prog X.w) X.A (evalPairs (pairTrees keys values X.env pos)) (fun vs s'=>∃ ps H',Inv X aa σ H' s'/\VV ps vs/\Q ps H') X.xe s
theorem Qw:PPs X pos [] [] []:=fun aa s σ H Q I h=>pairTrees_nil_walk ⟨[],H,I,.nil,h⟩
theorem Ex {k v:Expr} {ks:List (Option Expr)} {vs:List Expr} {tk tv:TE} {trs:List (TE × TE)} (hk:PE X k tk) (hv:PE X v tv) (hr:PPs X pos ks vs trs) :
  PPs X pos (some k :: ks) (v :: vs) ((tk,tv) :: trs):=fun aa s σ H Q I h =>
 pairTrees_cons_walk (thn (hk aa s σ H _ I h) fun u s1 ⟨x,H1,I1,rx,q1⟩=>thn (hv aa s1 σ H1 _ I1 q1) fun w2 s2 ⟨y,H2,I2,ry,q2⟩ =>
  thn (hr aa s2 σ H2 _ I2 q2) fun ws s3 ⟨ps,H3,I3,rel,q3⟩=>⟨(x,y) :: ps,H3,I3,.cons ⟨rx,ry⟩ rel,q3⟩)
noncomputable def FV (kvs more:LK):LK:=more.foldl (fun acc kv=>CG acc kv.1 kv.2) kvs
theorem KV.merge:∀ {more:LK} {rs:List (Key × Value)} {kvs:LK} {vs:List (Key × Value)},KV more rs->KV kvs vs->KV (FV kvs more) (merged vs rs):=by
 intro more rs kvs vs r;unfold KV at r;induction r generalizing kvs vs with
 | nil=>intro q; exact q
 | @cons p q ps qs h t ih =>
  intro r0
  have e:KV (CG kvs p.1 p.2) (stored vs q.1 q.2):=by
   have:=r0.put p.1 h.2;rw [← h.1]; exact this
  exact ih e
theorem D1:∀ (more kvs:LK),(FV kvs more).length <= kvs.length + more.length
 | [],kvs=>by show kvs.length <= kvs.length + 0; omega
 | p :: r,kvs=>by
  have h1:=D1 r (CG kvs p.1 p.2);have h2:=CH kvs p.1 p.2;show (FV (CG kvs p.1 p.2) r).length <= _;rw [length_cons]; omega
theorem Gr {P:Program} {w:World}:∀ {kvs:LK} {ws:List (Value × Value)},VV (kvs.map fun kv=>(kV kv.1,kv.2)) ws->∃ rs,Carries (Ar P w) ws rs/\KV kvs rs
 | [],_,r=>by rw [map_nil] at r; cases r; exact ⟨[],True.intro,.nil⟩
 | p :: kvs,_,r=>by
  rw [map_cons] at r;cases r with
  | @cons a b as bs h t =>
   obtain ⟨rs,c,q⟩:=Gr (P:=P) (w:=w) t;obtain ⟨b1,b2⟩:=b;exact ⟨(p.1,b2) :: rs,⟨Fv h.1,rfl,c⟩,.cons ⟨rfl,h.2⟩ q⟩
def Tt (trs:List (TE × TE)):TE:=fun σ H Q=>∀ p,H p=none->LR trs σ (upd H p (.dK [])) fun ps H2=>H2 p=some (.dK [])/\∃ kvs:LK,ps=kvs.map (fun kv=>(kV kv.1,kv.2))/\kvs.length <= 15/\Q (.ref p) (upd H2 p (.dK (FV [] kvs)))
theorem Qx {keys:List (Option Expr)} {values:List Expr} {trs:List (TE × TE)} (h:PPs X pos keys values trs) (bh:keys.all (·.isSome)=true) (hl:keys.length=values.length) (h0:keys ≠ [])
  (h15:keys.length <= 15):PE X (.Dict keys values pos) (Tt trs):=by
 intro aa s σ H Q I q;have hn:=I.hok.fresh (Nat.le_refl s.heap.objs.size);have I1:=I.laid (a:=s.heap.objs.size) (o:=.dK []) (h':=s.heap.push { cls:=.type "dict", data:=.dict #[] }) (t':=s.toks) (fun _ _ q=>get?_push_of_some _ q) (Nat.le_refl _) (Gp s.heap I.big);refine wpAny_Dict_walk (knd:=Ar X.prog X.w) bh hl h0 h15 (thn (h aa _ σ _ _ I1 (q _ hn)) fun ws s2 ⟨ps,H2,I2,rel,e,kvs,ep,lk,q2⟩=>?_);subst ep;obtain ⟨rs,c,rk⟩:=Gr (P:=X.prog) (w:=X.w) rel;obtain ⟨z,hd,vs0,r0,dd⟩:=Mi I2.hok e;cases r0;refine ⟨rs,c,dd,fun h' dd' hs=>⟨.ref s.heap.objs.size,_,?_,rfl,q2⟩⟩
 have hz:(FV [] kvs).length <= sizeLine:=by
  have h1:=D1 kvs [];rw [length_nil] at h1;rw [sizeLine_eq]; omega
 have he:∃ q,h'.get? s.heap.objs.size=some q:=let ⟨q,_,_,hq,_⟩:=dd'; ⟨q,hq⟩
 exact Ew I2 (by rw [e]; exact True.intro) hs he (JM hz hd (rk.merge .nil) dd')
def IsD (H:Hp) (a:Addr):Prop:=(∃ kvs,Rd H a (.dK kvs))\/∃ kvs,Rd H a (.dT kvs)
theorem Oq {s:Shared} (I:Inv X aa σ H s) (d:IsD H a) :
  s.TypeIs (.ref a) "dict" /\ (∀ b,Value.ref a=.ref b->∃ ob,s.heap.get? b=some ob/\ob.dict=none)/\(a == sysModules)=false:=by
 rcases d with ⟨kvs,e⟩ | ⟨kvs,e⟩
 ·obtain ⟨_,hd,vs,_,dd⟩:=Ev I.hok e;refine ⟨dd.typeIs,fun b q=>?_,hd⟩;cases q;obtain ⟨ob,_,_,h1,h2,_⟩:=dd;exact ⟨ob,h1,h2.2.1⟩
 ·obtain ⟨_,hd,xs,_,dd⟩:=IK I.hok e;refine ⟨dd.typeIs,fun b q=>?_,hd⟩;cases q;obtain ⟨ob,_,_,h1,h2,_⟩:=dd;exact ⟨ob,h1,h2.2.1⟩
end L2
namespace Att
open PySem PySem.W PySem.Calls PyProof.Rows
theorem F2 {P:Params}:∀ (ns:List Int) (vs:List Value),WellAll P h vs (ns.map WData.int)->IntsAre vs ns:=by
 intro ns;induction ns with
 | nil =>
  intro vs w;rw [map_nil] at w;cases w;exact .nil
 | cons n ns ih =>
  intro vs w;rw [map_cons] at w;cases w with
  | cons a b =>
   cases a;exact .cons _ _ (ih _ b)
theorem Nd {l:OpenLaw} {n:Nat} (hn:l.most=some n) {P:Params} {args:List WData} {vals:List Value}
    (bx:l.row.toRowW.claim.pre args=true) (hwl:WellAll P h vals args) :
    ∃ a vs ns,vals=[Value.ref a]/\args=[WData.list (ns.map WData.int)]/\h.get? a=some { cls:=.type "list", data:=.seq vs.toArray }/\IntsAre vs ns/\ns.length <= n:=by
  have ah:WShape.hasAll [] args [.list .int]=true:=(pre_splitW bx).1;have hc:l.pre.holds [] { args:=args }=true:=(pre_splitW bx).2;obtain ⟨d,r,rfl,h1,h2⟩:=hasAllW_cons ah;obtain rfl:=hasAllW_nil h2;obtain ⟨xs,rfl,h3⟩:=hasW_list h1;obtain ⟨ns,rfl⟩:=items_int h3
  have ay:ns.length <= n:=by
    unfold OpenLaw.pre at hc
    have h4:(WTm.not (.lt (.lit (.int (n:Int))) (.len (.arg 0)))).holds [] { args:=[.list (ns.map .int)] }=true:=by
      have h4:=(holds_andW hc).1;rw [hn] at h4;exact h4
    have h5:=condW_of h4 (w_not (w_lt w_lit (w_len_list (w_arg rfl))));rw [AI] at h5;refine Nat.le_of_not_lt fun q=>?_;have q':(n:Int) < ((ns.length:Nat):Int):=by omega
    first
      | (rw [decide_eq_true q'] at h5; exact absurd h5 (by decide))
      | (simp at h5; omega)
  cases hwl with
  | cons w1 w2 =>
    cases w2;cases w1 with
    | list ho bh=>exact ⟨_,_,ns,rfl,rfl,ho,F2 ns _ bh,ay⟩
theorem Nf (l:OpenLaw) (args:List WData):l.row.toRowW.claim.post args (.bool true) args=true :=
 postW_of (r:=l.row.toRowW) (X:=(true == true))
  (show WShape.has [] (.bool true) .bool=true by first | rfl | decide | simp [WShape.has,WShape.arms,WShape.armsAll])
  (show (WTm.eq .res (.lit (.bool true))).value [] { args:=args,res:=some (.bool true),after:=args }=some (.bool (true == true)) from w_eq_bool (w_res rfl) w_lit) rfl
theorem attach_call {l:OpenLaw} {n:Nat} {q:Program} {loose:List Str} {XP:(Str->Option Value)->Heap->Prop} {YP:World->Heap->Prop} {d:DefRec}
  (hn:l.most=some n) (hdf:d.params.defaults=[])
  (call:∀ (w:World) (s₀ s₁:Shared) (mg mb:SV) (fa:Addr) (o:Obj) (pm cd doc:Value) (a:Addr) (vs:List Value) (ns:List Int),
   Ground q loose [] XP w s₀ mg mb s₁.heap->YP w s₁.heap ->
   s₁.heap.get? fa=some o->o.data=.func (docDef d.name d.params d.body d.scope pm cd doc)->s₁.heap.CodeRec cd d.name->mg d.name=some (.ref fa) ->
   s₁.heap.get? a=some { cls:=.type "list", data:=.seq vs.toArray }->IntsAre vs ns->ns.length <= n->s₁.gens=#[] ->
   codeAny (model l.prog w) callerA (.call (.ref fa) ⟨[.ref a],[]⟩) (fun r s'=>r=.ok (.ret (.bool true))/\OldK s₁.heap s'.heap/\s'.os=s₁.os/\AllBare s'.gens) s₁) :
  WalkO q loose XP YP l.row.toRowW d [] (fun f vs=>PySem.call f vs):=by
 intro w s₀ s₁ mg mb G Y fa o pm cd doc dV kV ho hd hcd hD hmg hg args vals as bx hlay hrd hwl hlo;obtain rfl:dV=.none:=Dflts.none hD hdf;obtain rfl:kV=.none:=Dflts.noKw hD;obtain ⟨a,vs,ns,rfl,rfl,cj,bj,ay⟩:=Nd hn bx hwl;refine enter_call (codeAny_mono (call w s₀ s₁ mg mb fa o pm cd doc a vs ns G Y ho (fd_plain hd) hcd hmg cj bj ay hg) fun r s' hq=>?_);obtain ⟨rfl,h2,h3,h4⟩:=hq;exact ⟨.inl ⟨.bool true,.bool true,[],rfl,fun _=>rfl,.bool true,Nf l _,fun _=>⟨List.Pairwise.nil,fun _ hm=>(nomatch hm)⟩⟩,h2,h3,h4⟩
end Att
namespace L2
open PySem PySem.Spec PyProof.Rows
theorem Dt:∀ {vs:List Value} {ns:List Int},IntsAre vs ns->Vals (ns.map V.int) vs
 | _,_,.nil=>.nil
 | _,_,.cons n t h=>.cons ⟨t,rfl⟩ (Dt h)
end L2
namespace L2
open PySem PySem.Spec PyProof.Rows
noncomputable def inClass (s:Stmt) (j:Nat):Stmt:=match s with
 | .ClassDef _ _ _ body _ _ _ _ _ _ _=>body.getD j (.Pass ⟨0,0,0,0⟩)
 | _=>.Pass ⟨0,0,0,0⟩
noncomputable def defArgs (s:Stmt):Arguments:=match s with
 | .FunctionDef _ a _ _ _ _ _ _ _ _=>a
 | _=>{ posonlyargs:=[],args:=[],vararg:=none,kwonlyargs:=[],kw_defaults:=[],kwarg:=none,defaults:=[] }
noncomputable def defBody (s:Stmt):List Stmt:=match s with
 | .FunctionDef _ _ b _ _ _ _ _ _ _=>b
 | _=>[]
noncomputable def defScope (s:Stmt):Scope:=match s with
 | .FunctionDef _ _ _ _ _ _ sc _ _ _=>sc
 | _=>{ kind:=.function,names:=[],isGenerator:=false,isCoroutine:=false }
abbrev CX0:CXT:=fun _ _ _ _ _ _=>False
abbrev E0:XK:=fun _ _ _=>False
theorem AZ:Bi CX0 X E0:=fun _ _ _ _ _ _ _ h=>h.elim
structure Fun (K:FG) (x qual:Str) (st:Stmt) (f:Addr) (fd:FuncData):Prop where
 ex:∃ (oc:Value) (od:Option Addr) (kV doc pm:Value) (an:Option Addr) (ad ct:Value) (osl:Array (Option Value)),
  fd=W.fnOf x qual (defArgs st) (defBody st) (defScope st) .none kV doc pm an ad ct/\K.lookup f=some ⟨oc,od,.func fd,osl⟩/\W.codeIn K ad qual=true
 kp:W.keepIn K (.ref f)=true
section
theorem Fun.ok {qual:Str} {st:Stmt} {fd:FuncData} {ps:List Str} {k:Nat} {sp:Sp} (F:Fun K x qual st f fd) (S:AR N ps (defScope st)) (len:∀ vs H Q E,sp vs H Q E->vs.length=ps.length)
  (bc:∀ (ad:Value) (A:Around) (outer:List Env) (s:Shared) (H:Hp) (vs:List V) (Q:VK) (E:XK),Room k (A.deeper (envOfC qual (defScope st) s.heap.objs.size f ad))->sp vs H Q E ->
   ∃ t,PSs (BI CX0 P w K mg base N qual (defScope st) f ad A outer s H E).nox (defBody st) t/\t { nx:=fun _ H'=>Q .non H',rt:=Q } (Bm N vs) H):Aj P w K mg base CX0 (k + 1) f fd ps sp:=by
 obtain ⟨oc,od,kV,doc,pm,an,ad,ct,osl,rfl,lk,hcd⟩:=F.ex;refine Mb lk hcd S len fun A outer s H vs Q E hr hsp=>?_;obtain ⟨t,h,q⟩:=bc ad A outer s H vs Q E hr hsp;exact ⟨t,h.nox,q⟩
structure BdC (P:Program) (w:World) (K:FG) (mg:SV) (base:Heap) (f:Addr) (qual:Str) (st:Stmt) (N ps:List Str) (k:Nat) (vs:List V) (H:Hp) (Q:VK) (E:XK):Prop where
 len:vs.length=ps.length
 ok:∀ (ad:Value) (A:Around) (outer:List Env) (s:Shared),Room k (A.deeper (envOfC qual (defScope st) s.heap.objs.size f ad)) ->
  ∃ t,PSs (BI CX0 P w K mg base N qual (defScope st) f ad A outer s H E |>.nox) (defBody st) t/\t { nx:=fun _ H'=>Q .non H',rt:=Q } (Bm N vs) H
theorem Fun.m {qual:Str} {st:Stmt} {fd:FuncData} {ps:List Str} {k:Nat} {sp:Sp} (F:Fun K x qual st f fd) (S:AR N ps (defScope st)) (h:∀ vs H Q E,sp vs H Q E->BdC P w K mg base f qual st N ps k vs H Q E) :
  Aj P w K mg base CX0 (k + 1) f fd ps sp:=F.ok S (fun vs H Q E q=>(h vs H Q E q).len) fun c A o s H vs Q E r q=>(h vs H Q E q).ok c A o s r
theorem Fun.binds {qual:Str} {st:Stmt} {fd:FuncData} {ps:List Str} (F:Fun K x qual st f fd)
  (h:∀ (kV doc pm:Value) (an:Option Addr) (ad ct:Value) (us:List Value),us.length=ps.length->bindArgs (W.fnOf x qual (defArgs st) (defBody st) (defScope st) .none kV doc pm an ad ct) ⟨us,[]⟩=pure (ps.zip us)):Binds K fd ps []:=by
 obtain ⟨oc,od,kV,doc,pm,an,ad,ct,osl,rfl,lk,hcd⟩:=F.ex;exact .all (h kV doc pm an ad ct)
theorem fun_mk {qual:Str} {st:Stmt} {oc:Value} {od an:Option Addr} {osl:Array (Option Value)} {kV doc pm ad ct:Value} (l:K.lookup f=some ⟨oc,od,.func (W.fnOf x qual (defArgs st) (defBody st) (defScope st) .none kV doc pm an ad ct),osl⟩)
  (c:W.codeIn K ad qual=true) (k:W.keepIn K (.ref f)=true):Fun K x qual st f (W.fnOf x qual (defArgs st) (defBody st) (defScope st) .none kV doc pm an ad ct):=⟨⟨oc,od,kV,doc,pm,an,ad,ct,osl,rfl,l,c⟩,k⟩
end
theorem Cj {k:Nat} (hr:Room k A):A.units + 1 < cLine:=Nat.lt_of_le_of_lt (Nat.add_le_add_left (by decide:1 <= 64) _) hr.units
theorem AT {n:Nat} (h:n <= 1000):n < sizeLine:=Nat.lt_of_le_of_lt h (by decide)
section
theorem pv (i:Nat) (hN:X.N[i]?=some x:=by rfl) (hv:Vis X.env.scope x:=by first | exact Or.inl rfl | exact Or.inr (Or.inl rfl) | exact Or.inr (Or.inr rfl)) (hd:(x == ("__debug__" : Str))=false:=by decide)
  (hcd:(x == ("__classdict__" : Str))=false:=by decide):PE X (.Name x pos) (CD i):=OT hN hv hd hcd
end
theorem A1 {A B:Prop} (h:B):if false=true then A else B:=by
 rw [if_neg Bool.false_ne_true];exact h
theorem Bd {A B:Prop} (h:A):if true=true then A else B:=by
 rw [if_pos rfl];exact h
theorem CL {c A B:Prop} [Decidable c] (h1:c->A) (h2:¬ c->B):if c then A else B:=by
 by_cases h:c
 ·rw [if_pos h];exact h1 h
 ·rw [if_neg h];exact h2 h
theorem Ml {c A B:Prop} [Decidable c] (hc:c) (h:B):if (!decide c)=true then A else B:=by
 rw [decide_eq_true hc];exact A1 h
def Same (H H':Hp):Prop:=∀ b o,H b=some o->H' b=some o
theorem Same.refl (H:Hp):Same H H:=fun _ _ h=>h
theorem Same.trans {H1 H2:Hp} (a:Same H H1) (b:Same H1 H2):Same H H2:=fun c o h=>b c o (a c o h)
theorem Same.seq (e:Same H H') (h:SqL K H a xs):SqL K H' a xs:=by
 rcases h with (h | ⟨o,h⟩) | h
 ·exact .inl (.inl (e _ _ h))
 ·exact .inl (.inr ⟨o,e _ _ h⟩)
 ·exact .inr h
section
variable {κ:Type} [DecidableEq κ]
theorem Mm {kvs:List (κ × V)} {k:κ} {v:V} (h:A7 kvs k=some v):k ∈ kvs.map (·.1):=by
 have q:(kvs.any fun kv=>decide (kv.1=k))=true:=by
  rw [Eu,h]
  all_goals rfl
 obtain ⟨p,hp,e⟩:=any_eq_true.mp q;exact mem_map.mpr ⟨p,hp,of_decide_eq_true e⟩
theorem Mn:∀ {l:List κ} {k:κ},l.Nodup->¬ k ∈ l->(l++[k]).Nodup
 | [],k,_,_=>by simp
 | a :: r,k,h,hk=>by
  obtain ⟨h1,h2⟩:=nodup_cons.mp h;show (a :: (r++[k])).Nodup;refine nodup_cons.mpr ⟨fun m=>?_,Mn h2 fun m=>hk (mem_cons.mpr (Or.inr m))⟩;rcases mem_append.mp m with q | q
  ·exact h1 q
  ·exact hk (mem_cons.mpr (Or.inl (mem_singleton.mp q).symm))
end
end L2
end
section
variable {X:L2.Cx} {H:L2.Hp} {H':L2.Hp} {pos:PySem.Pos} {σ:L2.St} {P:PySem.Program} {w:PySem.World} {A:PySem.Around} {aa:LO} {x:PySem.Str} {a:PySem.Addr} {K:FG} {C:PySem.Addr} {E:VS} {h:PySem.Heap} {us:List PySem.Value} {f:PySem.Addr} {u:PySem.Value} {xs:List L2.V} {e:PySem.Expr} {te:L2.TE} {base:PySem.Heap} {N:List PySem.Str} {mg:SV}
section
namespace L2
open PySem PySem.Spec PyProof.Rows
theorem Inv.track {s:Shared} {o:HO} (I:Inv X aa σ H s) (hn:H a=none) (hL:a ≠ X.env.locals) (h1:a ∈ X.ex\/X.s₀.heap.objs.size <= a)
  (h2:∀ x c,X.env.cells.lookup x=some c->c ≠ a) (h3:∀ p ∈ X.pn++aa,p.1 ≠ a) (new:ObjOk X.prog X.w (upd H a o) s.heap a o):Inv X aa σ (upd H a o) s:=by
 have av:∀ b u,H b=some u->b ≠ a:=fun b u e=>AH e hn
 refine I.step (h':=s.heap) (H':=upd H a o) (g':=s.gens) (t':=s.toks) (d':=s.drawn) (ch:=[a])
  (fun b hb=>by have e:b=a:=by simpa using hb
                subst e; exact ⟨h1,hL,h2,h3⟩)
  (fun b o _ _ _ e _=>e) (fun b o _ _ _ e _=>⟨o.slots,e⟩) (fun b o hc e n=>by rw [AE (by simpa using hc)]; exact n)
  (fun b o _ e=>⟨o,e⟩) (fun b xs e=>by rw [AE (av b _ e)]; exact e) (fun b o u e=>by rw [AE (av b _ e)]; exact e)
  (fun b ps e=>⟨#[],by rw [AE (av b _ e),e]; simp⟩) (fun m h=>h) (fun b u e=>?_) I.bare
 by_cases hb:b=a
 ·subst hb; rw [upd_same] at e; cases e; exact new
 ·rw [AE hb] at e;exact (I.hok b u e).stay (fun c v _ q=>q) (fun c q=>by rw [AE (av c _ q)]; exact q) fun c xs q=>by rw [AE (av c _ q)]; exact q
structure CompFits (osc sc:Scope) (N N':List Str) (ix:List (Option Nat)):Prop where
 kind:sc.kind=.function
 nocell:∀ y ∈ sc.names,y.2 ≠ .cell
 free:∀ y ∈ sc.names,y.2=.free->osc.names.lookup y.1=some .cell\/osc.names.lookup y.1=some .free
 loc:∀ y ∈ sc.names,y.2=.local->sc.names.lookup y.1=some .local
 len:ix.length=N'.length
 slot:∀ (j:Nat) (x:Str) (i:Nat),N'[j]?=some x->ix[j]?=some (some i)->N[i]?=some x/\sc.names.lookup x=some .free
noncomputable def Rw (sc:Scope) (N:List Str) (x:Str):Option Nat->Bool
 | none=>true
 | some i=>decide (N[i]?=some x) && decide (sc.names.lookup x=some .free)
noncomputable def Ct (sc:Scope) (N:List Str):List Str->List (Option Nat)->Bool
 | [],[]=>true
 | x :: r,o :: os=>Rw sc N x o && Ct sc N r os
 | _,_=>false
noncomputable def Gs (osc sc:Scope) (N N':List Str) (ix:List (Option Nat)):Bool :=
 decide (sc.kind=.function) && (sc.names.all fun y=>decide (y.2 ≠ .cell) && (decide (y.2 ≠ .free) || decide (osc.names.lookup y.1=some .cell) || decide (osc.names.lookup y.1=some .free)) &&
  (decide (y.2 ≠ .local) || decide (sc.names.lookup y.1=some .local))) && Ct sc N N' ix
theorem EE {sc:Scope} {N:List Str}:∀ {N':List Str} {ix:List (Option Nat)},Ct sc N N' ix=true->ix.length=N'.length
 | [],[],_=>rfl
 | [],_ :: _,h=>by simp [Ct] at h
 | _ :: _,[],h=>by simp [Ct] at h
 | x :: r,o :: os,h=>by
  simp only [Ct,Bool.and_eq_true] at h;simp only [length_cons,EE h.2]
theorem FW {sc:Scope} {N:List Str}:∀ {N':List Str} {ix:List (Option Nat)},Ct sc N N' ix=true->∀ (j:Nat) (x:Str) (i:Nat),N'[j]?=some x->ix[j]?=some (some i)->N[i]?=some x/\sc.names.lookup x=some .free
 | [],_,_,_,_,_,e,_=>by simp at e
 | _ :: _,[],h,_,_,_,_,_=>by simp [Ct] at h
 | y :: r,o :: os,h,j,x,i,e1,e2=>by
  simp only [Ct,Bool.and_eq_true] at h;cases j with
  | zero =>
   simp only [List.getElem?_cons_zero,Option.some.injEq] at e1 e2;subst e1 e2;have h1:=h.1;simp only [Rw,Bool.and_eq_true,decide_eq_true_eq] at h1;exact h1
  | succ j =>
   simp only [List.getElem?_cons_succ] at e1 e2;exact FW h.2 j x i e1 e2
theorem CompFits.of {osc sc:Scope} {N':List Str} {ix:List (Option Nat)} (h:Gs osc sc N N' ix=true):CompFits osc sc N N' ix:=by
 simp only [Gs,Bool.and_eq_true,decide_eq_true_eq,List.all_eq_true,Bool.or_eq_true] at h;obtain ⟨⟨h1,h2⟩,h3⟩:=h;refine ⟨h1,fun y hy=>(h2 y hy).1.1,fun y hy e=>?_,fun y hy e=>?_,EE h3,FW h3⟩
 ·rcases (h2 y hy).1.2 with (z | z) | z
  ·exact absurd e z
  ·exact .inl z
  ·exact .inr z
 ·rcases (h2 y hy).2 with z | z
  ·exact absurd e z
  ·exact z
noncomputable abbrev Ch (env:Env):Str × NameKind->Str × NameKind:=fun (n,k)=>if (k == NameKind.free && env.scope.kind == .function && env.kindOf n == some .cell) then (n,NameKind.cell) else (n,k)
theorem Ey (env:Env) (y:Str × NameKind):(Ch env y).1=y.1:=by
 obtain ⟨n,k⟩:=y; simp only [Ch]; split <;> rfl
theorem Ng (env:Env) (n:Str):(Ch env (n,.free)).2=.cell\/(Ch env (n,.free)).2=.free:=by
 simp only [Ch]; split
 ·exact .inl rfl
 ·exact .inr rfl
theorem JN (env:Env) (y:Str × NameKind) (h:y.2 ≠ .free):Ch env y=y:=by
 obtain ⟨n,k⟩:=y;have e:(k == NameKind.free)=false:=by simpa using h
 simp only [Ch,e,Bool.false_and,Bool.false_eq_true,if_false]
theorem Cu {env:Env}:∀ {names:List (Str × NameKind)} {x:Str},names.lookup x=some .free->(names.map (Ch env)).lookup x=some .cell\/(names.map (Ch env)).lookup x=some .free
  | [],_,h=>by simp at h
  | (n,k) :: r,x,h=>by
    rw [map_cons]
    have e:Ch env (n,k)=(n,(Ch env (n,k)).2):=by
      have:=Ey env (n,k);exact Prod.ext this rfl
    rw [e];cases hx:x == n with
    | true =>
      simp only [lookup_cons,hx] at h ⊢;cases h;rcases Ng env n with z | z
      · rw [z]; exact .inl rfl
      · rw [z]; exact .inr rfl
    | false =>
      simp only [lookup_cons,hx] at h ⊢;exact Cu h
theorem Fw {env:Env}:∀ {names:List (Str × NameKind)} {x:Str},(∀ y ∈ names,y.2 ≠ .cell)->((names.map (Ch env)).lookup x=some .cell\/(names.map (Ch env)).lookup x=some .free)->(x,NameKind.free) ∈ names
  | [],_,_,h=>by simp at h
  | (n,k) :: r,x,hc,h=>by
    rw [map_cons] at h;have e:Ch env (n,k)=(n,(Ch env (n,k)).2):=Prod.ext (Ey env (n,k)) rfl;rw [e] at h;cases hx:x == n with
    | true =>
      simp only [lookup_cons,hx] at h;have exn:x=n:=by simpa using hx
      subst exn;by_cases hk:k=.free
      · subst hk; exact mem_cons_self
      · rw [JN env (x,k) hk] at h
        rcases h with z | z
        · have:k=.cell:=by simpa using z
          exact absurd this (hc (x,k) mem_cons_self)
        · have:k=.free:=by simpa using z
          exact absurd this hk
    | false =>
      simp only [lookup_cons,hx] at h;exact mem_cons_of_mem _ (Fw (fun y hy=>hc y (mem_cons_of_mem _ hy)) h)
theorem JO {env:Env} {f:Str × NameKind->List (Str × Addr)->Sem (ForInStep (List (Str × Addr)))}
  (h1:∀ y acc,y.2 ≠ .free->f y acc=pure (.yield acc)) (h2:∀ y acc c,y.2=.free->env.cells.lookup y.1=some c->f y acc=pure (.yield ((y.1,c) :: acc))) :
  ∀ (names:List (Str × NameKind)) (acc:List (Str × Addr)),(∀ y ∈ names,y.2=.free->∃ c,env.cells.lookup y.1=some c)->(∀ x c,acc.lookup x=some c->env.cells.lookup x=some c) ->
   ∃ cl,forIn names acc f=(pure cl:Sem _)/\(∀ x c,cl.lookup x=some c->env.cells.lookup x=some c)/\(∀ y ∈ names,y.2=.free->∃ c,cl.lookup y.1=some c)/\∀ x c,acc.lookup x=some c->∃ c',cl.lookup x=some c'
 | [],acc,_,ha=>⟨acc,rfl,ha,fun _ hy=>(nomatch hy),fun x c e=>⟨c,e⟩⟩
 | y :: r,acc,hn,ha=>by
  have hr:∀ z ∈ r,z.2=.free->∃ c,env.cells.lookup z.1=some c:=fun z hz=>hn z (mem_cons_of_mem _ hz);by_cases hy:y.2=.free
  ·obtain ⟨c,hc⟩:=hn y mem_cons_self hy
   obtain ⟨cl,e,p1,p2,p3⟩:=JO h1 h2 r ((y.1,c) :: acc) hr fun x d e=>by
    cases hx:x == y.1 with
    | true =>
     simp only [lookup_cons,hx,Option.some.injEq] at e;have:x=y.1:=by simpa using hx
     rw [this,← e]; exact hc
    | false =>
     simp only [lookup_cons,hx] at e;exact ha x d e
   refine ⟨cl,by rw [List.forIn_cons,h2 y acc c hy hc,pure_bind]; exact e,p1,fun z hz hf=>?_,fun x d e=>?_⟩
   ·rcases mem_cons.mp hz with rfl | hz
    ·exact p3 z.1 c (by simp [lookup_cons])
    ·exact p2 z hz hf
   ·cases hx:x == y.1 with
    | true=>exact p3 x c (by simp [lookup_cons,hx])
    | false=>exact p3 x d (by simp only [lookup_cons,hx]; exact e)
  ·obtain ⟨cl,e,p1,p2,p3⟩:=JO h1 h2 r acc hr ha;refine ⟨cl,by rw [List.forIn_cons,h1 y acc hy,pure_bind]; exact e,p1,fun z hz hf=>?_,p3⟩;rcases mem_cons.mp hz with rfl | hz
   ·exact absurd hf hy
   ·exact p2 z hz hf
theorem Mo {env:Env} {scope:Scope} (hn:∀ y ∈ scope.names,y.2=.free->∃ c,env.cells.lookup y.1=some c) :
  ∃ cl,closureFor scope env=pure cl/\(∀ x c,cl.lookup x=some c->env.cells.lookup x=some c)/\∀ y ∈ scope.names,y.2=.free->∃ c,cl.lookup y.1=some c:=by
 obtain ⟨cl,e,p1,p2,_⟩:=JO (env:=env) (f:=fun (x:Str × NameKind) (r:List (Str × Addr))=>if (x.2 == NameKind.free)=true then (cellOf env x.1 >>= fun a=>pure (ForInStep.yield ((x.1,a) :: r))) else pure (ForInStep.yield r)) (fun y acc hy=>by
  have:(y.2 == NameKind.free)=false:=by simpa using hy
  rw [this,if_neg Bool.false_ne_true]) (fun y acc c hy hc=>by
  have h0:(y.2 == NameKind.free)=true:=by rw [hy]; rfl
  rw [if_pos h0];simp only [cellOf,hc]
  rfl) scope.names [] hn fun x c e=>by simp at e
 refine ⟨cl,?_,p1,p2⟩;have e0:closureFor scope env=(forIn scope.names [] (fun (x:Str × NameKind) (r:List (Str × Addr))=>if (x.2 == NameKind.free)=true then (cellOf env x.1 >>= fun a=>pure (ForInStep.yield ((x.1,a) :: r))) else pure (ForInStep.yield r)) >>= fun cs=>pure cs):=rfl;rw [e0,e];rfl
noncomputable def Aq (X:Cx) (N':List Str) (scope:Scope) (cl:List (Str × Addr)) (s:Shared) (H:Hp) (C:Addr) (fp:List Addr) (pn:LO):Cx where
 prog:=X.prog
 w:=X.w
 K:=X.K
 mg:=X.mg
 base:=X.base
 A:=X.A
 N:=N'
 s₀:=s
 H₀:=H
 env:=compEnvC scope cl C X.env
 outer:=X.stack
 stack:=X.stack
 ex:=fp
 fn:=fun _=>false
 calm:=X.calm
 pn:=pn
 xe:=fun _ _=>False
noncomputable def Bv (ix:List (Option Nat)) (σ:St):St:=ix.map fun o=>o.bind fun i=>(σ[i]?).join
theorem Mp {ix:List (Option Nat)} {j:Nat} {v:V} (h:(Bv ix σ)[j]?=some (some v)):∃ i,ix[j]?=some (some i)/\σ[i]?=some (some v):=by
 unfold Bv at h;rw [getElem?_map] at h;cases e:ix[j]? with
 | none=>rw [e] at h; cases h
 | some o =>
  rw [e] at h;simp only [Option.map_some,Option.some.injEq] at h;cases o with
  | none=>cases h
  | some i =>
   refine ⟨i,rfl,?_⟩;simp only [Option.bind_some] at h;cases q:σ[i]? with
   | none=>rw [q] at h; cases h
   | some u=>rw [q] at h; simp only [Option.join_some] at h; rw [h]
section
variable {s:Shared} {N':List Str} {ix:List (Option Nat)} {scope:Scope} {cl:List (Str × Addr)} {fp:List Addr}
theorem Qy (I:Inv X aa σ H s) (hf:CompFits X.env.scope scope X.N N' ix) (c1:∀ x c,cl.lookup x=some c->X.env.cells.lookup x=some c) (c2:∀ y ∈ scope.names,y.2=.free->∃ c,cl.lookup y.1=some c)
  (hC:s.heap.objs.size <= C) (hfp:∀ b ∈ fp,DW X aa H b) (hlt:∀ b ∈ fp,b < s.heap.objs.size):(Aq X N' scope cl s H C fp (X.pn++aa)).Ok where
 mod:=I.mod
 kind:=hf.kind
 glob:=I.ok.glob
 blt:=I.ok.blt
 above:=hC
 inj:=fun x y c e1 e2=>I.ok.inj x y c (c1 x c e1) (c1 y c e2)
 has:=fun x h=>by
  have hm:(x,NameKind.free) ∈ scope.names:=Fw (env:=X.env) hf.nocell h;exact c2 (x,.free) hm rfl
 cab:=fun x c h=>by cases h
 hd:=I.ok.hd
 frames:=I.ok.frames
 stk:=.inl rfl
 exf:=fun b hb=>⟨Nat.ne_of_lt (Nat.lt_of_lt_of_le (hlt b hb) hC),fun x c e=>(hfp b hb).2.2.2.2.1 x c (c1 x c e)⟩
 bs:=I.bs
 bsz:=Nat.le_trans I.ok.bsz I.sz
 noex:=fun b o e hb=>by
  rcases (hfp b hb).2.2.2.1 with z | z
  ·exact I.ok.noex b o e z
  ·exact absurd (Nat.lt_of_lt_of_le (Nat.lt_of_lt_of_le (lt_size e) I.ok.bsz) z) (Nat.lt_irrefl _)
 exfs:=fun b hb z=>by
  rcases mem_cons.mp (I.stkSub b z) with e | e
  ·exact (hfp b hb).2.1 e
  ·exact (hfp b hb).2.2.1 e
 funs:=I.stack
 frf:=I.stkFree
theorem LU (I:Inv X aa σ H s) (hf:CompFits X.env.scope scope X.N N' ix) (c1:∀ x c,cl.lookup x=some c->X.env.cells.lookup x=some c) (c2:∀ y ∈ scope.names,y.2=.free->∃ c,cl.lookup y.1=some c)
  (hC:s.heap.objs.size <= C) (hfp:∀ b ∈ fp,DW X aa H b) (hlt:∀ b ∈ fp,b < s.heap.objs.size) {h₁:Heap} {tk:Nat} {m:SV} (old:∀ b o,s.heap.get? b=some o->h₁.get? b=some o) (hns:h₁.Ns C m) :
  Inv (Aq X N' scope cl s H C fp (X.pn++aa)) [] (Bv ix σ) H { s with heap:=h₁,toks:=tk } where
 ok:=Qy I hf c1 c2 hC hfp hlt
 os:=rfl
 bare:=I.bare
 base:=Un.kept old
 loc:=⟨m,hns,fun j x v e1 e2 e3=>by
  obtain ⟨i,ei,ev⟩:=Mp e2;obtain ⟨hN,bf⟩:=hf.slot j x i e1 ei;obtain ⟨mX,_,hl⟩:=I.loc
  have hm:(x,NameKind.free) ∈ scope.names:=by
   have:∀ {l:List (Str × NameKind)} {k:NameKind},l.lookup x=some k->(x,k) ∈ l:=fun {l k}=>by
    induction l with
    | nil=>intro e; simp at e
    | cons y r ih =>
     intro e;obtain ⟨n,kk⟩:=y;cases hx:x == n with
     | true =>
      simp only [lookup_cons,hx,Option.some.injEq] at e;have:x=n:=by simpa using hx
      subst this e;exact mem_cons_self
     | false =>
      simp only [lookup_cons,hx] at e;exact mem_cons_of_mem _ (ih e)
   exact this bf
  have hk:=hf.free _ hm rfl;obtain ⟨u,r,q⟩:=hl i x v hN ev (.inr hk);refine ⟨u,r,.inr ⟨Cu (env:=X.env) bf,?_⟩⟩;obtain ⟨c,hc⟩:=c2 _ hm rfl;refine ⟨c,hc,?_⟩;rcases q with ⟨k,_⟩ | ⟨_,c',hc',z⟩
  ·have k':X.env.scope.names.lookup x=some .local:=k;rcases hk with a | a <;> (rw [k'] at a; cases a)
  ·rw [c1 x c hc] at hc';cases hc'
   exact z.keeps old⟩
 cell:=fun x c e=>by
  obtain ⟨v,z⟩:=I.cell x c (c1 x c e);exact ⟨v,z.keeps old⟩
 free:=I.hok.fresh hC
 freeC:=fun x c e=>I.freeC x c (c1 x c e)
 pin:=fun p hp=>by
  have hp':p ∈ X.pn++aa:=by
   have z:=hp;rw [append_nil] at z;exact z
  obtain ⟨e,n,ne,nf,d⟩:=I.pin p hp';refine ⟨old _ _ e,n,Nat.ne_of_lt (Nat.lt_of_lt_of_le (lt_size e) hC),fun z=>?_,d⟩;rcases mem_cons.mp (I.stkSub p.1 z) with q | q
  ·exact ne q
  ·exact nf q
 hok:=I.hok.kept old
 len:=by
  show (Bv ix σ).length=N'.length;unfold Bv;rw [AI]; exact hf.len
theorem Nh {pins':LO} {σ':St} {s':Shared} (I:Inv X aa σ H s) (hfp:∀ b ∈ fp,DW X aa H b) (J:Inv (Aq X N' scope cl s H C fp (X.pn++aa)) pins' σ' H' s'):Inv X aa σ H' s' :=
 I.call' (ch:=fp) J.os J.base J.hok J.bare fun b hb=>⟨(hfp b hb).2.2.2.1,(hfp b hb).2.1,(hfp b hb).2.2.2.2.1,(hfp b hb).2.2.2.2.2⟩
end
def PTs (X:Cx) (ifs:List Expr) (t:TT):Prop :=
 ∀ (aa:LO) (s:Shared) (σ:St) (H:Hp) (Q:Bool->Hp->Prop),Inv X aa σ H s->t σ H Q ->
  wpAny (model X.prog X.w) X.A (forIn ifs true fun c r=>if r=true then do let ok ← isTrue c X.env (eval c X.env); pure (ForInStep.yield ok) else pure (ForInStep.yield r)) (TP X aa σ Q) X.xe s
def Ua:TT:=fun _ H Q=>Q true H
theorem BH:PTs X [] Ua:=fun aa s σ H Q I h=>wpAny_tests_nil ⟨H,I,h⟩
theorem Ba {c:Expr} {t:TT} (h:PT X c t):PTs X [c] t:=fun aa s σ H Q I q=>wpAny_tests_one (h aa s σ H Q I q)
def Bc (wi:TI) (g:TG) (tt:TT) (te:TE) (ix:List (Option Nat)) (R:List V->Hp->Prop):St->Hp->Prop:=fun σ H=>wi σ H fun J H1=>∃ W:Nat->Nat->List V->Hp->Prop,(∃ m,W 0 m [] H1)/\∀ i m ys H,W i m ys H ->
 (J.stop i H/\ys.length <= sizeLine/\R ys H) \/
 (J.go i H/\∃ N:List V->Hp->Prop,(∀ ys' H',N ys' H'->ys'.length <= sizeLine/\∃ m',m' < m/\W (i + 1) m' ys' H') /\
  ∀ x H',J.yld i H x H'->g x (Bv ix σ) H' fun σ2 H2=>tt σ2 H2 fun b H3=>if b=true then te σ2 H3 fun y H4=>N (ys++[y]) H4 else N ys H3)
def PGk (X:Cx) (tg:Expr) (ix:List (Option Nat)) (g:TG):Prop :=
 ∀ (aa:LO) (s:Shared) (σ:St) (H:Hp) (v:V) (u:Value) (Q:St->Hp->Prop),Inv X aa (Bv ix σ) H s->RelV v u->g v (Bv ix σ) H Q ->
  wpAny (model X.prog X.w) X.A (assign tg X.env u) (fun _ s'=>∃ σ' H',Inv X aa σ' H' s'/\(∀ (j:Nat) (v:V),(Bv ix σ)[j]?=some (some v)->σ'[j]?=some (some v))/\Q σ' H') X.xe s
theorem Gu {ixc:List (Option Nat)} (h:PG X (.Name x pos) (CO 0)):PGk X (.Name x pos) (none :: ixc) (CO 0):=by
 intro aa s σ H v u Q I r q;refine thn (h aa s _ H v u (fun σ' H'=>(∀ (j:Nat) (v:V),(Bv (none :: ixc) σ)[j]?=some (some v)->σ'[j]?=some (some v))/\Q σ' H') I r ⟨fun j w e=>?_,q⟩) fun _ s' ⟨σ',H',I',k,q⟩=>⟨σ',H',I',k,q⟩;cases j with
 | zero=>cases e
 | succ j=>exact e
theorem Ez {tg:Expr} {ixc:List (Option Nat)} (h:PG X tg (Qg K 2 (Gc (CO 0) (Gc (CO 1) Qf)))):PGk X tg (none :: none :: ixc) (Qg K 2 (Gc (CO 0) (Gc (CO 1) Qf))):=by
 intro aa s σ H v u Q I r q;obtain ⟨a,xs,e1,e2,e3,v1,r1,e4,v2,r2,e5,e6,q⟩:=q;refine thn (h aa s _ H v u (fun σ' H'=>(∀ (j:Nat) (v:V),(Bv (none :: none :: ixc) σ)[j]?=some (some v)->σ'[j]?=some (some v))/\Q σ' H') I r ⟨a,xs,e1,e2,e3,v1,r1,e4,v2,r2,e5,e6,fun j w e=>?_,q⟩) fun _ s' ⟨σ',H',I',k,q⟩=>⟨σ',H',I',k,q⟩
 match j with
 | 0=>cases e
 | 1=>cases e
 | j + 2=>exact e
structure Rx (RD:Cx->Prop) (P:Program) (w:World) (K:FG) (tg:Expr) (J:It) (fp:List Addr) (it:Addr) (tn:Nat->Heap->Prop):Prop where
 obj:∀ i h,tn i h->∀ b ∈ fp,∃ o,h.get? b=some o/\∀ v,o.data ≠ .cell v
 keep:∀ i h h',tn i h->(∀ b ∈ fp,∀ o,h.get? b=some o->h'.get? b=some o)->tn i h'
 item:∀ (X:Cx),X.prog=P->X.w=w->X.K=K->RD X->∀ (i:Nat) (aa:LO) (s:Shared) (σ:St) (H:Hp) (E:VS),Inv X aa σ H s->(∀ b ∈ fp,DW X aa H b)->tn i s.heap->J.go i H ->
  wpAny (model P w) X.A (pyNext (.ref it)) (fun r s1=>∃ u,r=some u/\wpAny (model P w) X.A (letOwnedTupleGo tg (.ref it) u) (fun _ s2=>∃ x H',Inv X aa σ H' s2/\RelV x u/\J.yld i H x H'/\tn (i + 1) s2.heap/\∀ b ∈ fp,H' b=none) E s1) E s
 done:∀ (X:Cx),X.prog=P->X.w=w->X.K=K->RD X->∀ (i:Nat) (aa:LO) (s:Shared) (σ:St) (H:Hp) (E:VS),Inv X aa σ H s->(∀ b ∈ fp,DW X aa H b)->tn i s.heap->J.stop i H ->
  wpAny (model P w) X.A (pyNext (.ref it)) (fun r s1=>r=none/\Inv X aa σ H s1) E s
 self:∀ (A:Around) (i:Nat) (s:Shared) (Q:VS) (E:VS),tn i s.heap->Q (.ref it) s->wpAny (model P w) A (pyIter (.ref it)) Q E s
def PIg (RD:Cx->Prop) (X:Cx) (tg iter:Expr) (wi:TI):Prop:=∀ (aa:LO) (s:Shared) (σ:St) (H:Hp) (R:It->Hp->Prop),Inv X aa σ H s->wi σ H R ->
 wpAny (model X.prog X.w) X.A (eval iter X.env) (fun v s1=>wpAny (model X.prog X.w) X.A (pyIter v) (fun itv s2=>∃ (it:Addr) (fp:List Addr) (tn:Nat->Heap->Prop) (J:It) (H':Hp),itv=.ref it/\Inv X aa σ H' s2/\Rx RD X.prog X.w X.K tg J fp it tn/\tn 0 s2.heap/\(∀ b ∈ fp,DW X aa H' b)/\R J H') X.xe s1) X.xe s
theorem PI.g {tg iter:Expr} {wi:TI} (h:PI X tg iter wi):PIg (fun X=>X.calm=true) X tg iter wi:=fun aa s σ H R I q =>
 thn (h aa s σ H R I q) fun v s1 z=>thn z fun itv s2 ⟨it,fp,tn,J,H',e,I',T,r⟩=>⟨it,fp,tn,J,H',e,I',⟨T.obj,T.keep,T.item,T.done,T.self⟩,r⟩
section
variable {tg iter elt:Expr} {ifs:List Expr} {scope:Scope} {pos':Pos} {N':List Str} {ix:List (Option Nat)} {wi:TI} {g:TG} {tt:TT}
theorem C4 {α:Type} {M:Model} {t:Sem α} {Q:α->Shared->Prop} {s:Shared} (h:wpAny M A t Q (fun _ _=>False) s):wpAny M A t Q E s :=
 wpAny_mono h (fun _ _ q=>q) fun _ _ z=>z.elim
theorem IL {RD:Cx->Prop} {use:Option (Value->Sem Unit)} {Qv:VS} (hf:CompFits X.env.scope scope X.N N' ix) (hc:∀ cl s H C fp aa,RD (Aq X N' scope cl s H C fp (X.pn++aa))) (hi:PIg RD X tg iter wi)
  (hg:∀ cl s H C fp pn,PGk (Aq X N' scope cl s H C fp pn) tg ix g) (ht:∀ cl s H C fp pn,PTs (Aq X N' scope cl s H C fp pn) ifs tt) (he:∀ cl s H C fp pn,PE (Aq X N' scope cl s H C fp pn) elt te)
  (hs:∀ x,foldedSetIterable iter X.env x=pure x) {aa:LO} {s:Shared} {σ:St} {H:Hp} {R:List V->Hp->Prop} (I:Inv X aa σ H s) (h:Bc wi g tt te ix R σ H)
  (ck:∀ s' ys H' D C m,Inv X aa σ (upd H' D (.lst ys)) s'->R ys H'->H' D=none->s'.heap.Ns C m->X.s₀.heap.objs.size <= C->C ≠ X.env.locals->(∀ x c,X.env.cells.lookup x=some c->c ≠ C)->(∀ p ∈ X.pn++aa,p.1 ≠ C) ->
   upd H' D (.lst ys) C=none->compPost (model X.prog X.w) X.A X.xe use Qv (.ref D) C (.ok .next) s') :
  wpAny (model X.prog X.w) X.A (comprehension (.ListComp elt [⟨tg,iter,ifs,0⟩] scope pos) scope X.env pos' (newList []) false (eval iter X.env) use) Qv X.xe s:=by
 obtain ⟨cl,cm,c1,c2⟩:=Mo (env:=X.env) (scope:=scope) fun y hy hyf=>by
  have:=hf.free y hy hyf;exact I.ok.has y.1 this
 refine wpAny_comprehension_free (use:=use) rfl hs cm hf.kind hf.loc (thn (hi aa s σ H _ I h) fun v s1 h1=>thn h1 fun itv s2 h2=>?_);obtain ⟨it,fp,tn,J,H2,e,I2,T,st2,f2,W,⟨m0,w0⟩,turn⟩:=h2;subst e
 have hlt:∀ b ∈ fp,b < s2.heap.objs.size:=fun b hb=>by
  obtain ⟨o,e,_⟩:=T.obj _ _ st2 b hb;exact lt_size e
 refine wpAny_newObj_type (wpAny_newFunctionEnv hf.nocell (by intro y hy; simp at hy) (fun h₁ hns₁ hsb₁=>?_) hf.kind)
 dsimp only at hns₁ hsb₁ ⊢
 generalize hH2:s2.heap.push { cls:=.type "list", dict:=none,data:=.seq ([]:List Value).toArray }=HP at hns₁ hsb₁ ⊢;have hC:HP.objs.size=s2.heap.objs.size + 1:=by rw [← hH2,size_push]
 have hDC:s2.heap.objs.size ≠ HP.objs.size:=by rw [hC]; exact Nat.ne_of_lt (Nat.lt_succ_self _)
 have hCle:s2.heap.objs.size <= HP.objs.size:=by rw [hC]; exact Nat.le_succ _
 have hCne:∀ b,b < s2.heap.objs.size->b ≠ HP.objs.size:=fun b hb=>by rw [hC]; exact Nat.ne_of_lt (Nat.lt_succ_of_lt hb)
 have old:∀ b o,s2.heap.get? b=some o->h₁.get? b=some o:=fun b o e=>hsb₁.extBut b o (hCne b (lt_size e)) (get?_push_of_some _ (hH2 ▸ get?_push_of_some _ e));have cn:h₁.get? s2.heap.objs.size=some { cls:=.type "list", dict:=none,data:=.seq ([]:List Value).toArray }:=hsb₁.extBut _ _ hDC (get?_push_of_some _ (hH2 ▸ get?_push_size _ rfl));generalize hCC:HP.objs.size=C at *;generalize hDD:s2.heap.objs.size=D at *;have IX:=LU (N':=N') (fp:=fp) I2 hf c1 c2 (by rw [hDD]; exact hCle) f2 (by rw [hDD]; exact hlt) (tk:=s2.toks + ([]:List (Str × Value)).length) old hns₁;have hDn:H2 D=none:=I2.hok.fresh (by rw [hDD]; exact Nat.le_refl _)
 have hDfs:D ∉ frs X.stack:=fun z=>by
  rcases mem_cons.mp (I2.stkSub D z) with q | q
  ·have:=I2.lt; rw [← q,hDD] at this; exact Nat.lt_irrefl _ this
  ·exact I2.nofs (by rw [hDD]; exact Nat.le_refl _) q
 have cellLt:∀ x c,X.env.cells.lookup x=some c->c < D:=fun x c e=>by
  obtain ⟨v,z⟩:=I2.cell x c e;rw [← hDD]; exact z.lt
 have pinLt:∀ p ∈ X.pn++aa,p.1 < D:=fun p hp=>by rw [← hDD]; exact lt_size (I2.pin p hp).1
 have s0D:X.s₀.heap.objs.size <= D:=by rw [← hDD]; exact I2.sz
 have locLt:X.env.locals < D:=by rw [← hDD]; exact I2.lt
 let X':Cx:=Aq X N' scope cl s2 H2 C fp (X.pn++aa)
 have stat:∀ {H':Hp} {ob:Obj},(∀ b ∈ fp,H' b=none)->∀ b ∈ fp,DW X' [(D,ob)] H' b:=fun {H' ob} hn b hb=>by
  refine ⟨hn b hb,Nat.ne_of_lt (Nat.lt_of_lt_of_le (hlt b hb) hCle),fun z=>?_,.inl hb,fun x c e=>(f2 b hb).2.2.2.2.1 x c (c1 x c e),fun p hp=>?_⟩
  ·exact IX.ok.exfs b hb z
  ·rcases mem_append.mp hp with z | z
   ·exact (f2 b hb).2.2.2.2.2 p z
   ·have e:p=(D,ob):=by simpa using z
    subst e;exact Nat.ne_of_gt (hlt b hb)
 have pinD:∀ {σ':St} {H':Hp} {s':Shared} {ob:Obj},Inv X' [] σ' H' s'->s'.heap.get? D=some ob->H' D=none->(∀ v,ob.data ≠ .cell v)->Inv X' [(D,ob)] σ' H' s':=fun {σ' H' s' ob} Ia e n d =>
  Ia.pins_of fun p hp=>by
   have q:p=(D,ob):=by simpa using hp
   subst q;exact ⟨e,n,hDC,hDfs,d⟩
 have loop:∀ s3:Shared,s3={ s2 with heap:=h₁,toks:=s2.toks + ([]:List (Str × Value)).length } ->
   codeAny (model X.prog X.w) X.A (.compLoop (.ListComp elt [⟨tg,iter,ifs,0⟩] scope pos) 0 (.ref it) (.ref D) (compEnvC scope cl C X.env)) (compPost (model X.prog X.w) X.A X.xe use Qv (.ref D) C) s3:=by
  rintro s3 rfl
  refine codeAny_loop rfl (fun n s'=>∃ i ys its k H',Inv X' [(D,({ cls:=.type "list", data:=.seq (List.toArray its) k }:Obj))] (Bv ix σ) H' s'/\tn i s'.heap/\(∀ b ∈ fp,H' b=none)/\W i n ys H'/\Vals ys its)
   (fun n s4 hI=>?_) m0 ⟨0,[],[],_,H2,pinD IX cn hDn (fun v z=>by cases z),T.keep _ _ _ st2 (fun b _ o e=>old b o e),fun b hb=>(f2 b hb).1,w0,.nil⟩
  obtain ⟨i,ys,its,k,H4,I4,st4,fr4,w4,rv⟩:=hI;show wpAny _ X.A ((compTurn (.ListComp elt [⟨tg,iter,ifs,0⟩] scope pos) 0 (.ref it) (.ref D) (compEnvC scope cl C X.env)).onRaise (fun x=>do noteFrame x (compEnvC scope cl C X.env); theTreesLotGoes x)) _ _ s4;refine wpAny_noted ?_;rw [compTurn_list];refine C4 ?_;rcases turn i n ys H4 w4 with ⟨stop,hz,r⟩ | ⟨go,N,hN,step⟩
  ·refine wpAny_bind (wpAny_standAt (wpAny_bind (thn (T.done X' rfl rfl rfl (hc _ _ _ _ _ _) i _ s4 _ H4 _ I4 (stat fr4) st4 stop) fun r' s5 ⟨hr,I5⟩=>?_)));subst hr;have pD:=I5.pin (D,_) (mem_append_right _ mem_cons_self);have Ib:Inv X aa σ H4 s5:=Nh I2 f2 I5;have Ic:Inv X aa σ (upd H4 D (.lst ys)) s5:=Ib.track pD.2.1 (Nat.ne_of_gt locLt) (.inr s0D) (fun x c e=>Nat.ne_of_lt (cellLt x c e)) (fun p hp=>Nat.ne_of_lt (pinLt p hp)) ⟨hz,its,k,rv,pD.1⟩;obtain ⟨m5,n5,_⟩:=I5.loc
   refine wpAny_pure (ck s5 ys H4 D C m5 Ic r pD.2.1 n5 (Nat.le_trans s0D hCle) (Nat.ne_of_gt (Nat.lt_of_lt_of_le locLt hCle)) (fun x c e=>Nat.ne_of_lt (Nat.lt_of_lt_of_le (cellLt x c e) hCle))
    (fun p hp=>Nat.ne_of_lt (Nat.lt_of_lt_of_le (pinLt p hp) hCle)) ?_)
   rw [AE (Ne.symm hDC)];exact I5.free
  ·refine wpAny_bind (wpAny_standAt (wpAny_bind (thn (T.item X' rfl rfl rfl (hc _ _ _ _ _ _) i _ s4 _ H4 _ I4 (stat fr4) st4 go) fun r' s5 ⟨u,hr,h5⟩=>?_)));subst hr;refine wpAny_bind (thn h5 fun _ s6 ⟨x,H6,I6,r6,y6,st6,fr6⟩=>?_);have I6':=I6.pinned (stat fr6) (T.obj _ _ st6);refine wpAny_bind (thn (hg _ _ _ _ _ _ _ s6 _ H6 x u _ I6' r6 (step x H6 y6)) fun _ s7 ⟨σ7,H7,I7,k7,q7⟩=>?_);refine wpAny_bind (thn (ht _ _ _ _ _ _ _ s7 σ7 H7 _ I7 q7) fun b s8 ⟨H8,I8,q8⟩=>?_)
   have again:∀ {H9:Hp} {s9:Shared} {ys':List V} {its':List Value} {k':Nat},Inv X' ([(D,({ cls:=.type "list", data:=.seq (List.toArray its') k' }:Obj))]++Cq fp s6.heap) σ7 H9 s9->Vals ys' its' ->
     (∃ m',m' < n/\W (i + 1) m' ys' H9)->∃ m,m < n/\∃ i ys its k H',Inv X' [(D,({ cls:=.type "list", data:=.seq (List.toArray its) k }:Obj))] (Bv ix σ) H' s9/\tn i s9.heap/\(∀ b ∈ fp,H' b=none)/\W i m ys H'/\Vals ys its:=by
    intro H9 s9 ys' its' k' I9 rv' ⟨m',hm,w9⟩;refine ⟨m',hm,i + 1,ys',its',k',H9,I9.unpinned.weak (I4.len.trans I9.len.symm) k7,T.keep _ _ _ st6 fun b hb o e=>(I9.pin (b,o) (mem_append_right _ (mem_append_right _ (Bw hb e)))).1,fun b hb=>?_,w9,rv'⟩;obtain ⟨o,e,d⟩:=T.obj _ _ st6 b hb;exact (I9.pin (b,o) (mem_append_right _ (mem_append_right _ (Bw hb e)))).2.1
   cases b with
   | false =>
    rw [if_neg Bool.false_ne_true] at q8;exact wpAny_pure ⟨rfl,again I8 rv (hN _ _ q8).2⟩
   | true =>
    rw [if_pos rfl] at q8;refine wpAny_bind (wpAny_bind (thn (he _ _ _ _ _ _ _ s8 σ7 H8 _ I8 q8) fun y s9 ⟨z,H9,I9,r9,q9⟩=>?_))
    have hz:ys.length < sizeLine:=by
     have:=(hN _ _ q9).1;rw [length_append,length_singleton] at this;omega
    have pD:=I9.pin (D,_) (mem_append_right _ (mem_append_left _ mem_cons_self));have ay:=rv.length;refine wpAny_bind (call_meets F.slot_list_append ⟨_,pD.1,rfl⟩ F.entry_list_append (F.args_list_append_2 _ _) (PySem.list_append D its.toArray k y (by rw [size_toArray]; omega)) ⟨pD.1,wpAny_pure (wpAny_pure ⟨rfl,?_⟩)⟩);have eq':its.toArray.push y=(its++[y]).toArray:=by simp
    obtain ⟨k',q⟩:∃ k',(s9.heap.update D (Obj.mapSeq (·.push y))).get? D=some { cls:=.type "list", data:=.seq (its++[y]).toArray k' }:=⟨_,by rw [← eq']; exact PySem.IsL.update pD.1 (·.push y)⟩;have Iw:Inv X' (Cq fp s6.heap) σ7 H9 s9:=I9.pins_of fun p hp=>I9.pin p (mem_append_right _ (mem_append_right _ hp))
    have It:Inv X' (Cq fp s6.heap) σ7 H9 { s9 with heap:=s9.heap.update D (Obj.mapSeq (·.push y)),toks:=s9.toks }:=Iw.turned (it:=D) (fun b o hb e=>(get?_update_other s9.heap (Obj.mapSeq (·.push y)) (Ne.symm hb)).trans e) pD.2.1 hDC
     (.inr (by show s2.heap.objs.size <= D; rw [hDD]; exact Nat.le_refl _)) (fun x c e=>Nat.ne_of_lt (cellLt x c (c1 x c e))) (fun p hp=>by
      rcases mem_append.mp hp with z' | z'
      ·exact Nat.ne_of_lt (pinLt p z')
      ·exact Nat.ne_of_lt (hlt p.1 (FQ z').1))
    refine again (its':=its++[y]) (k':=k') (It.pins_of fun p hp=>?_) (rv.append (.cons r9 .nil)) (hN _ _ q9).2;rcases mem_append.mp hp with z' | z'
    ·have e:p=(D,({ cls:=.type "list", data:=.seq (its++[y]).toArray k' }:Obj)):=by simpa using z'
     subst e;exact ⟨q,pD.2.1,hDC,hDfs,fun v z=>by cases z⟩
    ·exact It.pin p (mem_append_right _ z')
 exact codeAny_compStart_list (loop _ rfl) (T.self _ 0 _ _ _ (T.keep _ _ _ st2 fun b _ o e=>old b o e) (loop _ rfl))
theorem IM {RD:Cx->Prop} (hf:CompFits X.env.scope scope X.N N' ix) (hc:∀ cl s H C fp aa,RD (Aq X N' scope cl s H C fp (X.pn++aa))) (hi:PIg RD X tg iter wi)
  (hg:∀ cl s H C fp pn,PGk (Aq X N' scope cl s H C fp pn) tg ix g) (ht:∀ cl s H C fp pn,PTs (Aq X N' scope cl s H C fp pn) ifs tt) (he:∀ cl s H C fp pn,PE (Aq X N' scope cl s H C fp pn) elt te)
  (hs:∀ x,foldedSetIterable iter X.env x=pure x:=by intro _; rfl) :
  PE X (.ListComp elt [⟨tg,iter,ifs,0⟩] scope pos) (fun σ H Q=>Bc wi g tt te ix (fun ys H'=>∀ p,H' p=none->Q (.ref p) (upd H' p (.lst ys))) σ H):=by
 intro aa s σ H Q I h;rw [eval_ListComp];refine IL (use:=none) hf hc hi hg ht he hs I h fun s' ys H' D C m I' r hD hn h1 h2 h3 h4 h5=>?_;refine ⟨m,hn,fun h'' hs''=>⟨.ref D,_,I'.turned (it:=C) (t':=s'.toks) (fun b o hb e=>(hs''.2 b hb).trans e) h5 h2 (.inr h1) h3 h4,rfl,r D hD⟩⟩
theorem J5 (hf:CompFits X.env.scope scope X.N N' ix) (hc:X.calm=true) (hi:PI X tg iter wi)
  (hg:∀ cl s H C fp pn,PGk (Aq X N' scope cl s H C fp pn) tg ix g) (ht:∀ cl s H C fp pn,PTs (Aq X N' scope cl s H C fp pn) ifs tt) (he:∀ cl s H C fp pn,PE (Aq X N' scope cl s H C fp pn) elt te)
  (hs:∀ x,foldedSetIterable iter X.env x=pure x:=by intro _; rfl) :
  PE X (.ListComp elt [⟨tg,iter,ifs,0⟩] scope pos) (fun σ H Q=>Bc wi g tt te ix (fun ys H'=>∀ p,H' p=none->Q (.ref p) (upd H' p (.lst ys))) σ H):=IM hf (fun _ _ _ _ _ _=>hc) hi.g hg ht he hs
theorem J6 {i:Nat} {py spos:Pos} (hN:X.N.Nodup) (hi':X.N[i]?=some x) (hx:X.env.scope.names.lookup x=some .local) (hsw:swapsWith (.ListComp elt [⟨tg,iter,ifs,0⟩] scope pos) (some (.Name x py)) spos.line X.env=pure true)
  (hf:CompFits X.env.scope scope X.N N' ix) (hc:X.calm=true) (hi:PI X tg iter wi)
  (hg:∀ cl s H C fp pn,PGk (Aq X N' scope cl s H C fp pn) tg ix g) (ht:∀ cl s H C fp pn,PTs (Aq X N' scope cl s H C fp pn) ifs tt) (he:∀ cl s H C fp pn,PE (Aq X N' scope cl s H C fp pn) elt te)
  (hs:∀ x,foldedSetIterable iter X.env x=pure x:=by intro _; rfl) :
  PS X (.Assign [.Name x py] (.ListComp elt [⟨tg,iter,ifs,0⟩] scope pos) spos) (fun D σ H=>Bc wi g tt te ix (fun ys H'=>∀ p,H' p=none->D.nx (σ.set i (some (.ref p))) (upd H' p (.lst ys))) σ H):=by
 intro aa s σ H D I h;rw [exec_Assign_Name_used _ _ _ _ hsw];refine wpAny_bind (wpAny_standAt (wpAny_bind ?_));show wpAny _ X.A (do let _ ← comprehension (.ListComp elt [⟨tg,iter,ifs,0⟩] scope pos) scope X.env _ (newList []) false (eval iter X.env) (some (assign (.Name x py) X.env))) _ _ s;refine wpAny_bind (thn (IL (use:=some (assign (.Name x py) X.env)) (Qv:=fun _ s'=>SP X aa D .next s') hf (fun _ _ _ _ _ _=>hc) hi.g hg ht he hs I h fun s' ys H' Da C m I' r hD hn h1 h2 h3 h4 h5=>?_) fun _ s' hq=>wpAny_pure (wpAny_pure hq));show wpAny _ X.A (assign (.Name x py) X.env (.ref Da)) _ _ _;refine wpAny_assign_Name (FO (v:=.ref Da) I' hN hi' (.inl hx) rfl (fun s'' I'' ⟨a,hsb,ha⟩=>?_) (.inr hx))
 have hCa:C ≠ a:=by
  rcases ha with z | z
  ·rw [z]; exact h2
  ·exact (h3 x a z).symm
 refine ⟨m,hn.sameBut hsb hCa,fun h'' hs''=>?_⟩;exact ⟨_,_,I''.turned (it:=C) (t':=s''.toks) (fun b o hb e=>(hs''.2 b hb).trans e) h5 h2 (.inr h1) h3 h4,r Da hD⟩
end
abbrev g2 (K:FG):TG:=Qg K 2 (Gc (CO 0) (Gc (CO 1) Qf))
section
variable {iter elt:Expr} {ifs:List Expr} {scope:Scope} {px py pt:Pos} {wi:TI} {tt:TT} {y:Str} {kt:Nat}
theorem As (Nc:List Str) (ixc:List (Option Nat)) (hf:Gs X.env.scope scope X.N (x :: Nc) (none :: ixc)=true) (hnd:(x :: Nc).Nodup) (hx:scope.names.lookup x=some .local) (hc:X.calm=true) (hi:PI X (.Name x px) iter wi)
  (ht:∀ cl s H C fp pn,PTs (Aq X (x :: Nc) scope cl s H C fp pn) ifs tt) (he:∀ cl s H C fp pn,PE (Aq X (x :: Nc) scope cl s H C fp pn) elt te) (hs:∀ x,foldedSetIterable iter X.env x=pure x:=by intro _; rfl) :
  PE X (.ListComp elt [⟨.Name x px,iter,ifs,0⟩] scope pos) (fun σ H Q=>Bc wi (CO 0) tt te (none :: ixc) (fun ys H'=>∀ p,H' p=none->Q (.ref p) (upd H' p (.lst ys))) σ H) :=
 J5 (CompFits.of hf) hc hi (fun cl s H C fp pn=>Gu (AM (i:=0) hnd rfl (.inl (lookup_relabel_local hx)) (.inr (lookup_relabel_local hx)))) ht he hs
theorem Cc (Nc:List Str) (ixc:List (Option Nat)) (hf:Gs X.env.scope scope X.N (x :: y :: Nc) (none :: none :: ixc)=true) (hnd:(x :: y :: Nc).Nodup) (hx:scope.names.lookup x=some .local) (hy:scope.names.lookup y=some .local) (hc:X.calm=true)
  (hi:PI X (.Tuple [.Name x px,.Name y py] kt pt) iter wi)
  (ht:∀ cl s H C fp pn,PTs (Aq X (x :: y :: Nc) scope cl s H C fp pn) ifs tt) (he:∀ cl s H C fp pn,PE (Aq X (x :: y :: Nc) scope cl s H C fp pn) elt te) (hs:∀ x,foldedSetIterable iter X.env x=pure x:=by intro _; rfl) :
  PE X (.ListComp elt [⟨.Tuple [.Name x px,.Name y py] kt pt,iter,ifs,0⟩] scope pos) (fun σ H Q=>Bc wi (g2 X.K) tt te (none :: none :: ixc) (fun ys H'=>∀ p,H' p=none->Q (.ref p) (upd H' p (.lst ys))) σ H) :=
 J5 (CompFits.of hf) hc hi (fun cl s H C fp pn=>Ez (BO (X:=Aq X (x :: y :: Nc) scope cl s H C fp pn) hc (AO (AM (i:=0) hnd rfl (.inl (lookup_relabel_local hx)) (.inr (lookup_relabel_local hx)))
  (AO (AM (i:=1) hnd rfl (.inl (lookup_relabel_local hy)) (.inr (lookup_relabel_local hy))) A2)))) ht he hs
theorem Os {i:Nat} {z:Str} {pz spos:Pos} (hN:X.N.Nodup) (hi':X.N[i]?=some z) (hz:X.env.scope.names.lookup z=some .local) (Nc:List Str) (ixc:List (Option Nat)) (hf:Gs X.env.scope scope X.N (x :: Nc) (none :: ixc)=true) (hnd:(x :: Nc).Nodup)
  (hx:scope.names.lookup x=some .local) (hc:X.calm=true) (hi:PI X (.Name x px) iter wi)
  (ht:∀ cl s H C fp pn,PTs (Aq X (x :: Nc) scope cl s H C fp pn) ifs tt) (he:∀ cl s H C fp pn,PE (Aq X (x :: Nc) scope cl s H C fp pn) elt te)
  (hsw:swapsWith (.ListComp elt [⟨.Name x px,iter,ifs,0⟩] scope pos) (some (.Name z pz)) spos.line X.env=pure true:=by rfl) (hs:∀ x,foldedSetIterable iter X.env x=pure x:=by intro _; rfl) :
  PS X (.Assign [.Name z pz] (.ListComp elt [⟨.Name x px,iter,ifs,0⟩] scope pos) spos) (fun D σ H=>Bc wi (CO 0) tt te (none :: ixc) (fun ys H'=>∀ p,H' p=none->D.nx (σ.set i (some (.ref p))) (upd H' p (.lst ys))) σ H) :=
 J6 hN hi' hz hsw (CompFits.of hf) hc hi (fun cl s H C fp pn=>Gu (AM (i:=0) hnd rfl (.inl (lookup_relabel_local hx)) (.inr (lookup_relabel_local hx)))) ht he hs
theorem Ot {i:Nat} {z:Str} {pz spos:Pos} (hN:X.N.Nodup) (hi':X.N[i]?=some z) (hz:X.env.scope.names.lookup z=some .local) (Nc:List Str) (ixc:List (Option Nat)) (hf:Gs X.env.scope scope X.N (x :: y :: Nc) (none :: none :: ixc)=true) (hnd:(x :: y :: Nc).Nodup)
  (hx:scope.names.lookup x=some .local) (hy:scope.names.lookup y=some .local) (hc:X.calm=true) (hi:PI X (.Tuple [.Name x px,.Name y py] kt pt) iter wi)
  (ht:∀ cl s H C fp pn,PTs (Aq X (x :: y :: Nc) scope cl s H C fp pn) ifs tt) (he:∀ cl s H C fp pn,PE (Aq X (x :: y :: Nc) scope cl s H C fp pn) elt te)
  (hsw:swapsWith (.ListComp elt [⟨.Tuple [.Name x px,.Name y py] kt pt,iter,ifs,0⟩] scope pos) (some (.Name z pz)) spos.line X.env=pure true:=by rfl) (hs:∀ x,foldedSetIterable iter X.env x=pure x:=by intro _; rfl) :
  PS X (.Assign [.Name z pz] (.ListComp elt [⟨.Tuple [.Name x px,.Name y py] kt pt,iter,ifs,0⟩] scope pos) spos) (fun D σ H=>Bc wi (g2 X.K) tt te (none :: none :: ixc) (fun ys H'=>∀ p,H' p=none->D.nx (σ.set i (some (.ref p))) (upd H' p (.lst ys))) σ H) :=
 J6 hN hi' hz hsw (CompFits.of hf) hc hi (fun cl s H C fp pn=>Ez (BO (X:=Aq X (x :: y :: Nc) scope cl s H C fp pn) hc (AO (AM (i:=0) hnd rfl (.inl (lookup_relabel_local hx)) (.inr (lookup_relabel_local hx)))
  (AO (AM (i:=1) hnd rfl (.inl (lookup_relabel_local hy)) (.inr (lookup_relabel_local hy))) A2)))) ht he hs
end
theorem Ag {g:TG} {tt:TT} {ix:List (Option Nat)} {R:List V->Hp->Prop} {H1:Hp} (Pv:Nat->List V->Hp->Prop) (h0:Pv 0 [] H1) (hl:∀ i ys H,i <= xs.length->Pv i ys H->SqL K H a xs) (hz:∀ i ys H,Pv i ys H->ys.length <= 1000)
  (hs:∀ i x ys H,xs[i]?=some x->Pv i ys H->g x (Bv ix σ) H fun σ2 H2=>tt σ2 H2 fun b H3=>if b=true then te σ2 H3 fun y H4=>Pv (i + 1) (ys++[y]) H4 else Pv (i + 1) ys H3) (hd:∀ ys H,Pv xs.length ys H->R ys H) :
  ∃ W:Nat->Nat->List V->Hp->Prop,(∃ m,W 0 m [] H1)/\∀ i m ys H,W i m ys H ->
   ((Itl K a).stop i H/\ys.length <= sizeLine/\R ys H) \/
   ((Itl K a).go i H/\∃ N:List V->Hp->Prop,(∀ ys' H',N ys' H'->ys'.length <= sizeLine/\∃ m',m' < m/\W (i + 1) m' ys' H') /\
    ∀ x H',(Itl K a).yld i H x H'->g x (Bv ix σ) H' fun σ2 H2=>tt σ2 H2 fun b H3=>if b=true then te σ2 H3 fun y H4=>N (ys++[y]) H4 else N ys H3):=by
 refine ⟨fun i m ys H=>m=xs.length - i/\i <= xs.length/\Pv i ys H,⟨_,rfl,Nat.zero_le _,h0⟩,?_⟩;rintro i m ys H ⟨rfl,hi,hp⟩;by_cases hlt:i < xs.length
 ·have hx:xs[i]?=some xs[i]:=List.getElem?_eq_getElem hlt;refine .inr ⟨⟨xs,xs[i],hl i ys H hi hp,hx⟩,Pv (i + 1),fun ys' H' q=>⟨Nat.le_of_lt (AT (hz _ ys' H' q)),xs.length - (i + 1),by omega,rfl,hlt,q⟩,?_⟩;rintro x H' ⟨rfl,hy⟩
  have ex:x=xs[i]:=by
   have:=hy xs (hl i ys H' hi hp);rw [hx] at this;exact (Option.some.inj this).symm
  subst ex;exact hs i xs[i] ys H' hx hp
 ·have e:i=xs.length:=by omega
  subst e;exact .inl ⟨⟨xs,hl _ ys H hi hp,Nat.le_refl _⟩,Nat.le_of_lt (AT (hz _ ys H hp)),hd ys H hp⟩
theorem E1 {g:TG} {tt:TT} {ix:List (Option Nat)} {R:List V->Hp->Prop} {H1:Hp} (Pv:Nat->List V->Hp->Prop) (h0:Pv 0 [] H1) (hl:∀ i ys H,i <= xs.length->Pv i ys H->SqT K H a xs) (hz:∀ i ys H,Pv i ys H->ys.length <= 1000)
  (hs:∀ i x ys H,xs[i]?=some x->Pv i ys H->g x (Bv ix σ) H fun σ2 H2=>tt σ2 H2 fun b H3=>if b=true then te σ2 H3 fun y H4=>Pv (i + 1) (ys++[y]) H4 else Pv (i + 1) ys H3) (hd:∀ ys H,Pv xs.length ys H->R ys H) :
  ∃ W:Nat->Nat->List V->Hp->Prop,(∃ m,W 0 m [] H1)/\∀ i m ys H,W i m ys H ->
   ((Itt K a).stop i H/\ys.length <= sizeLine/\R ys H) \/
   ((Itt K a).go i H/\∃ N:List V->Hp->Prop,(∀ ys' H',N ys' H'->ys'.length <= sizeLine/\∃ m',m' < m/\W (i + 1) m' ys' H') /\
    ∀ x H',(Itt K a).yld i H x H'->g x (Bv ix σ) H' fun σ2 H2=>tt σ2 H2 fun b H3=>if b=true then te σ2 H3 fun y H4=>N (ys++[y]) H4 else N ys H3):=by
 refine ⟨fun i m ys H=>m=xs.length - i/\i <= xs.length/\Pv i ys H,⟨_,rfl,Nat.zero_le _,h0⟩,?_⟩;rintro i m ys H ⟨rfl,hi,hp⟩;by_cases hlt:i < xs.length
 ·have hx:xs[i]?=some xs[i]:=List.getElem?_eq_getElem hlt;refine .inr ⟨⟨xs,xs[i],hl i ys H hi hp,hx⟩,Pv (i + 1),fun ys' H' q=>⟨Nat.le_of_lt (AT (hz _ ys' H' q)),xs.length - (i + 1),by omega,rfl,hlt,q⟩,?_⟩;rintro x H' ⟨rfl,hy⟩
  have ex:x=xs[i]:=by
   have:=hy xs (hl i ys H' hi hp);rw [hx] at this;exact (Option.some.inj this).symm
  subst ex;exact hs i xs[i] ys H' hx hp
 ·have e:i=xs.length:=by omega
  subst e;exact .inl ⟨⟨xs,hl _ ys H hi hp,Nat.le_refl _⟩,Nat.le_of_lt (AT (hz _ ys H hp)),hd ys H hp⟩
theorem EG {lo:Int} {n:Nat} {g:TG} {tt:TT} {ix:List (Option Nat)} {R:List V->Hp->Prop} {H1:Hp} (Pv:Nat->List V->Hp->Prop) (h0:Pv 0 [] H1) (hz:∀ i ys H,Pv i ys H->ys.length <= 1000)
  (hs:∀ (i:Nat) ys H,i < n->Pv i ys H->g (.int (lo + i)) (Bv ix σ) H fun σ2 H2=>tt σ2 H2 fun b H3=>if b=true then te σ2 H3 fun y H4=>Pv (i + 1) (ys++[y]) H4 else Pv (i + 1) ys H3) (hd:∀ ys H,Pv n ys H->R ys H) :
  ∃ W:Nat->Nat->List V->Hp->Prop,(∃ m,W 0 m [] H1)/\∀ i m ys H,W i m ys H ->
   ((Itr lo n).stop i H/\ys.length <= sizeLine/\R ys H) \/
   ((Itr lo n).go i H/\∃ N:List V->Hp->Prop,(∀ ys' H',N ys' H'->ys'.length <= sizeLine/\∃ m',m' < m/\W (i + 1) m' ys' H') /\
    ∀ x H',(Itr lo n).yld i H x H'->g x (Bv ix σ) H' fun σ2 H2=>tt σ2 H2 fun b H3=>if b=true then te σ2 H3 fun y H4=>N (ys++[y]) H4 else N ys H3):=by
 refine ⟨fun i m ys H=>m=n - i/\i <= n/\Pv i ys H,⟨_,rfl,Nat.zero_le _,h0⟩,?_⟩;rintro i m ys H ⟨rfl,hi,hp⟩;by_cases hlt:i < n
 ·refine .inr ⟨hlt,Pv (i + 1),fun ys' H' q=>⟨Nat.le_of_lt (AT (hz _ ys' H' q)),n - (i + 1),by omega,rfl,hlt,q⟩,?_⟩;rintro x H' ⟨rfl,rfl⟩;exact hs i ys H' hlt hp
 ·have e:i=n:=by omega
  subst e;exact .inl ⟨Nat.le_refl _,Nat.le_of_lt (AT (hz _ ys H hp)),hd ys H hp⟩
section
variable {s:Shared} {o:Obj} {kvs:LK}
theorem Inv.newOk (I:Inv X aa σ H s) {p:Addr} (hp:s.heap.objs.size <= p):H p=none/\p ≠ X.env.locals/\X.s₀.heap.objs.size <= p/\(∀ x c,X.env.cells.lookup x=some c->c ≠ p)/\∀ q ∈ X.pn++aa,q.1 ≠ p :=
 ⟨I.hok.fresh hp,Nat.ne_of_gt (Nat.lt_of_lt_of_le I.lt hp),Nat.le_trans I.sz hp,fun x c e=>by
  obtain ⟨v,z⟩:=I.cell x c e
  exact Nat.ne_of_lt (Nat.lt_of_lt_of_le z.lt hp),fun q hq=>Nat.ne_of_lt (Nat.lt_of_lt_of_le (lt_size (I.pin q hq).1) hp)⟩
theorem Inv.freeze (I:Inv X aa σ H s) (h:H a=some (.dK kvs)):∃ o,Inv X aa σ (upd H a (.frz o (.dK kvs))) s:=by
 obtain ⟨z,y,vs,r,ob,es,ep,e,rest⟩:=I.hok a _ h;refine ⟨ob,?_⟩;exact I.write (x:=a) (e:=a) (o:=.frz ob (.dK kvs)) (h':=s.heap) (t':=s.toks) (by rw [h]; exact trivial) (.inl rfl) (fun b u _ q=>q) ⟨ob,e⟩ ⟨e,z,y,vs,r,ob,es,ep,e,rest⟩
theorem Cd {sts:List Stmt} {t:TS} (h:PSs X sts t):PSs X sts (fun D σ H=>∃ a kvs,H a=some (.dK kvs)/\∀ o,t D σ (upd H a (.frz o (.dK kvs)))):=by
 intro aa s σ H D I ⟨a,kvs,e,k⟩;obtain ⟨o,I'⟩:=I.freeze e;exact h aa s σ _ D I' (k o)
noncomputable def Ou (o:Obj):Nat:=match o.data with
 | .dict _ ep=>ep
 | _=>0
theorem Gw (I:Inv X aa σ H s) (h:H a=some (.frz o (.dK kvs))):kvs.length <= sizeLine/\(a == sysModules)=false/\∃ vs,KV kvs vs/\s.heap.DictAt (Ar X.prog X.w) a vs (Ou o):=by
 obtain ⟨e,z,y,vs,r,ob,es,ep,e2,ex,d,rest⟩:=I.hok a _ h;rw [e] at e2; cases e2;refine ⟨z,y,vs,r,o,es,e,ex,?_,rest⟩;show o.data=.dict es (Ou o);unfold Ou; rw [d]
end
theorem KV.get {κ:Type}:∀ {kvs:List (κ × V)} {vs:List (κ × Value)} {i:Nat} {kv:κ × V},KV kvs vs->kvs[i]?=some kv->∃ v,vs[i]?=some (kv.1,v)/\RelV kv.2 v
 | _,_,_,_,.nil,e=>by simp at e
 | _,_,0,_,.cons r _,e=>by
  simp only [List.getElem?_cons_zero,Option.some.injEq] at e;subst e;rename_i q _ _ _;exact ⟨q.2,by rw [r.1]; rfl,r.2⟩
 | _,_,i + 1,kv,.cons _ t,e=>by
  obtain ⟨u,h1,h2⟩:=KV.get (i:=i) (kv:=kv) (show KV _ _ from t) (by simpa using e);exact ⟨u,by simpa using h1,h2⟩
theorem Mq {k:Key} (h:(Ar P w).is k u=true):RelV (kV k) u:=by
 rcases A9 (show GY k u=true from h) with ⟨i,t,rfl,rfl⟩ | ⟨x,t,rfl,rfl⟩
 ·exact ⟨t,rfl⟩
 ·exact ⟨t,rfl⟩
noncomputable def Iti (a:Addr) (o:Obj) (kvs:LK):It:=⟨fun i H=>H a=some (.frz o (.dK kvs))/\i < kvs.length,fun i H x H'=>∃ p kv,H p=none/\x=.ref p/\kvs[i]?=some kv/\H'=upd H p (.tup [kV kv.1,kv.2]),
 fun i H=>H a=some (.frz o (.dK kvs))/\kvs.length <= i⟩
theorem LV {elts:List Expr} {k0:Nat} (a it:Addr) (o:Obj) (kvs:LK) :
  LB P w K (.Tuple elts k0 pos) (Iti a o kvs) [it] it (fun i h=>∃ ok ov,IsItemIter h it a i kvs.length (Ou o) ok ov) where
 mem:=by simp
 obj:=fun i h st b hb=>by
  have e:b=it:=by simpa using hb
  subst e;obtain ⟨ok,ov,e⟩:=st;exact ⟨_,e,fun v z=>by cases z⟩
 keep:=fun i h h' st k=>by
  obtain ⟨ok,ov,e⟩:=st;exact ⟨ok,ov,k it (by simp) _ e⟩
 item:=by
  intro X hP hw hK hc i aa s σ H E I hf st hg;subst hP hw hK;obtain ⟨hfz,hi⟩:=hg;obtain ⟨z,y,vs,rel,dd⟩:=Gw I hfz;obtain ⟨ok,ov,st⟩:=st;have ay:=rel.length;obtain ⟨kv,hkv⟩:∃ kv,kvs[i]?=some kv:=⟨_,List.getElem?_eq_getElem hi⟩;obtain ⟨v,hv,rv⟩:=KV.get rel hkv;obtain ⟨f0,f1,f2,f3,f4,f5⟩:=hf it (by simp);rw [ay] at st;have hlt:it < s.heap.objs.size:=lt_size st;refine wpAny_pyNext_items_item st dd hv fun key h' ci st' hp hsz keep=>?_;have I1:Inv X aa σ H { s with heap:=h' }:=I.turned (t':=s.toks) keep f0 f1 f3 f4 f5;obtain ⟨n1,n2,n3,n4,n5⟩:=I.newOk (Nat.le_refl s.heap.objs.size);have I2:Inv X aa σ (upd H s.heap.objs.size (.tup [kV kv.1,kv.2])) { s with heap:=h' }:=I1.track n1 n2 (.inr n3) n4 n5 ⟨by show 2 <= sizeLine; decide,[key,v],.cons (Mq ci) (.cons rv .nil),_,hp,rfl,_,rfl⟩;have fi:(upd H s.heap.objs.size (.tup [kV kv.1,kv.2])) it=none:=by rw [AE (Nat.ne_of_lt hlt)]; exact f0
  refine ⟨.ref s.heap.objs.size,rfl,wpAny_letOwnedTupleGo_items st' fun h'' st'' sb=>?_⟩;refine ⟨.ref s.heap.objs.size,_,I2.turned (it:=it) (t':=s.toks) (fun b o hb e=>(sb.2 b hb).trans e) fi f1 f3 f4 f5,rfl,⟨_,kv,n1,rfl,hkv,rfl⟩,⟨key,v,by rw [ay]; exact st''⟩,fun b hb=>?_⟩;have e:b=it:=by simpa using hb
  rw [e]; exact fi
 done:=by
  intro X hP hw hK hc i aa s σ H E I hf st hg;subst hP hw hK;obtain ⟨hfz,hi⟩:=hg;obtain ⟨z,y,vs,rel,dd⟩:=Gw I hfz;obtain ⟨ok,ov,st⟩:=st;have ay:=rel.length;rw [ay] at st;obtain ⟨f0,f1,f2,f3,f4,f5⟩:=hf it (by simp);exact wpAny_pyNext_items_end (I.ok.hd hc) st dd (List.getElem?_eq_none_iff.mpr (by omega)) fun h' eb=>⟨rfl,I.turned (t':=s.toks) (fun b o hb e=>eb b o hb e) f0 f1 f3 f4 f5⟩
 self:=fun _ _ _ _ _ st h=>by
  obtain ⟨ok,ov,e⟩:=st;exact W.kcp_self e h
def SW (to:TE):TI:=fun σ H R=>to σ H fun x H1=>∃ a o kvs,x=.ref a/\H1 a=some (.frz o (.dK kvs))/\R (Iti a o kvs) H1
theorem J7 {elts:List Expr} {k0:Nat} {o:Expr} {to:TE} {apos cpos:Pos} (ho:PE X o to) (bg:attributeBase o "items" X.env (eval o X.env)=eval o X.env:=by rfl) (bn:(apos.endLine == cpos.line)=true:=by rfl) :
  PI X (.Tuple elts k0 pos) (.Call (.Attribute o "items" apos) [] [] cpos) (SW to):=by
 intro aa s σ H R I h;refine wpAny_Call_method0_late bg bn (thn (ho aa s σ H _ I h) fun v s1 ⟨x,H1,I1,r1,a,ob,kvs,ex,hfz,q⟩=>?_);subst ex;cases r1;obtain ⟨t1,t2,_⟩:=Oq I1 (.inl ⟨kvs,.inr ⟨ob,hfz⟩⟩);obtain ⟨z,y,vs,rel,dd⟩:=Gw I1 hfz;refine ⟨"dict", "dict.items", PySem.F.plainAttrs_dict,PySem.F.slot_dict_items,PySem.F.type_dict_items,t1,t2,Calls.callWith_builtin rfl (PySem.evalArgs_none (call_meetsIn PySem.F.slot_dict_items t1 PySem.F.entry_dict_items (PySem.F.args_dict_items_1 _) (meets_dict_items (Ar X.prog X.w) a y) ⟨⟨vs,dd.dictOf⟩,?_⟩))⟩;have I2:Inv X aa σ H1 { s1 with heap:=s1.heap.push { cls:=.type "dict_items", data:=.fields #[.ref a] } }:=I1.kept (t':=s1.toks) fun b o e=>get?_push_of_some _ e;refine wpAny_pyIter_items (knd:=Ar X.prog X.w) (d:=a) (kvs:=vs) (ep:=Ou ob) ⟨_,get?_push_size _ rfl,rfl,rfl⟩ (dd.push _) ?_;refine ⟨_,[_],_,_,H1,rfl,I2.kept (t':=s1.toks) fun b o e=>get?_push_of_some _ e,LV a _ ob kvs,⟨.none,.none,by rw [rel.length]; exact get?_push_size _ rfl⟩,fun b hb=>?_,q⟩;have e:b=(s1.heap.push { cls:=.type "dict_items", data:=.fields #[.ref a] }).objs.size:=by simpa using hb
 subst e;exact I2.fpOk (Nat.le_refl _) (I2.hok.fresh (Nat.le_refl _))
noncomputable def Ite (K:FG) (a:Addr):It:=⟨fun i H=>∃ xs x,SqL K H a xs/\xs[i]?=some x,fun i H x H'=>∃ p y,H p=none/\x=.ref p/\(∀ xs,SqL K H a xs->xs[i]?=some y)/\H'=upd H p (.tup [.int i,y]),fun i H=>∃ xs,SqL K H a xs/\xs.length <= i⟩
theorem Ni {elts:List Expr} {k0:Nat} (a e it:Addr) (av:e ≠ it) :
  LB P w K (.Tuple elts k0 pos) (Ite K a) [e,it] e (fun i h=>∃ old,IsEnum h e it i old/\h.IsListIter it a i) where
 mem:=by simp
 obj:=fun i h st b hb=>by
  obtain ⟨old,e1,o,e2,c,d⟩:=st;have hb':b=e\/b=it:=by simpa using hb
  rcases hb' with rfl | rfl
  ·exact ⟨_,e1,fun v z=>by cases z⟩
  ·exact ⟨o,e2,fun v z=>by rw [d] at z; cases z⟩
 keep:=fun i h h' st k=>by
  obtain ⟨old,e1,e2⟩:=st;exact ⟨old,k e (by simp) _ e1,e2.at fun o q=>k it (by simp) o q⟩
 item:=by
  intro X hP hw hK hc i aa s σ H E I hf st hg;subst hP hw hK;obtain ⟨xs,x,hq,hx⟩:=hg;obtain ⟨its,rv,p,hz⟩:=I.list hq;obtain ⟨u,hu,ru⟩:=rv.get hx;obtain ⟨old,s1,s2⟩:=st;obtain ⟨f0,f1,f2,f3,f4,f5⟩:=hf e (by simp);obtain ⟨g0,g1,g2,g3,g4,g5⟩:=hf it (by simp);have hlt:e < s.heap.objs.size:=lt_size s1;have hlt2:it < s.heap.objs.size:=by obtain ⟨o,q,_⟩:=id s2; exact lt_size q
  refine wpAny_pyNext_enum_item s1 s2 p.isList (x:=u) (by simpa using hu) av fun h' st' st2' hp hsz keep=>?_
  have I1:Inv X aa σ H { s with heap:=h',toks:=s.toks + 1 }:=by
   refine I.step (H':=H) (g':=s.gens) (d':=s.drawn) (ch:=[e,it]) (fun b hb=>?_) (fun b o _ _ hb q _=>keep b o (by simp at hb; exact hb.1) (by simp at hb; exact hb.2) q) (fun b o _ _ hb q _=>⟨o.slots,keep b o (by simp at hb; exact hb.1) (by simp at hb; exact hb.2) q⟩)
    (fun _ _ _ _ n=>n) (fun b o hb q=>⟨o,keep b o (by simp at hb; exact hb.1) (by simp at hb; exact hb.2) q⟩) (fun _ _ q=>q) (fun _ _ _ q=>q) (fun b ps q=>⟨#[],by rw [q]; simp⟩) (fun m hm=>?_) (fun b u q=>?_) I.bare
   ·have hb':b=e\/b=it:=by simpa using hb
    rcases hb' with rfl | rfl
    ·exact ⟨f3,f1,f4,f5⟩
    ·exact ⟨g3,g1,g4,g5⟩
   ·obtain ⟨oL,es,ep,hoL,r⟩:=hm;exact ⟨oL,es,ep,keep _ oL (Ne.symm f1) (Ne.symm g1) hoL,r⟩
   ·have ne1:∀ c v,H c=some v->c ≠ e/\c ≠ it:=fun c v q=>⟨AH q f0,AH q g0⟩;refine (I.hok b u q).stay (fun c v hc q'=>keep c v ?_ ?_ q') (fun _ q=>q) fun _ _ q=>q
    ·rcases hc with z | z
     ·rw [z]; exact (ne1 b u q).1
     ·exact (ne1 c _ z).1
    ·rcases hc with z | z
     ·rw [z]; exact (ne1 b u q).2
     ·exact (ne1 c _ z).2
  obtain ⟨n1,n2,n3,n4,n5⟩:=I.newOk (Nat.le_refl s.heap.objs.size);have I2:Inv X aa σ (upd H s.heap.objs.size (.tup [.int i,x])) { s with heap:=h',toks:=s.toks + 1 }:=I1.track n1 n2 (.inr n3) n4 n5 ⟨by show 2 <= sizeLine; decide,[.int i s.toks,u],.cons ⟨_,rfl⟩ (.cons ru .nil),_,hp,rfl,_,rfl⟩;have fe:(upd H s.heap.objs.size (.tup [.int i,x])) e=none:=by rw [AE (Nat.ne_of_lt hlt)]; exact f0
  have fi:(upd H s.heap.objs.size (.tup [.int i,x])) it=none:=by rw [AE (Nat.ne_of_lt hlt2)]; exact g0
  refine ⟨.ref s.heap.objs.size,rfl,wpAny_letOwnedTupleGo_enum st' fun h'' st'' sb=>?_⟩;refine ⟨.ref s.heap.objs.size,_,I2.turned (it:=e) (t':=s.toks + 1) (fun b o hb q=>(sb.2 b hb).trans q) fe f1 f3 f4 f5,rfl,⟨_,x,n1,rfl,fun ys hy=>by rw [I.list_inj hy hq]; exact hx,rfl⟩,⟨_,by exact_mod_cast st'',st2'.extBut sb.extBut (Ne.symm av)⟩,fun b hb=>?_⟩;have hb':b=e\/b=it:=by simpa using hb
  rcases hb' with rfl | rfl
  ·exact fe
  ·exact fi
 done:=by
  intro X hP hw hK hc i aa s σ H E I hf st hg;subst hP hw hK;obtain ⟨xs,hq,hx⟩:=hg;obtain ⟨its,rv,p,hz⟩:=I.list hq;obtain ⟨old,s1,s2⟩:=st;obtain ⟨g0,g1,g2,g3,g4,g5⟩:=hf it (by simp);have hl:=rv.length;exact wpAny_pyNext_enum_end (I.ok.hd hc) s1 s2 p.isList (by simp; omega) fun h' eb=>⟨rfl,I.turned (t':=s.toks) (fun b o hb e=>eb b o hb e) g0 g1 g3 g4 g5⟩
 self:=fun _ _ _ _ _ st h=>by
  obtain ⟨old,e1,_⟩:=st;exact wpAny_pyIter_enum e1 h
def Tu (K:FG) (tl:TA):TI:=fun σ H R=>tl σ H fun vs H1=>∃ a,vs=[.ref a]/\(∃ xs,SqL K H1 a xs)/\R (Ite K a) H1
theorem Qz {elts:List Expr} {k0:Nat} {p cpos:Pos} {l:Expr} {tl:TA} (hg:Gl X "enumerate") (hm:X.mg "enumerate" = none) (hl:PA X [l] tl) (hs:starEach [l] X.env=[(false,eval l X.env)]:=by rfl) :
  PI X (.Tuple elts k0 pos) (.Call (.Name "enumerate" p) [l] [] cpos) (Tu X.K tl):=by
 intro aa s σ H R I h;refine wpAny_Call_Name_kw (D8 (u:=.type "enumerate") I hg hm (by decide +kernel) ?_);refine PyProof.Rows.callWith_type1 (thn (hl cpos aa s σ H _ I h) fun us s1 ⟨vs,H1,I1,r1,a,ev,⟨xs,hq⟩,q⟩=>?_) hs rfl;subst ev;obtain ⟨u,rfl,ru⟩:=CP r1;cases ru;obtain ⟨its,rv,pl,hz⟩:=I1.list hq;refine call_enumerate_list pl.isList fun h' he hi hsz keep=>?_;refine wpAny_pyIter_enum he ?_;have I2:Inv X aa σ H1 { s1 with heap:=h' }:=I1.kept (t':=s1.toks) keep;refine ⟨_,[s1.heap.objs.size + 1,s1.heap.objs.size],_,_,H1,rfl,I2,Ni a _ _ (Nat.succ_ne_self _),⟨_,he,hi⟩,fun b hb=>?_,q⟩;have hb':b=s1.heap.objs.size + 1\/b=s1.heap.objs.size:=by simpa using hb
 rcases hb' with rfl | rfl
 ·exact I1.fpOk (Nat.le_succ _) (I1.hok.fresh (Nat.le_succ _))
 ·exact I1.fpOk (Nat.le_refl _) (I1.hok.fresh (Nat.le_refl _))
noncomputable def Its (x:Str):It:=⟨fun i _=>i < x.cps.size,fun i H v H'=>H'=H/\∃ c,x.cps[i]?=some c/\v=.str ⟨#[c]⟩,fun i _=>x.cps.size <= i⟩
theorem Ov {n:Str} (it:Addr) (x:Str) (t:Tok) :
  LB P w K (.Name n pos) (Its x) [it] it (fun i h=>h.IsStrIter it "str_ascii_iterator" x t i) where
 mem:=by simp
 obj:=fun i h st b hb=>by
  have e:b=it:=by simpa using hb
  subst e;obtain ⟨o,e,c,d⟩:=st;exact ⟨o,e,fun v z=>by rw [d] at z; cases z⟩
 keep:=fun i h h' st k=>by
  obtain ⟨o,e,r⟩:=st;exact ⟨o,k it (by simp) o e,r⟩
 item:=by
  intro X hP hw hK hc i aa s σ H E I hf st hg;subst hP hw hK;have hi:i < x.cps.size:=hg;obtain ⟨f0,f1,f2,f3,f4,f5⟩:=hf it (by simp);refine wpAny_pyNext_ascii_item st (Array.getElem?_eq_getElem hi) fun h' st' sb=>?_;refine ⟨_,rfl,wpAny_pure ⟨.str ⟨#[x.cps[i]]⟩,H,I.turned (t':=s.toks + 1) (fun b o hb e=>(sb.2 b hb).trans e) f0 f1 f3 f4 f5,⟨_,rfl⟩,⟨rfl,_,Array.getElem?_eq_getElem hi,rfl⟩,st',fun b hb=>(hf b hb).1⟩⟩
 done:=by
  intro X hP hw hK hc i aa s σ H E I hf st hg;subst hP hw hK;have hi:x.cps.size <= i:=hg;obtain ⟨f0,f1,f2,f3,f4,f5⟩:=hf it (by simp);exact wpAny_pyNext_ascii_end (I.ok.hd hc) st (Array.getElem?_eq_none hi) fun h' eb=>⟨rfl,I.turned (t':=s.toks) (fun b o hb e=>eb b o hb e) f0 f1 f3 f4 f5⟩
 self:=fun _ _ _ _ _ st h=>wpAny_pyIter_striter_ascii st h
def Ub (ts:TE):TI:=fun σ H R=>ts σ H fun v H1=>∃ x,v=.str x/\x.cps.all (· < 128)=true/\R (Its x) H1
theorem SX {n:Str} {ts:TE} (he:PE X e ts):PI X (.Name n pos) e (Ub ts):=by
 intro aa s σ H R I h;refine thn (he aa s σ H _ I h) fun v s1 ⟨z,H1,I1,r1,x,ez,ha,q⟩=>?_;subst ez;obtain ⟨t,rfl⟩:=r1;refine wpAny_pyIter_ascii ha ?_;refine ⟨s1.heap.objs.size,[s1.heap.objs.size],_,_,H1,rfl,I1.kept (t':=s1.toks) fun b o e=>get?_push_of_some _ e,Ov _ x t,⟨_,get?_push_size _ rfl,rfl,rfl⟩,fun b hb=>?_,q⟩;have e:b=s1.heap.objs.size:=by simpa using hb
 subst e;exact I1.fpOk (Nat.le_refl _) (I1.hok.fresh (Nat.le_refl _))
theorem Hr:entryFor table "proto.unchain" = some Builtin.«proto.unchain»:=entryFor_of_tree (by kernel_rfl)
section
variable {prog:Program} {s:Shared}
theorem Q0 {α:Type} {c e:Addr} {oc oe:Obj} {vc ve:Array Value} {Q:α->Shared->Prop} (hh:A.handled=some (.ref c)) (hce:c ≠ e) (hc:s.heap.get? c=some oc) (hdc:oc.data=.fields vc) (h2:vc[2]?=some .none)
  (he:s.heap.get? e=some oe) (hde:oe.data=.fields ve) (hz:2 < ve.size) (h:E (.ref e) { s with heap:=s.heap.update e (Obj.mapFields (·.setIfInBounds 2 (.ref c))) }):wpAny (model prog w) A (raiseNew (.ref e):Sem α) Q E s:=by
 unfold raiseNew;refine wpAny_bind (wpAny_handled ?_);rw [hh]
 dsimp only
 rw [if_pos (show (Value.ref c != Value.ref e)=true by simp [hce])];refine wpAny_bind (wpAny_holding (wpAny_runValue (codeAny_builtin Hr ?_)));unfold Builtin.«proto.unchain»
 dsimp only
 refine wpAny_bind (wpAny_field hc hdc h2 ?_);rw [if_pos (by decide)];refine wpAny_pure ?_;show wpAny _ _ _ _ _ _;have up:=wpAny_setField (M:=model prog w) (A:=A) (E:=E) (x:=Value.ref c) (Q:=fun _ s'=>E (.ref e) s') he hde hz h;unfold setField at up;exact wpAny_bind (wpAny_mono up (fun _ s' z=>wpAny_throw z) fun _ _ z=>z)
theorem DU {it l c:Addr} {i:Nat} {xs:Array Value} {oc:Obj} {vc:Array Value} {Q:Option Value->Shared->Prop} (hh:A.handled=some (.ref c)) (hc:s.heap.get? c=some oc) (hdc:oc.data=.fields vc) (h2:vc[2]?=some .none) (hci:c ≠ it)
  (hI:s.heap.IsListIter it l i) (hL:s.heap.IsList l xs) (hx:xs[i]?=none) (fin:∀ h',Heap.ExtBut it s.heap h'->Q none { s with heap:=h' }):wpAny (model prog w) A (pyNext (.ref it)) Q E s:=by
 obtain ⟨o,ho,oc1,hd⟩:=id hI;obtain ⟨ol,hol,_,nl,hdl⟩:=hL;unfold pyNext;refine wpAny_bind (wpAny_attempt (wpAny_callSpecial?_slot (name:=Str.ofString "__next__") hI.typeIs slot_listiter_next (wpAny_call_entry slot_listiter_next hI.typeIs entry_listiter_next ?_ (args_listiter_next _))));show wpAny _ _ (field (.ref it) 0 >>= _) _ _ s;refine wpAny_bind (wpAny_field (x:=.ref l) ho hd rfl ?_);show wpAny _ _ (if (Value.ref l == Value.none)=true then _ else _) _ _ s;rw [if_neg (by simp:¬ (Value.ref l == Value.none)=true)];show wpAny _ _ (field (.ref it) 1 >>= _) _ _ s;refine wpAny_bind (wpAny_field (x:=.int i 0) ho hd rfl ?_);show wpAny _ _ (seqItems? (.ref l) >>= _) _ _ s;refine wpAny_bind (wpAny_seqItems hol hdl ?_);simp only [Int.toNat_natCast,hx];refine wpAny_bind (wpAny_rule (wpAny_bind (wpAny_setField ho hd (by simp) ?_)));show wpAny _ _ (newExc (.type "StopIteration") [] >>= raiseNew) _ _ _;refine wpAny_bind ?_;simp only [newExc,newTuple];refine wpAny_bind (wpAny_newObj_type ?_ (by size_fits));refine wpAny_bind (m:=firstArgMember _ _) (wpAny_of_eq (a:=Value.none) (by first | rfl | (simp only [firstArgMember]; rfl)) (wpAny_newObj_type ?_ (by size_fits)));have k1:=(get?_update_other s.heap (Obj.mapFields (·.setIfInBounds 0 Value.none)) (Ne.symm hci)).trans hc;refine Q0 (c:=c) (show A.in1.handled=_ from hh) (fun z=>?_) (get?_push_of_some _ (get?_push_of_some _ k1)) hdc h2 (get?_push_size _ rfl) rfl (by simp; omega) ?_
 ·have:=lt_size (get?_push_of_some { cls:=.type "tuple", data:=.seq #[] } k1);rw [z] at this;exact absurd this (Nat.lt_irrefl _)
 ·refine wpAny_bind (wpAny_isInstance (T := "StopIteration") (b:=true) ⟨_,get?_update_self _ (get?_push_size _ rfl) rfl,rfl⟩ isSubtype_stop ?_);refine wpAny_pure (fin _ fun b u hb z=>?_);have z1:=(get?_update_other s.heap (Obj.mapFields (·.setIfInBounds 0 Value.none)) (Ne.symm hb)).trans z;have z2:=get?_push_of_some { cls:=.type "tuple", data:=.seq #[] } z1;rw [get?_update_other _ _ (Nat.ne_of_gt (lt_size z2))];exact get?_push_of_some _ z2
end
def Sft (X:Cx):Prop:=∃ e oe vs,X.A.handled=some (.ref e)/\(e,oe) ∈ X.pn/\oe.data=.fields vs/\vs[2]?=some .none
def Rdy (X:Cx):Prop:=X.calm=true\/Sft X
theorem Rdy.comp {N':List Str} {scope:Scope} {cl:List (Str × Addr)} {s:Shared} {fp:List Addr} (h:Rdy X):Rdy (Aq X N' scope cl s H C fp (X.pn++aa)):=by
 rcases h with h | ⟨e,oe,vs,a,b,c,d⟩
 ·exact .inl h
 ·exact .inr ⟨e,oe,vs,a,mem_append_left _ b,c,d⟩
section
variable {s:Shared}
theorem Ow {it l:Addr} {i:Nat} {xs:Array Value} {Q:Option Value->Shared->Prop} (hc:Rdy X) (I:Inv X aa σ H s) (hf:DW X aa H it) (hI:s.heap.IsListIter it l i) (hL:s.heap.IsList l xs) (hx:xs[i]?=none)
  (fin:∀ h',Heap.ExtBut it s.heap h'->Q none { s with heap:=h' }):wpAny (model X.prog X.w) X.A (pyNext (.ref it)) Q E s:=by
 rcases hc with hc | ⟨e,oe,vs,a,b,c,d⟩
 ·exact wpAny_pyNext_list_end (I.ok.hd hc) hI hL hx fin
 ·exact DU a (I.pin (e,oe) (mem_append_left _ b)).1 c d (hf.2.2.2.2.2 (e,oe) (mem_append_left _ b)) hI hL hx fin
end
theorem LX {tg:Expr} (a it:Addr):Rx Rdy P w K tg (Itl K a) [it] it (fun i h=>h.IsListIter it a i):=by
 have T:=Hz (P:=P) (w:=w) (K:=K) (tg:=tg) a it;refine ⟨T.obj,T.keep,?_,?_,T.self⟩
 ·intro X hP hw hK hc i aa s σ H E I hf st hg;subst hP hw hK;obtain ⟨xs,x,hq,hx⟩:=hg;obtain ⟨its,rv,p,hz⟩:=I.list hq;obtain ⟨u,hu,ru⟩:=rv.get hx;obtain ⟨f0,f1,f2,f3,f4,f5⟩:=hf it (by simp);refine wpAny_pyNext_list_item st p.isList (x:=u) (by simpa using hu) fun h' st' sb=>?_;obtain ⟨o,e,c,d⟩:=id st';exact ⟨u,rfl,MR (s:={ s with heap:=h' }) e c d (by decide) ⟨x,H,I.turned (t':=s.toks) (fun b o hb e=>(sb.2 b hb).trans e) f0 f1 f3 f4 f5,ru,⟨rfl,fun ys hy=>by rw [I.list_inj hy hq]; exact hx⟩,st',fun b hb=>(hf b hb).1⟩⟩
 ·intro X hP hw hK hc i aa s σ H E I hf st hg;subst hP hw hK;obtain ⟨xs,hq,hx⟩:=hg;obtain ⟨its,rv,p,hz⟩:=I.list hq;have f:=hf it (by simp);have hl:=rv.length;exact Ow hc I f st p.isList (by simp; omega) fun h' eb=>⟨rfl,I.turned (t':=s.toks) (fun b o hb e=>eb b o hb e) f.1 f.2.1 f.2.2.2.1 f.2.2.2.2.1 f.2.2.2.2.2⟩
section
variable {iter elt:Expr} {ifs:List Expr} {scope:Scope} {px:Pos} {wi:TI} {tt:TT}
theorem Ox {tg l:Expr} {tl:TE} (hl:PE X l tl):PIg Rdy X tg l (MS X.K tl):=by
 intro aa s σ H R I h;refine thn (hl aa s σ H _ I h) fun v s1 ⟨x,H1,I1,r1,a,e,⟨xs,hq⟩,q⟩=>?_;subst e;cases r1;obtain ⟨its,rv,p,hz⟩:=I1.list hq;refine wpAny_pyIter_list p.isList ⟨s1.heap.objs.size,[s1.heap.objs.size],_,_,H1,rfl,I1.kept (t':=s1.toks) fun b o e=>get?_push_of_some _ e,LX a _,⟨_,get?_push_size _ rfl,rfl,rfl⟩,fun b hb=>?_,q⟩;obtain rfl:b=s1.heap.objs.size:=by simpa using hb
 exact I1.fpOk (Nat.le_refl _) (I1.hok.fresh (Nat.le_refl _))
theorem Nj (Nc:List Str) (ixc:List (Option Nat)) (hf:Gs X.env.scope scope X.N (x :: Nc) (none :: ixc)=true) (hnd:(x :: Nc).Nodup) (hx:scope.names.lookup x=some .local) (hc:Rdy X) (hi:PIg Rdy X (.Name x px) iter wi)
  (ht:∀ cl s H C fp pn,PTs (Aq X (x :: Nc) scope cl s H C fp pn) ifs tt) (he:∀ cl s H C fp pn,PE (Aq X (x :: Nc) scope cl s H C fp pn) elt te) (hs:∀ x,foldedSetIterable iter X.env x=pure x:=by intro _; rfl) :
  PE X (.ListComp elt [⟨.Name x px,iter,ifs,0⟩] scope pos) (fun σ H Q=>Bc wi (CO 0) tt te (none :: ixc) (fun ys H'=>∀ p,H' p=none->Q (.ref p) (upd H' p (.lst ys))) σ H) :=
 IM (CompFits.of hf) (fun _ _ _ _ _ _=>hc.comp) hi (fun cl s H C fp pn=>Gu (AM (i:=0) hnd rfl (.inl (lookup_relabel_local hx)) (.inr (lookup_relabel_local hx)))) ht he hs
end
theorem LY {s:Shared} {p:Addr} {its:List Value} (hc:Rdy X) (I:Inv X aa σ H s) (pl:s.heap.IsList p its.toArray):∃ fp St,Walks X.prog X.w X.A.in1 s.heap.objs.size fp [s.heap.objs.size] its.toArray.size (fun i v=>its.toArray[i]?=some v) St /\
  St 0 (s.heap.push { cls:=.type "list_iterator", data:=.fields #[.ref p,.int 0 0] })/\∀ b ∈ fp,b < s.heap.objs.size + 1:=by
 have hp:p < s.heap.objs.size:=by obtain ⟨o,e,_⟩:=id pl; exact lt_size e
 have st0:(s.heap.push { cls:=.type "list_iterator", data:=.fields #[.ref p,.int 0 0] }).IsListIter s.heap.objs.size p 0/\(s.heap.push { cls:=.type "list_iterator", data:=.fields #[.ref p,.int 0 0] }).IsList p its.toArray :=
  ⟨⟨_,get?_push_size _ rfl,rfl,rfl⟩,pl.at fun o e=>get?_push_of_some _ e⟩
 rcases hc with hc | ⟨e,oe,vs,a,b,c,d⟩
 ·refine ⟨_,_,Walks.list (A:=X.A.in1) (show X.A.in1.handled=none from I.ok.hd hc) _ p (Nat.ne_of_lt hp) its.toArray,st0,fun b hb=>?_⟩;have z:b=s.heap.objs.size\/b=p:=by simpa using hb
  rcases z with rfl | rfl
  ·exact Nat.lt_succ_self _
  ·exact Nat.lt_succ_of_lt hp
 ·have he:=(I.pin (e,oe) (mem_append_left _ b)).1;have hlt:=lt_size he;refine ⟨[s.heap.objs.size,p,e],fun i h=>(h.IsListIter s.heap.objs.size p i/\h.IsList p its.toArray)/\h.get? e=some oe,⟨fun b hb=>by simp at hb; simp [hb],fun i h h' st k=>⟨⟨st.1.1.at fun o z=>k _ (by simp) o z,st.1.2.at fun o z=>k _ (by simp) o z⟩,k e (by simp) oe st.2⟩,?_,?_,fun _ _ _ _ st hQ=>wpAny_pyIter_listiter st.1.1 hQ⟩,⟨st0,get?_push_of_some _ he⟩,fun b hb=>?_⟩
  ·intro i s1 Q E hi st hQ;refine wpAny_pyNext_list_item st.1.1 st.1.2 (x:=its.toArray[i]) (by simp [hi]) fun h' t1 t2=>?_;exact hQ _ h' s1.toks (by simp [hi]) ⟨⟨t1,st.1.2.extBut t2.extBut (Nat.ne_of_lt hp)⟩,t2.extBut e oe (Nat.ne_of_lt hlt) st.2⟩ fun b o hb z=>t2.extBut b o (fun y=>hb (by simp [y])) z
  ·intro s1 Q E st hQ;exact DU (show X.A.in1.handled=_ from a) st.2 c d (Nat.ne_of_lt hlt) st.1.1 st.1.2 (by simp) fun h' z=>hQ h' s1.toks fun b o hb y=>z b o (fun y'=>hb (by simp [y'])) y
  ·have z:b=s.heap.objs.size\/b=p\/b=e:=by simpa using hb
   rcases z with rfl | rfl | rfl
   ·exact Nat.lt_succ_self _
   ·exact Nat.lt_succ_of_lt hp
   ·exact Nat.lt_succ_of_lt hlt
noncomputable def Mr (a p:Addr):HO:=.ext fun h=>h.IsValuesView p a
section
variable {o:Expr} {to:TE} {name:Str} {apos cpos:Pos} {id:String} {r:V->List V->Hp->VK->Prop}
theorem Oy (slot:Slot "dict" name id) (hty:typeOf (.builtin id)=pure (.type "method_descriptor")) (hm:MtR X id r) (ho:PE X o to)
  (bg:attributeBase o name X.env (eval o X.env)=eval o X.env:=by rfl) (bn:(apos.endLine == cpos.line)=true:=by rfl) :
  PE X (.Call (.Attribute o name apos) [] [] cpos) (fun σ H Q=>to σ H fun x H1=>∃ a,x=.ref a/\IsD H1 a/\r x [] H1 Q):=by
 intro aa s σ H Q I h;refine wpAny_Call_method0_late bg bn (thn (ho aa s σ H _ I h) fun v s1 ⟨x,H1,I1,r1,a,ex,d,q1⟩=>?_);subst ex;cases r1;obtain ⟨t1,t2,_⟩:=Oq I1 d;exact ⟨"dict", id,PySem.F.plainAttrs_dict,slot,hty,t1,t2,Calls.callWith_builtin rfl (PySem.evalArgs_none (hm aa s1 σ H1 (.ref a) [] (.ref a) [] Q I1 rfl .nil q1))⟩
theorem IN:MtR X "dict.values" (fun x xs H Q=>∃ a kvs,x=.ref a/\xs=[]/\Rd H a (.dK kvs)/\∀ p,H p=none->Q (.ref p) (upd H p (Mr a p))):=by
 intro aa s σ H x xs v us Q I rx rs h;obtain ⟨a,kvs,rfl,rfl,hd,q⟩:=h;cases rx;cases rs;obtain ⟨z,y,vs,rel,dd⟩:=Ev I.hok hd;refine call_meetsIn PySem.F.slot_dict_values dd.typeIs PySem.F.entry_dict_values (PySem.F.args_dict_values_1 _) (meets_dict_values (Ar X.prog X.w) a y) ⟨⟨vs,dd⟩,?_⟩;refine ⟨.ref s.heap.objs.size,_,I.laid (t':=s.toks) (o:=Mr a s.heap.objs.size) (fun b o e=>get?_push_of_some _ e) (Nat.le_refl _) ⟨⟨_,get?_push_size _ rfl,rfl,rfl⟩,⟨_,get?_push_size _ rfl⟩,fun h1 h2 z k=>?_⟩,rfl,q _ (I.hok.fresh (Nat.le_refl _))⟩;obtain ⟨ob,e,r⟩:=z;exact ⟨ob,k ob e,r⟩
theorem FX {α β:Type} {F:α->β->Prop}:∀ {xs:List α} {ys:List β},xs.length=ys.length->(∀ (j:Nat) x y,xs[j]?=some x->ys[j]?=some y->F x y)->Paired F xs ys
 | [],[],_,_=>.nil
 | [],_ :: _,h,_=>by simp at h
 | _ :: _,[],h,_=>by simp at h
 | x :: xs,y :: ys,h,k=>.cons (k 0 x y rfl rfl) (FX (by simpa using h) fun j a b ea eb=>k (j + 1) a b (by simpa using ea) (by simpa using eb))
theorem Gx (hc:X.calm=true):Bb X (.type "list") (fun xs H Q=>∃ p a kvs,xs=[.ref p]/\H p=some (Mr a p)/\Rd H a (.dK kvs)/\∀ l,H l=none->Q (.ref l) (upd H l (.lst (kvs.map (·.2))))):=by
 intro aa s σ H xs us Q I r h;obtain ⟨p,a,kvs,rfl,hp,hd,q⟩:=h;obtain ⟨u,rfl,ru⟩:=CP r;cases ru;obtain ⟨z,y,vs,rel,dd⟩:=Ev I.hok hd;obtain ⟨ep,da⟩:=dd.dictAt;obtain ⟨hv,_⟩:=I.hok p _ hp;have hl:=rel.length;refine W.kdl_call (W.kdl_values (knd:=Ar X.prog X.w) (d:=a) (kvs:=vs) (ep:=ep)) (I.ok.hd hc) ⟨hv,da⟩ (by rw [← hl]; exact z) fun h' tk acc c' keep e hit=>?_;refine ⟨.ref s.heap.objs.size,_,I.laid (t':=tk) keep (Nat.le_refl _) (show ObjOk X.prog X.w _ h' _ (.lst (kvs.map (·.2))) from ⟨by rw [AI]; exact z,acc.toList,c',?_,by rw [Array.toArray_toList]; exact e⟩),rfl,q _ (I.hok.fresh (Nat.le_refl _))⟩
 refine FX (by have e0:acc.toList.length=acc.size:=by simp
               rw [AI,e0,hit.1,hl]) fun j v w' ev ew=>?_
 rw [Array.getElem?_toList] at ew;obtain ⟨k,ex⟩:=hit.2 j w' ew;rw [getElem?_map] at ev;cases e2:kvs[j]? with
 | none=>rw [e2] at ev; cases ev
 | some kv =>
  rw [e2] at ev;simp only [Option.map_some,Option.some.injEq] at ev;obtain ⟨v2,hv2,rv2⟩:=KV.get rel e2;rw [ex] at hv2;simp only [Option.some.injEq,Prod.mk.injEq] at hv2;rw [← ev,hv2.2];exact rv2
theorem E2 (hc:X.calm=true):Bb X (.builtin "sorted") (fun xs H Q=>∃ a kvs,xs=[.ref a]/\Rd H a (.dK kvs)/\kvs.length < 64/\(∀ kv ∈ kvs,∃ i,kv.1=Sum.inl i) /\
  ∀ (l:Addr) (ns:List Int),H l=none->ns.Perm (kvs.map fun kv=>match kv.1 with | Sum.inl i=>i | Sum.inr _=>0)->ns.Pairwise (· <= ·)->Q (.ref l) (upd H l (.lst (ns.map V.int)))):=by
 intro aa s σ H xs us Q I r h;obtain ⟨a,kvs,rfl,hd,h64,hk,q⟩:=h;obtain ⟨u,rfl,ru⟩:=CP r;cases ru;obtain ⟨z,y,vs,rel,dd⟩:=Ev I.hok hd;obtain ⟨ep,da⟩:=dd.dictAt;have hl:=rel.length;refine Calls.call_function_entry kind_sorted plain_sorted entry_sorted (args_sorted1 _) ?_;unfold Builtin.«sorted»;refine wpAny_bind (m:=checkCount "sorted" 1 1 _) (wpAny_pure ?_);refine wpAny_bind (W.kdu_collect (A:=X.A.in1) (W.kdl_dict (knd:=Ar X.prog X.w) (kvs:=vs) (ep:=ep) y) (I.ok.hd hc) da (by rw [← hl]; exact z) fun h' tk acc keep hit=>?_)
 have ar:acc.toList.length=kvs.length:=by
  have e0:acc.toList.length=acc.size:=by simp
  rw [e0,hit.1,hl]
 refine wpAny_bind (wpAny_newList ?_ (by rw [ar]; exact z))
 have bj:IntsAre acc.toList (kvs.map fun kv=>match kv.1 with | Sum.inl i=>i | Sum.inr _=>0):=by
  refine Cb (FX (by rw [AI,AI,ar]) fun j v w' ev ew=>?_);rw [Array.getElem?_toList] at ew;obtain ⟨k,x,ex,hkk⟩:=hit.2 j w' ew;rw [getElem?_map,getElem?_map] at ev;cases e2:kvs[j]? with
  | none=>rw [e2] at ev; cases ev
  | some kv =>
   rw [e2] at ev;simp only [Option.map_some,Option.some.injEq] at ev;obtain ⟨v2,hv2,_⟩:=KV.get rel e2;rw [ex] at hv2;simp only [Option.some.injEq,Prod.mk.injEq] at hv2;obtain ⟨i,hi⟩:=hk kv (mem_of_getElem? e2);rw [hv2.1,hi] at hkk;rw [← ev,hi];exact Mq hkk
 have I1:Inv X aa σ H { s with heap:=h',toks:=tk }:=I.kept keep;have hoL:(h'.push { cls:=.type "list", data:=.seq acc.toList.toArray }).get? h'.objs.size=some (seqObj "list" acc.toList.toArray 0):=get?_push_size _ rfl;refine wpAny_bind (wpAny_holding (wpAny_call_entry slot_list_sort ⟨_,hoL,rfl⟩ entry_list_sort (list_sort_tree hoL bj (by rw [ar]; exact h64) fun out ns' a1 a2 a3=>⟨_,rfl,?_⟩) (args_list_sort _)));refine wpAny_pure ⟨_,rfl,?_⟩;have hn:H h'.objs.size=none:=I1.hok.fresh (Nat.le_refl _);have ay:ns'.length=kvs.length:=by rw [a2.length_eq,AI]
 refine ⟨.ref h'.objs.size,_,I1.laid (t':=tk) (o:=.lst (ns'.map V.int)) (h':=sortedHeap (h'.push { cls:=.type "list", data:=.seq acc.toList.toArray }) h'.objs.size acc.toList out) (fun b o e=>?_) (Nat.le_refl _) ⟨by rw [AI,ay]; exact z,out.toList,?_⟩,rfl,q _ ns' hn a2 a3⟩
 ·rw [sortedHeap_old (Nat.ne_of_lt (lt_size e)) (lt_size (get?_push_of_some _ e))];exact get?_push_of_some _ e
 ·obtain ⟨c,hcx⟩:=sortedHeap_at (out:=out) hoL;exact ⟨c,Dt a1,by rw [Array.toArray_toList]; exact hcx⟩
end
section
theorem C5 (hc:X.calm=true):Bb X (.builtin "all") (fun xs H Q=>∃ (p:Addr) (bs:List Bool),xs=[.ref p]/\SqL X.K H p (bs.map V.bl)/\Q (.bl (bs.all id)) H):=by
 intro aa s σ H xs us Q I r h;obtain ⟨p,bs,rfl,hq,q⟩:=h;obtain ⟨u,rfl,ru⟩:=CP r;cases ru;obtain ⟨its,rv,pl,hz⟩:=I.list hq;have hp:p < s.heap.objs.size:=by obtain ⟨o,n,e,_⟩:=id pl; exact lt_size e
 have ay:bs.length=its.length:=by have:=rv.length; rw [AI] at this; exact this
 refine call_all_walk (wpAny_pyIter_list pl.isList ?_);refine ⟨_,_,_,_,_,_,fun i=>bs.getD i false,rfl,Walks.list (A:=X.A.in1) (show X.A.in1.handled=none from I.ok.hd hc) _ p (Nat.ne_of_lt hp) its.toArray,⟨⟨_,get?_push_size _ rfl,rfl,rfl⟩,pl.isList.at fun o e=>get?_push_of_some _ e⟩,fun i v s' Q' E' hP hQ=>?_,fun h' tk keep=>?_⟩
 ·have hv:its[i]?=some v:=by simpa using hP
  have hi:i < its.length:=(List.getElem?_eq_some_iff.mp hv).1;have hb:bs[i]?=some (bs[i]'(by omega)):=List.getElem?_eq_getElem (by omega);obtain ⟨u',hu',ru'⟩:=rv.get (i:=i) (x:=V.bl (bs[i]'(by omega))) (by rw [getElem?_map,hb]; rfl);rw [hv] at hu';cases hu';cases (show v=Value.bool _ from ru');refine wpAny_truthy_bool ?_;have hQ':Q' (bs.getD i false) s':=hQ;rw [getD_eq_getElem?_getD,hb] at hQ';exact hQ'
 ·have I1:Inv X aa σ H { s with heap:=h',toks:=tk }:=I.kept fun b o e=>keep b o (by simp; exact Nat.ne_of_lt (lt_size e)) (get?_push_of_some _ e);refine ⟨.bl _,H,I1,rfl,?_⟩
  have e:(List.range its.toArray.size).all (fun i=>bs.getD i false)=bs.all id:=by
   rw [size_toArray,← ay,Bool.eq_iff_iff,List.all_eq_true,List.all_eq_true];constructor
   ·intro h b hb;obtain ⟨i,hi,rfl⟩:=List.mem_iff_getElem.mp hb;have:=h i (mem_range.mpr hi);rw [getD_eq_getElem?_getD,List.getElem?_eq_getElem hi] at this;exact this
   ·intro h i hi;have hi':=mem_range.mp hi;rw [getD_eq_getElem?_getD,List.getElem?_eq_getElem hi'];exact h _ (List.getElem_mem hi')
  rw [e];exact q
theorem Dc (ns:List Int):∀ k,k <= ns.length->preSum (fun i=>ns.getD i 0) k=(ns.take k).sum
 | 0,_=>by simp [preSum]
 | k + 1,h=>by
  have ih:=Dc ns k (by omega);have hk:k < ns.length:=by omega
  simp only [preSum,ih];rw [take_add_one,List.getElem?_eq_getElem hk,sum_append];simp [getD_eq_getElem?_getD,List.getElem?_eq_getElem hk]
theorem IP (hc:Rdy X):Bb X (.builtin "sum") (fun xs H Q=>∃ (p:Addr) (ns:List Int),xs=[.ref p]/\SqL X.K H p (ns.map V.int)/\(∀ n ∈ ns,0 <= n)/\ns.sum < 2 ^ 62/\Q (.int ns.sum) H):=by
 intro aa s σ H xs us Q I r h;obtain ⟨p,ns,rfl,hq,hnn,hsum,q⟩:=h;obtain ⟨u,rfl,ru⟩:=CP r;cases ru;obtain ⟨its,rv,pl,hz⟩:=I.list hq;have hp:p < s.heap.objs.size:=by obtain ⟨o,n,e,_⟩:=id pl; exact lt_size e
 have ay:ns.length=its.length:=by have:=rv.length; rw [AI] at this; exact this
 have tk0:∀ k,0 <= (ns.take k).sum:=fun k=>by
  have:∀ l:List Int,(∀ n ∈ l,0 <= n)->0 <= l.sum:=fun l=>by
   induction l with
   | nil=>intro _; simp
   | cons a r ih=>intro h; rw [sum_cons]; have:=h a mem_cons_self; have:=ih fun n hn=>h n (mem_cons_of_mem _ hn); omega
  exact this _ fun n hn=>hnn n (List.mem_of_mem_take hn)
 have tkle:∀ k,(ns.take k).sum <= ns.sum:=fun k=>by
  have e:ns.sum=(ns.take k).sum + (ns.drop k).sum:=by rw [← sum_append,List.take_append_drop]
  have:∀ l:List Int,(∀ n ∈ l,0 <= n)->0 <= l.sum:=fun l=>by
   induction l with
   | nil=>intro _; simp
   | cons a r ih=>intro h; rw [sum_cons]; have:=h a mem_cons_self; have:=ih fun n hn=>h n (mem_cons_of_mem _ hn); omega
  have:=this _ fun n hn=>hnn n (List.mem_of_mem_drop (i:=k) hn);omega
 refine call_sum_walk (wpAny_pyIter_list pl.isList ?_);obtain ⟨fp,St,W,st0,hfp⟩:=LY hc I pl.isList;refine ⟨_,_,_,_,_,_,fun i=>ns.getD i 0,rfl,W,st0,fun b hb=>?_,fun i v hP=>?_,fun j hj=>?_,fun h' tk t' keep=>?_⟩
 ·have hs:(s.heap.push { cls:=.type "list_iterator", data:=.fields #[.ref p,.int 0 0] }).objs.size=s.heap.objs.size + 1:=size_push ..;show b < (s.heap.push { cls:=.type "list_iterator", data:=.fields #[.ref p,.int 0 0] }).objs.size;rw [hs];exact hfp b hb
 ·have hv:its[i]?=some v:=by simpa using hP
  have hi:i < its.length:=(List.getElem?_eq_some_iff.mp hv).1;have hb:ns[i]?=some (ns[i]'(by omega)):=List.getElem?_eq_getElem (by omega);obtain ⟨u',hu',t,ru'⟩:=rv.get (i:=i) (x:=V.int (ns[i]'(by omega))) (by rw [getElem?_map,hb]; rfl);rw [hv] at hu';cases hu';refine ⟨t,?_⟩;show v=Value.int (ns.getD i 0) t;rw [ru',getD_eq_getElem?_getD,hb];rfl
 ·have hj':j < ns.length:=by rw [size_toArray] at hj; omega
  rw [Dc ns (j + 1) (by omega)];have h1:=tk0 (j + 1);have h2:=tkle (j + 1);have h3:ns.getD j 0=ns[j]:=by rw [getD_eq_getElem?_getD,List.getElem?_eq_getElem hj']; rfl
  have h4:=hnn _ (List.getElem_mem hj');have h5:(ns.take (j + 1)).sum=(ns.take j).sum + ns[j]:=by rw [take_add_one,List.getElem?_eq_getElem hj',sum_append]; simp
  have h6:=tk0 j;show InLong (ns.getD j 0)/\InLong _;unfold InLong;rw [h3];omega
 ·have I1:Inv X aa σ H { s with heap:=h',toks:=tk }:=I.kept fun b o e=>keep b o (by simp; exact Nat.ne_of_lt (lt_size e)) (get?_push_of_some _ e);refine ⟨.int ns.sum,H,I1,⟨t',?_⟩,q⟩;rw [size_toArray,← ay,Dc ns ns.length (Nat.le_refl _),take_length]
theorem Oz (hc:X.calm=true):Bb X (.builtin "sum") (fun xs H Q=>∃ (p:Addr) (ns:List Int),xs=[.ref p]/\SqL X.K H p (ns.map V.int)/\(∀ n ∈ ns,0 <= n)/\ns.sum < 2 ^ 62/\Q (.int ns.sum) H):=IP (.inl hc)
theorem JP:MtR X "int.bit_length" (fun x xs H Q=>∃ i,x=.int i/\xs=[]/\Q (.int (Builtin.Int.intBits i)) H):=by
 intro aa s σ H x xs v us Q I rx rs h;obtain ⟨i,rfl,rfl,q⟩:=h;obtain ⟨t,rfl⟩:=rx;cases rs;exact call_int_bit_length ⟨.int _,H,I.tok _,⟨_,rfl⟩,q⟩
theorem IQ:OpR X (compareOp .LtE) (fun x y H Q=>∃ i j,x=.str i/\y=.str j/\Q (.bl (!decide (j.cps.toList < i.cps.toList))) H):=by
 intro aa s σ H x y v u Q I rx ry h;obtain ⟨i,j,rfl,rfl,q⟩:=h;obtain ⟨t,rfl⟩:=rx;obtain ⟨t',rfl⟩:=ry;exact PySem.P.le_str (Ao I q rfl)
theorem Hs:MtR X "dict.setdefault" (fun x xs H Q=>∃ a kvs k v,x=.ref a/\xs=[kV k,v]/\H a=some (.dK kvs)/\kvs.length < sizeLine /\
  (∀ w,A7 kvs k=some w->Q w H)/\(A7 kvs k=none->Q v (upd H a (.dK (CG kvs k v))))):=by
 intro aa s σ H x xs u us Q I rx rs h;obtain ⟨a,kvs,k,v,rfl,rfl,hd,hl,q1,q2⟩:=h;cases rx;obtain ⟨uk,uv,rfl,rk,rv⟩:=Fu rs;obtain ⟨z,y,vs,rel,dd⟩:=Mi I.hok hd;refine call_meetsIn PySem.F.slot_dict_setdefault dd.typeIs PySem.F.entry_dict_setdefault (PySem.F.args_dict_setdefault_3 _ _ _) (PySem.kt_meets_setdefault (Ar X.prog X.w) a (Fv rk) y uv) ⟨vs,dd,by rw [← rel.length]; exact z,fun w' hw=>?_,fun hn h' dd' hs=>?_⟩
 ·have rr:=rel.val k;rw [hw] at rr;cases e:A7 kvs k with
  | none=>rw [e] at rr; exact False.elim rr
  | some w=>rw [e] at rr; exact ⟨w,H,I.tok _,rr,q1 w e⟩
 ·have rr:=rel.val k;rw [hn] at rr
  have e:A7 kvs k=none:=by
   cases e:A7 kvs k with
   | none=>rfl
   | some w=>rw [e] at rr; exact False.elim rr
  have he:∃ q,h'.get? a=some q:=let ⟨q,_,_,hq,_⟩:=dd'; ⟨q,hq⟩
  have hl':(CG kvs k v).length <= sizeLine:=by have:=CH kvs k v; omega
  exact ⟨v,_,Ew I (by rw [hd]; exact True.intro) hs he (JM hl' y (rel.put k rv) dd'),rv,q2 e⟩
theorem O0:Bb X (.builtin "isinstance") (fun xs H Q=>∃ v T t b,xs=[v,.ty T]/\TyOf X.K H v t/\W.kitOne X.K t (.type T)=some b/\Q (.bl b) H):=by
 intro aa s σ H xs us Q I r h;obtain ⟨v,T,t,b,rfl,ty,hk,q⟩:=h;obtain ⟨u,uT,rfl,ru,ruT⟩:=Fu r;cases (show uT=Value.type T from ruT);exact NY I ru ty hk fun tk=>⟨.bl b,H,I.tok tk,rfl,q⟩
end
noncomputable def J8 (d:Int):List Int->Int
 | []=>d
 | n :: r=>r.foldl max n
theorem IR (d:Int) (ns:List Int) (n:Int) (h:ns ≠ []):J8 d (ns++[n])=max (J8 d ns) n:=by
 cases ns with
 | nil=>exact absurd rfl h
 | cons a r=>show (r++[n]).foldl max a=_; rw [foldl_append]; rfl
theorem Nk (a v:Value):argsOk "max" ⟨[a],[(Str.ofString "default", v)]⟩:=by unfold argsOk; kernel_rfl
section
variable {prog:Program} {R:Result->Shared->Prop} {s:Shared} {p I S:Addr} {its:List Value} {ns:List Int} {d:Value}
noncomputable def O1:Option (Int × Tok)->Array Value
 | none=>#[]
 | some (m,t)=>#[.int m t,.int m t]
theorem Nm (hh:A.handled=none) (bj:IntsAre its ns) (hpI:p ≠ I) (hSI:S ≠ I) (hpS:p ≠ S)
  (hR:∀ h' tk v,(∀ b o,b ≠ I->b ≠ S->s.heap.get? b=some o->h'.get? b=some o)->(ns=[]->v=d)->(ns ≠ []->∃ t,v=.int (J8 0 ns) t)->R (.ok (.ret v)) { s with heap:=h',toks:=tk }) :
  ∀ (k i:Nat) (h:Heap) (tk c:Nat) (b:Option (Int × Tok)),its.length - i=k->i <= its.length->h.IsListIter I p i->h.IsList p its.toArray->h.get? S=some { cls:=.type "list", data:=.seq (O1 b) c } ->
   (b=none->i=0)->(∀ m t,b=some (m,t)->0 < i/\m=J8 0 (ns.take i))->(∀ b' o,b' ≠ I->b' ≠ S->s.heap.get? b'=some o->h.get? b'=some o) ->
   codeAny (model prog w) A (.builtin "max.loop" ⟨[.ref I,.none,.ref S],[(Str.ofString "default", d)]⟩) R { s with heap:=h,toks:=tk }:=by
 have bt:(toString "max" ++ toString ".loop" : String) = "max.loop" := by decide
 have ay:=bj.length;intro k;induction k with
 | zero =>
  intro i h tk c b hk hi hit hl hS hb0 hb1 keep;have e:i=its.length:=by omega
  refine codeAny_builtin PySem.F.entry_max_loop ?_;rw [Around.under_plainId PySem.F.plain_max_loop _];show wpAny _ A.in1 (seqItems? (.ref S) >>= _) _ _ _;refine wpAny_bind (wpAny_seqItems hS rfl ?_);show wpAny _ A.in1 (tryCatch (pyNext (.ref I)) _ >>= _) _ _ _;refine wpAny_bind (wpAny_tryCatch (wpAny_pyNext_list_end (show A.in1.handled=none from hh) hit hl (by simp; omega) fun h' eb=>?_));cases b with
  | none =>
   have hn:ns=[]:=by
    have:=hb0 rfl;exact List.eq_nil_of_length_eq_zero (by omega)
   exact wpAny_bind (wpAny_rule (wpAny_pure (hR h' tk d (fun b o h1 h2 q=>eb b o h1 (keep b o h1 h2 q)) (fun _=>rfl) fun z=>absurd hn z)))
  | some mt =>
   obtain ⟨m,t⟩:=mt;obtain ⟨hpos,hm⟩:=hb1 m t rfl
   have av:ns ≠ []:=fun z=>by
    have:its.length=0:=by rw [ay,z]; rfl
    omega
   show wpAny _ A.in1 (updateSeq S (fun _=>#[]) >>= _) _ _ _;refine wpAny_bind (wpAny_updateSeq (eb S _ hSI hS) rfl (wpAny_bind (wpAny_letGo (wpAny_pure ?_))) sl2);refine hR _ tk _ (fun b o h1 h2 q=>(get?_update_other _ _ (Ne.symm h2)).trans (eb b o h1 (keep b o h1 h2 q))) (fun z=>absurd z av) fun _=>⟨t,?_⟩;rw [hm,e,ay,take_length]
 | succ k ih =>
  intro i h tk c b hk hi hit hl hS hb0 hb1 keep;have hlt:i < its.length:=by omega
  have hv:its[i]?=some its[i]:=List.getElem?_eq_getElem hlt
  obtain ⟨n,t,hn,hvt⟩:∃ n t,ns[i]?=some n/\its[i]=.int n t:=by
   have hi2:i < ns.length:=by omega
   obtain ⟨u,hu,t,ru⟩:=(Dt bj).get (i:=i) (x:=V.int ns[i]) (by rw [getElem?_map,List.getElem?_eq_getElem hi2]; rfl);rw [hv] at hu;exact ⟨ns[i],t,List.getElem?_eq_getElem hi2,(Option.some.inj hu).trans ru⟩
  refine codeAny_builtin PySem.F.entry_max_loop ?_;rw [Around.under_plainId PySem.F.plain_max_loop _];show wpAny _ A.in1 (seqItems? (.ref S) >>= _) _ _ _;refine wpAny_bind (wpAny_seqItems hS rfl ?_);show wpAny _ A.in1 (tryCatch (pyNext (.ref I)) _ >>= _) _ _ _;refine wpAny_bind (wpAny_tryCatch (wpAny_pyNext_list_item hit hl (x:=.int n t) (by simpa [hvt] using hv) fun h' hit' sb=>?_));have hS':h'.get? S=some { cls:=.type "list", data:=.seq (O1 b) c }:=(sb.2 S hSI).trans hS;have hl':h'.IsList p its.toArray:=hl.at fun o q=>(sb.2 p hpI).trans q;have keep':∀ b' o,b' ≠ I->b' ≠ S->s.heap.get? b'=some o->h'.get? b'=some o:=fun b' o h1 h2 q=>(sb.2 b' h1).trans (keep b' o h1 h2 q);have etk:ns.take (i + 1)=ns.take i++[n]:=by rw [take_add_one,hn]; rfl
  have store:∀ c0,(∀ v,v=Value.int n t->(h'.update S (Obj.mapSeq fun _=>#[v,v])).get? S=some { cls:=.type "list", data:=.seq (O1 (some (n,t))) c0 })->n=J8 0 (ns.take (i + 1)) ->
    codeAny (model prog w) A (.builtin "max.loop" ⟨[.ref I,.none,.ref S],[(Str.ofString "default", d)]⟩) R { s with heap:=h'.update S (Obj.mapSeq fun _=>#[.int n t,.int n t]),toks:=tk }:=fun c0 e0 em =>
   ih (i + 1) _ tk c0 (some (n,t)) (by omega) hlt (hit'.at fun o q=>(get?_update_other _ _ hSI).trans q) (hl'.at fun o q=>(get?_update_other _ _ (Ne.symm hpS)).trans q) (e0 _ rfl) (fun z=>by cases z)
    (fun m t' z=>by cases z; exact ⟨Nat.succ_pos _,em⟩) fun b' o h1 h2 q=>(get?_update_other _ _ (Ne.symm h2)).trans (keep' b' o h1 h2 q)
  cases b with
  | none =>
   have hi0:=hb0 rfl;show wpAny _ A.in1 (updateSeq S (fun _=>#[Value.int n t,Value.int n t]) >>= _) _ _ _;refine wpAny_bind (wpAny_updateSeq hS' rfl ?_);rw [bt];refine wpAny_pure ⟨plainId_quiet PySem.F.plain_max_loop _,store _ (fun v e=>by subst e; exact get?_update_seq hS' fun _=>#[_,_]) ?_⟩;rw [etk,hi0];rfl
  | some mt =>
   obtain ⟨m,t0⟩:=mt;obtain ⟨hpos,hm⟩:=hb1 m t0 rfl
   have av:ns.take i ≠ []:=fun z=>by
    have:=congrArg List.length z;rw [length_take,length_nil] at this;omega
   show wpAny _ A.in1 (tryCatch (holding [Value.int n t,Value.int n t] (richCompare .Gt (.int n t) (.int m t0) >>= _)) _ >>= _) _ _ _
   refine wpAny_bind (wpAny_tryCatch (wpAny_holding (wpAny_bind (CmpOf.ints_gt (P:=fun i v=>(i=0/\v=.int n t)\/(i=1/\v=.int m t0)) (fun i=>if i=0 then n else m) (fun i v h=>by
    rcases h with ⟨rfl,rfl⟩ | ⟨rfl,rfl⟩
    ·exact ⟨t,rfl⟩
    ·exact ⟨t0,rfl⟩) 0 1 _ _ _ _ _ (.inl ⟨rfl,rfl⟩) (.inr ⟨rfl,rfl⟩) ?_))))
   refine wpAny_bind (wpAny_holding (wpAny_truthy_bool ?_));refine wpAny_bind (wpAny_letGo (wpAny_pure ?_));by_cases hgt:n > m
   ·have e1:(fun (i j:Nat)=>decide ((if i=0 then n else m) > if j=0 then n else m)) 0 1=true:=decide_eq_true hgt;rw [e1];simp only [if_true];refine wpAny_bind (wpAny_updateSeq hS' rfl (wpAny_bind (wpAny_letGo ?_)) sl2);rw [bt];refine wpAny_pure ⟨plainId_quiet PySem.F.plain_max_loop _,store _ (fun v e=>by subst e; exact get?_update_seq hS' fun _=>#[_,_]) ?_⟩;rw [etk,IR 0 _ n av,← hm];omega
   ·have e1:(fun (i j:Nat)=>decide ((if i=0 then n else m) > if j=0 then n else m)) 0 1=false:=decide_eq_false hgt;rw [e1];simp only [Bool.false_eq_true,if_false];refine wpAny_bind (wpAny_letGo ?_);rw [bt]
    refine wpAny_pure ⟨plainId_quiet PySem.F.plain_max_loop _,ih (i + 1) _ tk c (some (m,t0)) (by omega) hlt hit' hl' hS' (fun z=>by cases z) (fun m' t' z=>by
     cases z;refine ⟨Nat.succ_pos _,?_⟩;rw [etk,IR 0 _ n av,← hm]
     omega) keep'⟩
end
section
variable {c:Expr} {tc:TE} {p kp:Pos}
theorem Ms (hc:X.calm=true) (hg:Gl X "max") (hm:X.mg "max" = none) (he:PE X e te) (hcc:PE X c tc) (hs:starEach [e] X.env=(false,eval e X.env) :: starEach [] X.env:=by rfl)
  (hs2:backTo pos (starEach [e] X.env)=(false,eval e X.env) :: backTo pos (starEach [] X.env):=by rfl) :
  PE X (.Call (.Name "max" p) [e] [⟨some "default", c,kp⟩] pos) (fun σ H Q=>te σ H fun x H1=>tc σ H1 fun y H2=>∃ (a:Addr) (ns:List Int) (d:Int),x=.ref a/\y=.int d/\SqL X.K H2 a (ns.map V.int)/\(ns=[]->Q (.int d) H2)/\(ns ≠ []->Q (.int (J8 0 ns)) H2)):=by
 intro aa s σ H Q I h;refine wpAny_Call_Name_kw (D8 (u:=.builtin "max") I hg hm boot_max ?_)
 let R3:V->V->Hp->Prop:=fun x y H2=>∃ (a:Addr) (ns:List Int) (d:Int),x=.ref a/\y=.int d/\SqL X.K H2 a (ns.map V.int)/\(ns=[]->Q (.int d) H2)/\(ns ≠ []->Q (.int (J8 0 ns)) H2)
 refine callWith_kw (thn ((AA he AC hs:PA X [e] (Ah te By)) pos aa s σ H (fun vs H1=>match vs with | [x]=>tc σ H1 (fun y H2=>R3 x y H2) | _=>False) I h) fun us s1 ⟨vs,H1,I1,r1,q1⟩=>?_) hs2 (by rw [hs2]; rfl)
 match vs,r1,q1 with
 | [x],r1,q1 =>
  refine thn ((B9 (nm:=some "default") (kpos:=kp) hcc FS:PK X [⟨some "default", c,kp⟩] (Ah tc By)) pos aa s1 σ H1 (fun vs H2=>match vs with | [y]=>R3 x y H2 | _=>False) I1 q1) fun us2 s2 ⟨vs2,H2,I2,r2,q2⟩=>?_
  match vs2,r2,q2 with
  | [y],r2,q2 =>
   obtain ⟨a,ns,d,rfl,rfl,hq,k1,k2⟩:=q2;obtain ⟨u,rfl,ru⟩:=CP r1;cases ru;obtain ⟨ud,rfl,td,rud⟩:=CP r2;subst rud;obtain ⟨its,rv,pl,hz⟩:=I2.list hq;have hp:a < s2.heap.objs.size:=by obtain ⟨o,n,e,_⟩:=id pl; exact lt_size e
   show wpAny _ _ (call (.builtin "max") [.ref a] [(Str.ofString "default", .int d td)]) _ _ _;refine PyProof.Rows.kmk_tree PySem.F.kind_max PySem.F.plain_max PySem.F.entry_max (Nk _ _) ?_;show wpAny _ X.A.in1 (Builtin.Builtins.bindParams "max" ["key", "default"] 0 ⟨[],[(Str.ofString "default", .int d td)]⟩ >>= _) _ _ _;refine wpAny_bind (wpAny_of_eq (show Builtin.Builtins.bindParams "max" ["key", "default"] 0 ⟨[],[(Str.ofString "default", Value.int d td)]⟩=pure [none,some (.int d td)] from rfl) ?_);refine wpAny_bind (wpAny_pure ?_);refine wpAny_bind (wpAny_pyIter_list pl.isList ?_);refine wpAny_bind (wpAny_newList ?_ (Nat.zero_le _));have bt:(toString "max" ++ toString ".loop" : String) = "max.loop" := by decide
   rw [bt];have hS:(s2.heap.push { cls:=.type "list_iterator", data:=.fields #[.ref a,.int 0 0] }).objs.size=s2.heap.objs.size + 1:=size_push ..
   refine wpAny_pure ⟨plainId_quiet PySem.F.plain_max_loop _,Nm (its:=its) (ns:=ns) (s:=s2) (I.ok.hd hc) (Cb rv) (Nat.ne_of_lt hp) (by rw [hS]; exact Nat.succ_ne_self _) (by rw [hS]; exact Nat.ne_of_lt (Nat.lt_succ_of_lt hp))
    (fun h' tk v keep e1 e2=>?_) _ 0 _ _ 0 none rfl (Nat.zero_le _) ⟨_,get?_push_of_some _ (get?_push_size _ rfl),rfl,rfl⟩ (pl.isList.at fun o q=>get?_push_of_some _ (get?_push_of_some _ q)) (get?_push_size _ rfl) (fun _=>rfl) (fun m t z=>by cases z) fun b o h1 h2 q=>get?_push_of_some _ (get?_push_of_some _ q)⟩
   have I3:Inv X aa σ H2 { s2 with heap:=h',toks:=tk }:=I2.kept fun b o q=>keep b o (Nat.ne_of_lt (lt_size q)) (by rw [hS]; exact Nat.ne_of_lt (Nat.lt_succ_of_lt (lt_size q))) q;by_cases hn:ns=[]
   ·rw [e1 hn];exact ⟨.int d,H2,I3,⟨td,rfl⟩,k1 hn⟩
   ·obtain ⟨t,ev⟩:=e2 hn;rw [ev];exact ⟨.int _,H2,I3,⟨t,rfl⟩,k2 hn⟩
end
def TupsAt (H:Hp):List Addr->List (V × V)->Prop:=Paired fun b p=>H b=some (.tup [p.1,p.2])
theorem TupsAt.same {as:List Addr} {ps:List (V × V)} (s:∀ b o,H b=some o->H' b=some o) (h:TupsAt H as ps):TupsAt H' as ps:=Paired.mapP h fun _ _ e=>s _ _ e
mutual
def Bz (K:FG) (H:Hp):PyData->V->Prop
 | .none,v=>v=.non
 | .bool b,v=>v=.bl b
 | .int i,v=>v=.int i
 | .str x,v=>v=.str x
 | .list ds,v=>∃ a xs,v=.ref a/\SqL K H a xs/\A6 K H ds xs
 | .tuple ds,v=>∃ a xs,v=.ref a/\SqT K H a xs/\A6 K H ds xs
 | .dict _,_=>False
def A6 (K:FG) (H:Hp):List PyData->List V->Prop
 | [],xs=>xs=[]
 | d :: ds,xs=>∃ x r,xs=x :: r/\Bz K H d x/\A6 K H ds r
end
section
variable {s:Shared}
mutual
theorem Inv.reads (I:Inv X aa σ H s):∀ (d:PyData) (v:V) (u:Value),RelV v u->Bz X.K H d v->∃ as,Reads s.heap u d as
 | .none,v,u,r,h=>by
  have e:v=.non:=by simpa [Bz] using h
  subst e; cases r; exact ⟨_,.none⟩
 | .bool b,v,u,r,h=>by
  have e:v=.bl b:=by simpa [Bz] using h
  subst e; cases r; exact ⟨_,.bool b⟩
 | .int i,v,u,r,h=>by
  have e:v=.int i:=by simpa [Bz] using h
  subst e; obtain ⟨t,rfl⟩:=r; exact ⟨_,.int i t⟩
 | .str x,v,u,r,h=>by
  have e:v=.str x:=by simpa [Bz] using h
  subst e; obtain ⟨t,rfl⟩:=r; exact ⟨_,.str x t⟩
 | .list ds,v,u,r,h=>by
  rw [Bz] at h;obtain ⟨a,xs,rfl,hq,hd⟩:=h;cases r;obtain ⟨its,rv,⟨o,n,e,c,_,dd⟩,_⟩:=I.list hq;obtain ⟨as,hr⟩:=I.readsAll ds xs its rv hd;exact ⟨_,.list e c dd (by simpa using hr)⟩
 | .tuple ds,v,u,r,h=>by
  rw [Bz] at h;obtain ⟨a,xs,rfl,hq,hd⟩:=h;cases r;obtain ⟨its,rv,⟨o,e,c,n,dd⟩,_⟩:=I.tuple hq;obtain ⟨as,hr⟩:=I.readsAll ds xs its rv hd;exact ⟨_,.tuple e c dd (by simpa using hr)⟩
 | .dict kvs,v,u,r,h=>by
  rw [Bz] at h;exact h.elim
theorem Inv.readsAll (I:Inv X aa σ H s):∀ (ds:List PyData) (xs:List V) (us:List Value),Vals xs us->A6 X.K H ds xs->∃ as,ReadsAll s.heap us ds as
 | [],xs,us,r,h=>by
  have e:xs=[]:=by simpa [A6] using h
  subst e; cases r; exact ⟨_,.nil⟩
 | d :: ds,xs,us,r,h=>by
  rw [A6] at h;obtain ⟨x,xr,rfl,h1,h2⟩:=h;cases r with
  | cons p q =>
   obtain ⟨as,h3⟩:=I.reads d x _ p h1;obtain ⟨bs,h4⟩:=I.readsAll ds xr _ q h2;exact ⟨_,.cons h3 h4⟩
end
end
section
theorem O2 (K:FG) (hK:X.K=K) (hu:X.A.units + 64 < cLine):OpR X (compareOp .Eq) (fun x y H Q=>∃ dx dy,Bz K H dx x/\Bz K H dy y/\SeqAt.shaped dx=true/\SeqAt.shaped dy=true/\Q (.bl (PyData.eqv dx dy)) H):=by
 subst hK;intro aa s σ H x y v u Q I rx ry h;obtain ⟨dx,dy,h1,h2,s1,s2,q⟩:=h;obtain ⟨as,r1⟩:=I.reads dx x v rx h1;obtain ⟨bs,r2⟩:=I.reads dy y u ry h2;exact eq_dataH r1 r2 s1 s2 hu ⟨.bl _,H,I,rfl,q⟩
theorem Gy (K:FG) (hK:X.K=K) (hu:X.A.units + 64 < cLine):OpR X (compareOp .NotEq) (fun x y H Q=>∃ dx dy,Bz K H dx x/\Bz K H dy y/\SeqAt.shaped dx=true/\SeqAt.shaped dy=true/\Q (.bl (!PyData.eqv dx dy)) H):=by
 subst hK;intro aa s σ H x y v u Q I rx ry h;obtain ⟨dx,dy,h1,h2,s1,s2,q⟩:=h;obtain ⟨as,r1⟩:=I.reads dx x v rx h1;obtain ⟨bs,r2⟩:=I.reads dy y u ry h2;exact ne_dataH r1 r2 s1 s2 hu ⟨.bl _,H,I,rfl,q⟩
theorem SY (K:FG) (hK:X.K=K) (hu:X.A.units + 64 < cLine):OpR X (compareOp .Eq) (fun x y H Q=>∃ (a b:Addr) (ns ms:List Int),x=.ref a/\y=.ref b/\SqL K H a (ns.map V.int)/\SqL K H b (ms.map V.int)/\Q (.bl (decide (ns=ms))) H):=by
 subst hK;intro aa s σ H x y v u Q I rx ry h;obtain ⟨a,b,ns,ms,rfl,rfl,h1,h2,q⟩:=h;cases rx;cases ry;obtain ⟨is1,r1,p1,_⟩:=I.list h1;obtain ⟨is2,r2,p2,_⟩:=I.list h2;exact W.ke_eq_ints p1.isList p2.isList (Cb r1) (Cb r2) hu ⟨.bl _,H,I,rfl,q⟩
def JQ (C:Addr) (sp:Sp) (gV:List V->List V->List V) (E:XK) (t tk:TA):TE:=fun σ H Q=>t σ H fun vs H1=>tk σ H1 fun zs H2=>∀ x dx,H2 x=none->H2 dx=none->dx ≠ x ->
 sp (gV (.ref x :: vs) zs) (upd (upd H2 dx (.own x)) x (.ins C dx [])) (fun v H3=>v=.non/\Q (.ref x) H3) E
variable {k:Nat} {fd:FuncData} {ps ks:List Str} {sp:Sp} {p:Pos} {es:List Expr} {kws:List Keyword} {t tk:TA} {g:List Value->List Value->List Value} {gV:List V->List V->List V}
theorem Gz (M:Mk X.K C f) (F:Aj X.prog X.w X.K X.mg X.base CX0 k f fd ps sp) (hr:Room (k + 1) X.A) (hg:Gl X x) (hm:X.mg x=some (.ref C)) (hb:DZ X.K fd ps ks g gV)
  (ha:PA X (e :: es) t) (hkw:PK X kws tk) (bh:(backToKw pos (keywordEach kws X.env)).all (·.1.isSome)=true:=by rfl) (hks:(backToKw pos (keywordEach kws X.env)).filterMap (·.1)=ks:=by rfl)
  (hdb:(x == ("__debug__" : Str))=false:=by decide) (he:starEach (e :: es) X.env=(false,eval e X.env) :: starEach es X.env:=by rfl)
  (hpl:((backTo pos (starEach (e :: es) X.env)).any (·.1) || (backToKw pos (keywordEach kws X.env)).any (·.1.isNone))=false:=by rfl) :
  PE X (.Call (.Name x p) (e :: es) kws pos) (JQ C sp gV E0 t tk):=by
 intro aa s σ H Q I h;refine wpAny_Call_Name_kw (B6 I hg hm ?_ hdb);refine W.callWith_KW (h₀:=X.base) I.ok.mod.kin M.kp bh (thn (ha pos aa s σ H _ I h) fun us s1 ⟨vs,H1,I1,r,q⟩=>?_) hpl he;refine thn (hkw pos aa s1 σ H1 _ I1 q) fun ws s2 ⟨zs,H2,I2,rz,q2⟩=>⟨I2.kIn,?_⟩;rw [hks];have hq:=q2 (s2.heap.objs.size + 1) s2.heap.objs.size (I2.hok.fresh (Nat.le_succ _)) (I2.hok.fresh (Nat.le_refl _)) (Nat.ne_of_lt (Nat.lt_succ_self _));have I3:=Inv.made (C:=C) I2;have r2:Vals (gV (V.ref (s2.heap.objs.size + 1) :: vs) zs) (g (Value.ref (s2.heap.objs.size + 1) :: us) ws):=hb.rel (.cons rfl r) rz;have hl:(g (Value.ref (s2.heap.objs.size + 1) :: us) ws).length=ps.length:=by rw [← r2.length]; exact F.len _ _ _ _ hq
 refine wpAny_call (Gj (f:=f) I2.kIn M.makes M.init (beq_iff_eq.mp M.fn) (codeAny_mono (F.run _ X.stack _ _ ⟨Value.ref (s2.heap.objs.size + 1) :: us,ks.zip ws⟩ _ _ _ E0 (hr.make C us (ks.zip ws)) (I3.env0.make C us (ks.zip ws)) (hb.to _ _ _ I3.kIn hl) r2 hq) fun r' s' hq'=>?_));cases r' with
 | error e=>exact hq'.elim
 | ok fl =>
  cases fl with
  | ret u =>
   obtain ⟨v,H',I4,rv,ev,q3⟩:=I3.after hq';subst ev;exact ⟨rv,⟨V.ref (s2.heap.objs.size + 1),H',I4,rfl,q3⟩⟩
  | next=>exact False.elim hq'
  | brk=>exact False.elim hq'
  | cont=>exact False.elim hq'
def Uc (i j:Int):Prop:=Builtin.Int.intBits i <= 2 ^ 20/\Builtin.Int.intBits j <= 2 ^ 20
theorem JR:OpR X (binaryOp .Mult) (rI Uc fun i j=>.int (i * j)):=opI fun _ _ _ _ _ _ _ hc q=>mul_int q (IntMulOk.of_bits hc.1 hc.2)
def Tv (i j:Int):Prop:=0 < j/\Builtin.divisionGoesByPylong i j=false
theorem O3:OpR X (binaryOp .FloorDiv) (rI Tv fun i j=>.int (i / j)):=opI fun i j _ _ _ _ _ hc q=>by
 have h1:(0:Int) < j:=hc.1;exact floordiv_int (by omega) (by rw [Int.fdiv_eq_ediv_of_nonneg i (by omega)]; exact q) (.inl hc.2)
end
structure G0 (fs:List Addr) (e:Addr) (oe:Obj) (vs:Array Value) (old:Addr->Prop) (h h':Heap):Prop where
 tb:∃ T oT ts,h.objs.size <= T/\h'.get? T=some oT/\oT.data=.fields ts/\ts[3]?=some .none/\h'.get? e=some { oe with data:=.fields (vs.setIfInBounds 1 (.ref T)) }
 keep:∀ b o,h.get? b=some o->b ≠ e->¬ old b->b ∉ fs->h'.get? b=some o
 slot:∀ b o,h.get? b=some o->b ≠ e->¬ old b->b ∈ fs->∃ sl,h'.get? b=some { o with slots:=sl }
 there:∀ b o,h.get? b=some o->∃ o',h'.get? b=some o'
section
variable {M:Model} {s:Shared}
theorem EH {o:Obj} {vs:Array Value} (hd:o.data=.fields vs) (f:Array Value->Array Value):Obj.mapFields f o={ o with data:=.fields (f vs) }:=by
 obtain ⟨c,d,dt,sl⟩:=o;cases hd;rfl
theorem Nn {b:Addr} {f:Obj->Obj} (hf:∀ o,h.get? a=some o->(f o).isFreed=false):∀ o,h.get? b=some o->∃ o',(h.update a f).get? b=some o':=fun o ho=>by
 by_cases q:b=a
 ·subst q;exact ⟨_,get?_update_self f ho (hf o ho)⟩
 ·exact ⟨o,(get?_update_other _ _ (Ne.symm q)).trans ho⟩
theorem Mu {env:Env} {outer:List Env} {L e:Addr} {oe:Obj} {vs:Array Value} {head:Value} {hadNext:Bool} {Q:Unit->Shared->Prop}
  (hfr:A.frames=some (env :: outer)) (hl:s.heap.FunFrames base (env :: outer)) (hf:env.frame=some L) (he:s.heap.get? e=some oe) (hd:oe.data=.fields vs) (hsz:1 < vs.size)
  (h:∀ h',G0 (frs (env :: outer)) e oe vs (fun _=>False) s.heap h'->Q () { s with heap:=h' }) :
  wpAny M A (do let a ← frameOf env; let pl ← entryPlaceOf L hadNext; let b ← EntryCells.newEntry head a .none (rawInt L) .none pl; setField (.ref e) 1 b) (fun _ s'=>wpAny M A (setFlight (.ref e) none) Q E s') E s:=by
 have hene:e ∉ frs (env :: outer):=fun hm=>by
  obtain ⟨_,o,ho,hnf⟩:=hl.mem hm;rw [he] at ho;cases ho;exact hnf vs hd
 refine wpAny_bind (wpAny_frameOf_fun hfr hl hf fun h1 x1=>wpAny_bind (wpAny_entryPlaceOf fun pl hpl=>?_));unfold EntryCells.newEntry newFields;refine wpAny_bind (wpAny_newObj_type ?_ (hpl.sizeOk5 _ _ _ _ _));generalize hpg:([head,Value.ref L,.none,rawInt L,.none]++(if pl.isEmpty then List.replicate 6 Value.none else pl)).toArray=pg;have hp3:3 < pg.size:=by rw [← hpg]; simp only [size_toArray,length_append,length_cons,length_nil]; omega
 have e1:h1.get? e=some oe:=(x1.2.1 e hene).trans he;have e2:=get?_push_of_some (h:=h1) ⟨.type "traceback", none,.fields pg,#[]⟩ e1;refine wpAny_setField e2 hd hsz ?_;have ne:h1.objs.size ≠ e:=Nat.ne_of_gt (lt_size e1);have d3:=Obj.data_mapFields hd (·.setIfInBounds 1 (Value.ref h1.objs.size));have e3:=get?_update_self (Obj.mapFields (·.setIfInBounds 1 (Value.ref h1.objs.size))) e2 (Obj.isFreed_of_fields d3);have t3:=(get?_update_other (h1.push ⟨.type "traceback", none,.fields pg,#[]⟩) (Obj.mapFields (·.setIfInBounds 1 (Value.ref h1.objs.size))) (Ne.symm ne)).trans (get?_push_size h1 rfl);unfold setFlight;refine wpAny_bind (wpAny_field e3 d3 (x:=.ref h1.objs.size) (by simp [hsz]) ?_);rw [if_pos (show (Value.ref h1.objs.size != Value.none)=true from by simp)];refine wpAny_setField t3 rfl hp3 (h _ ?_)
 have other:∀ b o,b ≠ e->h1.get? b=some o->∀ (g:Obj->Obj),(((h1.push ⟨.type "traceback", none,.fields pg,#[]⟩).update e (Obj.mapFields (·.setIfInBounds 1 (Value.ref h1.objs.size)))).update h1.objs.size g).get? b=some o:=fun b o hb hlt g=>by
  rw [get?_update_other _ _ (Nat.ne_of_gt (lt_size hlt)),get?_update_other _ _ (Ne.symm hb)];exact get?_push_of_some _ hlt
 refine ⟨⟨h1.objs.size,_,_,Nat.le_of_eq x1.1.symm,get?_update_self _ t3 (Obj.isFreed_of_fields (Obj.data_mapFields rfl _)),Obj.data_mapFields rfl _,by simp [hp3],?_⟩,fun b o hb n1 _ n3=>?_,fun b o hb n1 _ n3=>?_,fun b o hb=>?_⟩
 ·rw [get?_update_other _ _ ne,e3,EH hd]
 ·have hb1:h1.get? b=some o:=(x1.2.1 b n3).trans hb;exact other b o n1 hb1 _
 ·obtain ⟨sl,hs⟩:=x1.2.2 b o hb;exact ⟨sl,other b _ n1 hs _⟩
 ·obtain ⟨sl,hs⟩:=x1.2.2 b o hb;by_cases q:b=e
  ·subst q;exact ⟨_,(get?_update_other _ _ ne).trans e3⟩
  ·exact ⟨_,other b _ q hs _⟩
theorem J9 {env:Env} {outer:List Env} {L e:Addr} {oe:Obj} {vs:Array Value} {Q:Unit->Shared->Prop}
  (hfr:A.frames=some (env :: outer)) (hl:s.heap.FunFrames base (env :: outer)) (hf:env.frame=some L) (he:s.heap.get? e=some oe) (hd:oe.data=.fields vs) (h1:vs[1]?=some .none)
  (h:∀ h',G0 (frs (env :: outer)) e oe vs (fun _=>False) s.heap h'->Q () { s with heap:=h' }):wpAny M A (leaving env (.ref e)) Q E s:=by
 unfold leaving noteFrame;simp only [hf];refine wpAny_bind (wpAny_bind (wpAny_field he hd h1 ?_));rw [if_neg (by decide)];exact Mu hfr hl hf he hd (Array.getElem?_eq_some_iff.mp h1).1 h
theorem IS {env:Env} {outer:List Env} {L e T:Addr} {oe oT:Obj} {vs ts:Array Value} {Q:Unit->Shared->Prop}
  (hfr:A.frames=some (env :: outer)) (hl:s.heap.FunFrames base (env :: outer)) (hf:env.frame=some L) (he:s.heap.get? e=some oe) (hd:oe.data=.fields vs) (h1:vs[1]?=some (.ref T)) (hTe:T ≠ e)
  (hT:s.heap.get? T=some oT) (hdT:oT.data=.fields ts) (h3:ts[3]?=some .none)
  (h:∀ h',G0 (frs (env :: outer)) e oe vs (·=T) s.heap h'->Q () { s with heap:=h' }):wpAny M A (noteFrame (.ref e) env) (fun _ s2=>wpAny M A (setFlight (.ref e) none) Q E s2) E s:=by
 unfold noteFrame;simp only [hf];refine wpAny_bind (wpAny_field he hd h1 ?_);rw [if_pos (show (Value.ref T != Value.none)=true from by simp)];refine wpAny_bind (wpAny_field hT hdT h3 ?_);rw [if_neg (show ¬ ((Value.none == rawInt L)=true) from by simp [rawInt])];refine wpAny_bind (wpAny_setField hT hdT (Array.getElem?_eq_some_iff.mp h3).1 ?_);have far:∀ b,b ≠ T->(s.heap.update T (Obj.mapFields (·.setIfInBounds 3 Value.none))).get? b=s.heap.get? b:=fun b hb=>get?_update_other _ _ (Ne.symm hb)
 have nr:∀ b o,s.heap.get? b=some o->(∀ vs,o.data ≠ .fields vs)->b ≠ T:=fun b o hb hn q=>by
  subst q;rw [hT] at hb;cases hb;exact hn ts hdT
 refine Mu (hfr:=hfr) (hl.of_keeps fun b o hb hn=>⟨o,(far b (nr b o hb hn)).trans hb,rfl⟩) hf ((far e (Ne.symm hTe)).trans he) hd (Array.getElem?_eq_some_iff.mp h1).1 fun h' x=>h h' ?_
 have fr:∀ o,s.heap.get? T=some o->(Obj.mapFields (·.setIfInBounds 3 Value.none) o).isFreed=false:=fun o ho=>by
  rw [hT] at ho;cases ho;exact Obj.isFreed_of_fields (Obj.data_mapFields hdT _)
 obtain ⟨T',oT',ts',a1,a2⟩:=x.tb;refine ⟨⟨T',oT',ts',by rw [size_update] at a1; exact a1,a2⟩,fun b o hb n1 n2 n3=>x.keep b o ((far b n2).trans hb) n1 (fun z=>z) n3,fun b o hb n1 n2 n3=>x.slot b o ((far b n2).trans hb) n1 (fun z=>z) n3,fun b o hb=>?_⟩;obtain ⟨o',ho'⟩:=Nn fr o hb;exact x.there b o' ho'
theorem LZ {env:Env} {outer:List Env} {L e T:Addr} {oe oT:Obj} {vs ts:Array Value} {Q:Unit->Shared->Prop}
  (hfr:A.frames=some (env :: outer)) (hl:s.heap.FunFrames base (env :: outer)) (hf:env.frame=some L) (he:s.heap.get? e=some oe) (hd:oe.data=.fields vs) (h1:vs[1]?=some (.ref T)) (hTe:T ≠ e)
  (hT:s.heap.get? T=some oT) (hdT:oT.data=.fields ts) (h3:ts[3]?=some .none)
  (h:∀ h',G0 (frs (env :: outer)) e oe vs (·=T) s.heap h'->Q () { s with heap:=h' }):wpAny M A (leaving env (.ref e)) Q E s:=by
 unfold leaving;exact wpAny_bind (IS hfr hl hf he hd h1 hTe hT hdT h3 h)
end
noncomputable def FY (e C:Addr) (dx:Option Addr):HO:=.ext fun h=>∃ oe vs,h.get? e=some oe/\oe.cls=.ref C/\oe.dict=dx/\oe.data=.fields vs/\5 < vs.size/\vs[2]?=some .none
structure O4 (P:Program) (w:World) (l:List Env) (H:Hp) (s:Shared) (e C:Addr) (dx:Option Addr) (H':Hp) (s':Shared):Prop where
 os:s'.os=s.os
 bare:AllBare s'.gens
 un:Un (frs l) [] H H' s.heap s'.heap
 hok:HOk P w H' s'.heap
 at_:H' e=some (FY e C dx)
def Tb0 (e:Addr) (s':Shared):Prop:=∃ oe vs,s'.heap.get? e=some oe/\oe.data=.fields vs/\vs[1]?=some .none
def Tb1 (e:Addr) (H':Hp) (s s':Shared) (fl:Value):Prop:=∃ oe vs T oT ts,s'.heap.get? e=some oe/\oe.data=.fields vs/\vs[1]?=some (.ref T)/\T ≠ e/\s'.heap.get? T=some oT/\oT.data=.fields ts/\ts[3]?=some fl/\H' T=none/\s.heap.get? T=none
def Fly (P:Program) (w:World) (l:List Env) (H:Hp) (s:Shared) (e C:Addr) (dx:Option Addr) (H':Hp) (s':Shared):Prop:=O4 P w l H s e C dx H' s'/\Tb1 e H' s s' .none
def CXr (P:Program) (w:World):CXT:=fun outer H s E e s'=>∃ ea C dx H',e=.ref ea/\Fly P w outer H s ea C dx H' s'/\E (.ref C) dx H'
theorem Mv {base h h':Heap} {fs:List Addr} {H H':Hp} (u:Un fs [] H H' h h'):∀ {l:List Env},(∀ b ∈ frs l,b ∈ fs)->(∀ b ∈ frs l,H b=none)->h.FunFrames base l->h'.FunFrames base l
 | [],_,_,_=>trivial
 | env :: r,hs,hn,⟨hk,⟨L,o,hf,hb,ho,hd⟩,hr⟩=>by
  have hL:L ∈ frs (env :: r):=by unfold frs; rw [filterMap_cons,hf]; exact mem_cons_self
  have sub:∀ b ∈ frs r,b ∈ frs (env :: r):=fun b z=>by unfold frs; rw [filterMap_cons,hf]; exact mem_cons_of_mem _ z
  obtain ⟨sl,e⟩:=u.slot L o ho (hn L hL) (hs L hL) (by simp);exact ⟨hk,⟨L,_,hf,hb,e,hd⟩,Mv u (fun b z=>hs b (sub b z)) (fun b z=>hn b (sub b z)) hr⟩
section
variable {H1 H2:Hp} {s1 s2:Shared} {e:Addr} {dx:Option Addr}
structure La (X:Cx):Prop where
 stk:X.stack=X.env :: X.outer
 fr:X.env.frame=some X.env.locals
 ex:X.ex=[]
theorem KB {fs:List Addr} {oe:Obj} {vs:Array Value} {old:Addr->Prop} {h':Heap} (ok:HOk P w H2 h) (L:G0 fs e oe vs old h h') (hf:∀ b ∈ fs,H2 b=none) (ho:∀ b,old b->H2 b=none)
  (he:h.get? e=some oe) (hd:oe.data=.fields vs) (at_:H2 e=some (FY e C dx)):HOk P w H2 h':=fun b u q=>by
 have kp:∀ c v,c ≠ e->(∃ z,H2 c=some z)->h.get? c=some v->h'.get? c=some v:=fun c v n ⟨z,hz⟩ hv=>L.keep c v hv n (fun y=>by rw [ho c y] at hz; cases hz) fun y=>by rw [hf c y] at hz; cases hz
 by_cases hb:b=e
 ·subst hb;rw [at_] at q;cases q;obtain ⟨⟨oe',vs',a1,a2,a3,a4,a5,a6⟩,_,st⟩:=ok _ _ at_;rw [he] at a1;cases a1;rw [hd] at a4;cases a4;obtain ⟨T,oT,ts,b1,b2,b3,b4,b5⟩:=L.tb;exact ⟨⟨_,_,b5,a2,a3,rfl,by rw [Array.size_setIfInBounds]; exact a5,by rw [Array.getElem?_setIfInBounds_ne (by decide)]; exact a6⟩,⟨_,b5⟩,st⟩
 ·refine (ok b u q).stay (fun c v hc r=>?_) (fun _ z=>z) fun _ _ z=>z;rcases hc with rfl | hc
  ·exact kp c v hb ⟨u,q⟩ r
  ·refine kp c v (fun z=>?_) ⟨_,hc⟩ r;subst z;rw [at_] at hc;cases hc
theorem KC {oe:Obj} {vs:Array Value} {old:Addr->Prop} {h':Heap} (O:La X) (I:Inv X aa σ H1 s1) (F:O4 X.prog X.w X.stack H1 s1 e C dx H2 s2) (he:s2.heap.get? e=some oe) (hd:oe.data=.fields vs) (h1:1 < vs.size)
  (hold:∀ b,old b->H2 b=none/\s1.heap.get? b=none) (L:G0 (frs X.stack) e oe vs old s2.heap h'):Fly X.prog X.w X.outer X.H₀ X.s₀ e C dx H2 { s2 with heap:=h' }:=by
 have b0:Un (frs X.outer) [] X.H₀ H1 X.s₀.heap s1.heap:=by have:=I.base; rw [O.ex] at this; exact this
 have free2:∀ b ∈ frs X.stack,H2 b=none:=fun b hb=>by
  obtain ⟨_,o,ho,_⟩:=I.stack.mem hb;exact F.un.free b o ho (I.stkFree b hb) (by simp)
 have ne:∀ b,H2 b=none->b ≠ e:=fun b n z=>by subst z; rw [F.at_] at n; cases n
 have out:∀ b o,X.s₀.heap.get? b=some o->b ∉ frs X.outer->b ∉ frs X.stack:=fun b o hb hn z=>by
  rw [O.stk] at z;unfold frs at z;rw [filterMap_cons,O.fr] at z;rcases mem_cons.mp z with z | z
  ·exact absurd (Nat.lt_of_lt_of_le (lt_size hb) I.ok.above) (by rw [z]; exact Nat.lt_irrefl _)
  ·exact hn z
 have up:∀ b,b ∈ frs X.outer->b ∈ frs X.stack:=fun b hb=>by
  rw [O.stk];unfold frs;rw [filterMap_cons,O.fr];exact mem_cons_of_mem _ hb
 have nold:∀ b o,X.s₀.heap.get? b=some o->¬ old b:=fun b o hb z=>by
  obtain ⟨o',ho'⟩:=b0.there b o hb (by simp);rw [(hold b z).2] at ho';cases ho'
 have und:Un (frs X.outer) [] X.H₀ H2 X.s₀.heap h':=by
  refine ⟨fun b o q n hb _=>?_,fun b o q n hb _=>?_,fun b o q n _=>?_,fun b o q _=>?_,fun b xs q=>F.un.tups b xs (b0.tups b xs q),fun b o xs q=>F.un.frzs b o xs (b0.frzs b o xs q),fun b ps q=>?_⟩
  ·have q1:=b0.keep b o q n hb (by simp);have n1:=b0.free b o q n (by simp);have q2:=F.un.keep b o q1 n1 (out b o q hb) (by simp);exact L.keep b o q2 (ne b (F.un.free b o q1 n1 (by simp))) (nold b o q) (out b o q hb)
  ·obtain ⟨sl,q1⟩:=b0.slot b o q n hb (by simp);have n1:=b0.free b o q n (by simp);obtain ⟨sl2,q2⟩:=F.un.slot b _ q1 n1 (up b hb) (by simp);obtain ⟨sl3,q3⟩:=L.slot b _ q2 (ne b (F.un.free b _ q1 n1 (by simp))) (nold b o q) (up b hb);exact ⟨sl3,q3⟩
  ·obtain ⟨o1,q1⟩:=b0.there b o q (by simp);exact F.un.free b o1 q1 (b0.free b o q n (by simp)) (by simp)
  ·obtain ⟨o1,q1⟩:=b0.there b o q (by simp);obtain ⟨o2,q2⟩:=F.un.there b o1 q1 (by simp);exact L.there b o2 q2
  ·obtain ⟨m1,e1⟩:=b0.tbls b ps q;obtain ⟨m2,e2⟩:=F.un.tbls b _ e1;exact ⟨m1++m2,by rw [e2,Array.append_assoc]⟩
 refine ⟨⟨F.os.trans I.os,F.bare,und,KB F.hok L free2 (fun b z=>(hold b z).1) he hd F.at_,F.at_⟩,?_⟩;obtain ⟨T,oT,ts,b1,b2,b3,b4,b5⟩:=L.tb;have hT:s2.heap.get? T=none:=Heap.get?_none_of_le b1;refine ⟨_,_,T,oT,ts,b5,rfl,by simp [h1],fun z=>?_,b2,b3,b4,F.hok.fresh b1,?_⟩
 ·subst z;rw [he] at hT;cases hT
 ·cases q:X.s₀.heap.get? T with
  | none=>rfl
  | some o =>
   obtain ⟨o1,q1⟩:=b0.there T o q (by simp);obtain ⟨o2,q2⟩:=F.un.there T o1 q1 (by simp);rw [hT] at q2;cases q2
theorem EI (I:Inv X aa σ H1 s1) (F:O4 X.prog X.w X.stack H1 s1 e C dx H2 s2):s2.heap.FunFrames X.base X.stack:=Mv F.un (fun _ z=>z) I.stkFree I.stack
theorem G1 {E':VS} (O:La X) (I:Inv X aa σ H1 s1) (F:Fly X.prog X.w X.stack H1 s1 e C dx H2 s2) :
  wpAny (model X.prog X.w) X.A (leaving X.env (.ref e)) (fun _ s3=>Fly X.prog X.w X.outer X.H₀ X.s₀ e C dx H2 s3) E' s2:=by
 obtain ⟨B,oe,vs,T,oT,ts,a1,a2,a3,a4,a5,a6,a7,a8,a9⟩:=F;have fr:=EI I B;have hA:=I.ok.frames;rw [O.stk] at fr hA;refine LZ hA fr O.fr a1 a2 a3 a4 a5 a6 a7 fun h' L=>?_;rw [← O.stk] at L;exact KC O I B a1 a2 (Array.getElem?_eq_some_iff.mp a3).1 (fun b z=>by subst z; exact ⟨a8,a9⟩) L
theorem Lb {E':VS} (O:La X) (I:Inv X aa σ H1 s1) (B:O4 X.prog X.w X.stack H1 s1 e C dx H2 s2) (T:Tb0 e s2) :
  wpAny (model X.prog X.w) X.A (leaving X.env (.ref e)) (fun _ s3=>Fly X.prog X.w X.outer X.H₀ X.s₀ e C dx H2 s3) E' s2:=by
 obtain ⟨oe,vs,a1,a2,a3⟩:=T;have fr:=EI I B;have hA:=I.ok.frames;rw [O.stk] at fr hA;refine J9 hA fr O.fr a1 a2 a3 fun h' L=>?_;rw [← O.stk] at L;exact KC O I B a1 a2 (Array.getElem?_eq_some_iff.mp a3).1 (fun b z=>z.elim) L
end
theorem SZ {CX:CXT} {qual:Str} {scope:Scope} {cd:Value} {outer:List Env} {s:Shared} {E:XK} :
  La (BI CX P w K mg base N qual scope f cd A outer s H E):=⟨rfl,rfl,rfl⟩
theorem Tw {qual:Str} {scope:Scope} {cd:Value} {outer:List Env} {s:Shared} {E:XK} :
  Bi (CXr P w) (BI (CXr P w) P w K mg base N qual scope f cd A outer s H E) E:=by
 rintro aa σ H1 s1 e s2 I ⟨ea,C,dx,H2,rfl,F,q⟩;exact wpAny_mono (G1 (X:=BI (CXr P w) P w K mg base N qual scope f cd A outer s H E) SZ I F) (fun _ s3 G=>⟨ea,C,dx,H2,rfl,G,q⟩) fun _ _ z=>z
def O5 (X:Cx) (E:XK):Prop:=∀ (aa:LO) (σ:St) (H:Hp) (s:Shared) (e C:Addr) (dx:Option Addr) (H':Hp) (s':Shared),Inv X aa σ H s->O4 X.prog X.w X.stack H s e C dx H' s'->Tb0 e s'->E (.ref C) dx H'->X.xe (.ref e) s'
theorem Mw {qual:Str} {scope:Scope} {cd:Value} {outer:List Env} {s:Shared} {E:XK} :
  O5 (BI (CXr P w) P w K mg base N qual scope f cd A outer s H E) E:=by
 intro aa σ H1 s1 ea C dx H2 s2 I F T q;exact wpAny_mono (Lb (X:=BI (CXr P w) P w K mg base N qual scope f cd A outer s H E) SZ I F T) (fun _ s3 G=>⟨ea,C,dx,H2,rfl,G,q⟩) fun _ _ z=>z
structure KD (B:String) (bm:List Value):Prop where
 b:bm.contains (.type B)=true
 base:bm.contains (.type "BaseException")=true
 na:bm.contains (.type "AttributeError")=false
 nn:bm.contains (.type "NameError")=false
section
variable {M:Model} {g:Array GenState} {d:Drawn} {t:Nat} {os:OsState}
variable {nm qn:Str} {N:Addr} {bs bm bmB:List Value} {az:Bool} {sn:List Str} {sub:List Value} {ab:Bool} {col:Option Bool} {dd:Option Addr} {k0 k1 k2 k3 k5:Option Value} {B newId initId:String}
theorem Lc (F:ExcBaseFacts B newId initId bmB) (T:KD B bm) {rest:List Value} {Q:Unit->Shared->Prop} (oC:h.get? C=some (excClassObj nm qn C N bs bm az sn sub ab col dd k0 k1 k2 k3 k5 newId))
  (fin:Q () ⟨h,g,d,t,os⟩):wpAny M A (checkBuiltinCall newId ⟨.ref C :: rest,[]⟩) Q E ⟨h,g,d,t,os⟩:=by
 have c1:(Value.ref C :: bm).contains (.type B)=true:=by rw [contains_cons,T.b]; simp
 have st:=F.noStar;simp only [checkBuiltinCall,F.newKind,F.newSplit,F.newRow]
 repeat (first | refine wpAny_loadPart_at oC ?_ | (refine wpAny_isSubtype_exc oC ?_; rw [c1]) | refine wpAny_staticBase_exc oC ?_ | refine wpAny_madeBy_exc oC ?_ | simp only [bne_self_eq_false,Bool.false_eq_true,if_false] | wp_step)
 exact fin
end
section
variable {prog:Program} {R:Result->Shared->Prop} {g:Array GenState} {d:Drawn} {t:Nat} {os:OsState}
variable {nm qn:Str} {N:Addr} {bs bm bmB:List Value} {az:Bool} {sn:List Str} {sub:List Value} {ab:Bool} {col:Option Bool} {dd:Option Addr} {k0 k1 k2 k3 k5:Option Value} {B newId initId:String}
noncomputable abbrev Ld (C:Addr) (h:Heap):Obj:={ cls:=.ref C,data:=.fields #[.ref h.objs.size,.none,.none,.none,.bool false,.none] }
noncomputable abbrev Dd (C:Addr) (rest:List Value) (h:Heap):Heap:=(h.push { cls:=.type "tuple", data:=.seq rest.toArray }).push (Ld C h)
theorem O6 (F:ExcBaseFacts B newId initId bmB) (T:KD B bm) {rest:List Value} (oC:h.get? C=some (excClassObj nm qn C N bs bm az sn sub ab col dd k0 k1 k2 k3 k5 newId))
  (fin:R (.ok (.ret (.ref (h.objs.size + 1)))) ⟨Dd C rest h,g,d,t,os⟩) (hz:rest.length <= sizeLine):codeAny (model prog w) A (.builtin newId ⟨.ref C :: rest,[]⟩) R ⟨h,g,d,t,os⟩:=by
 have e1:=F.ends;have c1:(Value.ref C :: bm).contains (.type B)=true:=by rw [contains_cons,T.b]; simp
 have c2:(Value.ref C :: bm).contains (.type "AttributeError")=false:=by rw [contains_cons,T.na]; rfl
 have c3:(Value.ref C :: bm).contains (.type "NameError")=false:=by rw [contains_cons,T.nn]; rfl
 refine codeAny_builtinAt F.entry ?_;unfold Builtin.«BaseException.__new__»;refine PySem.wpAt_bind ?_;show PySem.wpAt _ _ _ (stack >>= _) _ _ _;refine PySem.wpAt_bind (PySem.wpAt_stack fun p below=>PySem.wpAt_of_wpAny ?_)
 wp_walk
 refine PySem.wpAt_of_wpAny ?_;rw [F.owner]
 repeat (first | with_reducible refine wpAny_madeHere_exc F.canon oC ?_ | with_reducible refine wpAny_loadPart_at oC ?_ | (with_reducible refine wpAny_isSubtype_exc oC ?_; first | rw [c1] | rw [c2] | rw [c3]) | wp_step)
 show R _ _;rw [size_push];exact fin
theorem Le (F:ExcBaseFacts B newId initId bmB) (T:KD B bm) {rest:List Value} {fI:Addr} {oI:Obj} {Q:Fin->Shared->Prop}
  (oC:h.get? C=some (excClassObj nm qn C N bs bm az sn sub ab col dd k0 k1 k2 k3 k5 newId)) (li:W.Looks (model prog w) h (typeLookup (.ref C) "__init__") (some (.ref fI))) (oF:h.get? fI=some oI) (cF:oI.cls=.type "function") (hz:rest.length <= sizeLine)
  (fin:wpAny (model prog w) A (call (.ref fI) (.ref (h.objs.size + 1) :: rest)) (fun r s'=>r=.none/\Q (.done (.ret (.ref (h.objs.size + 1)))) s') E ⟨Dd C rest h,g,d,t,os⟩) :
  wpAny (model prog w) A (Builtin.«type.__call__» ⟨.ref C :: rest,[]⟩) Q E ⟨h,g,d,t,os⟩:=by
 repeat (first | with_reducible refine wpAny_loadPart_at oC ?_ | with_reducible refine wpAny_madeBy_exc oC ?_ | wp_step)
 refine codeAny_call_builtin_code (Code.quiet_builtin _ F.quiet) (Lc F T oC (O6 F T oC ?_ hz));show wpAny _ _ _ _ _ _;have kp:∀ b o,h.get? b=some o->(Dd C rest h).get? b=some o:=fun b o z=>get?_push_of_some _ (get?_push_of_some _ z);have oC1:=kp _ _ oC;have ge:(Dd C rest h).get? (h.objs.size + 1)=some (Ld C h):=by unfold Dd; heap_get
 have c1:(Value.ref C :: bm).contains (.ref C)=true:=by simp
 unfold isInstance
 repeat (first | with_reducible refine wpAny_loadPart_at ge ?_ | (with_reducible refine wpAny_isSubtype_exc oC1 ?_; rw [c1]) | wp_step)
 refine li A _ E ⟨Dd C rest h,g,d,t,os⟩ kp ?_;refine wpAny_holding (wpAny_bind ?_);unfold bindSpecial;refine wpAny_bind (wpAny_typeOf (T := "function") ⟨_,kp _ _ oF,cF⟩ ?_);rw [if_pos (by decide)];refine wpAny_pure (wpAny_bind (wpAny_mono fin (fun r s' z=>?_) fun _ _ x=>x));obtain ⟨rfl,hQ⟩:=z
 wp_walk
 exact hQ
theorem No (F:ExcBaseFacts B newId initId bmB) (T:KD B bm) {rest:List Value} {fI:Addr} {oI:Obj} {Q:VS}
  (oC:h.get? C=some (excClassObj nm qn C N bs bm az sn sub ab col dd k0 k1 k2 k3 k5 newId)) (li:W.Looks (model prog w) h (typeLookup (.ref C) "__init__") (some (.ref fI))) (oF:h.get? fI=some oI) (cF:oI.cls=.type "function") (hz:rest.length <= sizeLine)
  (fin:wpAny (model prog w) (A.under (.builtin "type.__call__" ⟨.ref C :: rest,[]⟩)) (call (.ref fI) (.ref (h.objs.size + 1) :: rest)) (fun r s'=>r=.none/\Q (.ref (h.objs.size + 1)) s') E ⟨Dd C rest h,g,d,t,os⟩) :
  wpAny (model prog w) A (call (.ref C) rest) Q E ⟨h,g,d,t,os⟩:=by
 have f1:=tc_lookup;have f2:=tc_bind (.ref C);have hT:(⟨h,g,d,t,os⟩:Shared).TypeIs (.ref C) "type" := ⟨_,oC,rfl⟩;refine wpAny_call (codeAny_of_tree ?_);show wpAny _ _ (callAny (.ref C) _) _ _ _
 repeat (any_goals (first | assumption | with_reducible refine wpAny_loadPart_at oC ?_ | wp_step))
 refine ⟨rfl,?_⟩;exact codeAny_call_builtin_at (Code.quiet_builtin _ (by decide +kernel)) entry_typeCall (wpAny_check_type_call_sub oC (Le F T oC li oF cF hz fin))
end
noncomputable def KF (e C:Addr) (dx:Option Addr):HO:=.ext fun h=>∃ oe vs,h.get? e=some oe/\oe.cls=.ref C/\oe.dict=dx/\oe.data=.fields vs/\vs.size=6/\vs[1]?=some .none/\vs[2]?=some .none
noncomputable def BJ (K:FG) (C:Addr):Bool:=match K.lookup C with
 | some ⟨.type "type", _,.cls cd,sl⟩=>(match cd.mro,sl.toList with
  | .ref C' :: bm,[_,_,_,_,some (.builtin n),_]=>C' == C && !cd.hasDel && n == "ValueError.__new__" && bm.contains (.type "BaseException") && bm.contains (.type "ValueError") && !bm.contains (.type "AttributeError") && !bm.contains (.type "NameError")
  | _,_=>false)
 | _=>false
theorem F6 (X:K.In h) (q:BJ K C=true):∃ nm qn N bs bm az sn sub ab col dd k0 k1 k2 k3 k5,h.get? C=some (excClassObj nm qn C N bs bm az sn sub ab col dd k0 k1 k2 k3 k5 "ValueError.__new__")/\KD "ValueError" bm:=by
 unfold BJ at q;split at q
 ·rename_i dd cd sl ho;split at q
  ·rename_i C' bm k0 k1 k2 k3 n k5 hm hs;simp only [Bool.and_eq_true,beq_iff_eq,Bool.not_eq_true'] at q;obtain ⟨⟨⟨⟨⟨⟨rfl,hdel⟩,rfl⟩,hb⟩,ht⟩,ha⟩,hn⟩:=q;obtain ⟨nm,bs,mro,ns,qn,hd,sn,sub,ab,col,del⟩:=cd
   dsimp only at hm hdel
   subst hm hdel;obtain ⟨l⟩:=sl;simp only at hs;subst hs;exact ⟨nm,qn,ns,bs,bm,hd,sn,sub,ab,col,dd,k0,k1,k2,k3,k5,X _ _ ho,⟨ht,hb,ha,hn⟩⟩
  ·cases q
 ·cases q
structure MkX (K:FG) (C f:Addr):Prop where
 cls:BJ K C=true
 init:W.findIn K (.ref C) "__init__" = some (some (.ref f))
 fn:W.isFn K (.ref f)=true
 fo:∃ o,K.lookup f=some o/\o.cls=.type "function"
 kp:W.keepIn K (.ref C)=true
section
variable {CX:CXT} {k:Nat} {fd:FuncData} {ps:List Str} {sp:Sp} {dvs:List V} {ds:List Value} {E:XK} {m:Str} {p apos:Pos} {o:Expr} {es:List Expr} {t:TA}
variable {s:Shared}
theorem Np (C:Addr) (rest:List Value) (h:Heap):(Dd C rest h).get? (h.objs.size + 1)=some (Ld C h):=by unfold Dd; heap_get
theorem Inv.madeX (I:Inv X aa σ H s) (rest:List Value):Inv X aa σ (upd H (s.heap.objs.size + 1) (KF (s.heap.objs.size + 1) C none)) { s with heap:=Dd C rest s.heap }:=by
 have kp:∀ b o,s.heap.get? b=some o->(Dd C rest s.heap).get? b=some o:=fun b o z=>get?_push_of_some _ (get?_push_of_some _ z);refine I.laid (t':=s.toks) kp (Nat.le_succ _) ?_;have ge:=Np C rest s.heap;exact ⟨⟨_,_,ge,rfl,rfl,rfl,rfl,rfl,rfl⟩,⟨_,ge⟩,fun h1 h2 ⟨oe,vs,a,r⟩ k=>⟨oe,vs,k _ a,r⟩⟩
theorem Nq {Q:VK} {vs:List V} (M:MkX X.K C f) (F:Aj X.prog X.w X.K X.mg X.base CX k f fd ps sp) (hr:Room (k + 1) X.A) (hb:Binds X.K fd ps ds) (hd:Vals dvs ds) (hx:Bi CX X E) (I:Inv X aa σ H s) (r:Vals vs us) (hz:vs.length <= 1000)
  (h:∀ x,H x=none->sp (.ref x :: (vs++dvs)) (upd H x (KF x C none)) (fun v H2=>v=.non/\Q (.ref x) H2) E):wpAny (model X.prog X.w) X.A (call (.ref C) us) (EP X aa σ Q) X.xe s:=by
 have hq:=h (s.heap.objs.size + 1) (I.hok.fresh (Nat.le_succ _));have I2:=Inv.madeX (C:=C) I us;have r2:Vals (V.ref (s.heap.objs.size + 1) :: (vs++dvs)) (Value.ref (s.heap.objs.size + 1) :: (us++ds)):=.cons rfl (r.append hd)
 have hl:(Value.ref (s.heap.objs.size + 1) :: us++ds).length=ps.length:=by
  have e:=r2.length;rw [F.len _ _ _ _ hq] at e;exact e.symm
 obtain ⟨nm,qn,N,bs,bm,az,sn,sub,ab,col,dd,k0,k1,k2,k3,k5,oC,T⟩:=F6 I.kIn M.cls;obtain ⟨oF,lF,cF⟩:=M.fo;obtain ⟨hh,g,d,tk,os⟩:=s;refine No PySem.F.excBase_ValueError T oC (W.looks_findIn I.kIn M.init) (I.kIn _ _ lF) cF (by rw [← r.length]; exact Nat.le_of_lt (AT hz)) ?_;refine wpAny_call (codeAny_mono (F.run _ X.stack _ _ ⟨_,[]⟩ (Value.ref (hh.objs.size + 1) :: (us++ds)) _ _ E (hr.make C us []) (I2.env0.make C us []) (hb _ (Value.ref (hh.objs.size + 1) :: us) I2.kIn hl) r2 hq) fun r s' hq'=>?_);cases r with
 | error e=>exact hx aa σ _ _ e s' I2 hq'
 | ok fl =>
  cases fl with
  | ret u =>
   obtain ⟨v,H',I3,rv,ev,q3⟩:=I2.after hq';subst ev;exact ⟨rv,⟨V.ref (hh.objs.size + 1),H',I3,rfl,q3⟩⟩
  | next=>exact False.elim hq'
  | brk=>exact False.elim hq'
  | cont=>exact False.elim hq'
def O7 (C:Addr) (sp:Sp) (dvs:List V) (E:XK) (t:TA):TE:=fun σ H Q=>t σ H fun vs H1=>vs.length <= 1000/\∀ x,H1 x=none->sp (.ref x :: (vs++dvs)) (upd H1 x (KF x C none)) (fun v H2=>v=.non/\Q (.ref x) H2) E
theorem G2 (M:MkX X.K C f) (F:Aj X.prog X.w X.K X.mg X.base CX k f fd ps sp) (hr:Room (k + 1) X.A) (hg:Gl X x) (hm:X.mg x=some (.ref C)) (hb:Binds X.K fd ps ds) (hd:Vals dvs ds) (hx:Bi CX X E)
  (ha:PA X (e :: es) t) (hdb:(x == ("__debug__" : Str))=false:=by decide) (he:starEach (e :: es) X.env=(false,eval e X.env) :: starEach es X.env:=by rfl) (hpl:(backTo pos (starEach es X.env)).any (·.1)=false:=by rfl) :
  PE X (.Call (.Name x p) (e :: es) [] pos) (O7 C sp dvs E t):=by
 intro aa s σ H Q I h;refine wpAny_Call_Name_kw (B6 I hg hm ?_ hdb);refine W.callWith_K (h₀:=X.base) I.ok.mod.kin M.kp (thn (ha pos aa s σ H _ I h) fun us s1 ⟨vs,H1,I1,r,q⟩=>⟨I1.kIn,?_⟩) he hpl;exact Nq M F hr hb hd hx I1 r q.1 q.2
def O8 (C:Addr) (te:TE) (E:XK):TS:=fun _ σ H=>te σ H fun v H1=>∃ e dx,v=.ref e/\H1 e=some (KF e C dx)/\E (.ref C) dx (upd H1 e (FY e C dx))
theorem Nr {H1:Hp} {e:Addr} {dx:Option Addr} (ok:HOk P w H1 h) (at_:H1 e=some (KF e C dx)):HOk P w (upd H1 e (FY e C dx)) h:=by
 obtain ⟨⟨oe,vs,a1,a2,a3,a4,a5,a6,a7⟩,_,_⟩:=ok _ _ at_;refine ok.write (x:=e) (e:=e) (by rw [at_]; exact True.intro) (.inl rfl) (fun b u _ q=>q) ⟨_,a1⟩ ⟨⟨oe,vs,a1,a2,a3,a4,by omega,a7⟩,⟨_,a1⟩,fun h1 h2 ⟨oe,vs,a,r⟩ k=>⟨oe,vs,k _ a,r⟩⟩
end
section
variable {M:Model} {s:Shared} {env:Env}
theorem KG {x:Sem Value} {Q:Flow->Shared->Prop} (hh:A.handled=none)
  (h:wpAny M A x (fun v s1=>∃ e oe vs,v=.ref e/\s1.heap.get? e=some oe/\oe.cls=.ref C/\oe.data=.fields vs/\vs[1]?=some .none /\
   (∃ nm qn N bs bm az sn sub ab col dd k0 k1 k2 k3 k5 nid,s1.heap.get? C=some (excClassObj nm qn C N bs bm az sn sub ab col dd k0 k1 k2 k3 k5 nid)/\bm.contains (.type "BaseException")=true)/\E (.ref e) s1) E s) :
  wpAny M A (raiseStmt env (some x) none) Q E s:=by
 unfold raiseStmt;refine wpAny_bind (wpAny_mono h (fun v s1 z=>?_) fun _ _ y=>y);obtain ⟨e,oe,vs,rfl,he,be,hd,h1,⟨nm,qn,N,bs,bm,az,sn,sub,ab,col,dd,k0,k1,k2,k3,k5,nid,oC,hb⟩,hE⟩:=z;have c1:(Value.ref C :: bm).contains (.type "BaseException")=true:=by rw [contains_cons,hb,Bool.or_true]
 obtain ⟨hp,g,d,tk,os⟩:=s1
 repeat (first | (with_reducible refine wpAny_loadPart_at he ?_; rw [be]) | with_reducible refine wpAny_loadPart_at oC ?_ | (with_reducible refine wpAny_isSubtype_exc oC ?_; rw [c1]) | wp_step)
 rw [hd];refine wpAny_pure ?_;rw [h1];refine wpAny_pure ?_;rw [if_neg (by decide)];exact wpAny_pure (wpAny_raiseNew_none hh hE)
end
section
variable {E:XK} {o:Expr}
theorem G3 (hR:O5 X E) (hc:X.calm=true) (hC:BJ X.K C=true) (he:PE X o te):PS X (.Raise (some o) none pos) (O8 C te E):=by
 intro aa s σ H D I h;rw [arm_exec_Raise];refine wpAny_bind (wpAny_standAt (KG (C:=C) (I.ok.hd hc) (wpAny_bind (wpAny_mono (he aa s σ H _ I h) (fun v s1 z=>wpAny_bind (wpAny_standAt (wpAny_pure ?_))) fun _ _ y=>y))));obtain ⟨u,H1,I1,ru,e,dx,rfl,at_,q⟩:=z;obtain rfl:v=.ref e:=ru;obtain ⟨⟨oe,vs,a1,a2,a3,a4,a5,a6,a7⟩,_,_⟩:=I1.hok _ _ at_;obtain ⟨nm,qn,N,bs,bm,az,sn,sub,ab,col,dd,k0,k1,k2,k3,k5,oC,T⟩:=F6 I1.kIn hC;refine ⟨e,oe,vs,rfl,a1,a2,a4,a6,⟨nm,qn,N,bs,bm,az,sn,sub,ab,col,dd,k0,k1,k2,k3,k5,_,oC,T.base⟩,?_⟩;refine hR aa σ H1 s1 e C dx _ s1 I1 ⟨rfl,I1.bare,Un.write (x:=e) (e:=e) (by rw [at_]; exact True.intro) (.inl rfl) (fun b u _ r=>r) ⟨_,a1⟩,Nr I1.hok at_,upd_same⟩ ⟨oe,vs,a1,a4,a6⟩ q
end
section
variable {prog:Program} {g:Array GenState} {d:Drawn} {t:Nat} {os:OsState}
variable {nm qn:Str} {N:Addr} {bs bm bmB:List Value} {az:Bool} {sn:List Str} {sub:List Value} {ab:Bool} {col:Option Bool} {dd:Option Addr} {k0 k1 k2 k3 k5:Option Value} {B newId initId:String}
theorem KH (F:ExcBaseFacts B newId initId bmB) (T:KD B bm) {M:Model} {e:Addr} {oe:Obj} {rest:List Value} {Q:Unit->Shared->Prop}
  (oC:h.get? C=some (excClassObj nm qn C N bs bm az sn sub ab col dd k0 k1 k2 k3 k5 newId)) (he:h.get? e=some oe) (be:oe.cls=.ref C) (fin:Q () ⟨h,g,d,t,os⟩) :
  wpAny M A (checkBuiltinCall initId ⟨.ref e :: rest,[]⟩) Q E ⟨h,g,d,t,os⟩:=by
 have c1:(Value.ref C :: bm).contains (.type B)=true:=by rw [contains_cons,T.b]; simp
 have st:=F.noStar;simp only [checkBuiltinCall,F.initKind,F.initSplit,F.initRow]
 repeat (first | (with_reducible refine wpAny_loadPart_at he ?_; rw [be]) | with_reducible refine wpAny_loadPart_at oC ?_ | (with_reducible refine wpAny_isSubtype_exc oC ?_; rw [c1]) | wp_step)
 refine wpAny_onRaise ?_;rw [show ∀ (a b:String) (n:Nat),Bind.check ⟨.positional, "*", B,.self,[⟨"args", .varPos,false⟩]⟩ a b n (List.map (fun x=>x.fst) ({ pos:=Value.ref e :: rest }:Args).kw)=pure () from fun a b n=>check_star_args _ _ _ _ _ _];exact wpAny_pure fin
theorem Lf (F:ExcBaseFacts B newId initId bmB) (T:KD B bm) {e:Addr} {oe:Obj} {vs:Array Value} {v0:Value} {rest:List Value} {Q:VS}
  (oC:h.get? C=some (excClassObj nm qn C N bs bm az sn sub ab col dd k0 k1 k2 k3 k5 newId)) (he:h.get? e=some oe) (be:oe.cls=.ref C) (hd:oe.data=.fields vs) (h0:vs[0]?=some v0) (hz:rest.length <= sizeLine)
  (fin:Q .none ⟨(h.push { cls:=.type "tuple", data:=.seq rest.toArray }).update e (Obj.mapFields (·.setIfInBounds 0 (.ref h.objs.size))),g,d,t,os⟩) :
  wpAny (model prog w) A (call (.builtin initId) (.ref e :: rest)) Q E ⟨h,g,d,t,os⟩:=by
 refine wpAny_call (codeAny_call_builtin F.init.plain F.initEntry (KH F T oC he be ?_));have e1:=get?_push_of_some { cls:=.type "tuple", data:=.seq rest.toArray } he;unfold Builtin.«BaseException.__init__»
 wp_walk
 rw [hd];refine wpAny_pure ?_;rw [h0];refine wpAny_pure (wpAny_bind (wpAny_setField e1 hd (Array.getElem?_eq_some_iff.mp h0).1 ?_))
 have done:∀ {E':VS},wpAny (model prog w) A.in1 (match v0 with | Value.ref _=>letGo [v0] | _=>pure ()) (fun _ s'=>Q .none s') E' ⟨(h.push { cls:=.type "tuple", data:=.seq rest.toArray }).update e (Obj.mapFields (·.setIfInBounds 0 (.ref h.objs.size))),g,d,t,os⟩:=fun {E'}=>by
  cases v0 <;> first | exact wpAny_pure fin | (wp_walk; exact fin)
 exact wpAny_mono done (fun _ s' q=>wpAny_pure q) fun _ _ z=>z
end
theorem O9 {o:HO} (h:H a=some o):upd H a o=H:=by
 funext b;unfold upd;split
 ·rename_i e;rw [e,h]
 ·rfl
theorem Nt {x:V}:∀ {us:List Value},Vals (x :: xs) us->∃ u ls,us=u :: ls/\RelV x u/\Vals xs ls
 | _ :: _,.cons a b=>⟨_,_,rfl,a,b⟩
section
variable {es:List Expr} {t:TA} {np apos:Pos}
def Sa (K:FG) (t:TA):TE:=fun σ H Q=>t σ H fun vs H1=>∃ a C dx rest,vs=.ref a :: rest/\rest.length <= 1000/\BJ K C=true/\H1 a=some (KF a C dx)/\Q .non H1
theorem Q3:typeOf (.type "ValueError")=pure (.type "type"):=by kernel_rfl
theorem Q4:Manifest.isStub "ValueError" = false:=by decide +kernel
theorem Q5 (K:FG):W.findCls K (.type "ValueError") (.type "type") "__init__" = some (.val (.builtin "ValueError.__init__")):=by kernel_rfl
theorem Q6:W.handedIn (.builtin "ValueError.__init__")=true:=by decide +kernel
theorem Mx:bootBuiltins "ValueError" = some (.type "ValueError"):=by decide +kernel
theorem PD {pl:Sem Bool} (hg:Gl X "ValueError") (hm:X.mg "ValueError" = none) (ha:PA X (e :: es) t) (he:starEach (e :: es) X.env=(false,eval e X.env) :: starEach es X.env:=by rfl) (hpl:(backTo pos (starEach es X.env)).any (·.1)=false:=by rfl)
  (ht:eval (.Call (.Attribute (.Name "ValueError" np) "__init__" apos) (e :: es) [] pos) X.env=(do
   let ov ← eval (.Name "ValueError" np) X.env
   standAt apos.atName
   let (f,first) ← holding [ov] (getMethod ov "__init__" pl)
   callWith pos f first (backTo pos (starEach (e :: es) X.env)) (backToKw pos (keywordEach [] X.env))):=by rfl) :
  PE X (.Call (.Attribute (.Name "ValueError" np) "__init__" apos) (e :: es) [] pos) (Sa X.K t):=by
 intro aa s σ H Q I h;refine W.methodCall_KW (pl:=pl) ?_ ht;refine D8 (u:=.type "ValueError") I hg hm Mx ?_;obtain ⟨m,Fm⟩:=I.fr;have L1:=fun (Q':Value × List Value->Shared->Prop) hq=>W.method_type (prog:=X.prog) (w:=X.w) (A:=X.A) (E:=X.xe) (K:=X.K) (T := "ValueError") (name := "__init__") (pl:=pl) (v:=.builtin "ValueError.__init__") (Q:=Q') Fm I.ok.mod.kin Q3 Q4 (Q5 X.K) Q6 hq;refine L1 _ ?_;refine PyProof.Rows.callWith_builtin1 (thn (ha pos aa _ σ H _ (I.tok _) h) fun us s1 ⟨vs,H1,I1,r1,a,C,dx,rest,ev,hz,hC,at_,q⟩=>?_) he hpl;subst ev;obtain ⟨nm,qn,N,bs,bm,az,sn,sub,ab,col,dd,k0,k1,k2,k3,k5,oC,T⟩:=F6 I1.kIn hC;obtain ⟨⟨oe,ws,a1,a2,a3,a4,a5,a6,a7⟩,_,st⟩:=I1.hok _ _ at_;obtain ⟨u0,ls,eu,ra,rr⟩:=Nt r1;subst eu
 ·obtain rfl:=ra;obtain ⟨hp,g,d,tk,os⟩:=s1;refine Lf PySem.F.excBase_ValueError T oC a1 a2 a4 (v0:=ws[0]'(by omega)) (by rw [Array.getElem?_eq_getElem]) (by rw [← rr.length]; exact Nat.le_of_lt (AT hz)) ?_;have J:=I1.kept (h':=hp.push { cls:=.type "tuple", data:=.seq ls.toArray }) (t':=tk) fun b u z=>get?_push_of_some _ z;have e1:=get?_push_of_some { cls:=.type "tuple", data:=.seq ls.toArray } a1;have e2:=get?_update_self (Obj.mapFields (·.setIfInBounds 0 (.ref hp.objs.size))) e1 (Obj.isFreed_of_fields (Obj.data_mapFields a4 _));rw [EH a4] at e2
  have J2:=J.write (x:=a) (e:=a) (o:=KF a C dx) (t':=tk) (by rw [at_]; exact True.intro) (.inl rfl) (fun b u n z=>(get?_update_other _ _ (Ne.symm n)).trans z) ⟨_,e2⟩
   ⟨⟨_,_,e2,a2,a3,rfl,by rw [Array.size_setIfInBounds]; exact a5,by rw [Array.getElem?_setIfInBounds_ne (by decide)]; exact a6,by rw [Array.getElem?_setIfInBounds_ne (by decide)]; exact a7⟩,⟨_,e2⟩,st⟩
  rw [O9 at_] at J2;exact ⟨.non,H1,J2,rfl,q⟩
end
noncomputable def G4 (P:Program) (w:World) (K:FG) (mg:SV) (base:Heap) (N:List Str) (qual:Str) (scope:Scope) (f:Addr) (cd:Value) (A:Around) (outer:List Env) (s:Shared) (H:Hp) (e:Addr) (oe:Obj):Cx :=
 { BI CX0 P w K mg base N qual scope f cd A outer s H (fun _ _ _=>False) with calm:=false,pn:=[(e,oe)],xe:=fun _ _=>False }
structure RoomS (k:Nat) (A:Around):Prop where
 dp:A.depth + 3 * k + 5 < recursionLimit
 un:A.units + 16 * k + 200 < cLine
theorem RoomS.deeper {k:Nat} {A:Around} (r:RoomS (k + 1) A) (env:Env):RoomS k (A.deeper env):=⟨by have:=r.dp; show A.depth + 1 + 3 * k + 5 < _; omega,by have:=r.un; show A.units + 3 + 16 * k + 200 < _; omega⟩
theorem Lg {ps:List Str} {qual:Str} {scope:Scope} {cd:Value} {outer:List Env} {s s1:Shared} {vs:List V} {e:Addr} {oe:Obj}
  (S:AR N ps scope) (e0:Env0 P w K mg base A outer s H) (hl:vs.length=ps.length) (r:Vals vs us) (he:s.heap.get? e=some oe) (hn:H e=none) (ho:e ∉ frs outer) (hd:∀ v,oe.data ≠ .cell v)
  (x:InCallC s s.heap.objs.size (bindL (envOfC qual scope s.heap.objs.size f cd).kindOf (ps.zip us) fun _=>none) (cellsFrom (s.heap.objs.size + 1) scope.names []) (bindC (envOfC qual scope s.heap.objs.size f cd).kindOf (ps.zip us) fun _=>none) s1) :
  Inv (G4 P w K mg base N qual scope f cd A outer s H e oe) [] (Bm N vs) H s1:=by
 have A0:∃ A0:Around,A0.handled=none/\A0.frames=A.frames:=⟨{ A with handled:=none },rfl,rfl⟩;obtain ⟨A0,h1,h2⟩:=A0;have I:=FU (CX:=CX0) (E:=fun _ _ _=>False) (A:=A0) S h1 ⟨h2.trans e0.frames,e0.mod,e0.bs,e0.bsz,e0.funs,e0.frf,e0.hok,e0.bare⟩ hl r x;obtain ⟨hh,tk,rfl,hk⟩:=x.done;have ok:=I.ok;refine ⟨⟨ok.mod,ok.kind,ok.glob,ok.blt,ok.above,ok.inj,ok.has,ok.cab,(fun z=>by cases (show false=true from z)),Around.frames_deeper e0.frames,ok.stk,ok.exf,ok.bs,ok.bsz,ok.noex,ok.exfs,ok.funs,ok.frf⟩,I.os,I.bare,I.base,I.loc,I.cell,I.free,I.freeC,fun p hp=>?_,I.hok,I.len⟩;have q:p=(e,oe):=by simpa [G4] using hp
 subst q;exact ⟨hk _ _ he,hn,Nat.ne_of_lt (lt_size he),ho,hd⟩
end L2
namespace L2
open PySem PySem.Spec PyProof.Rows
abbrev SpS:=Addr->Obj->List V->Hp->VK->Prop
structure My (P:Program) (w:World) (K:FG) (mg:SV) (base:Heap) (k:Nat) (f:Addr) (fd:FuncData) (ps:List Str) (sp:SpS):Prop where
 len:∀ e oe vs H Q,sp e oe vs H Q->vs.length=ps.length
 run:∀ (A:Around) (outer:List Env) (s:Shared) (H:Hp) (args:Args) (us:List Value) (vs:List V) (Q:VK) (e:Addr) (oe:Obj),RoomS k A->Env0 P w K mg base A outer s H->A.handled=some (.ref e)->s.heap.get? e=some oe->H e=none->e ∉ frs outer->(∀ v,oe.data ≠ .cell v) ->
  BindsTo s fd args (ps.zip us)->Vals vs us->sp e oe vs H Q->codeAny (model P w) A (.call (.ref f) args) (CR CX0 outer P w H s Q fun _ _ _=>False) s
section
theorem Fun.okS {qual:Str} {st:Stmt} {fd:FuncData} {ps:List Str} {k:Nat} {sp:SpS} (F:Fun K x qual st f fd) (S:AR N ps (defScope st)) (len:∀ e oe vs H Q,sp e oe vs H Q->vs.length=ps.length)
  (bc:∀ (ad:Value) (A:Around) (outer:List Env) (s:Shared) (H:Hp) (vs:List V) (Q:VK) (e:Addr) (oe:Obj),A.handled=some (.ref e)->RoomS k (A.deeper (envOfC qual (defScope st) s.heap.objs.size f ad))->sp e oe vs H Q ->
   ∃ t,PSs (G4 P w K mg base N qual (defScope st) f ad A outer s H e oe) (defBody st) t/\t { nx:=fun _ H'=>Q .non H',rt:=Q } (Bm N vs) H):My P w K mg base (k + 1) f fd ps sp:=by
 obtain ⟨oc,od,kV,doc,pm,an,ad,ct,osl,rfl,lk,hcd⟩:=F.ex;refine ⟨len,fun A outer s H args us vs Q e oe hr e0 hh he hn ho hd hb r hsp=>?_⟩;have hl:=len _ _ _ _ _ hsp;have KX:K.In s.heap:=e0.mod.kin.keeps fun b o z=>(e0.bs b o z).1;have lim:s.heap.NoLimit:=e0.mod.nolimit.keeps fun b o z=>(e0.bs b o z).1
 have hk:∀ y ∈ ps.zip us,(defScope st).names.lookup y.1=some .local\/((defScope st).names.lookup y.1=some .cell/\((cellsFrom (s.heap.objs.size + 1) (defScope st).names []).lookup y.1).isSome=true):=fun ⟨n,v⟩ hy=>by
  rcases S.par n (of_mem_zip hy).1 with q | q
  ·exact .inl q
  ·exact .inr ⟨q,W.cellsFrom_some _ _ _ (.inl q)⟩
 refine codeAny_call_function (by have:=hr.dp; omega) (KX _ _ lk) rfl S.co S.gen rfl (W.codeRec_of KX hcd) (hb _ _ _ _ (wpAny_newFunctionEnv_cells S.kind hk fun env ee s1 x=>?_));subst ee;refine ⟨lim.keeps x.toInCall.keep,codeAny_func ?_⟩;obtain ⟨t,ht,hq⟩:=bc ad A outer s H vs Q e oe hh (hr.deeper _) hsp;have I:Inv (G4 P w K mg base N qual (defScope st) f ad A outer s H e oe) [] (Bm N vs) H s1:=Lg S e0 hl r he hn ho hd x;refine wpAny_mono (ht [] s1 (Bm N vs) H _ I hq) (fun fl s' z=>?_) fun _ _ z=>z.elim;cases fl with
 | ret u =>
  obtain ⟨v,σ',H',J,rv,q⟩:=z;exact ⟨v,H',J.os,J.bare,J.base,J.hok,rv,q⟩
 | next =>
  obtain ⟨σ',H',J,q⟩:=z;exact ⟨.non,H',J.os,J.bare,J.base,J.hok,rfl,q⟩
 | brk =>
  obtain ⟨_,_,_,q⟩:=z;exact q.elim
 | cont =>
  obtain ⟨_,_,_,q⟩:=z;exact q.elim
theorem Q7 {qual:Str} {scope:Scope} {cd:Value} {outer:List Env} {s:Shared} {e:Addr} {oe:Obj} {vs:Array Value} (hh:A.handled=some (.ref e)) (hd:oe.data=.fields vs) (h2:vs[2]?=some .none) :
  Rdy (G4 P w K mg base N qual scope f cd A outer s H e oe):=.inr ⟨e,oe,vs,hh,mem_cons_self,hd,h2⟩
end
noncomputable def del (H:Hp) (a:Addr):Hp:=fun b=>if b=a then none else H b
theorem KJ:del H a a=none:=if_pos rfl
theorem De {b:Addr} (h:b ≠ a):del H a b=H b:=if_neg h
section
variable {H1 H2:Hp} {s1 s2:Shared} {e:Addr} {dx:Option Addr}
theorem PJ {fs:List Addr} {oe:Obj} {vs:Array Value} {old:Addr->Prop} {h2 h':Heap} (u:Un fs [] H1 H2 h h2) (L:G0 fs e oe vs old h2 h') (at_:H2 e=some (FY e C dx)) (hold:∀ b,old b->H2 b=none/\h.get? b=none):Un fs [] H1 (del H2 e) h h':=by
 have ne:∀ b,H2 b=none->b ≠ e:=fun b n z=>by subst z; rw [at_] at n; cases n
 have nold:∀ b o,h.get? b=some o->¬ old b:=fun b o hb z=>by rw [(hold b z).2] at hb; cases hb
 have ne2:∀ b v,H2 b=some v->(∀ φ,v ≠ .ext φ)->b ≠ e:=fun b v hv hn z=>by subst z; rw [at_] at hv; cases hv; exact hn _ rfl
 refine ⟨fun b o q n hb _=>?_,fun b o q n hb _=>?_,fun b o q n _=>?_,fun b o q _=>?_,fun b xs q=>?_,fun b o xs q=>?_,fun b ps q=>?_⟩
 ·exact L.keep b o (u.keep b o q n hb (by simp)) (ne b (u.free b o q n (by simp))) (nold b o q) hb
 ·obtain ⟨sl,q1⟩:=u.slot b o q n hb (by simp);obtain ⟨sl2,q2⟩:=L.slot b _ q1 (ne b (u.free b o q n (by simp))) (nold b o q) hb;exact ⟨sl2,q2⟩
 ·have z:=u.free b o q n (by simp);rw [De (ne b z)];exact z
 ·obtain ⟨o1,q1⟩:=u.there b o q (by simp);exact L.there b o1 q1
 ·have z:=u.tups b xs q;rw [De (ne2 b _ z fun _ y=>nomatch y)];exact z
 ·have z:=u.frzs b o xs q;rw [De (ne2 b _ z fun _ y=>nomatch y)];exact z
 ·obtain ⟨m,z⟩:=u.tbls b ps q;exact ⟨m,by rw [De (ne2 b _ z fun _ y=>nomatch y)]; exact z⟩
theorem Q8 (ok:HOk P w H2 h) (at_:H2 e=some (FY e C dx)):HOk P w (del H2 e) h:=fun b u q=>by
 have hb:b ≠ e:=fun z=>by subst z; rw [KJ] at q; cases q
 rw [De hb] at q;have ne2:∀ c v,H2 c=some v->(∀ φ,v ≠ .ext φ)->c ≠ e:=fun c v hv hn z=>by subst z; rw [at_] at hv; cases hv; exact hn _ rfl
 exact (ok b u q).stay (fun _ _ _ z=>z) (fun c z=>by rw [De (ne2 c _ z fun _ y=>nomatch y)]; exact z) fun c xs z=>by rw [De (ne2 c _ z fun _ y=>nomatch y)]; exact z
structure Cgt (C:Addr) (dx:Option Addr) (e:Addr) (oe:Obj) (T:Addr) (oT:Obj):Prop where
 cls:oe.cls=.ref C
 dict:oe.dict=dx
 fld:∃ vs,oe.data=.fields vs/\vs[1]?=some (.ref T)/\vs[2]?=some .none
 tb:∃ ts,oT.data=.fields ts/\ts[3]?=some .none
theorem Sb {E':VS} {Q:Unit->Shared->Prop} (O:La X) (I:Inv X aa σ H1 s1) (F:Fly X.prog X.w X.stack H1 s1 e C dx H2 s2)
  (h:∀ s3 oe T oT,Cgt C dx e oe T oT->Inv X ((e,oe) :: (T,oT) :: aa) σ (del H2 e) s3->Q () s3) :
  wpAny (model X.prog X.w) X.A (noteFrame (.ref e) X.env) (fun _ s3=>wpAny (model X.prog X.w) X.A (setFlight (.ref e) none) Q E' s3) E' s2:=by
 obtain ⟨B,oe,vs,T,oT,ts,a1,a2,a3,a4,a5,a6,a7,a8,a9⟩:=F;have fr:=EI I B;have hA:=I.ok.frames;rw [O.stk] at fr hA;refine IS hA fr O.fr a1 a2 a3 a4 a5 a6 a7 fun h' L=>?_;rw [← O.stk] at L;have hold:∀ b,b=T->H2 b=none/\s1.heap.get? b=none:=fun b z=>by subst z; exact ⟨a8,a9⟩
 have free2:∀ b ∈ frs X.stack,H2 b=none:=fun b hb=>by
  obtain ⟨_,o,ho,_⟩:=I.stack.mem hb;exact B.un.free b o ho (I.stkFree b hb) (by simp)
 have ok3:=KB B.hok L free2 (fun b z=>(hold b z).1) a1 a2 B.at_;obtain ⟨T',oT',ts',b1,b2,b3,b4,b5⟩:=L.tb;obtain ⟨⟨oe',vs',c1,c2,c3,c4,c5,c6⟩,_,_⟩:=B.hok _ _ B.at_;rw [a1] at c1;cases c1;rw [a2] at c4;cases c4;have I3:Inv X aa σ (del H2 e) { s2 with heap:=h' }:=I.call' (ch:=[]) B.os (PJ B.un L B.at_ hold) (Q8 ok3 B.at_) B.bare fun b z=>nomatch z;have hT0:s2.heap.get? T'=none:=Heap.get?_none_of_le b1;have hTH:H2 T'=none:=B.hok.fresh b1;have hTe:T' ≠ e:=fun z=>by subst z; rw [a1] at hT0; cases hT0
 have locs:∃ o,s2.heap.get? X.env.locals=some o:=by
  obtain ⟨m,⟨o,_,_,ho,_⟩,_⟩:=id I.loc;exact B.un.there _ o ho (by simp)
 have fsIn:∀ b ∈ X.fs,∃ o,s2.heap.get? b=some o:=fun b hb=>by
  obtain ⟨_,o,ho,_⟩:=I.funs.mem hb;exact B.un.there b o ho (by simp)
 have upfs:∀ b ∈ X.fs,b ∈ frs X.stack:=fun b hb=>by
  rw [O.stk];unfold frs;rw [filterMap_cons,O.fr];exact mem_cons_of_mem _ hb
 refine h _ { oe with data:=.fields (vs.setIfInBounds 1 (.ref T')) } T' oT' ⟨c2,c3,⟨vs.setIfInBounds 1 (.ref T'),rfl,by simp [(Array.getElem?_eq_some_iff.mp a3).1],by rw [Array.getElem?_setIfInBounds_ne (by decide)]; exact c6⟩,⟨ts',b3,b4⟩⟩ (I3.pins_of fun p hp=>?_);rcases mem_cons.mp hp with z | z
 ·subst z;refine ⟨b5,KJ,fun z=>?_,fun z=>?_,fun v z=>by cases z⟩
  ·obtain ⟨m,⟨o,_,_,ho,_⟩,_⟩:=id I.loc;have n1:=B.un.free _ _ ho I.free (by simp);rw [← z,B.at_] at n1;cases n1
  ·have n1:=free2 e (upfs e z);rw [B.at_] at n1;cases n1
 rcases mem_cons.mp z with z | z
 ·subst z;refine ⟨b2,by rw [De hTe]; exact hTH,fun z=>?_,fun z=>?_,fun v z=>by rw [b3] at z; cases z⟩
  ·obtain ⟨o,ho⟩:=locs;rw [← z,hT0] at ho;cases ho
  ·obtain ⟨o,ho⟩:=fsIn _ z;rw [hT0] at ho;cases ho
 ·exact I3.pin p (mem_append_right _ z)
end
noncomputable def Dx (K:FG) (C:Addr):List Value:=match K.lookup C with
 | some ⟨_,_,.cls cd,_⟩=>cd.mro
 | _=>[]
theorem KK (X:K.In h) (q:BJ K C=true):∃ nm qn N bs bm az sn sub ab col dd k0 k1 k2 k3 k5,h.get? C=some (excClassObj nm qn C N bs bm az sn sub ab col dd k0 k1 k2 k3 k5 "ValueError.__new__")/\KD "ValueError" bm/\Dx K C=.ref C :: bm:=by
 obtain ⟨nm,qn,N,bs,bm,az,sn,sub,ab,col,dd,k0,k1,k2,k3,k5,oC,T⟩:=F6 X q;refine ⟨nm,qn,N,bs,bm,az,sn,sub,ab,col,dd,k0,k1,k2,k3,k5,oC,T,?_⟩;unfold BJ at q;unfold Dx;split at q
 ·rename_i dd' cd sl ho;rw [ho];have e:=X _ _ ho;rw [oC] at e;have e1:=Option.some.inj e;have e3:=congrArg Obj.data e1;injection e3 with e2
  rw [← e2]
 ·cases q
section
variable {M:Model} {g:Array GenState} {d:Drawn} {t:Nat} {os:OsState}
variable {nm qn nm' qn':Str} {N D N':Addr} {bs bm bs' bm':List Value} {az hdct':Bool} {sn sn':List Str} {sub sub':List Value} {ab ab':Bool} {col col':Option Bool} {dd dd':Option Addr} {k0 k1 k2 k3 k5 l0 l1 l2 l3 l5:Option Value} {newId newId':String}
theorem JS {e:Addr} {oe:Obj} {Q:Bool->Shared->Prop} (oC:h.get? C=some (excClassObj nm qn C N bs bm az sn sub ab col dd k0 k1 k2 k3 k5 newId)) (oD:h.get? D=some (excClassObj nm' qn' D N' bs' bm' hdct' sn' sub' ab' col' dd' l0 l1 l2 l3 l5 newId'))
  (he:h.get? e=some oe) (be:oe.cls=.ref C) (bg:bm'.contains (.type "BaseException")=true) (hq:Q ((Value.ref C :: bm).contains (.ref D)) ⟨h,g,d,t,os⟩):wpAny M A (excMatches (.ref e) (.ref D)) Q E ⟨h,g,d,t,os⟩:=by
 have hcB:(Value.ref D :: bm').contains (.type "BaseException")=true:=by rw [contains_cons,bg,Bool.or_true]
 have f:=tc_notTuple;unfold excMatches;generalize hb:(Value.ref C :: bm).contains (.ref D)=b at hq
 repeat (first | (with_reducible refine wpAny_loadPart_at he ?_; rw [be]) | with_reducible refine wpAny_loadPart_at oD ?_ | (with_reducible refine wpAny_isSubtype_exc oD ?_; rw [hcB]) | (with_reducible refine wpAny_isSubtype_exc oC ?_; rw [hb]) | wp_step)
 cases b <;> (wp_walk; exact hq)
end
noncomputable def BW (X:Cx) (e:Addr) (oe:Obj) (T:Addr) (oT:Obj):Cx:={ X with A:=X.A.mark (some (.ref e)),calm:=false,pn:=X.pn++[(e,oe),(T,oT)],xe:=fun _ _=>False }
section
variable {s:Shared} {e T:Addr} {oe oT:Obj}
theorem Inv.mark (I:Inv X ((e,oe) :: (T,oT) :: aa) σ H s):Inv (BW X e oe T oT) aa σ H s :=
 ⟨⟨I.ok.mod,I.ok.kind,I.ok.glob,I.ok.blt,I.ok.above,I.ok.inj,I.ok.has,I.ok.cab,(fun z=>by cases (show false=true from z)),I.ok.frames,I.ok.stk,I.ok.exf,I.ok.bs,I.ok.bsz,I.ok.noex,I.ok.exfs,I.ok.funs,I.ok.frf⟩,I.os,I.bare,I.base,I.loc,I.cell,I.free,I.freeC,
  fun p hp=>I.pin p (by simpa [BW] using hp),I.hok,I.len⟩
theorem Inv.unmark (ok:X.Ok) (I:Inv (BW X e oe T oT) aa σ H s):Inv X ((e,oe) :: (T,oT) :: aa) σ H s :=
 ⟨ok,I.os,I.bare,I.base,I.loc,I.cell,I.free,I.freeC,fun p hp=>I.pin p (by simpa [BW] using hp),I.hok,I.len⟩
theorem Inv.less {q:LO} (I:Inv X (q++aa) σ H s):Inv X aa σ H s:=I.pins_of fun p hp=>I.pin p (mem_append_right _ (mem_append_right _ hp))
theorem Inv.nameless {h':Heap} {m':SV} {tk:Nat} (I:Inv X aa σ H s) (hn:h'.Ns X.env.locals m') (hs:Heap.SameBut X.env.locals s.heap h'):Inv X aa (List.replicate σ.length none) H { s with heap:=h',toks:=tk }:=by
 obtain ⟨m,⟨oL,_,_,hoL,_⟩,_⟩:=id I.loc;refine ⟨I.ok,I.os,I.bare,⟨fun b o e n hb hx=>?_,fun b o e n hb hx=>?_,I.base.free,fun b o e hx=>?_,I.base.tups,I.base.frzs,I.base.tbls⟩,⟨_,hn,fun j y v' e1 e2 e3=>?_⟩,fun y c e=>?_,I.free,I.freeC,fun p hp=>?_,fun b ob e=>?_,by simpa using I.len⟩
 ·exact (hs.2 b (Nat.ne_of_lt (Nat.lt_of_lt_of_le (lt_size e) I.ok.above))).trans (I.base.keep b o e n hb hx)
 ·obtain ⟨sl,e1⟩:=I.base.slot b o e n hb hx;exact ⟨sl,(hs.2 b (Nat.ne_of_lt (Nat.lt_of_lt_of_le (lt_size e) I.ok.above))).trans e1⟩
 ·obtain ⟨o',e1⟩:=I.base.there b o e hx;exact ⟨o',(hs.2 b (Nat.ne_of_lt (Nat.lt_of_lt_of_le (lt_size e) I.ok.above))).trans e1⟩
 ·rw [List.getElem?_replicate] at e2;split at e2 <;> cases e2
 ·obtain ⟨w',z⟩:=I.cell y c e;exact ⟨w',z.sameBut hs (I.cne y c e)⟩
 ·obtain ⟨e,n,ne,nf,d⟩:=I.pin p hp;exact ⟨(hs.2 p.1 ne).trans e,n,ne,nf,d⟩
 ·refine (I.hok b ob e).stay (fun c w' hc q=>(hs.2 c ?_).trans q) (fun _ q=>q) fun _ _ q=>q;intro z;subst z;rcases hc with z | hc
  ·rw [← z,I.free] at e; cases e
  ·rw [I.free] at hc; cases hc
end
def PH (X:Cx) (C:Addr) (dx:Option Addr) (hs:List ExceptHandler) (t:Addr->TS):Prop :=
 ∀ (aa:LO) (s:Shared) (σ:St) (H:Hp) (D:D7) (e:Addr) (oe:Obj) (T:Addr) (oT:Obj),Cgt C dx e oe T oT->Inv X ((e,oe) :: (T,oT) :: aa) σ H s->t e D σ H->wpAny (model X.prog X.w) X.A (handleBy (.ref e) X.env hs) (SP X aa D) X.xe s
section
variable {Dn:Addr} {dx:Option Addr} {hs:List ExceptHandler} {t:Addr->TS} {np:Pos} {name:Option Str} {body:List Stmt}
theorem IT (e:Addr):Value.ref e ≠ byPass:=by intro q; cases q
theorem IU {s:Shared} {e T:Addr} {oe oT:Obj} (hC:BJ X.K C=true) (hD:BJ X.K Dn=true) (c:Cgt C dx e oe T oT) (I:Inv X ((e,oe) :: (T,oT) :: aa) σ H s) {Q:Bool->Shared->Prop}
  (h:Q ((Dx X.K C).contains (.ref Dn)) s):wpAny (model X.prog X.w) A (excMatches (.ref e) (.ref Dn)) Q E s:=by
 obtain ⟨nm,qn,N,bs,bm,az,sn,sub,ab,col,dd,k0,k1,k2,k3,k5,oC,T1,e1⟩:=KK I.kIn hC;obtain ⟨nm',qn',N',bs',bm',hdct',sn',sub',ab',col',dd',l0,l1,l2,l3,l5,oD,T2,e2⟩:=KK I.kIn hD;have he:=(I.pin (e,oe) (by simp)).1;rw [e1] at h;obtain ⟨hp,g,d,tk,os⟩:=s;exact JS oC oD he c.cls T2.base h
theorem CA (hC:BJ X.K C=true) (hD:BJ X.K Dn=true) (hg:Gl X x) (hm:X.mg x=some (.ref Dn)) (hs':(Dx X.K C).contains (.ref Dn)=false) (hr:PH X C dx hs t) (hdb:(x == ("__debug__" : Str))=false:=by decide) :
  PH X C dx (.ExceptHandler (some (.Name x np)) name body pos :: hs) t:=by
 intro aa s σ H D e oe T oT c I h;refine wpAny_handleBy_cons (codeAny_handlers_test ?_) (IT e);refine B6 (X:=BW X e oe T oT) I.mark hg hm ?_ hdb;refine IU hC hD c I ?_;rw [hs'];exact hr aa s σ H D e oe T oT c I h
def Mz (i:Nat) (tb:TS):Addr->TS:=fun e D σ H=>tb { nx:=fun _ _=>False,rt:=D.rt } (σ.set i (some (.ref e))) H
theorem M0 {n:Str} {b₀:Stmt} {i:Nat} {tb:Addr->TS} (hN:X.N.Nodup) (hi:X.N[i]?=some n) (hl:X.env.scope.names.lookup n=some .local) (hC:BJ X.K C=true) (hD:BJ X.K Dn=true) (hg:Gl X x) (hm:X.mg x=some (.ref Dn)) (hs':(Dx X.K C).contains (.ref Dn)=true)
  (hb:∀ e oe T oT,Cgt C dx e oe T oT->PSs (BW X e oe T oT) (b₀ :: body) (tb e)) (hdb:(x == ("__debug__" : Str))=false:=by decide) :
  PH X C dx (.ExceptHandler (some (.Name x np)) (some n) (b₀ :: body) pos :: hs) (fun e=>Mz i (tb e) e):=by
 intro aa s σ H D e oe T oT c I h;refine wpAny_handleBy_cons (codeAny_handlers_test ?_) (IT e);refine B6 (X:=BW X e oe T oT) I.mark hg hm ?_ hdb;refine IU hC hD c I ?_;rw [hs'];refine codeAny_handlers_suite_as ?_;obtain ⟨vs,hd,h1,h2⟩:=c.fld;obtain ⟨ts,hdT,h3⟩:=c.tb;have he:=(I.pin (e,oe) (by simp)).1;have hT:=(I.pin (T,oT) (by simp)).1;refine wpAny_setFlight_none he hd h1 hT hdT (Array.getElem?_eq_some_iff.mp h3).1 ?_
 have I1:Inv X ((e,oe) :: (T,oT) :: aa) σ H { s with heap:=s.heap.update T (Obj.mapFields (·.setIfInBounds 3 .none)) }:=I.kept (t':=s.toks) fun b u q=>by
  by_cases z:b=T
  ·subst z;have e1:=get?_update_self (Obj.mapFields (·.setIfInBounds 3 Value.none)) hT (Obj.isFreed_of_fields (Obj.data_mapFields hdT _));rw [EH hdT] at e1
   have e2:ts.setIfInBounds 3 Value.none=ts:=by
    obtain ⟨l1,l2⟩:=Array.getElem?_eq_some_iff.mp h3;rw [Array.setIfInBounds,dif_pos l1]
    conv=>lhs; rw [← l2]
    exact Array.set_getElem_self l1
   rw [e2,← hdT] at e1;rw [show s.heap.get? b=some oT from hT] at q;cases q;exact e1
  ·exact (get?_update_other _ _ (Ne.symm z)).trans q
 refine Bp (X:=BW X e oe T oT) (v:=.ref e) I1.mark hN hi (.inl hl) rfl (fun s2 I2=>?_) (.inr hl);refine wpAny_mono (hb e oe T oT c aa s2 _ H _ I2 h) (fun fl s3 z=>?_) fun _ _ z=>z.elim;cases fl with
 | ret u =>
  obtain ⟨v,σ',H',J,rv,q⟩:=z;have J':=J.unmark I.ok;obtain ⟨m,hn,_⟩:=id J'.loc;have be:(X.env.scope.kind == .class || (X.env.scope.kind == .module && X.env.locals != X.env.globals))=false:=by rw [I.ok.kind]; rfl
  exact wpAny_nameGoes hl hn be fun h' m' hn' hs'=>⟨v,_,H',(J'.nameless hn' hs').less (q:=[(e,oe),(T,oT)]),rv,q⟩
 | next =>
  obtain ⟨_,_,_,q⟩:=z;exact q.elim
 | brk =>
  obtain ⟨_,_,_,q⟩:=z;exact q.elim
 | cont =>
  obtain ⟨_,_,_,q⟩:=z;exact q.elim
end
noncomputable def E3 (X:Cx) (P0:LO) (xe:VS):Cx:={ X with pn:=X.pn++P0,xe:=xe }
section
variable {P0:LO} {xe:VS} {s:Shared}
theorem Cx.Ok.tr (ok:X.Ok):(E3 X P0 xe).Ok:=⟨ok.mod,ok.kind,ok.glob,ok.blt,ok.above,ok.inj,ok.has,ok.cab,ok.hd,ok.frames,ok.stk,ok.exf,ok.bs,ok.bsz,ok.noex,ok.exfs,ok.funs,ok.frf⟩
theorem Cx.Ok.untr (ok:(E3 X P0 xe).Ok):X.Ok:=⟨ok.mod,ok.kind,ok.glob,ok.blt,ok.above,ok.inj,ok.has,ok.cab,ok.hd,ok.frames,ok.stk,ok.exf,ok.bs,ok.bsz,ok.noex,ok.exfs,ok.funs,ok.frf⟩
theorem Inv.tr (I:Inv X P0 σ H s):Inv (E3 X P0 xe) [] σ H s:=⟨I.ok.tr,I.os,I.bare,I.base,I.loc,I.cell,I.free,I.freeC,fun p hp=>I.pin p (by simpa [E3] using hp),I.hok,I.len⟩
theorem Inv.untr (I:Inv (E3 X P0 xe) aa σ H s):Inv X P0 σ H s:=⟨I.ok.untr,I.os,I.bare,I.base,I.loc,I.cell,I.free,I.freeC,fun p hp=>I.pin p (by
 rcases mem_append.mp hp with z | z
 ·exact mem_append_left _ (mem_append_left _ z)
 ·exact mem_append_left _ (mem_append_right _ z)),I.hok,I.len⟩
end
def Q9 (n:Nat) (th:Addr->Option Addr->Addr->TS) (D:D7):XK:=fun Cv dx H2=>∃ C,Cv=.ref C/\∀ e,H2 e=some (FY e C dx)->th C dx e D (List.replicate n none) (del H2 e)
def Ud (n:Nat) (tb:XK->TS) (th:Addr->Option Addr->Addr->TS):TS:=fun D σ H=>tb (Q9 n th D) { D with nx:=D.nx } σ H
section
variable {body:List Stmt} {h₀:ExceptHandler} {hs:List ExceptHandler} {tb:XK->TS} {th:Addr->Option Addr->Addr->TS} {Cs:Addr->Prop}
theorem Sc (O:La X) (hb:∀ P0 xe E,Bi (CXr X.prog X.w) (E3 X P0 xe) E->PSs (E3 X P0 xe) body (tb E)) (hh:∀ C dx,PH X C dx (h₀ :: hs) (th C dx)) :
  PS X (.Try body (h₀ :: hs) [] [] pos) (Ud X.N.length tb th):=by
 intro aa s σ H D I h;refine wpAny_Try_except ?_
 let E:XK:=Q9 X.N.length th D
 let xe:Value->Shared->Prop:=fun ev s2=>∃ σ1 H1 s1 ea C dx H2,ev=.ref ea/\Inv X aa σ1 H1 s1/\Fly X.prog X.w X.stack H1 s1 ea C dx H2 s2/\E (.ref C) dx H2
 have hp:Bi (CXr X.prog X.w) (E3 X aa xe) E:=by
  rintro pins' σ1 H1 s1 ev s2 I1 ⟨ea,C,dx,H2,rfl,F,q⟩;exact ⟨σ1,H1,s1,ea,C,dx,H2,rfl,I1.untr,F,q⟩
 have ok:=I.ok;refine wpAny_mono (hb aa xe E hp [] s σ H _ I.tr h) (fun fl s1 z=>?_) fun ev s2 z=>?_
 ·cases fl with
  | next =>
   obtain ⟨σ',H',J,q⟩:=z;exact wpAny_execs_nil ⟨σ',H',J.untr,q⟩
  | brk=>obtain ⟨σ',H',J,q⟩:=z; exact ⟨σ',H',J.untr,q⟩
  | cont=>obtain ⟨σ',H',J,q⟩:=z; exact ⟨σ',H',J.untr,q⟩
  | ret u=>obtain ⟨v,σ',H',J,r,q⟩:=z; exact ⟨v,σ',H',J.untr,r,q⟩
 ·obtain ⟨σ1,H1,s1,ea,C,dx,H2,rfl,I1,F,C',eC,q⟩:=z;cases eC;refine Sb O I1 F fun s3 oe T oT c I3=>?_
  have I4:Inv X ((ea,oe) :: (T,oT) :: aa) (List.replicate X.N.length none) (del H2 ea) s3:=I3.weak (by rw [List.length_replicate,I3.len]) fun i v z=>by
   rw [List.getElem?_replicate] at z;split at z <;> cases z
  exact hh C dx aa s3 _ _ D ea oe T oT c I4 (q ea F.1.at_)
end
structure EJ (K:FG) (C:Addr):Prop where
 ga:W.findIn K (.ref C) "__getattribute__" = some (some (.builtin "BaseException.__getattribute__"))
 gr:W.findIn K (.ref C) "__getattr__" = some none
 mb:W.mroIn K C (.type "BaseException")=some true
section
variable {prog:Program} {x:Addr} {ox:Obj} {od:Option Obj} {name:Str} {g:Array GenState} {d:Drawn} {t:Nat} {os:OsState}
theorem Nu {M:Model} {nameV:Value} {Q:Unit->Shared->Prop} (p:EJ K C) (X:K.In h) (I:W.InstAt h x ox C od) (hq:Q () ⟨h,g,d,t,os⟩):wpAny M A (checkBuiltinCall "BaseException.__getattribute__" ⟨[.ref x,nameV],[]⟩) Q E ⟨h,g,d,t,os⟩:=by
 have hk:builtinKind "BaseException.__getattribute__" = some .slot:=by decide +kernel
 have hsplit:splitId "BaseException.__getattribute__" = some ("BaseException", "__getattribute__"):=by decide +kernel
 have ha:=F.args_bexc_ga (.ref x) nameV;have L0:=I.type (M:=M);have L1:=W.looks_mroIn (M:=M) X p.mb;simp only [checkBuiltinCall,hk,hsplit];refine wpAny_bind ?_
 ·unfold isInstance
  repeat (first | with_reducible refine L0.at ?_ | with_reducible refine L1.at ?_ | wp_step)
  exact hq
theorem Nv {v:Value} {tk:Tok} {Q:Fin->Shared->Prop} (X:K.In h) (I:W.InstAt h x ox C od) (hf:W.findObj K C od name=some (.value v)) (hq:Q (.done (.ret v)) ⟨h,g,d,t,os⟩) :
  wpAny (model prog w) A (Builtin.«object.__getattribute__» ⟨[.ref x,.str name tk],[]⟩) Q E ⟨h,g,d,t,os⟩:=by
 have L0:=I.type (M:=model prog w);have L1:=W.looks_find (M:=model prog w) X I hf
 repeat (any_goals (first | assumption | with_reducible refine L0.at ?_ | with_reducible refine L1.at ?_ | wp_step))
theorem Nw {tk:Tok} {Q:Fin->Shared->Prop} (X:K.In h) (I:W.InstAt h x ox C od) (hf:W.findObj K C od name=some (.bind (.builtin "getset_descriptor.__get__") (.builtin "object.__class__"))) (hm:W.mroIn K C (.type "object")=some true)
  (hq:Q (.done (.ret (.ref C))) ⟨h,g,d,t,os⟩) :
  wpAny (model prog w) A (Builtin.«object.__getattribute__» ⟨[.ref x,.str name tk],[]⟩) Q E ⟨h,g,d,t,os⟩:=by
 have L0:=I.type (M:=model prog w);have L1:=W.looks_find (M:=model prog w) X I hf
 repeat (any_goals (first | assumption | with_reducible refine L0.at ?_ | with_reducible refine L1.at ?_ | wp_step))
 exact W.class_get X I hm (wpAny_pure hq)
theorem PL {tk:Tok} {v:Value} {R:Result->Shared->Prop} (p:EJ K C) (X:K.In h) (I:W.InstAt h x ox C od)
  (hb:∀ (A':Around) (E':VS) (Q:Fin->Shared->Prop),Q (.done (.ret v)) ⟨h,g,d,t,os⟩->wpAny (model prog w) A' (Builtin.«object.__getattribute__» ⟨[.ref x,.str name tk],[]⟩) Q E' ⟨h,g,d,t,os⟩) (hq:R (.ok (.ret v)) ⟨h,g,d,t,os⟩) :
  codeAny (model prog w) A (.call (.builtin "BaseException.__getattribute__") ⟨[.ref x,.str name tk],[]⟩) R ⟨h,g,d,t,os⟩ :=
 codeAny_call_builtin F.excAttr_ValueError.ga.plain F.entry_bexc_ga (Nu p X I (hb _ _ _ hq))
theorem PM {tk:Tok} {v:Value} {fill expr:Bool} {Q:VS} (p:EJ K C) (X:K.In h) (I:W.InstAt h x ox C od) (hh:W.handedIn v=true)
  (hb:∀ (A':Around) (E':VS) (Q:Fin->Shared->Prop),Q (.done (.ret v)) ⟨h,g,d,t,os⟩->wpAny (model prog w) A' (Builtin.«object.__getattribute__» ⟨[.ref x,.str name tk],[]⟩) Q E' ⟨h,g,d,t,os⟩) (hq:Q v ⟨h,g,d,t,os⟩) :
  wpAny (model prog w) A (getAttrBy (.ref x) (.str name tk) fill expr) Q E ⟨h,g,d,t,os⟩:=by
 have L0:=I.type (M:=model prog w);have L1:=W.looks_findIn (M:=model prog w) X p.ga;have L2:=W.looks_findIn (M:=model prog w) X p.gr;have f3:=F.excAttr_ValueError.ga.bind (.ref x);have hx0:(expr && onTheHeap (Value.builtin "BaseException.__getattribute__"))=false:=by cases expr <;> rfl
 have hx2:(Value.builtin "BaseException.__getattribute__" == Value.builtin "object.__getattribute__")=false:=by decide +kernel
 have hx1:(onTheHeap (Value.ref C) && Value.builtin "BaseException.__getattribute__" == Value.builtin "object.__getattribute__")=false:=by rw [hx2]; rfl
 have ho:=W.handedOut_of hh
 repeat (any_goals (first | assumption | with_reducible refine L0.at ?_ | with_reducible refine L1.at ?_ | with_reducible refine L2.at ?_ | wp_step))
 refine PL p X I hb ?_
 repeat (any_goals (first | assumption | (rw [ho]; exact wpAny_pure hq) | wp_step))
theorem PP {v:Value} {expr:Bool} {Q:VS} (p:EJ K C) (X:K.In h) (I:W.InstAt h x ox C od) (hf:W.findObj K C od name=some (.value v)) (hh:W.handedIn v=true) (hq:Q v ⟨h,g,d,t + 1,os⟩) :
  wpAny (model prog w) A (getAttr (.ref x) name expr) Q E ⟨h,g,d,t,os⟩:=by
 unfold getAttr;refine wpAny_bind (wpAny_mkText ?_);exact PM p X I hh (fun A' E' Q' z=>Nv X I hf z) hq
theorem KL {Q:Option Value->Shared->Prop} (p:EJ K C) (X:K.In h) (I:W.InstAt h x ox C od) (hf:W.findObj K C od "__class__" = some (.bind (.builtin "getset_descriptor.__get__") (.builtin "object.__class__"))) (hm:W.mroIn K C (.type "object")=some true)
  (hq:Q (some (.ref C)) ⟨h,g,d,t + 1,os⟩):wpAny (model prog w) A (getAttr? (.ref x) "__class__") Q E ⟨h,g,d,t,os⟩:=by
 unfold getAttr? getAttrBy?;refine wpAny_bind (wpAny_mkText (wpAny_bind (wpAny_attempt ?_)));exact PM (v:=.ref C) p X I rfl (fun A' E' Q' z=>Nw X I hf hm z) (wpAny_pure hq)
end
theorem Ht {name:Str} {od:Option Obj} {a g:Value} (hc:(W.clsIn K C).isSome=true) (ha:W.findIn K (.ref C) name=some (some a)) (hg:W.specialIn K a "__get__" = some (some g)) (ht:W.takesIn K a=some true):W.findObj K C od name=some (.bind g a):=by
 obtain ⟨cd,hc⟩:=Option.isSome_iff_exists.mp hc;unfold W.findObj;rw [hc,Option.bind_some,ha,Option.bind_some];simp [hg,ht]
structure RB (K:FG) (C:Addr):Prop where
 hg:EJ K C
 hc:(W.clsIn K C).isSome=true
 ha:W.findIn K (.ref C) "__class__" = some (some (.builtin "object.__class__"))
 hn:W.specialIn K (.builtin "object.__class__") "__get__" = some (some (.builtin "getset_descriptor.__get__"))
 htk:W.takesIn K (.builtin "object.__class__")=some true
 hm:W.mroIn K C (.type "object")=some true
theorem PQ {x D:Addr} {ox:Obj} {od:Option Obj} (k:RB K D):W.KitX K (.ref x) (.ref D) (fun h=>W.InstAt h x ox D od) where
 ty:=fun _ _ _ I=>I.type
 it:=fun _ _ X _=>by
  have hcD:=k.hc;unfold W.clsIn at hcD;split at hcD
  ·rename_i c' d' cd' sl' ho;intro A' Q' E' s' k q;unfold isType loadHead;exact wpAny_bind (wpAny_loadPart (k _ _ (X _ _ ho)) (wpAny_pure q))
  ·cases hcD
 ne:=fun h tp dd its n sl X htp=>by
  have hcD:=k.hc;refine Bool.eq_false_iff.mpr fun q=>?_;have e:D=tp:=Value.ref.inj (beq_iff_eq.mp q);subst e;unfold W.clsIn at hcD;split at hcD
  ·rename_i c' d' cd' sl' ho;have z:=(X _ _ ho).symm.trans htp;cases z
  ·cases hcD
 ca:=fun {prog w A E Q s} X I h=>by
  obtain ⟨hh,g,d,t,os⟩:=s;exact KL k.hg X I (Ht k.hc k.ha k.hn k.htk) k.hm h
structure ExcP (X:Cx) (e:Addr) (oe:Obj) (C:Addr):Prop where
 at_:(e,oe) ∈ X.pn
 cls:oe.cls=.ref C
 fld:∃ vs,oe.data=.fields vs
section
variable {e:Addr} {oe:Obj}
theorem ExcP.inst {s:Shared} (p:ExcP X e oe C) (I:Inv X aa σ H s) (hd:oe.dict=none\/∃ d u,oe.dict=some d/\H d=some u):∃ od,W.InstAt s.heap e oe C od:=by
 have he:=(I.pin (e,oe) (mem_append_left _ p.at_)).1;obtain ⟨vs,hv⟩:=p.fld;have no:W.notCls oe=true:=by unfold W.notCls; rw [hv]
 rcases hd with z | ⟨d,u,z,hu⟩
 ·exact ⟨none,he,p.cls,no,by rw [z]; trivial⟩
 ·have hlt:=(I.hok d u hu).lt
  have:∃ o,s.heap.get? d=some o:=by
   have q:=(I.hok d u hu);cases u with
   | lst xs=>obtain ⟨_,_,_,_,e⟩:=q; exact ⟨_,e⟩
   | tup xs=>obtain ⟨_,_,_,o,e,_⟩:=q; exact ⟨o,e⟩
   | dK kvs=>obtain ⟨_,_,_,_,o,_,_,e,_⟩:=q; exact ⟨o,e⟩
   | dT kvs=>obtain ⟨_,_,_,_,o,_,_,e,_⟩:=q; exact ⟨o,e⟩
   | set S n=>obtain ⟨o,_,_,_,e,_⟩:=q; exact ⟨o,e⟩
   | ins C dx fs=>obtain ⟨_,_,_,e,_⟩:=q; exact ⟨_,e⟩
   | own y=>exact q
   | xd fs=>obtain ⟨_,⟨o,_,_,e,_⟩,_⟩:=q; exact ⟨o,e⟩
   | rng lo hi=>obtain ⟨_,_,_,e⟩:=q; exact ⟨_,e⟩
   | frz ob u=>exact ⟨_,q.1⟩
   | tbl ps=>exact ⟨_,(show s.heap.get? d=some _ from q)⟩
   | met f y=>exact ⟨_,(show s.heap.get? d=some _ from q)⟩
   | ext φ=>exact q.2.1
  obtain ⟨o,ho⟩:=this;exact ⟨some o,he,p.cls,no,by rw [z]; exact ho⟩
theorem IV (p:ExcP X e oe C) (k:RB X.K C):Bb X (.builtin "isinstance") (fun xs H Q=>∃ v c b,xs=[.ref e,v]/\((∃ D,v=.ref D/\c=.ref D)\/∃ T,v=.ty T/\c=.type T)/\(oe.dict=none\/∃ d u,oe.dict=some d/\H d=some u)/\W.kitOne X.K (.ref C) c=some b/\Q (.bl b) H):=by
 intro aa s σ H xs us Q I r h;obtain ⟨v,c,b,rfl,hv,hd,hk,q⟩:=h;obtain ⟨u,uT,rfl,ru,ruT⟩:=Fu r;cases (show u=Value.ref e from ru);obtain ⟨od,J⟩:=p.inst I hd
 have hc:uT=c:=by
  rcases hv with ⟨D,rfl,rfl⟩ | ⟨T,rfl,rfl⟩
  ·exact ruT
  ·exact ruT
 subst hc;exact W.kia_one (PQ k) I.kIn J hk (fun z=>nomatch z) fun tk=>⟨.bl b,H,I.tok tk,rfl,q⟩
end
section
variable {k:Nat} {e:Addr} {oe:Obj} {fd:FuncData} {ps:List Str} {sp:SpS} {p:Pos} {a:Expr} {es:List Expr} {t:TA}
def JT (sp:SpS) (e:Addr) (oe:Obj) (t:TA):TE:=fun σ H Q=>t σ H fun vs H1=>sp e oe vs H1 Q
theorem KM (F:My X.prog X.w X.K X.mg X.base k f fd ps sp) (hr:RoomS k X.A) (hh:X.A.handled=some (.ref e)) (at_:(e,oe) ∈ X.pn) (hg:Gl X x) (hm:X.mg x=some (.ref f)) (hk:W.keepIn X.K (.ref f)=true) (hb:Binds X.K fd ps [])
  (ha:PA X (a :: es) t) (hdb:(x == ("__debug__" : Str))=false:=by decide) (he:starEach (a :: es) X.env=(false,eval a X.env) :: starEach es X.env:=by rfl) (hpl:(backTo pos (starEach es X.env)).any (·.1)=false:=by rfl) :
  PE X (.Call (.Name x p) (a :: es) [] pos) (JT sp e oe t):=by
 intro aa s σ H Q I h;refine wpAny_Call_Name_kw (B6 I hg hm ?_ hdb);refine W.callWith_K (h₀:=X.base) I.ok.mod.kin hk (thn (ha pos aa s σ H _ I h) fun us s1 ⟨vs,H1,I1,r,q⟩=>⟨I1.kIn,?_⟩) he hpl;obtain ⟨e1,e2,e3,e4,e5⟩:=I1.pin (e,oe) (mem_append_left _ at_);have hl:(us++[]).length=ps.length:=by rw [append_nil,← r.length]; exact F.len _ _ _ _ _ q
 have bb:=hb s1 us I1.kIn hl;rw [append_nil] at bb;refine wpAny_call (codeAny_mono (F.run X.A X.stack s1 H1 ⟨us,[]⟩ us vs Q e oe hr I1.env0 hh e1 e2 (fun z=>(mem_cons.mp (I1.stkSub e z)).elim e3 e4) e5 bb r q) fun r s' hq=>?_);cases r with
 | error e=>exact False.elim hq
 | ok fl =>
  cases fl with
  | ret u=>exact I1.after hq
  | next=>exact False.elim hq
  | brk=>exact False.elim hq
  | cont=>exact False.elim hq
end
theorem PR (a b:Bool):MeetsSeq.EqGives (.bool a) (.bool b) (a == b):=fun prog w A E s Q h=>SeqAt.EqAt.bool_bool a b prog w E Q h
theorem IW:∀ {bs:List Bool} {us:List Value},Vals (bs.map V.bl) us->us=bs.map Value.bool
 | [],_,.nil=>rfl
 | _ :: _,_,.cons r t=>by rw [map_cons,← IW t]; cases r; rfl
def RE:V->List V->Hp->VK->Prop:=fun x vs H Q=>∃ (l:Addr) (bs:List Bool) (j:Nat),x=.ref l/\vs=[.bl true]/\H l=some (.lst (bs.map V.bl))/\bs[j]?=some true/\(∀ m,m < j->bs[m]?=some false)/\Q (.int (j:Nat)) H
section
theorem Nx:MtM X "list.index" RE:=by
 intro aa s σ H x vs v us Q I rx rv h;obtain ⟨l,bs,j,rfl,rfl,hH,hj,hno,q⟩:=h;cases rx;obtain ⟨u,rfl,ru⟩:=rv.one;obtain rfl:u=Value.bool true:=ru;obtain ⟨z,its,n,r,hl,e⟩:=I.lstM hH;have ei:=IW r;subst ei;have hjs:j < bs.length:=(List.getElem?_eq_some_iff.mp hj).1
 have hz:(j:Int) < 2 ^ 63 - 1:=by
  have hs:sizeLine < 2 ^ 62:=by decide
  rw [AI] at z;omega
 refine call_meets F.slot_list_index ⟨_,e,rfl⟩ F.entry_list_index (F.args_list_index_2 _ _)
  (MeetsSeq.list_index l (bs.map Value.bool).toArray n (.bool true) (fun y=>match y with | .bool a=>a == true | _=>false) (fun y hy=>?_) j (by simpa using hjs) hz ?_ fun m hm hlt=>?_) ⟨e,?_⟩
 ·obtain ⟨a,_,rfl⟩:=mem_map.mp (List.mem_toArray.mp hy);exact PR a true
 ·have:=(List.getElem?_eq_some_iff.mp hj).2;simp [this]
 ·have:=(List.getElem?_eq_some_iff.mp (hno m hlt)).2;simp [this]
 ·exact ⟨.int (j:Nat),H,I.tok _,⟨_,rfl⟩,q⟩
end
noncomputable def FnO (f:Addr) (o:Obj):HO:=.ext fun h=>h.get? f=some o
noncomputable def E4 (c:Addr) (qual:Str):HO:=.ext fun h=>h.CodeRec (.ref c) qual
noncomputable def D3 (P:Program) (w:World) (K:FG) (mg:SV) (base:Heap) (N:List Str) (qual:Str) (scope:Scope) (f:Addr) (cd:Value) (cl:List (Str × Addr)) (A:Around) (outer:List Env) (s:Shared) (H:Hp) (E:XK):Cx where
 prog:=P
 w:=w
 K:=K
 mg:=mg
 base:=base
 A:=A.deeper (W.envX qual scope s.heap.objs.size f cd cl)
 N:=N
 s₀:=s
 H₀:=H
 env:=W.envX qual scope s.heap.objs.size f cd cl
 outer:=outer
 stack:=W.envX qual scope s.heap.objs.size f cd cl :: outer
 ex:=[]
 calm:=true
 fn:=fun _=>false
 pn:=[]
 xe:=fun e s'=>wpAny (model P w) (A.deeper (W.envX qual scope s.heap.objs.size f cd cl)) (leaving (W.envX qual scope s.heap.objs.size f cd cl) e) (fun _ s''=>CXr P w outer H s E e s'') (fun e' s''=>CXr P w outer H s E e' s'') s'
structure G5 (N:List Str) (scope:Scope) (cl:List (Str × Addr)) (σ:St) (H:Hp) (h:Heap):Prop where
 inj:∀ x y c,cl.lookup x=some c->cl.lookup y=some c->x=y
 has:∀ x,(scope.names.lookup x=some .cell\/scope.names.lookup x=some .free)->∃ c,cl.lookup x=some c
 cell:∀ x c,cl.lookup x=some c->(∃ v,h.IsCell c v)/\H c=none
 val:∀ (i:Nat) x v,N[i]?=some x->σ[i]?=some (some v)->scope.names.lookup x=some .free/\∃ u c,RelV v u/\cl.lookup x=some c/\h.IsCell c (some u)
 len:σ.length=N.length
section
variable {qual name:Str} {scope:Scope} {c':Addr} {cd:Value} {cl:List (Str × Addr)} {outer:List Env} {s:Shared} {E:XK}
theorem Ue:La (D3 P w K mg base N qual scope f cd cl A outer s H E):=⟨rfl,rfl,rfl⟩
theorem PU:Bi (CXr P w) (D3 P w K mg base N qual scope f cd cl A outer s H E) E:=by
 rintro aa σ H1 s1 e s2 I ⟨ea,C,dx,H2,rfl,F,q⟩;exact wpAny_mono (G1 (X:=D3 P w K mg base N qual scope f cd cl A outer s H E) Ue I F) (fun _ s3 G=>⟨ea,C,dx,H2,rfl,G,q⟩) fun _ _ z=>z
theorem Lh {h1:Heap} {m0:SV} {tk:Nat} (hk0:scope.kind=.function) (hd:A.handled=none) (e0:Env0 P w K mg base A outer s H) (C:G5 N scope cl σ H s.heap) (hns:h1.Ns s.heap.objs.size m0) (hk:∀ b o,s.heap.get? b=some o->h1.get? b=some o) :
  Inv (D3 P w K mg base N qual scope f cd cl A outer s H E) [] σ H { s with heap:=h1,toks:=tk }:=by
 have noA:∀ b:Addr,b ∉ (D3 P w K mg base N qual scope f cd cl A outer s H E).ex:=fun b z=>absurd (show b ∈ ([]:List Addr) from z) (by simp);have cellK:∀ {c:Addr} {v:Option Value},s.heap.IsCell c v->h1.IsCell c v:=fun {c v} ⟨o,ho,hd⟩=>⟨o,hk _ _ ho,hd⟩
 refine ⟨⟨e0.mod,hk0,rfl,rfl,Nat.le_refl _,C.inj,C.has,fun y c z _=>(by cases (show false=true from z)),fun _=>hd,Around.frames_deeper e0.frames,.inr ⟨rfl,rfl⟩,fun b z=>absurd z (noA b),e0.bs,e0.bsz,fun b _ _=>noA b,fun b z=>absurd z (noA b),e0.funs,e0.frf⟩,
  rfl,e0.bare,Un.kept hk,⟨m0,hns,fun i x v h1 h2 h3=>?_⟩,fun y c h=>?_,e0.hok.fresh (Nat.le_refl _),fun y c h=>(C.cell y c h).2,fun p hp=>absurd (show p ∈ ([]:LO) from hp) (by simp),e0.hok.kept hk,C.len⟩
 ·obtain ⟨k,u,c,r,e,z⟩:=C.val i x v h1 h2;exact ⟨u,r,.inr ⟨.inr k,c,e,cellK z⟩⟩
 ·obtain ⟨⟨v,z⟩,_⟩:=C.cell y c h;exact ⟨v,cellK z⟩
theorem PV {k:Nat} {params:Arguments} {body:Expr} {pm ctv:Value} {Q:VK} {tb:TE} (hr:Room k A) (e0:Env0 P w K mg base A outer s H) (C:G5 N scope cl σ H s.heap)
  (ho:s.heap.get? f=some (W.kla_obj name qual params body scope cl pm c' ctv)) (hcd:s.heap.CodeRec (.ref c') qual) (bi:bindArgs (W.kla_fn name qual params body scope cl pm (.ref c') ctv) ⟨[],[]⟩=pure [])
  (hco:scope.isCoroutine=false) (bp:scope.isGenerator=false) (hk:scope.kind=.function) (bd:∀ x ∈ scope.names,x.2 ≠ .cell)
  (hb:PE (D3 P w K mg base N qual scope f (.ref c') cl A outer s H E) body tb) (h:tb σ H Q):codeAny (model P w) A (.call (.ref f) ⟨[],[]⟩) (CR (CXr P w) outer P w H s Q E) s:=by
 have lim:s.heap.NoLimit:=e0.mod.nolimit.keeps fun b o e=>(e0.bs b o e).1;refine W.kla_callFunE hr.depth ho rfl hco bp rfl hcd ?_;rw [bi];refine wpAny_pure (wpAny_newFunctionEnv bd (fun y hy=>nomatch hy) (fun h₁ hns hsb=>⟨lim.fresh _ hsb,?_⟩) hk);show codeAny _ _ (.expr body (W.envX qual scope s.heap.objs.size f (.ref c') cl)) _ _;have hk₁:∀ b o,s.heap.get? b=some o->h₁.get? b=some o:=fun b o e=>hsb.extBut b o (Nat.ne_of_lt (lt_size e)) (get?_push_of_some _ e);have I:Inv (D3 P w K mg base N qual scope f (.ref c') cl A outer s H E) [] σ H _:=Lh (tk:=s.toks + ([]:List (Str × Value)).length) hk hr.hd e0 C hns hk₁;exact W.kla_codeExpr (wpAny_mono (hb [] _ σ H Q I h) (fun v s' ⟨x,H',J,rv,q⟩=>⟨x,H',J.os,J.bare,J.base,J.hok,rv,q⟩) fun e s' z=>z)
end
section
variable {s:Shared}
theorem Inv.cells {scope:Scope} {cl:List (Str × Addr)} {σl:St} (I:Inv X aa σ H s) (C:G5 N scope cl σl X.H₀ X.s₀.heap) (hfs:∀ x c,cl.lookup x=some c->c ∉ X.fs) (hex:X.ex=[]):G5 N scope cl σl H s.heap:=by
 have kp:∀ x c v,cl.lookup x=some c->X.s₀.heap.IsCell c v->s.heap.IsCell c v:=fun x c v e ⟨o,ho,hd⟩=>⟨o,I.base.keep c o ho (C.cell x c e).2 (hfs x c e) (by rw [hex]; simp),hd⟩;refine ⟨C.inj,C.has,fun x c e=>?_,fun i x v h1 h2=>?_,C.len⟩
 ·obtain ⟨⟨v,z⟩,n⟩:=C.cell x c e;obtain ⟨o,ho,_⟩:=id z;exact ⟨⟨v,kp x c v e z⟩,I.base.free c o ho n (by rw [hex]; simp)⟩
 ·obtain ⟨k,u,c,r,e,z⟩:=C.val i x v h1 h2;exact ⟨k,u,c,r,e,kp x c _ e z⟩
def KN (i:Nat) (f c':Addr) (qual:Str) (o:Obj) (σl:St) (tb:TE):TE:=fun σ H Q=>σ[i]?=some (some (.ref f))/\H f=some (FnO f o)/\H c'=some (E4 c' qual)/\tb σl H Q
theorem Li {i k:Nat} {name qual:Str} {p:Pos} {Nl:List Str} {scope:Scope} {cl:List (Str × Addr)} {σl:St} {c':Addr} {params:Arguments} {body:Expr} {pm ctv:Value} {tb:TE} {E:XK}
  (hN:X.N[i]?=some x) (hv:Vis X.env.scope x) (hr:Room k X.A) (C:G5 Nl scope cl σl X.H₀ X.s₀.heap) (hfs:∀ x c,cl.lookup x=some c->c ∉ X.fs) (hex:X.ex=[]) (hx:Bi (CXr X.prog X.w) X E)
  (bi:bindArgs (W.kla_fn name qual params body scope cl pm (.ref c') ctv) ⟨[],[]⟩=pure [])
  (hco:scope.isCoroutine=false) (bp:scope.isGenerator=false) (hk:scope.kind=.function) (bd:∀ x ∈ scope.names,x.2 ≠ .cell)
  (hb:∀ s H,PE (D3 X.prog X.w X.K X.mg X.base Nl qual scope f (.ref c') cl X.A X.stack s H E) body tb) (hd:(x == ("__debug__" : Str))=false:=by decide) (hcd:(x == ("__classdict__" : Str))=false:=by decide) :
  PE X (.Call (.Name x p) [] [] pos) (KN i f c' qual (W.kla_obj name qual params body scope cl pm c' ctv) σl tb):=by
 intro aa s σ H Q I h;obtain ⟨h1,h2,h3,h4⟩:=h;refine wpAny_Call_Name_kw (thn (OT hN hv hd hcd aa s σ H (fun v H'=>v=.ref f/\H'=H) I ⟨_,h1,rfl,rfl⟩) fun u s1 ⟨v,H1,I1,r,ev,eH⟩=>?_);subst ev eH;obtain rfl:u=Value.ref f:=r;obtain ⟨ho,_,_⟩:=I1.hok _ _ h2;obtain ⟨hc,_,_⟩:=I1.hok _ _ h3;refine callWith_meth0 rfl ho (wpAny_call (codeAny_mono (PV hr I1.env0 (I1.cells C hfs hex) ho hc bi hco bp hk bd (hb s1 H1) h4) fun r s' hq=>?_));cases r with
 | error e=>exact hx aa σ H1 s1 e s' I1 hq
 | ok fl =>
  cases fl with
  | ret u=>exact I1.after hq
  | next=>exact False.elim hq
  | brk=>exact False.elim hq
  | cont=>exact False.elim hq
end
section
variable {CX:CXT}
theorem Fun.at {qual:Str} {st:Stmt} {fd:FuncData} {ps:List Str} {k:Nat} {outer:List Env} {s:Shared} {args:Args} {vs:List V} {Q:VK} {E:XK} (F:Fun K x qual st f fd) (S:AR N ps (defScope st)) (hl:vs.length=ps.length)
  (hr:Room (k + 1) A) (e0:Env0 P w K mg base A outer s H) (hb:BindsTo s fd args (ps.zip us)) (r:Vals vs us)
  (bc:∀ ad,Room k (A.deeper (envOfC qual (defScope st) s.heap.objs.size f ad))->∃ t,PSs (BI CX P w K mg base N qual (defScope st) f ad A outer s H E) (defBody st) t/\t { nx:=fun _ H'=>Q .non H',rt:=Q } (Bm N vs) H) :
  codeAny (model P w) A (.call (.ref f) args) (CR CX outer P w H s Q E) s:=by
 obtain ⟨oc,od,kV,doc,pm,an,ad,ct,osl,rfl,lk,hcd⟩:=F.ex;have KX:K.In s.heap:=e0.mod.kin.keeps fun b o z=>(e0.bs b o z).1;have lim:s.heap.NoLimit:=e0.mod.nolimit.keeps fun b o z=>(e0.bs b o z).1
 have hk:∀ y ∈ ps.zip us,(defScope st).names.lookup y.1=some .local\/((defScope st).names.lookup y.1=some .cell/\((cellsFrom (s.heap.objs.size + 1) (defScope st).names []).lookup y.1).isSome=true):=fun ⟨n,v⟩ hy=>by
  rcases S.par n (of_mem_zip hy).1 with q | q
  ·exact .inl q
  ·exact .inr ⟨q,W.cellsFrom_some _ _ _ (.inl q)⟩
 refine codeAny_call_function hr.depth (KX _ _ lk) rfl S.co S.gen rfl (W.codeRec_of KX hcd) (hb _ _ _ _ (wpAny_newFunctionEnv_cells S.kind hk fun env ee s1 x=>?_));subst ee;refine ⟨lim.keeps x.toInCall.keep,codeAny_func ?_⟩;obtain ⟨t,ht,hq⟩:=bc ad (hr.deeper _);have I:Inv (BI CX P w K mg base N qual (defScope st) f ad A outer s H E) [] (Bm N vs) H s1:=FU S hr.hd e0 hl r x;refine wpAny_mono (ht [] s1 (Bm N vs) H _ I hq) (fun fl s' z=>?_) fun _ _ z=>z;cases fl with
 | ret u =>
  obtain ⟨v,σ',H',J,rv,q⟩:=z;exact ⟨v,H',J.os,J.bare,J.base,J.hok,rv,q⟩
 | next =>
  obtain ⟨σ',H',J,q⟩:=z;exact ⟨.non,H',J.os,J.bare,J.base,J.hok,rfl,q⟩
 | brk =>
  obtain ⟨_,_,_,q⟩:=z;exact q.elim
 | cont =>
  obtain ⟨_,_,_,q⟩:=z;exact q.elim
end
theorem F3 {q:Pos} {c:Value} (av:(q.line == pos.line && q.col == pos.col)=false) (l:List Value) (h:TriplesOk l):codeAmong q (l++[rawInt pos.line,rawInt pos.col,c])=codeAmong q l:=by
 fun_induction TriplesOk l with
 | case1 =>
  have:((pos.line:Int) == (q.line:Int) && (pos.col:Int) == (q.col:Int))=false:=by
   rw [Bool.and_eq_false_iff] at av ⊢;rcases av with z | z
   ·left; rw [beq_eq_false_iff_ne] at z ⊢; omega
   ·right; rw [beq_eq_false_iff_ne] at z ⊢; omega
  simp [codeAmong,rawInt,this]
 | case2 a t b u x rest ih =>
  simp only [List.cons_append,codeAmong];split
  ·rfl
  ·exact ih h
 | case3 l h1 h2=>exact h.elim
def TabOk (H:Hp) (P0:Addr) (qual:Str) (ls:List Pos):Prop:=∃ ps,H P0=some (.tbl ps)/\TriplesOk ps.toList/\∀ q ∈ ls,codeAmong q ps.toList=none\/∃ c',codeAmong q ps.toList=some (.ref c')/\H c'=some (E4 c' qual)
def M6 (P0:Addr) (H H':Hp):Prop:=∀ b u,b ≠ P0->H b=some u->H' b=some u
structure Ny (X:Cx) (c P0:Addr):Prop where
 code:X.env.code=.ref c
 hd:W.CodeHd X.base c P0
 bu:X.base.BuiltinsAt X.mg P0
section
variable {s:Shared} {c P0:Addr} {ls:List Pos} {lpos:Pos}
def Tx (P0:Addr) (qual:Str) (ls:List Pos) (o:Addr->Value->Obj):TE:=fun σ H Q=>TabOk H P0 qual ls/\∀ f c' ctv H',H f=none->M6 P0 H H'->TabOk H' P0 qual ls->H' f=some (FnO f (o c' ctv))->H' c'=some (E4 c' qual)->Q (.ref f) H'
theorem RG {c':Addr} {qual:Str} (r:h.CodeRec (.ref c') qual):ObjOk P w H h c' (E4 c' qual):=by
 obtain ⟨c1,oc,vs,t,e,ho,hd,hq⟩:=id r;cases e;exact ⟨r,⟨_,ho⟩,fun h1 h2 ⟨c2,o2,v2,t2,e2,a,b⟩ k=>by cases e2; exact ⟨_,o2,v2,t2,rfl,k _ a,b⟩⟩
theorem Ry {o:Obj} (r:h.get? f=some o):ObjOk P w H h f (FnO f o):=⟨r,⟨_,r⟩,fun h1 h2 a k=>k _ a⟩
theorem Sd {params:Arguments} {body:Expr} {scope:Scope} {clos:List (Str × Addr)} (L:Ny X c P0) (hm:lpos ∈ ls) (av:∀ q ∈ ls,q=lpos\/(q.line == lpos.line && q.col == lpos.col)=false)
  (af:closureFor scope X.env=pure clos) (cp:defaultsOf params X.env=([],[])) :
  PE X (.Lambda params body scope lpos) (Tx P0 (X.env.qual ++ "<lambda>") ls (fun c' ctv=>W.kla_obj "<lambda>" (X.env.qual ++ "<lambda>") params body scope clos ((X.mg "__name__").getD .none) c' ctv)):=by
 intro aa s σ H Q I h;obtain ⟨⟨ps,hP,ht,hls⟩,k⟩:=h;have bk:∀ b o,X.base.get? b=some o->s.heap.get? b=some o:=fun b o e=>(I.bs b o e).1;have hPg:s.heap.get? P0=some (W.tabObj ps):=I.hok _ _ hP;have hgs:s.heap.Ns mainGlobals X.mg:=I.ok.mod.glob.keeps bk
 have hgP:mainGlobals ≠ P0:=fun q=>by
  obtain ⟨o,es,ep,e,_⟩:=I.ok.mod.glob;have n:=(I.bs _ _ e).2;rw [q,hP] at n;cases n
 have C:=L.hd.keeps bk
 have B:s.heap.BuiltinsAt X.mg P0:=by
  obtain ⟨bm,o,a1,a2,a3,a4,a5,a6⟩:=L.bu;exact ⟨bm,o,a1,a2,a3,a4,bk _ _ a5,a6⟩
 refine W.kla_eval cp ?_;rcases hls lpos hm with hn | ⟨c',hf,hc'⟩
 ·refine W.kla_makeFunction (mg:=X.mg) af I.ok.glob hgs L.code C hPg ht hn hgP B fun c' ctv h' tk hx hge hlt hrec au=>?_;have kp:∀ b o,b ≠ P0->s.heap.get? b=some o->(h'.push (W.kla_obj "<lambda>" (X.env.qual ++ "<lambda>") params body scope clos ((X.mg "__name__").getD .none) c' ctv)).get? b=some o:=fun b o n e=>get?_push_of_some _ (hx b o n e);have lt:∀ b u,H b=some u->b < s.heap.objs.size:=fun b u e=>I.hok.lt e;have hfs:s.heap.objs.size <= h'.objs.size:=Nat.le_trans hge (Nat.le_of_lt hlt);have hPl:P0 < s.heap.objs.size:=lt _ _ hP;have hcP:c' ≠ P0:=fun z=>by rw [z] at hge; exact absurd hPl (Nat.not_lt_of_le hge)
  have hfP:h'.objs.size ≠ P0:=fun z=>by rw [z] at hfs; exact absurd hPl (Nat.not_lt_of_le hfs)
  have hcf:c' ≠ h'.objs.size:=Nat.ne_of_lt hlt;generalize bo:upd (upd (upd H P0 (.tbl (ps++#[rawInt lpos.line,rawInt lpos.col,.ref c']))) c' (E4 c' (X.env.qual ++ "<lambda>"))) h'.objs.size (FnO h'.objs.size (W.kla_obj "<lambda>" (X.env.qual ++ "<lambda>") params body scope clos ((X.mg "__name__").getD .none) c' ctv))=H'
  have oth:∀ b,b < s.heap.objs.size->b ≠ P0->H' b=H b:=fun b hb n=>by
   rw [← bo,AE (Nat.ne_of_lt (Nat.lt_of_lt_of_le hb hfs)),AE (Nat.ne_of_lt (Nat.lt_of_lt_of_le hb hge)),AE n]
  have atP:H' P0=some (.tbl (ps++#[rawInt lpos.line,rawInt lpos.col,.ref c'])):=by rw [← bo,AE (Ne.symm hfP),AE (Ne.symm hcP),upd_same]
  have atc:H' c'=some (E4 c' (X.env.qual ++ "<lambda>")):=by rw [← bo,AE hcf,upd_same]
  have atf:H' h'.objs.size=some (FnO h'.objs.size (W.kla_obj "<lambda>" (X.env.qual ++ "<lambda>") params body scope clos ((X.mg "__name__").getD .none) c' ctv)):=by rw [← bo,upd_same]
  have ntbl:∀ b u,H b=some u->(∀ qs,u ≠ .tbl qs)->b ≠ P0:=fun b u e n z=>by subst z; rw [hP] at e; cases e; exact n _ rfl
  have un:Un X.fs [] H H' s.heap (h'.push (W.kla_obj "<lambda>" (X.env.qual ++ "<lambda>") params body scope clos ((X.mg "__name__").getD .none) c' ctv)):=by
   have nP:∀ b,H b=none->b ≠ P0:=fun b n z=>by subst z; rw [hP] at n; cases n
   refine ⟨fun b o q n _ _=>kp b o (nP b n) q,fun b o q n _ _=>⟨o.slots,kp b o (nP b n) q⟩,fun b o q n _=>by rw [oth b (lt_size q) (nP b n)]; exact n,fun b o q _=>?_,fun b xs e=>?_,fun b o u e=>?_,fun b qs e=>?_⟩
   ·by_cases z:b=P0
    ·subst z; exact ⟨_,get?_push_of_some _ au⟩
    ·exact ⟨o,kp b o z q⟩
   ·rw [oth b (lt _ _ e) (ntbl b _ e fun _ y=>nomatch y)]; exact e
   ·rw [oth b (lt _ _ e) (ntbl b _ e fun _ y=>nomatch y)]; exact e
   ·by_cases z:b=P0
    ·subst z;rw [hP] at e;cases e;exact ⟨_,atP⟩
    ·exact ⟨#[],by rw [oth b (lt _ _ e) z,e]; simp⟩
  have hok:HOk X.prog X.w H' (h'.push (W.kla_obj "<lambda>" (X.env.qual ++ "<lambda>") params body scope clos ((X.mg "__name__").getD .none) c' ctv)):=fun b u e=>by
   by_cases z1:b=h'.objs.size
   ·subst z1;rw [atf] at e;cases e;exact Ry (get?_push_size _ rfl)
   by_cases z2:b=c'
   ·subst z2;rw [atc] at e;cases e;obtain ⟨c1,oc,vs,t,ec,ho,hd⟩:=hrec;exact RG ⟨c1,oc,vs,t,ec,get?_push_of_some _ ho,hd⟩
   by_cases z3:b=P0
   ·subst z3;rw [atP] at e;cases e;exact get?_push_of_some _ au
   ·have e':H b=some u:=by rw [← bo,AE z1,AE z2,AE z3] at e; exact e
    refine (I.hok b u e').stay (fun b2 o hb q=>kp b2 o ?_ q) (fun b2 q=>?_) fun b2 xs q=>?_
    ·rcases hb with z | z
     ·rw [z]; exact z3
     ·exact ntbl b2 _ z fun _ y=>nomatch y
    ·rw [oth b2 (lt _ _ q) (ntbl b2 _ q fun _ y=>nomatch y)]; exact q
    ·rw [oth b2 (lt _ _ q) (ntbl b2 _ q fun _ y=>nomatch y)]; exact q
  have I':=I.un (t':=tk) un hok;refine ⟨.ref h'.objs.size,H',I',rfl,k _ c' ctv H' (I.hok.fresh hfs) (fun b u n e=>by rw [oth b (lt _ _ e) n]; exact e) ⟨_,atP,?_,fun q hq=>?_⟩ atf atc⟩
  ·rw [Array.toList_append]; exact TriplesOk_snoc _ _ _ _ ht
  ·rw [Array.toList_append];rcases av q hq with z | z
   ·subst z;exact .inr ⟨c',codeAmong_snoc _ ht hn,atc⟩
   ·show codeAmong q (ps.toList++[rawInt lpos.line,rawInt lpos.col,.ref c'])=none\/_;rw [F3 z _ ht];rcases hls q hq with y | ⟨c2,y1,y2⟩
    ·exact .inl y
    ·exact .inr ⟨c2,y1,by rw [oth c2 (lt _ _ y2) (ntbl c2 _ y2 fun _ y=>nomatch y)]; exact y2⟩
 ·refine W.kla_makeFunctionHit (mg:=X.mg) af I.ok.glob hgs L.code C hPg ht hf B fun ctv h' tk hk hsz=>?_;have I':=I.laid (t':=tk) (a:=h'.objs.size) (o:=FnO h'.objs.size (W.kla_obj "<lambda>" (X.env.qual ++ "<lambda>") params body scope clos ((X.mg "__name__").getD .none) c' ctv)) (fun b o e=>get?_push_of_some _ (hk b o e)) hsz (Ry (get?_push_size _ rfl));have fr:H h'.objs.size=none:=I.hok.fresh hsz
  have sm:∀ b u,H b=some u->upd H h'.objs.size (FnO h'.objs.size (W.kla_obj "<lambda>" (X.env.qual ++ "<lambda>") params body scope clos ((X.mg "__name__").getD .none) c' ctv)) b=some u:=fun b u e=>by
   rw [AE (AH e fr)]; exact e
  refine ⟨.ref h'.objs.size,_,I',rfl,k _ c' ctv _ fr (fun b u _ e=>sm b u e) ⟨ps,sm _ _ hP,ht,fun q hq=>?_⟩ upd_same (sm _ _ hc')⟩;rcases hls q hq with y | ⟨c2,y1,y2⟩
  ·exact .inl y
  ·exact .inr ⟨c2,y1,sm _ _ y2⟩
end
def PX (P0:Addr) (H:Hp):Prop:=∀ b,H b=none\/(∃ o xs,H b=some (.frz o (.lst xs)))\/(b=P0/\H b=some (.tbl #[]))
theorem Nz {mb:SV} {CX:CXT} {k:Nat} {fa c P0:Addr} {fd:FuncData} {sp:Sp} {s₁:Shared} {vs:List Value} {ns:List Int}
  (KX:K.In s₁.heap) (hns:s₁.heap.Ns mainGlobals mg) (hb:s₁.heap.Ns builtinsNs mb) (hbb:∀ x:Str,x ≠ "__name__" -> mb x=bootBuiltins x) (hlim:s₁.heap.NoLimit) (hg:s₁.gens=#[])
  (ha:s₁.heap.get? a=some { cls:=.type "list", data:=.seq vs.toArray }) (hi:IntsAre vs ns) (hl:ns.length <= sizeLine) (hr:Room k callerA)
  (hP:s₁.heap.get? P0=some (W.tabObj #[])) (hKP:K.lookup P0=none) (hC:W.CodeHd s₁.heap c P0) (hB:s₁.heap.BuiltinsAt mg P0)
  (F:∀ base:Heap,K.In base->base.Ns mainGlobals mg->W.CodeHd base c P0->base.BuiltinsAt mg P0->Aj P w K mg base CX k fa fd [x] sp) (bi:∀ (s:Shared) (u:Value),BindsTo s fd ⟨[u],[]⟩ [(x,u)])
  (hsp:∀ H:Hp,PX P0 H->H P0=some (.tbl #[])->SqL K H a (ns.map V.int)->sp [.ref a] H (fun v _=>v=.bl true) fun _ _ _=>False)
  (hCX:∀ H e s',CX [] H s₁ (fun _ _ _=>False) e s'->False) :
  codeAny (model P w) callerA (.call (.ref fa) ⟨[.ref a],[]⟩) (fun r s'=>r=.ok (.ret (.bool true))/\OldK s₁.heap s'.heap/\s'.os=s₁.os/\AllBare s'.gens) s₁:=by
 have rv:=Dt hi;have lenV:=hi.length;have haP:a ≠ P0:=fun z=>by subst z; rw [ha] at hP; cases hP
 have core:∀ H:Hp,PX P0 H->H P0=some (.tbl #[])->SqL K H a (ns.map V.int)->HOk P w H s₁.heap->(∀ b,H b ≠ none->b=a\/b=P0)->(H a ≠ none->K.lookup a=none) ->
   codeAny (model P w) callerA (.call (.ref fa) ⟨[.ref a],[]⟩) (fun r s'=>r=.ok (.ret (.bool true))/\OldK s₁.heap s'.heap/\s'.os=s₁.os/\AllBare s'.gens) s₁:=by
  intro H hO hHP hS hok hA hK;have base_of:∀ {b:Addr} {o:Obj},s₁.heap.get? b=some o->H b=none->(GZ s₁.heap H).get? b=some o:=fun e n=>OS e n
  have noS:∀ {b:Addr} {o:Obj},s₁.heap.get? b=some o->(∀ xs n,o.data ≠ .seq xs n)->o.cls ≠ .none->H b=none:=fun {b o} e d1 d2=>by
   cases q:H b with
   | none=>rfl
   | some u =>
    rcases hA b (by rw [q]; simp) with e' | e'
    ·subst e';rw [ha] at e; cases e;exact absurd rfl (d1 _ _)
    ·subst e';rw [hP] at e; cases e;exact absurd rfl d2
  have noA:∀ {b:Addr} {o:Obj} {es:Array DictEntry} {ep:Nat},s₁.heap.get? b=some o->o.data=.dict es ep->H b=none:=fun {b o es ep} e d=>by
   cases q:H b with
   | none=>rfl
   | some u =>
    rcases hA b (by rw [q]; simp) with e' | e'
    ·subst e';rw [ha] at e; cases e;cases (show Data.seq vs.toArray _=Data.dict es ep from d)
    ·subst e';rw [hP] at e; cases e;cases (show Data.fields #[]=Data.dict es ep from d)
  have nsK:∀ {b:Addr} {m:SV},s₁.heap.Ns b m->(GZ s₁.heap H).Ns b m:=fun {b m} ⟨o,es,ep,e,d,r⟩=>⟨o,es,ep,base_of e (noA e d),d,r⟩
  have hKb:K.In (GZ s₁.heap H):=fun b o e=>base_of (KX b o e) (by
   cases q:H b with
   | none=>rfl
   | some u =>
    rcases hA b (by rw [q]; simp) with e' | e'
    ·subst e';rw [hK (by rw [q]; simp)] at e; cases e
    ·subst e'
     rw [hKP] at e; cases e)
  have hM:Mod K mg (GZ s₁.heap H):=⟨hKb,nsK hns,⟨mb,nsK hb,hbb⟩,let ⟨mc,h1,h2⟩:=hlim; ⟨mc,nsK h1,h2⟩⟩
  have hCb:W.CodeHd (GZ s₁.heap H) c P0:=by
   obtain ⟨o,vs',file,tf,flags,tg,inF,text,tt,e,af,hda,r⟩:=id hC;exact ⟨o,vs',file,tf,flags,tg,inF,text,tt,base_of e (noS e (fun xs n z=>by rw [hda] at z; cases z) (by rw [af]; exact fun z=>nomatch z)),af,hda,r⟩
  have hBb:(GZ s₁.heap H).BuiltinsAt mg P0:=by
   obtain ⟨bm,o,a1,a2,a3,a4,a5,a6,a7,a8⟩:=id hB;exact ⟨bm,o,a1,a2,a3,a4,base_of a5 (noS a5 (fun xs n z=>by rw [a8] at z; cases z) (by rw [a6]; exact fun z=>nomatch z)),a6,a7,a8⟩
  have e0:Env0 P w K mg (GZ s₁.heap H) callerA [] s₁ H:=⟨rfl,hM,fun b o e=>Qe e,Nat.le_of_eq (NR _ _),trivial,fun b hb=>absurd (show b ∈ ([]:List Addr) from hb) (by simp),hok,.of_eq hg⟩;refine codeAny_mono ((F _ hKb (nsK hns) hCb hBb).run callerA [] s₁ H ⟨[.ref a],[]⟩ [.ref a] [.ref a] _ _ hr e0 (bi s₁ (.ref a)) (.cons rfl .nil) (hsp H hO hHP hS)) fun r s' h=>?_;cases r with
  | error e=>exact (hCX H e s' h).elim
  | ok fl =>
   cases fl with
   | next=>exact False.elim h
   | brk=>exact False.elim h
   | cont=>exact False.elim h
   | ret u =>
    obtain ⟨v,H',os,bare,un,hok',r',q⟩:=h;have q':v=.bl true:=q;subst q';obtain rfl:u=Value.bool true:=r'
    have tabNow:∃ more,s'.heap.get? P0=some (W.tabObj (#[]++more)):=by
     obtain ⟨more,e⟩:=un.tbls P0 #[] hHP;exact ⟨more,hok' _ _ e⟩
    have rest:∀ b o,b ≠ P0->s₁.heap.get? b=some o->s'.heap.get? b=some o:=fun b o hb e=>by
     cases q:H b with
     | none=>exact un.keep b o e q (by intro z; exact absurd (show b ∈ ([]:List Addr) from z) (by simp)) (by simp)
     | some u =>
      rcases hO b with z | ⟨ob,xs,z⟩ | ⟨z,_⟩
      ·rw [q] at z; cases z
      ·have z2:=un.frzs b ob _ z;obtain ⟨e1,_⟩:=hok b _ z;obtain ⟨e2,_⟩:=hok' b _ z2;rw [e] at e1; cases e1;exact e2
      ·exact absurd z hb
    refine ⟨rfl,⟨fun b o e=>?_,fun b o e=>?_⟩,os,bare⟩
    ·by_cases hb:b=P0
     ·subst hb;rw [hP] at e;cases e;obtain ⟨more,e2⟩:=tabNow;exact .inr (.inl ⟨(hC.tab hP).isCodeTable,rfl,#[],more,rfl,e2⟩)
     ·exact .inl (rest b o hb e)
    ·by_cases hb:b=P0
     ·subst hb;obtain ⟨more,e2⟩:=tabNow;exact ⟨_,e2⟩
     ·exact ⟨o,rest b o hb e⟩
 cases hk:K.lookup a with
 | some o =>
  have e:=KX a o hk;rw [ha] at e;cases e;refine core (fun b=>if b=P0 then some (.tbl #[]) else none) (fun b=>?_) (if_pos rfl) (.inr ⟨_,vs.toArray,_,hk,rfl,rfl,rfl,by rw [size_toArray,lenV]; exact hl,by simpa using rv⟩) (fun b u z=>?_) (fun b z=>?_) fun z=>absurd (if_neg haP) z
  ·by_cases hb:b=P0
   ·exact .inr (.inr ⟨hb,if_pos hb⟩)
   ·exact .inl (if_neg hb)
  ·by_cases hb:b=P0
   ·have z':=(if_pos hb).symm.trans z;cases z';subst hb;exact hP
   ·have z':=(if_neg hb).symm.trans z;cases z'
  ·by_cases hb:b=P0
   ·exact .inr hb
   ·exact absurd (if_neg hb) z
 | none =>
  refine core (fun b=>if b=P0 then some (.tbl #[]) else if b=a then some (.frz { cls:=.type "list", data:=.seq vs.toArray } (.lst (ns.map V.int))) else none) (fun b=>?_) (if_pos rfl) (.inl (.inr ⟨{ cls:=.type "list", data:=.seq vs.toArray },(if_neg haP).trans (if_pos rfl)⟩)) (fun b u z=>?_) (fun b z=>?_) fun _=>hk
  ·by_cases hb:b=P0
   ·exact .inr (.inr ⟨hb,if_pos hb⟩)
   ·by_cases hb2:b=a
    ·exact .inr (.inl ⟨_,_,(if_neg hb).trans (if_pos hb2)⟩)
    ·exact .inl ((if_neg hb).trans (if_neg hb2))
  ·by_cases hb:b=P0
   ·have z':=(if_pos hb).symm.trans z;cases z';subst hb;exact hP
   ·by_cases hb2:b=a
    ·have z':=((if_neg hb).trans (if_pos hb2)).symm.trans z;cases z';subst hb2;exact ⟨ha,by rw [AI]; exact hl,vs,_,rv,ha⟩
    ·have z':=((if_neg hb).trans (if_neg hb2)).symm.trans z;cases z'
  ·by_cases hb:b=P0
   ·exact .inr hb
   ·by_cases hb2:b=a
    ·exact .inl hb2
    ·exact absurd ((if_neg hb).trans (if_neg hb2)) z
theorem PY {l:W.OpenLaw} {n k:Nat} {q:Program} {loose:List Str} {XP:(Str->Option Value)->Heap->Prop} {YP:World->Heap->Prop} {d:DefRec} {K:Params->FG} {CX:World->CXT} {sp:World->Sp} {c P0:Addr}
  (hn:l.most=some n) (hn2:n <= sizeLine) (hdf:d.params.defaults=[]) (hr:Room k callerA)
  (hY:∀ (w:World) (h:Heap),YP w h->(K w.params).In h/\h.get? P0=some (W.tabObj #[])/\(K w.params).lookup P0=none/\W.CodeHd h c P0)
  (F:∀ (w:World) (mg:SV) (fa:Addr) (h:Heap),(K w.params).In h->h.Ns mainGlobals mg->mg d.name=some (.ref fa) ->
   ∃ fd:FuncData,(∀ (s:Shared) (u:Value),BindsTo s fd ⟨[u],[]⟩ [(x,u)]) /\
    ∀ base:Heap,(K w.params).In base->base.Ns mainGlobals mg->W.CodeHd base c P0->base.BuiltinsAt mg P0->Aj l.prog w (K w.params) mg base (CX w) k fa fd [x] (sp w))
  (hsp:∀ (w:World) (H:Hp) (a:Addr) (ns:List Int),ns.length <= n->PX P0 H->H P0=some (.tbl #[])->SqL (K w.params) H a (ns.map V.int)->sp w [.ref a] H (fun v _=>v=.bl true) fun _ _ _=>False)
  (hCX:∀ (w:World) (H:Hp) (s:Shared) (e:Value) (s':Shared),CX w [] H s (fun _ _ _=>False) e s'->False) :
  W.WalkO q loose XP YP l.row.toRowW d [] (fun f vs=>PySem.call f vs):=by
 refine Att.attach_call hn hdf fun w s₀ s₁ mg mb fa o pm cd doc a vs ns G Y ho hd hcd hmg cj bj ay hg=>?_;obtain ⟨KX,hP,hKP,hC⟩:=hY w _ Y;obtain ⟨fd,hb,hF⟩:=F w mg fa _ KX G.T.g hmg
 have hB:s₁.heap.BuiltinsAt mg P0:=by
  obtain ⟨bm,ob,b1,b2,b3,b4,b5,b6⟩:=G.T.bmain;refine ⟨bm,ob,b1,b2,fun z=>?_,fun z=>?_,b3,b4,b5,b6⟩
  ·obtain ⟨o',es,ep,e,hd',_⟩:=G.T.g;rw [z,e] at b3; cases b3; rw [hd'] at b6; cases b6
  ·rw [z,hP] at b3; cases b3; cases b4
 exact Nz KX G.T.g G.T.b G.T.builtins G.T.nolimit hg cj bj (Nat.le_trans ay hn2) hr hP hKP hC hB hF hb (fun H hO hH hS=>hsp w H a ns ay hO hH hS) fun H e s'=>hCX w H s₁ e s'
section
theorem Fun.okX {qual:Str} {st:Stmt} {fd:FuncData} {ps:List Str} {k:Nat} {sp:Sp} (F:Fun K x qual st f fd) (S:AR N ps (defScope st)) (len:∀ vs H Q E,sp vs H Q E->vs.length=ps.length)
  (bc:∀ (ad:Value) (A:Around) (outer:List Env) (s:Shared) (H:Hp) (vs:List V) (Q:VK) (E:XK),Room k (A.deeper (envOfC qual (defScope st) s.heap.objs.size f ad))->sp vs H Q E ->
   ∃ t,PSs (BI (CXr P w) P w K mg base N qual (defScope st) f ad A outer s H E) (defBody st) t/\t { nx:=fun _ H'=>Q .non H',rt:=Q } (Bm N vs) H):Aj P w K mg base (CXr P w) (k + 1) f fd ps sp:=by
 obtain ⟨oc,od,kV,doc,pm,an,ad,ct,osl,rfl,lk,hcd⟩:=F.ex;exact Mb lk hcd S len fun A outer s H vs Q E hr hsp=>bc ad A outer s H vs Q E hr hsp
structure BdX (P:Program) (w:World) (K:FG) (mg:SV) (base:Heap) (f:Addr) (qual:Str) (st:Stmt) (N ps:List Str) (k:Nat) (vs:List V) (H:Hp) (Q:VK) (E:XK):Prop where
 len:vs.length=ps.length
 ok:∀ (ad:Value) (A:Around) (outer:List Env) (s:Shared),Room k (A.deeper (envOfC qual (defScope st) s.heap.objs.size f ad)) ->
  ∃ t,PSs (BI (CXr P w) P w K mg base N qual (defScope st) f ad A outer s H E) (defBody st) t/\t { nx:=fun _ H'=>Q .non H',rt:=Q } (Bm N vs) H
theorem Fun.n {qual:Str} {st:Stmt} {fd:FuncData} {ps:List Str} {k:Nat} {sp:Sp} (F:Fun K x qual st f fd) (S:AR N ps (defScope st)) (h:∀ vs H Q E,sp vs H Q E->BdX P w K mg base f qual st N ps k vs H Q E) :
  Aj P w K mg base (CXr P w) (k + 1) f fd ps sp:=F.okX S (fun vs H Q E q=>(h vs H Q E q).len) fun c A o s H vs Q E r q=>(h vs H Q E q).ok c A o s r
structure FunD (K:FG) (x qual:Str) (st:Stmt) (f:Addr) (fd:FuncData):Prop where
 ex:∃ (oc:Value) (od:Option Addr) (dV kV doc pm:Value) (an:Option Addr) (ad ct:Value) (osl:Array (Option Value)),
  fd=W.fnOf x qual (defArgs st) (defBody st) (defScope st) dV kV doc pm an ad ct/\K.lookup f=some ⟨oc,od,.func fd,osl⟩/\W.codeIn K ad qual=true
theorem FunD.ok {qual:Str} {st:Stmt} {fd:FuncData} {ps:List Str} {k:Nat} {sp:Sp} (F:FunD K x qual st f fd) (S:AR N ps (defScope st)) (len:∀ vs H Q E,sp vs H Q E->vs.length=ps.length)
  (bc:∀ (ad:Value) (A:Around) (outer:List Env) (s:Shared) (H:Hp) (vs:List V) (Q:VK) (E:XK),Room k (A.deeper (envOfC qual (defScope st) s.heap.objs.size f ad))->sp vs H Q E ->
   ∃ t,PSs (BI CX0 P w K mg base N qual (defScope st) f ad A outer s H E).nox (defBody st) t/\t { nx:=fun _ H'=>Q .non H',rt:=Q } (Bm N vs) H):Aj P w K mg base CX0 (k + 1) f fd ps sp:=by
 obtain ⟨oc,od,dV,kV,doc,pm,an,ad,ct,osl,rfl,lk,hcd⟩:=F.ex;refine Mb lk hcd S len fun A outer s H vs Q E hr hsp=>?_;obtain ⟨t,h,q⟩:=bc ad A outer s H vs Q E hr hsp;exact ⟨t,h.nox,q⟩
end
structure Ty (K:FG) (C:Addr) (f:Str):Prop where
 hg:EJ K C
 hh:W.hasDictIn K C=true
 ha:W.findIn K (.ref C) f=some none
section
variable {e:Addr} {oe:Obj} {o:Expr} {f:Str} {ta:TE}
def PZ (e:Addr) (oe:Obj) (f:Str) (ta:TE):TE:=fun σ H Q=>ta σ H fun x H1=>∃ d fs v,x=.ref e/\oe.dict=some d/\H1 d=some (.xd fs)/\fs.lookup f=some v/\Q v H1
theorem RH (p:ExcP X e oe C) (g:Ty X.K C f) (he:PE X o ta) (hb:attributeBase o f X.env (eval o X.env)=eval o X.env):PE X (.Attribute o f pos) (PZ e oe f ta):=by
 intro aa s σ H Q I h;refine Ma hb (thn (he aa s σ H _ I h) fun u s1 ⟨x,H1,I1,rx,d,fs,v,ex,hd,hH,l,q⟩=>?_);subst ex;obtain rfl:u=Value.ref e:=rx;obtain ⟨mA,hn,r⟩:=I1.hok _ _ hH;obtain ⟨od,ho,hl⟩:=IC hn;obtain ⟨w,hw,rw'⟩:=RelO.some_of (v:=v) (o:=mA f) (by rw [← l]; exact r f);have hp:=(I1.pin (e,oe) (mem_append_left _ p.at_)).1;obtain ⟨vs,hv⟩:=p.fld;have J:W.InstAt s1.heap e oe C (some od):=⟨hp,p.cls,by unfold W.notCls; rw [hv],by rw [hd]; exact ho⟩;exact PP g.hg I1.kIn J (W.findObj_own g.hh g.ha rfl (by rw [hl,hw])) (ID rw') ⟨v,H1,I1.tok _,rw',q⟩
end
section
variable {k:Nat} {fd:FuncData} {sp:Sp}
theorem KP (K:FG) (hK:X.K=K):Bb X (.builtin "isinstance") (fun xs H Q=>∃ v p,xs=[v,.ref p]/\(v=.non\/(∃ i,v=.int i)\/∃ x,v=.str x)/\SqT K H p [.ty "list", .ty "tuple"]/\Q (.bl false) H):=by
 subst hK;intro aa s σ H xs us Q I r h;obtain ⟨v,p,rfl,hv,hp,q⟩:=h;obtain ⟨u,uT,rfl,ru,ruT⟩:=Fu r;cases ruT;obtain ⟨its,rv,⟨o,e,c,n,dd⟩,_⟩:=I.tuple hp;obtain ⟨ocl,odi,oda,osl⟩:=o;simp only at c dd;subst c;subst dd
 have ei:its=[Value.type "list", Value.type "tuple"]:=by
  cases rv with
  | cons r1 r2 =>
   cases r2 with
   | cons r3 r4 =>
    cases r4;cases (show _=Value.type "list" from r1);cases (show _=Value.type "tuple" from r3);rfl
 subst ei;have fin:∀ tk,EP X aa σ Q (.bool false) { s with toks:=tk }:=fun tk=>⟨.bl false,H,I.tok tk,rfl,q⟩;rcases hv with rfl | ⟨i,rfl⟩ | ⟨x,rfl⟩
 ·cases (show u=Value.none from ru);exact W.kia_tup W.kitx_none I.kIn True.intro e rfl (fun z=>nomatch z) fin
 ·obtain ⟨t,z⟩:=(show ∃ t,u=Value.int i t from ru);cases z;exact W.kia_tup W.kitx_int I.kIn True.intro e rfl (fun z=>nomatch z) fin
 ·obtain ⟨t,z⟩:=(show ∃ t,u=Value.str x t from ru);cases z;exact W.kia_tup W.kitx_str I.kIn True.intro e rfl (fun z=>nomatch z) fin
end
structure PEw (X:Cx) (e:Expr) (t:TE):Prop where
 h:PE X e t
structure PAw (X:Cx) (es:List Expr) (t:TA):Prop where
 h:PA X es t
section
variable {es:List Expr} {t:TA}
theorem BX:PAw X [] By:=⟨AC⟩
theorem Pa {j pos} (h:PAw X es t):PAw X (.Constant .none j pos :: es) (Ah (tC .non) t):=⟨AA Ga h.h⟩
theorem Pb {b j pos} (h:PAw X es t):PAw X (.Constant (.int b) j pos :: es) (Ah (tC (.int b)) t):=⟨AA AJ h.h⟩
theorem IY {x j pos} (h:PAw X es t):PAw X (.Constant (.str x) j pos :: es) (Ah (tC (.str x)) t):=⟨AA AY h.h⟩
theorem DV {l p} (he:PEw X (.List l p) te) (h:PAw X es t):PAw X (.List l p :: es) (Ah te t):=⟨AA he.h h.h⟩
theorem Fx {l k p} (he:PEw X (.Tuple l k p) te) (h:PAw X es t):PAw X (.Tuple l k p :: es) (Ah te t):=⟨AA he.h h.h⟩
theorem Bj {p} (h:PAw X es t):PEw X (.List es p) (JI t):=⟨Ay h.h⟩
theorem Ck {k p} (h:PAw X es t):PEw X (.Tuple es k p) (Oj t):=⟨A4 h.h⟩
end
structure PSw (X:Cx) (st:Stmt) (t:TS):Prop where
 h:PS X st t
structure PSsw (X:Cx) (st:List Stmt) (t:TS):Prop where
 h:PSs X st t
structure PIw (X:Cx) (tg e:Expr) (t:TI):Prop where
 h:PI X tg e t
section
variable {st:Stmt} {rest:List Stmt} {t u:TS} {tg l iter:Expr} {tl:TE}
theorem Df (a:PSw X st t) (b:PSsw X rest u):PSsw X (st :: rest) (TX t u):=⟨AD a.h b.h⟩
theorem IZ (a:PSw X st t):PSsw X [st] t:=⟨AF a.h⟩
theorem KQ {body:List Stmt} {wi:TI} {g:TG} {tb:TS} (hp:PassesOwn (model X.prog X.w) X.A X.env X.xe) (hc:X.calm=true) (hi:PIw X tg iter wi) (hg:PG X tg g) (hb:PSsw X body tb)
  (hs:∀ x,foldedSetIterable iter X.env x=pure x:=by intro _; rfl):PSw X (.For tg iter body [] pos) (Tb wi g tb):=⟨Bg hp hc hi.h hg hb.h hs⟩
end
section
variable {CX:CXT} {E:XK}
variable {k:Nat} {fd:FuncData} {ps ks:List Str} {sp:Sp} {p:Pos} {es:List Expr} {kws:List Keyword} {t tk:TA} {g:List Value->List Value->List Value} {gV:List V->List V->List V}
theorem Ie (M:Mk X.K C f) (F:Aj X.prog X.w X.K X.mg X.base CX k f fd ps sp) (hr:Room (k + 1) X.A) (hg:Gl X x) (hm:X.mg x=some (.ref C)) (hb:DZ X.K fd ps ks g gV) (hx:Bi CX X E)
  (ha:PA X (e :: es) t) (hkw:PK X kws tk) (bh:(backToKw pos (keywordEach kws X.env)).all (·.1.isSome)=true:=by rfl) (hks:(backToKw pos (keywordEach kws X.env)).filterMap (·.1)=ks:=by rfl)
  (hdb:(x == ("__debug__" : Str))=false:=by decide) (he:starEach (e :: es) X.env=(false,eval e X.env) :: starEach es X.env:=by rfl)
  (hpl:((backTo pos (starEach (e :: es) X.env)).any (·.1) || (backToKw pos (keywordEach kws X.env)).any (·.1.isNone))=false:=by rfl) :
  PE X (.Call (.Name x p) (e :: es) kws pos) (JQ C sp gV E t tk):=by
 intro aa s σ H Q I h;refine wpAny_Call_Name_kw (B6 I hg hm ?_ hdb);refine W.callWith_KW (h₀:=X.base) I.ok.mod.kin M.kp bh (thn (ha pos aa s σ H _ I h) fun us s1 ⟨vs,H1,I1,r,q⟩=>?_) hpl he;refine thn (hkw pos aa s1 σ H1 _ I1 q) fun ws s2 ⟨zs,H2,I2,rz,q2⟩=>⟨I2.kIn,?_⟩;rw [hks];have hq:=q2 (s2.heap.objs.size + 1) s2.heap.objs.size (I2.hok.fresh (Nat.le_succ _)) (I2.hok.fresh (Nat.le_refl _)) (Nat.ne_of_lt (Nat.lt_succ_self _));have I3:=Inv.made (C:=C) I2;have r2:Vals (gV (V.ref (s2.heap.objs.size + 1) :: vs) zs) (g (Value.ref (s2.heap.objs.size + 1) :: us) ws):=hb.rel (.cons rfl r) rz;have hl:(g (Value.ref (s2.heap.objs.size + 1) :: us) ws).length=ps.length:=by rw [← r2.length]; exact F.len _ _ _ _ hq
 refine wpAny_call (Gj (f:=f) I2.kIn M.makes M.init (beq_iff_eq.mp M.fn) (codeAny_mono (F.run _ X.stack _ _ ⟨Value.ref (s2.heap.objs.size + 1) :: us,ks.zip ws⟩ _ _ _ E (hr.make C us (ks.zip ws)) (I3.env0.make C us (ks.zip ws)) (hb.to _ _ _ I3.kIn hl) r2 hq) fun r' s' hq'=>?_));cases r' with
 | error e=>exact hx aa σ _ _ e s' I3 hq'
 | ok fl =>
  cases fl with
  | ret u =>
   obtain ⟨v,H',I4,rv,ev,q3⟩:=I3.after hq';subst ev;exact ⟨rv,⟨V.ref (s2.heap.objs.size + 1),H',I4,rfl,q3⟩⟩
  | next=>exact False.elim hq'
  | brk=>exact False.elim hq'
  | cont=>exact False.elim hq'
end
end L2
end
section
namespace PySem
open Sem (wp)
theorem G6 {prog:Program} {s:Shared} {xs:Array Value} {o:Obj} {k:Nat} {Q:Option Value->Shared->Prop}
  (hx:s.heap.get? a=some o) (hc:o.cls=.type "list") (bz:o.data=.seq xs k) (hd:o.dict=none) (hA:A.handled=none)
  (h:∀ h' tk,(∀ b ob,s.heap.get? b=some ob->h'.get? b=some ob)->Q none { s with heap:=h',toks:=tk }) :
  wpAny (model prog w) A (getAttr? (.ref a) "keys") Q E s:=by
 obtain ⟨c,dct,dat,sl⟩:=o;simp only at hc bz hd;subst hc bz hd;obtain ⟨hp,g,d,tk,os⟩:=s;have hT:∀ tk',(⟨hp,g,d,tk',os⟩:Shared).TypeIs (.ref a) "list" := fun _=>⟨_,hx,rfl⟩;have f1:=sub_AttributeError;have f3:=F.slot_list_getattribute.lookup;have f4:=F.slot_list_getattribute.bind (.ref a);have f5:=am_list_getattr_none;have hmiss:typeLookup (.type "list") "keys" = pure none:=by rw [typeLookup_type,builtinLookup_eq_fast]; kernel_rfl
 unfold getAttr? getAttrBy? getAttrBy
 repeat (any_goals (first | assumption | exact hT _ | ((with_reducible show wpAny _ _ (call (Value.builtin "list.__getattribute__") _ _) _ _ _); refine call_meets F.slot_list_getattribute (hT _) am_entry_list_getattribute (F.args_list_getattribute_2 _ _) (meets_getattribute_miss_list a xs k sl "keys" _ hmiss (by decide +kernel)) ⟨hx,hA,fun h' tk' e hx'=>?_⟩) | wp_step))
 obtain ⟨t',u',he⟩:=hx'.there;show wpAny _ _ (getattributeRaised _ _ _ _ _ _ _) _ _ _;unfold getattributeRaised
 repeat (any_goals (first | assumption | wp_step))
 exact h _ _ hx'.keeps
end PySem
end
section
namespace L2
open PySem PySem.Spec PyProof.Rows
theorem Br:entryFor table "dict.update.loop" = some Builtin.«dict.update.loop»:=entryFor_of_tree (by kernel_rfl)
theorem A8:plainId "dict.update.loop" = true:=by decide +kernel
noncomputable def BV (kvs ps:LK):LK:=ps.foldl (fun d p=>CG d p.1 p.2) kvs
section
variable {R:Result->Shared->Prop} {it p:Addr} {bs:List Addr} {ps:LK}
theorem N0 (hA:A.in1.handled=none) (hpa:p ≠ a) (hpit:p ≠ it) (hq:SqL X.K H a (bs.map V.ref)) (hl:bs.length=ps.length) (hb:∀ (i:Nat) b q,bs[i]?=some b->ps[i]?=some q->b ≠ p/\SqT X.K H b [kV q.1,q.2]) (hz:ps.length <= 1000)
  (hqs:∀ kvs,SqL X.K (upd H p (.dK kvs)) a (bs.map V.ref)) (hts:∀ kvs b xs,b ≠ p->SqT X.K H b xs->SqT X.K (upd H p (.dK kvs)) b xs) (f0:∀ kvs,(upd H p (.dK kvs)) it=none) (f1:it ≠ X.env.locals) (f3:it ∈ X.ex\/X.s₀.heap.objs.size <= it) (f4:∀ (x:Str) (c:Addr),X.env.cells.lookup x=some c->c ≠ it) (f5:∀ q:Addr × Obj,q ∈ X.pn++aa->q.1 ≠ it) :
  ∀ (k i:Nat) (s:Shared) (kvs:LK),ps.length - i=k->i <= ps.length->kvs.length <= i->Inv X aa σ (upd H p (.dK kvs)) s->s.heap.IsListIter it a i->(∀ s',Inv X aa σ (upd H p (.dK (BV kvs (ps.drop i)))) s'->R (.ok (.ret .none)) s') ->
   codeAny (model X.prog X.w) A (.builtin "dict.update.loop" ⟨[.ref p,.ref it,rawInt (i:Int),.none],[]⟩) R s:=by
 intro k;induction k with
 | zero =>
  intro i s kvs hk hi hkl I st hR;have hin:i=ps.length:=by omega
  obtain ⟨its,rv,pl,_⟩:=I.list (hqs kvs);have ay:=rv.length;refine codeAny_builtin Br ?_;rw [Around.under_plainId A8 _];show wpAny _ A.in1 (pyNext (.ref it) >>= _) _ _ s;refine wpAny_bind (wpAny_pyNext_list_end hA st pl.isList (by rw [AI] at ay; simp; omega) fun h' eb=>?_);show wpAny _ A.in1 (Builtin.Dict.addKeywords p [] >>= _) _ _ _;refine wpAny_bind (wpAny_pure (wpAny_pure (hR _ ?_)));have e:BV kvs (ps.drop i)=kvs:=by rw [hin,List.drop_length]; rfl
  rw [e];exact I.turned (t':=s.toks) (fun b o hb e=>eb b o hb e) (f0 kvs) f1 f3 f4 f5
 | succ k ih =>
  intro i s kvs hk hi hkl I st hR;have hlt:i < ps.length:=by omega
  obtain ⟨its,rv,pl,_⟩:=I.list (hqs kvs);have hbi:bs[i]?=some (bs[i]'(by omega)):=List.getElem?_eq_getElem (by omega);have hpi:ps[i]?=some ps[i]:=List.getElem?_eq_getElem hlt;obtain ⟨hbp,hT⟩:=hb i _ _ hbi hpi;obtain ⟨u,hu,ru⟩:=rv.get (i:=i) (x:=V.ref (bs[i]'(by omega))) (by rw [getElem?_map,hbi]; rfl);cases (show u=Value.ref _ from ru);refine codeAny_builtin Br ?_;rw [Around.under_plainId A8 _];show wpAny _ A.in1 (pyNext (.ref it) >>= _) _ _ s;refine wpAny_bind (wpAny_pyNext_list_item st pl.isList (x:=Value.ref (bs[i]'(by omega))) (by simpa using hu) fun h' st' sb=>?_);have I1:Inv X aa σ (upd H p (.dK kvs)) { s with heap:=h' }:=I.turned (t':=s.toks) (fun b o hb e=>(sb.2 b hb).trans e) (f0 kvs) f1 f3 f4 f5;obtain ⟨its2,rv2,⟨ot,et,ct,nt,dt⟩,_⟩:=I1.tuple (hts kvs _ _ hbp hT);obtain ⟨uk,uv,e2,rk,rvv⟩:=Fu rv2;subst e2;show wpAny _ A.in1 (holding [Value.ref (bs[i]'(by omega))] _ >>= _) _ _ _;refine wpAny_bind (wpAny_holding ?_);have hp:(upd H p (.dK kvs)) p=some (.dK kvs):=upd_same;obtain ⟨z,hd,vs,rel,dd⟩:=Mi I1.hok hp;have hvs:vs.length <= sizeLine:=by rw [← rel.length]; exact z
  have hTy:Shared.TypeIs { s with heap:=h' } (.ref (bs[i]'(by omega))) "tuple" := ⟨_,et,ct⟩;refine wpAny_bind (wpAny_tryCatch ?_);unfold Builtin.Dict.pairItems;refine wpAny_bind (wpAny_typeOf hTy ?_);rw [if_pos (by decide)];obtain ⟨oc,odd,oda,osl⟩:=ot;simp only at ct dt;subst ct dt;refine wpAny_bind (m:=seqItems? _) ?_;unfold seqItems?;refine wpAny_bind (wpAny_load et (wpAny_pure ?_));refine wpAny_pure ?_;show wpAny _ _ (holding [uk,uv] (dictSet p uk uv)) _ _ _;refine wpAny_holding (wpAny_dictSet_pairs (hsz:=hvs) (Fv rk) dd fun h2 dd2 sb2=>?_);refine wpAny_pure ⟨plainId_quiet A8 _,?_⟩;have hln:(CG kvs ps[i].1 ps[i].2).length <= i + 1:=by have:=CH kvs ps[i].1 ps[i].2; omega
  have I2:=Ew (t':=s.toks + 1) I1 (by rw [hp]; exact True.intro) sb2 (let ⟨q,_,_,hq',_⟩:=dd2; ⟨q,hq'⟩) (JM (P:=X.prog) (w:=X.w) (H':=upd (upd H p (.dK kvs)) p (.dK (CG kvs ps[i].1 ps[i].2))) (Nat.le_of_lt (AT (by omega))) hd (rel.put ps[i].1 rvv) dd2);rw [JF] at I2;have e3:ps.drop i=ps[i] :: ps.drop (i + 1):=List.drop_eq_getElem_cons hlt;have:=ih (i + 1) _ (CG kvs ps[i].1 ps[i].2) (by omega) (by omega) hln I2 (st'.extBut sb2.extBut (Ne.symm hpit)) (fun s' I'=>hR s' (by rw [e3]; exact I'));exact this
theorem EK (hc:X.calm=true):Bb X (.type "dict") (fun xs H Q=>∃ (a:Addr) (bs:List Addr) (ps:LK),xs=[.ref a]/\SqL X.K H a (bs.map V.ref)/\bs.length=ps.length/\ps.length <= 1000/\(∀ (i:Nat) b q,bs[i]?=some b->ps[i]?=some q->SqT X.K H b [kV q.1,q.2]) /\
  ∀ p,H p=none->Q (.ref p) (upd H p (.dK (BV [] ps)))):=by
 intro aa s σ H xs us Q I r h;obtain ⟨a,bs,ps,rfl,hq,hl,hz,hb,q⟩:=h;obtain ⟨u,rfl,ru⟩:=CP r;cases (show u=Value.ref a from ru);have hp0:H s.heap.objs.size=none:=I.hok.fresh (Nat.le_refl _)
 have sH:∀ o,Same H (upd H s.heap.objs.size o):=fun o b v e=>by
  rw [AE (AH e hp0)];exact e
 refine callType_codes (Q₁:=fun obj s₁=>obj=.ref s.heap.objs.size/\s₁={ s with heap:=s.heap.push { cls:=.type "dict", data:=.dict #[] } }) PySem.F.kt_called_dict (PySem.F.kt_typeCall_dict_1 _) PySem.F.entry_dict_init (kt_code_dict_new _ ⟨rfl,rfl⟩) ?_;rintro obj s₁ ⟨rfl,rfl⟩;have I1:Inv X aa σ (upd H s.heap.objs.size (.dK [])) { s with heap:=s.heap.push { cls:=.type "dict", data:=.dict #[] } }:=I.laid (a:=s.heap.objs.size) (o:=.dK []) (t':=s.toks) (fun _ _ q=>get?_push_of_some _ q) (Nat.le_refl _) (Gp s.heap I.big);obtain ⟨its,rv,pl,_⟩:=I1.list ((sH (.dK [])).seq hq);have hTd:Shared.TypeIs { s with heap:=s.heap.push { cls:=.type "dict", data:=.dict #[] } } (.ref s.heap.objs.size) "dict" := ⟨_,get?_push_size _ rfl,rfl⟩;refine ⟨hTd,PySem.F.args_dict_init_2 _ _,?_⟩;unfold Builtin.«dict.__init__»;refine wpAny_bind ?_;unfold Builtin.Dict.selfAndRest;refine wpAny_bind (wpAny_notOrdered_dict hTd ?_);show wpAny _ _ (pure (s.heap.objs.size,[Value.ref a])) _ _ _;refine wpAny_pure ?_;show wpAny _ _ (Builtin.Dict.updateFrom "dict.__init__" s.heap.objs.size (.ref a) [] .none) _ _ _;unfold Builtin.Dict.updateFrom;refine wpAny_bind (wpAny_typeOf pl.isList.typeIs ?_);rw [if_pos (by decide)];have hA:X.A.handled=none:=I.ok.hd hc;have hA2:X.A.in1.in1.handled=none:=hA;obtain ⟨ol,nl,hol,af,hdl,bz⟩:=id pl;obtain ⟨its0,_,⟨o0,_,e0,_⟩,_⟩:=I.list hq;have ar:a < s.heap.objs.size:=lt_size e0;refine wpAny_bind (G6 hol af bz hdl hA2 fun h' tk keep=>?_);have I2:Inv X aa σ (upd H s.heap.objs.size (.dK [])) { s with heap:=h',toks:=tk }:=I1.kept keep;show wpAny _ _ (if (Option.isNone (none:Option Value))=true then _ else _) _ _ _;rw [if_pos (show Option.isNone (none:Option Value)=true from rfl)];refine wpAny_bind (wpAny_rule ?_);refine wpAny_bind (wpAny_pyIter_list (pl.isList.at fun o e=>keep _ o e) ?_)
 have hsz:s.heap.objs.size < h'.objs.size:=by
  have:=keep _ _ (get?_push_size s.heap (o:={ cls:=.type "dict", data:=.dict #[] }) rfl);exact lt_size this
 have I3:Inv X aa σ (upd H s.heap.objs.size (.dK [])) { s with heap:=h'.push { cls:=.type "list_iterator", data:=.fields #[.ref a,.int 0 0] },toks:=tk }:=I2.kept (t':=tk) fun b o e=>get?_push_of_some _ e;have av:s.heap.objs.size ≠ h'.objs.size:=Nat.ne_of_lt hsz;have hn0:(upd H s.heap.objs.size (.dK [])) h'.objs.size=none:=I2.hok.fresh (Nat.le_refl _);obtain ⟨_,f1,_,f3,f4,f5⟩:=I2.fpOk (Nat.le_refl h'.objs.size) hn0;have hnb:∀ (i:Nat) b q,bs[i]?=some b->ps[i]?=some q->b ≠ s.heap.objs.size/\SqT X.K H b [kV q.1,q.2]:=fun i b q e1 e2=>⟨fun z=>?_,hb i b q e1 e2⟩
 ·refine wpAny_pure ⟨plainId_quiet A8 _,?_⟩;refine N0 (X:=X) (aa:=aa) (σ:=σ) (H:=H) (a:=a) (it:=h'.objs.size) (p:=s.heap.objs.size) (bs:=bs) (ps:=ps) (A:=X.A.in1) hA2 (fun z=>?_) av hq hl hnb hz (fun kvs=>(sH _).seq hq) (fun kvs b xs _ hT=>?_) (fun kvs=>?_) f1 f3 f4 f5 (ps.length - 0) 0 _ [] (by omega) (Nat.zero_le _) (Nat.le_refl _) I3 ⟨_,get?_push_size _ rfl,rfl,rfl⟩ (fun s' I'=>⟨rfl,.ref s.heap.objs.size,_,I',rfl,q _ hp0⟩)
  ·exact absurd ar (by rw [← z]; exact Nat.lt_irrefl _)
  ·rcases hT with (h | ⟨o,h⟩) | h
   ·exact .inl (.inl (sH _ _ _ h))
   ·exact .inl (.inr ⟨o,sH _ _ _ h⟩)
   ·exact .inr h
  ·rw [AE (Ne.symm av)];rw [AE (Ne.symm av)] at hn0;exact hn0
 ·obtain ⟨its2,_,⟨o2,e2',_⟩,_⟩:=I.tuple (hb i b q e1 e2);exact absurd (lt_size e2') (by rw [z]; exact Nat.lt_irrefl _)
end
section
def Tz (i j k:Nat) (ta:TA):TS:=fun D σ H=>ta σ H fun vs H1=>∃ v w z,vs=[v,w,z]/\D.nx (((σ.set k (some z)).set j (some w)).set i (some v)) H1
theorem RI {i j k:Nat} {y z:Str} {a b c:Expr} {ta:TA} {px py pz pt:Pos} {kt k2 pt2} (hc:X.calm=true) (hN:X.N.Nodup) (hi:X.N[i]?=some x) (hj:X.N[j]?=some y) (hk:X.N[k]?=some z)
  (hx:X.env.scope.names.lookup x=some .local) (hy:X.env.scope.names.lookup y=some .local) (hz:X.env.scope.names.lookup z=some .local) (ha:PA X [a,b,c] ta)
  (hw:swappedStores [.Tuple [.Name x px,.Name y py,.Name z pz] kt pt] (.Tuple [a,b,c] k2 pt2) X.env=pure (some [x,y,z]))
  (hs:swapsWithSole [.Tuple [.Name x px,.Name y py,.Name z pz] kt pt] (.Tuple [a,b,c] k2 pt2) pos.line X.env=pure false:=by rfl) :
  PS X (.Assign [.Tuple [.Name x px,.Name y py,.Name z pz] kt pt] (.Tuple [a,b,c] k2 pt2) pos) (Tz i j k ta):=by
 intro aa s σ H D I h;rw [exec_Assign_arm];refine wpAny_bind (wpAny_standAt ?_);rw [hs];refine wpAny_bind (wpAny_pure ?_);rw [if_neg (by decide)];refine wpAny_bind (Tuple_ (thn (ha _ aa s σ H _ I h) fun us s1 ⟨vs,H1,I1,r1,q1⟩=>?_));obtain ⟨v,w,t,e1,q1⟩:=q1;subst e1
 obtain ⟨u1,u2,u3,rfl,rv,rw',rt⟩:∃ u1 u2 u3,us=[u1,u2,u3]/\RelV v u1/\RelV w u2/\RelV t u3:=by
  cases r1 with
  | cons p q =>
   cases q with
   | cons p' q' =>
    cases q' with
    | cons p'' q'' =>
     cases q'';exact ⟨_,_,_,rfl,p,p',p''⟩
 refine wpAny_newObj_type ?_ sl3;have I2:Inv X aa σ H1 { s1 with heap:=s1.heap.push { cls:=.type "tuple", data:=.seq [u1,u2,u3].toArray } }:=I1.kept (t':=s1.toks) fun b o e=>get?_push_of_some _ e;rw [hw];refine wpAny_bind (wpAny_pure ?_);show wpAny (model X.prog X.w) X.A (do rule "assign.swapped-stores"; let items ← unpackItems (.ref s1.heap.objs.size) 3 none; assignInOrder [fun v=>bindName X.env z v,fun v=>bindName X.env y v,fun v=>bindName X.env x v] items.reverse; pure Flow.next) _ _ _;refine wpAny_bind (wpAny_rule (wpAny_bind (unpackItems_tuple (items:=#[u1,u2,u3]) (I.ok.hd hc) (IsTup.new s1.heap _) fun h' hx'=>?_)));have I3:=I2.kept (h':=h') (t':=s1.toks) fun b o e=>hx' b o (Nat.ne_of_lt (lt_size e)) e;show wpAny _ _ (assignInOrder [fun v=>bindName X.env z v,fun v=>bindName X.env y v,fun v=>bindName X.env x v] [u3,u2,u1] >>= fun _=>pure Flow.next) _ _ _;refine wpAny_bind (assignInOrder_cons (wpAny_bindName (Bp I3 hN hk (.inl hz) rt (fun s2 I4=>?_) (.inr hz))));refine assignInOrder_cons (wpAny_bindName (Bp I4 hN hj (.inl hy) rw' (fun s3 I5=>?_) (.inr hy)));refine assignInOrder_cons (wpAny_bindName (Bp I5 hN hi (.inl hx) rv (fun s4 I6=>assignInOrder_nil (wpAny_pure ?_)) (.inr hx)));exact ⟨_,H1,I6,q1⟩
end
theorem Ig:∀ (fuel n r:Nat),r <= 1->minRun' fuel n r <= n + r
 | 0,n,r,_=>Nat.le_refl _
 | f + 1,n,r,h=>by
  rw [minRun'_succ];split
  ·exact Nat.le_refl _
  ·have:=Ig f (n / 2) (max r (n % 2)) (by omega);omega
section
variable {prog:Program} {s:Shared} {a₀:Array Keyed}
theorem Hu {st:SortSt} {nrem:Nat} {Q:Option Nat->SortSt->Prop} (h0:IntKeys a₀) (hn:nrem <= a₀.size) (h1:1 <= nrem) (hB:SBase a₀ st) (hr:SortedTo (arrOf st) nrem)
  (h:Q (some nrem) st):wpS (model prog w) A E s (countRun' 0 nrem) Q st:=by
 rw [countRun0_eq];refine wpS_bind (wpS_ascLoop h0 hn (Nat.le_refl 1) h1 hB (fun i j hij hj=>hr i j hij (by omega)) fun n hn1 hn2 hsn hor=>?_)
 dsimp only
 have e:n=nrem:=by
  rcases hor with z | z
  ·exact z
  ·by_cases q:n=nrem
   ·exact q
   ·exact absurd z (Int.not_lt.mpr (hr (n - 1) n (by omega) (by omega)))
 subst e;rw [if_pos (by simp)];exact wpS_pure h
theorem Hv {st:SortSt} {Q:Unit->SortSt->Prop} (h0:IntKeys a₀) (hB:SBase a₀ st) (h2:2 <= a₀.size) (hr:SortedTo (arrOf st) a₀.size)
  (h:∀ st',arrOf st'=arrOf st->failedOf st'=none->Q () st'):wpS (model prog w) A E s sortRuns' Q st:=by
 rw [sortRuns'_eq];refine wpS_bind (wpS_get ?_)
 dsimp only
 have hmr:minRun' a₀.size a₀.size 0 <= a₀.size:=Ig _ _ _ (by decide);simp only [hB.size]
 refine wpS_bind (wpS_mono (wpS_forRange
  (I:=fun x c st'=>(x=0/\c=(none,0)/\st'=st)\/(1 <= x/\c=(none,a₀.size)/\st'=setPending st ((pendingOf st).push (0,a₀.size,0))))
  (Q:=fun c st'=>c=(none,a₀.size)/\st'=setPending st ((pendingOf st).push (0,a₀.size,0))) ?step ?fin (.inl ⟨rfl,rfl,rfl⟩)) ?post)
 case fin =>
  rintro c st' (⟨hx,_,_⟩ | ⟨_,hc,hD⟩)
  ·omega
  ·exact ⟨hc,hD⟩
 case step =>
  rintro x c st' _ hx (⟨rfl,rfl,rfl⟩ | ⟨hx1,rfl,rfl⟩)
  ·dsimp only
   rw [if_neg (by omega)];simp only [Nat.sub_zero,Nat.zero_add];refine wpS_bind (Hu h0 (Nat.le_refl _) (by omega) hB hr ?_)
   dsimp only
   rw [if_neg (by omega)];refine wpS_bind (wpS_get ?_);have hb:(pendingOf st').back?=none:=by rw [hB.pend]; rfl
   rw [hb]
   dsimp only
   exact wpS_bind (wpS_modify (wpS_pure (.inr ⟨by omega,rfl,rfl⟩)))
  ·dsimp only
   rw [if_pos (Nat.le_refl _)];exact wpS_pure ⟨rfl,rfl⟩
 case post =>
  rintro c st' ⟨rfl,hD⟩
  have hpe:pendingOf st'=#[(0,a₀.size,0)]:=by
   rw [hD];show (pendingOf st).push _=_;rw [hB.pend];rfl
  dsimp only
  refine wpS_bind (wpS_mono (wpS_forRange (I:=fun _ c st''=>st''=st'/\c=(none,())) (Q:=fun c st''=>st''=st'/\c=(none,())) ?_ (fun _ _ hh=>hh) ⟨rfl,rfl⟩) ?_)
  ·rintro x c st'' _ _ ⟨rfl,rfl⟩;refine wpS_bind (wpS_get ?_);rw [if_pos (by rw [hpe]; exact Nat.le_refl 1)];exact wpS_pure ⟨rfl,rfl⟩
  ·rintro c st'' ⟨rfl,rfl⟩;refine wpS_pure (h _ ?_ ?_)
   ·rw [hD]
   ·rw [hD];exact hB.failed
theorem KR:∀ {vs:List Value} {ns:List Int},IntsAre vs ns->∀ (i:Nat) (v:Value),vs[i]?=some v->∃ n t,v=.int n t/\ns[i]?=some n
 | _,_,.nil,i,v,e=>by cases e
 | _,_,.cons n t h,0,v,e=>by cases e; exact ⟨n,t,rfl,rfl⟩
 | _,_,.cons n t h,i + 1,v,e=>KR h i v e
theorem KS {vs:List Value} {ns:List Int} (hI:IntsAre vs ns) (hp:ns.Pairwise (· <= ·)):SortedTo (pairsOf vs) (pairsOf vs).size:=by
 have key:∀ i,i < vs.length->ns[i]?=some (PyProof.Rows.K (pairsOf vs) i):=fun i hi=>by
  obtain ⟨n,tk,hn,e⟩:=KR hI i _ (List.getElem?_eq_getElem hi);rw [e];unfold PyProof.Rows.K;have hzz:(vs.zip vs)[i]?=some (vs[i],vs[i]):=List.getElem?_zip_eq_some.mpr ⟨List.getElem?_eq_getElem hi,List.getElem?_eq_getElem hi⟩;rw [← Array.getElem?_toList,pairsOf_toList,hzz,hn];rfl
 intro i j hij hj;rw [pairsOf_size] at hj;have e1:=key i (by omega);have e2:=key j hj;rcases Nat.lt_or_ge i j with z | z
 ·obtain ⟨h1,g1⟩:=List.getElem?_eq_some_iff.mp e1;obtain ⟨h2,g2⟩:=List.getElem?_eq_some_iff.mp e2;have:=List.pairwise_iff_getElem.mp hp i j h1 h2 z;rw [g1,g2] at this;exact this
 ·have:i=j:=by omega
  subst this;exact Int.le_refl _
theorem JU (vs:List Value):((pairsOf vs).map (·.2))=vs.toArray:=by
 apply Array.toList_inj.mp;rw [Array.toList_map,pairsOf_toList,List.map_snd_zip (Nat.le_refl _)]
theorem F4 {vs:List Value} {ns:List Int} {n:Nat} {P:Fin->Shared->Prop} (ho:s.heap.get? a=some (seqObj "list" vs.toArray n))
  (hI:IntsAre vs ns) (hpw:ns.Pairwise (· <= ·)) (hz:vs.length <= 1000)
  (h:P (.done (.ret .none)) { s with heap:=sortedHeap s.heap a vs vs.toArray }) :
  wpAny (model prog w) A (Builtin.«list.sort» ⟨[.ref a],[]⟩) P E s:=by
 rw [list_sort_plain];have ha:a < s.heap.objs.size:=lt_size ho;have hsL:vs.toArray.size <= sizeLine:=by rw [sizeLine_eq]; simp only [size_toArray]; omega
 refine wpAny_bind (listItems_at ho rfl ?_);refine wpAny_bind (listUpdate_at ho rfl ?_ hsL);obtain ⟨e1,ho1⟩:∃ e1,(s.heap.update a (Obj.mapSeq fun _=>#[])).get? a=some (seqObj "list" #[] e1):=⟨_,get?_update_seq ho (fun _=>#[])⟩;refine wpAny_bind (seqEpoch_at ho1 rfl ?_);refine wpAny_bind (wpAny_newTuple ?_ (by rw [sizeLine_eq]; show vs.length <= _; omega));refine wpAny_bind (wpAny_newList ?_);refine wpAny_holding ?_
 have ho6:(((s.heap.update a (Obj.mapSeq fun _=>#[])).push (seqObj "tuple" vs.toArray 0)).push (seqObj "list" #[] 0)).get? a=some (seqObj "list" #[] e1):=by
  rw [Heap.get?_push_ne _ _ _ (by rw [size_push',size_update]; exact Nat.ne_of_lt (Nat.lt_succ_of_lt ha)),Heap.get?_push_ne _ _ _ (by rw [size_update]; exact Nat.ne_of_lt ha)];exact ho1
 show wpAny (model prog w) A _ P E { s with heap:=((s.heap.update a (Obj.mapSeq fun _=>#[])).push (seqObj "tuple" vs.toArray 0)).push (seqObj "list" #[] 0) }
 dsimp only
 have hsz:vs.toArray.size=vs.length:=by simp
 by_cases h2:vs.toArray.size < 2
 ·rw [if_pos h2,if_pos h2];refine wpAny_bind (wpAny_pure ?_);rw [StateT.run_pure];refine wpAny_bind (wpAny_pure ?_)
  dsimp only
  refine wpAny_bind (seqEpoch_at ho6 rfl ?_);refine wpAny_bind (listUpdate_at ho6 rfl ?_ (hsz2:=by rw [Array.size_map]; show (pairsOf vs).size <= _; rw [pairsOf_size,sizeLine_eq]; omega));simp only [bne_self_eq_false,Bool.false_eq_true,if_false];refine wpAny_pure ?_;rw [← JU] at h;exact h
 ·rw [if_neg h2,if_neg h2]
  obtain ⟨v₁,v₂,rest,rfl⟩:∃ v₁ v₂ rest,vs=v₁ :: v₂ :: rest:=by
   match vs,hsz,h2 with
   | [],_,h2=>simp at h2
   | [_],_,h2=>simp at h2
   | v₁ :: v₂ :: rest,_,_=>exact ⟨v₁,v₂,rest,rfl⟩
  rw [keyKind_ints hI];refine wpAny_bind (wpAny_pure ?_)
  refine wpAny_bind (wpAny_mono (Hv (a₀:=pairsOf (v₁ :: v₂ :: rest)) (st:=SortSt.mk' oneType' ((v₁ :: v₂ :: rest).toArray.zip (v₁ :: v₂ :: rest).toArray) #[] 7 none)
   (Q:=fun _ st'=>arrOf st'=pairsOf (v₁ :: v₂ :: rest)/\failedOf st'=none)
   hI.intKeys ⟨Array.Perm.refl _,rfl,rfl,rfl⟩ (by rw [pairsOf_size]; simp) (KS hI hpw) fun st' a1 a2=>⟨a1,a2⟩) ?_ fun _ _ e=>e)
  rintro ⟨⟨⟩,st'⟩ s' ⟨rfl,hp,hf⟩
  dsimp only
  refine wpAny_bind (seqEpoch_at ho6 rfl ?_);refine wpAny_bind (listUpdate_at ho6 rfl ?_ (hsz2:=by rw [hp,JU]; exact Nat.le_succ_of_le hsL));rw [hf];simp only [bne_self_eq_false,Bool.false_eq_true,if_false];rw [hp,JU];exact wpAny_pure h
end
section
theorem JV (hK:X.K=K):Bb X (.builtin "sorted") (fun xs H Q=>∃ (p:Addr) (ns:List Int),xs=[.ref p]/\SqL K H p (ns.map V.int)/\ns.Pairwise (· <= ·)/\ns.length <= 1000/\∀ l,H l=none->Q (.ref l) (upd H l (.lst (ns.map V.int)))):=by
 subst hK;intro aa s σ H xs us Q I r h;obtain ⟨p,ns,rfl,hq,hpw,hz,q⟩:=h;obtain ⟨u,rfl,ru⟩:=CP r;cases ru;obtain ⟨its,rv,pl,hzl⟩:=I.list hq;have ay:ns.length=its.length:=by have:=rv.length; rw [AI] at this; exact this
 have hI:=Cb rv;have hsL:its.length <= sizeLine:=by rw [sizeLine_eq]; omega
 refine Calls.call_function_entry kind_sorted plain_sorted entry_sorted (args_sorted1 _) ?_;unfold Builtin.«sorted»;refine wpAny_bind (m:=checkCount "sorted" 1 1 _) (wpAny_pure ?_);refine wpAny_bind (collect_list pl.isList ?_ hsL);refine wpAny_bind (wpAny_newList ?_ hsL)
 have hsz:((s.heap.push (seqObj "list" #[] 0)).update s.heap.objs.size (Obj.mapSeq (·++its.toArray))).objs.size=s.heap.objs.size + 1:=by
  rw [size_update,size_push']
 have hoL:(((s.heap.push (seqObj "list" #[] 0)).update s.heap.objs.size (Obj.mapSeq (·++its.toArray))).push (seqObj "list" its.toArray 0)).get? (s.heap.objs.size + 1)=some (seqObj "list" its.toArray 0):=by
  rw [← hsz]; exact get?_push_size _ rfl
 show wpAny _ _ _ _ _ { s with heap:=((s.heap.push (seqObj "list" #[] 0)).update s.heap.objs.size (Obj.mapSeq (·++its.toArray))).push (seqObj "list" its.toArray 0) };rw [hsz];refine wpAny_bind (wpAny_holding (wpAny_call_entry slot_list_sort ⟨_,hoL,rfl⟩ entry_list_sort (F4 hoL hI hpw (by omega) ⟨_,rfl,?_⟩) (args_list_sort _)));refine wpAny_pure ⟨_,rfl,?_⟩;have hn:H (s.heap.objs.size + 1)=none:=I.hok.fresh (Nat.le_succ _);refine ⟨.ref (s.heap.objs.size + 1),_,I.laid (t':=s.toks) (o:=.lst (ns.map V.int)) (h':=sortedAll s.heap its its.toArray) (fun b o e=>sortedAll_old e) (Nat.le_succ _) ⟨by rw [AI,ay]; exact hsL,its,?_⟩,rfl,q _ hn⟩;obtain ⟨c,hcx⟩:=sortedAll_at s.heap its its.toArray;exact ⟨c,rv,hcx⟩
end
structure CompFits1 (osc sc:Scope) (N N':List Str) (ix:List (Option Nat)) (z:Str):Prop where
 kind:sc.kind=.function
 one:∀ y ∈ sc.names,y.2=.cell->y.1=z
 own:sc.names.lookup z=some .cell
 free:∀ y ∈ sc.names,y.2=.free->osc.names.lookup y.1=some .cell\/osc.names.lookup y.1=some .free
 loc:∀ y ∈ sc.names,y.2=.local->sc.names.lookup y.1=some .local
 len:ix.length=N'.length
 slot:∀ (j:Nat) (x:Str) (i:Nat),N'[j]?=some x->ix[j]?=some (some i)->N[i]?=some x/\sc.names.lookup x=some .free
 cf:∀ n cl,cellsFrom n sc.names cl=(z,n) :: cl
 pc:∀ h,pushCells h sc.names=h.push { cls:=.type "cell", data:=.cell none }
noncomputable def JW (osc sc:Scope) (N N':List Str) (ix:List (Option Nat)) (z:Str):Bool :=
 decide (sc.kind=.function) && (sc.names.all fun y=>(decide (y.2 ≠ .cell) || decide (y.1=z)) && (decide (y.2 ≠ .free) || decide (osc.names.lookup y.1=some .cell) || decide (osc.names.lookup y.1=some .free)) &&
  (decide (y.2 ≠ .local) || decide (sc.names.lookup y.1=some .local))) && decide (sc.names.lookup z=some .cell) && Ct sc N N' ix
theorem CompFits1.of {osc sc:Scope} {N':List Str} {ix:List (Option Nat)} {z:Str} (h:JW osc sc N N' ix z=true) (hcf:∀ n cl,cellsFrom n sc.names cl=(z,n) :: cl)
  (hpc:∀ h,pushCells h sc.names=h.push { cls:=.type "cell", data:=.cell none }):CompFits1 osc sc N N' ix z:=by
 simp only [JW,Bool.and_eq_true,decide_eq_true_eq,List.all_eq_true,Bool.or_eq_true] at h;obtain ⟨⟨⟨h1,h2⟩,h4⟩,h3⟩:=h;refine ⟨h1,fun y hy e=>?_,h4,fun y hy e=>?_,fun y hy e=>?_,EE h3,FW h3,hcf,hpc⟩
 ·rcases (h2 y hy).1.1 with q | q
  ·exact absurd e q
  ·exact q
 ·rcases (h2 y hy).1.2 with (q | q) | q
  ·exact absurd e q
  ·exact .inl q
  ·exact .inr q
 ·rcases (h2 y hy).2 with q | q
  ·exact absurd e q
  ·exact q
theorem E5 {env:Env} {z:Str}:∀ {names:List (Str × NameKind)} {x:Str},(∀ y ∈ names,y.2=.cell->y.1=z)->((names.map (Ch env)).lookup x=some .cell\/(names.map (Ch env)).lookup x=some .free)->(x,NameKind.free) ∈ names\/x=z
  | [],_,_,h=>by simp at h
  | (n,k) :: r,x,hc,h=>by
    rw [map_cons] at h;have e:Ch env (n,k)=(n,(Ch env (n,k)).2):=Prod.ext (Ey env (n,k)) rfl;rw [e] at h;cases hx:x == n with
    | true =>
      simp only [lookup_cons,hx] at h;have exn:x=n:=by simpa using hx
      subst exn;by_cases hk:k=.free
      · subst hk; exact .inl mem_cons_self
      · rw [JN env (x,k) hk] at h
        rcases h with q | q
        · have:k=.cell:=by simpa using q
          exact .inr (hc (x,k) mem_cons_self this)
        · have:k=.free:=by simpa using q
          exact absurd this hk
    | false =>
      simp only [lookup_cons,hx] at h;rcases E5 (fun y hy=>hc y (mem_cons_of_mem _ hy)) h with q | q
      · exact .inl (mem_cons_of_mem _ q)
      · exact .inr q
theorem Cw {env:Env}:∀ {names:List (Str × NameKind)} {x:Str},names.lookup x=some .cell->(names.map (Ch env)).lookup x=some .cell
  | [],_,h=>by simp at h
  | (n,k) :: r,x,h=>by
    rw [map_cons];have e:Ch env (n,k)=(n,(Ch env (n,k)).2):=Prod.ext (Ey env (n,k)) rfl;rw [e];cases hx:x == n with
    | true =>
      simp only [lookup_cons,hx,Option.some.injEq] at h ⊢;subst h;rw [JN env (n,.cell) (fun q=>by cases q)]
    | false =>
      simp only [lookup_cons,hx] at h ⊢;exact Cw h
noncomputable def A3 (z:Str) (X:Cx) (N':List Str) (scope:Scope) (cl:List (Str × Addr)) (s:Shared) (H:Hp) (C:Addr) (fp:List Addr) (pn:LO):Cx where
 prog:=X.prog
 w:=X.w
 K:=X.K
 mg:=X.mg
 base:=X.base
 A:=X.A
 N:=N'
 s₀:=s
 H₀:=H
 env:=compEnvC scope cl C X.env
 outer:=X.stack
 stack:=X.stack
 ex:=fp
 fn:=fun x=>x == z
 calm:=X.calm
 pn:=pn
 xe:=fun _ _=>False
theorem G7 {z:Str} {Z:Addr} {cl:List (Str × Addr)} (c1:∀ x c,cl.lookup x=some c->X.env.cells.lookup x=some c) {c:Addr} (e:((z,Z) :: cl).lookup x=some c):X.env.cells.lookup x=some c\/(x=z/\c=Z):=by
 cases hx:x == z with
 | true =>
  simp only [lookup_cons,hx,Option.some.injEq] at e;exact .inr ⟨by simpa using hx,e.symm⟩
 | false =>
  simp only [lookup_cons,hx] at e;exact .inl (c1 x c e)
theorem Se {z:Str} {Z:Addr} {cl:List (Str × Addr)} {c:Addr} (e:cl.lookup x=some c):∃ c',((z,Z) :: cl).lookup x=some c':=by
 cases hx:x == z with
 | true=>exact ⟨Z,by simp only [lookup_cons,hx]⟩
 | false=>exact ⟨c,by simp only [lookup_cons,hx]; exact e⟩
theorem Pc {z:Str} {Z:Addr} {cl:List (Str × Addr)}:((z,Z) :: cl).lookup z=some Z:=by simp [lookup_cons]
theorem Pd (h:Heap):((h.push { cls:=.type "dict", data:=.dict #[] }).push { cls:=.type "cell", data:=.cell none }).IsCell (h.objs.size + 1) none:=by
 have e:=get?_push_size (h.push { cls:=.type "dict", data:=.dict #[] }) (o:={ cls:=.type "cell", data:=.cell none }) rfl;rw [size_push] at e;exact ⟨_,e,rfl⟩
theorem Lj {M:Model} {s:Shared} {scope:Scope} {globals:Addr} {cl:List (Str × Addr)} {qual:Str} {outer:Env} {Q:Env->Shared->Prop} {z:Str}
  (hcf:∀ n cl,cellsFrom n scope.names cl=(z,n) :: cl) (hpc:∀ h,pushCells h scope.names=h.push { cls:=.type "cell", data:=.cell none })
  (hQ:∀ h',h'.Ns s.heap.objs.size (fun _=>none)->h'.IsCell (s.heap.objs.size + 1) none->(∀ b o,s.heap.get? b=some o->h'.get? b=some o) ->
   Q { scope,locals:=s.heap.objs.size,globals,cells:=(z,s.heap.objs.size + 1) :: cl,qual,func:=none,code:=outer.code,frame:=outer.frame,builtins:=outer.builtins } { s with heap:=h' }) :
  wpAny M A (newFunctionEnv scope globals cl [] qual none .none (some outer)) Q E s:=by
 simp only [newFunctionEnv,Option.isSome_some,if_true];refine wpAny_bind (wpAny_alloc ?_);refine wpAny_bind (wpAny_layCells _ (fun name kind cells=>by cases hkc:kind == NameKind.cell <;> simp [hkc]) _ _ _ _ ?_);rw [hcf,hpc,show ({ s with heap:=s.heap.push { cls:=.type "dict", data:=.dict #[] } }:Shared).heap.objs.size=s.heap.objs.size + 1 from size_push ..];refine wpAny_bind ?_;rw [List.forIn_nil];refine wpAny_pure (wpAny_pure (hQ _ ((Heap.Ns.new s.heap (.type "dict")).keeps fun b o e=>get?_push_of_some _ e) (Pd s.heap) fun b o e=>get?_push_of_some _ (get?_push_of_some _ e)))
section
variable {s:Shared} {N':List Str} {ix:List (Option Nat)} {scope:Scope} {cl:List (Str × Addr)} {Z:Addr} {fp:List Addr} {z:Str}
theorem Pe (I:Inv X aa σ H s) (hf:CompFits1 X.env.scope scope X.N N' ix z) (c1:∀ x c,cl.lookup x=some c->X.env.cells.lookup x=some c) (c2:∀ y ∈ scope.names,y.2=.free->∃ c,cl.lookup y.1=some c)
  (hC:s.heap.objs.size <= C) (hZ:s.heap.objs.size <= Z) (hfp:∀ b ∈ fp,DW X aa H b) (hlt:∀ b ∈ fp,b < s.heap.objs.size):(A3 z X N' scope ((z,Z) :: cl) s H C fp (X.pn++aa)).Ok where
 mod:=I.mod
 kind:=hf.kind
 glob:=I.ok.glob
 blt:=I.ok.blt
 above:=hC
 inj:=fun x y c e1 e2=>by
  have lt:∀ x,X.env.cells.lookup x=some c->c < s.heap.objs.size:=fun x e=>by
   obtain ⟨v,q⟩:=I.cell x c e;exact q.lt
  rcases G7 c1 e1 with q1 | q1 <;> rcases G7 c1 e2 with q2 | q2
  ·exact I.ok.inj x y c q1 q2
  ·have:=lt x q1; rw [q2.2] at this; exact absurd this (Nat.not_lt.mpr hZ)
  ·have:=lt y q2; rw [q1.2] at this; exact absurd this (Nat.not_lt.mpr hZ)
  ·rw [q1.1,q2.1]
 has:=fun x h=>by
  rcases E5 (env:=X.env) hf.one h with hm | hm
  ·obtain ⟨c,e⟩:=c2 (x,.free) hm rfl;exact Se e
  ·rw [hm]; exact ⟨Z,Pc⟩
 cab:=fun x c h e=>by
  have hx:x=z:=by
   have h':(x == z)=true:=h;simpa using h'
  subst hx;have e':((x,Z) :: cl).lookup x=some c:=e;rw [Pc] at e';cases e';exact hZ
 hd:=I.ok.hd
 frames:=I.ok.frames
 stk:=.inl rfl
 exf:=fun b hb=>⟨Nat.ne_of_lt (Nat.lt_of_lt_of_le (hlt b hb) hC),fun x c e=>(G7 c1 e).elim (fun q=>(hfp b hb).2.2.2.2.1 x c q) fun q=>q.2 ▸ Nat.ne_of_gt (Nat.lt_of_lt_of_le (hlt b hb) hZ)⟩
 bs:=I.bs
 bsz:=Nat.le_trans I.ok.bsz I.sz
 noex:=fun b o e hb=>by
  rcases (hfp b hb).2.2.2.1 with z | z
  ·exact I.ok.noex b o e z
  ·exact absurd (Nat.lt_of_lt_of_le (Nat.lt_of_lt_of_le (lt_size e) I.ok.bsz) z) (Nat.lt_irrefl _)
 exfs:=fun b hb z=>by
  rcases mem_cons.mp (I.stkSub b z) with e | e
  ·exact (hfp b hb).2.1 e
  ·exact (hfp b hb).2.2.1 e
 funs:=I.stack
 frf:=I.stkFree
theorem KU (I:Inv X aa σ H s) (hf:CompFits1 X.env.scope scope X.N N' ix z) (c1:∀ x c,cl.lookup x=some c->X.env.cells.lookup x=some c) (c2:∀ y ∈ scope.names,y.2=.free->∃ c,cl.lookup y.1=some c)
  (hC:s.heap.objs.size <= C) (hZ:s.heap.objs.size <= Z) (hfp:∀ b ∈ fp,DW X aa H b) (hlt:∀ b ∈ fp,b < s.heap.objs.size) {h₁:Heap} {tk:Nat} {m:SV} (old:∀ b o,s.heap.get? b=some o->h₁.get? b=some o) (hns:h₁.Ns C m)
  (af:∃ v,h₁.IsCell Z v):Inv (A3 z X N' scope ((z,Z) :: cl) s H C fp (X.pn++aa)) [] (Bv ix σ) H { s with heap:=h₁,toks:=tk } where
 ok:=Pe I hf c1 c2 hC hZ hfp hlt
 os:=rfl
 bare:=I.bare
 base:=Un.kept old
 loc:=⟨m,hns,fun j x v e1 e2 e3=>by
  obtain ⟨i,ei,ev⟩:=Mp e2;obtain ⟨hN,bf⟩:=hf.slot j x i e1 ei;obtain ⟨mX,_,hl⟩:=I.loc;have hm:(x,NameKind.free) ∈ scope.names:=mem_of_lookup bf;have hk:=hf.free _ hm rfl;obtain ⟨u,r,q⟩:=hl i x v hN ev (.inr hk);refine ⟨u,r,.inr ⟨Cu (env:=X.env) bf,?_⟩⟩;obtain ⟨c,hc⟩:=c2 _ hm rfl
  have hxz:(x == z)=false:=by
   cases hxz:x == z with
   | false=>rfl
   | true =>
    have e:x=z:=by simpa using hxz
    rw [e,hf.own] at bf;cases bf
  refine ⟨c,by show ((z,Z) :: cl).lookup x=some c; simp only [lookup_cons,hxz]; exact hc,?_⟩;rcases q with ⟨k,_⟩ | ⟨_,c',hc',z⟩
  ·have k':X.env.scope.names.lookup x=some .local:=k;rcases hk with a | a <;> (rw [k'] at a; cases a)
  ·rw [c1 x c hc] at hc';cases hc'
   exact z.keeps old⟩
 cell:=fun x c e=>by
  rcases G7 c1 e with q | q
  ·obtain ⟨v,z⟩:=I.cell x c q;exact ⟨v,z.keeps old⟩
  ·rw [q.2]; exact af
 free:=I.hok.fresh hC
 freeC:=fun x c e=>(G7 c1 e).elim (fun q=>I.freeC x c q) fun q=>q.2 ▸ I.hok.fresh hZ
 pin:=fun p hp=>by
  have hp':p ∈ X.pn++aa:=by
   have z:=hp;rw [append_nil] at z;exact z
  obtain ⟨e,n,ne,nf,d⟩:=I.pin p hp';refine ⟨old _ _ e,n,Nat.ne_of_lt (Nat.lt_of_lt_of_le (lt_size e) hC),fun z=>?_,d⟩;rcases mem_cons.mp (I.stkSub p.1 z) with q | q
  ·exact ne q
  ·exact nf q
 hok:=I.hok.kept old
 len:=by
  show (Bv ix σ).length=N'.length;unfold Bv;rw [AI]; exact hf.len
theorem Lk {pins':LO} {σ':St} {s':Shared} (I:Inv X aa σ H s) (hfp:∀ b ∈ fp,DW X aa H b) (J:Inv (A3 z X N' scope cl s H C fp (X.pn++aa)) pins' σ' H' s'):Inv X aa σ H' s' :=
 I.call' (ch:=fp) J.os J.base J.hok J.bare fun b hb=>⟨(hfp b hb).2.2.2.1,(hfp b hb).2.1,(hfp b hb).2.2.2.2.1,(hfp b hb).2.2.2.2.2⟩
end
section
variable {tg iter elt:Expr} {ifs:List Expr} {scope:Scope} {pos':Pos} {N':List Str} {ix:List (Option Nat)} {wi:TI} {g:TG} {tt:TT}
theorem G8 {z:Str} {RD:Cx->Prop} {use:Option (Value->Sem Unit)} {Qv:VS} (hf:CompFits1 X.env.scope scope X.N N' ix z) (hc:∀ cl s H C fp aa,RD (A3 z X N' scope cl s H C fp (X.pn++aa))) (hi:PIg RD X tg iter wi)
  (hg:∀ cl s H C fp pn,PGk (A3 z X N' scope cl s H C fp pn) tg ix g) (ht:∀ cl s H C fp pn,PTs (A3 z X N' scope cl s H C fp pn) ifs tt) (he:∀ cl s H C fp pn,PE (A3 z X N' scope cl s H C fp pn) elt te)
  (hs:∀ x,foldedSetIterable iter X.env x=pure x) {aa:LO} {s:Shared} {σ:St} {H:Hp} {R:List V->Hp->Prop} (I:Inv X aa σ H s) (h:Bc wi g tt te ix R σ H)
  (ck:∀ s' ys H' D C m,Inv X aa σ (upd H' D (.lst ys)) s'->R ys H'->H' D=none->s'.heap.Ns C m->X.s₀.heap.objs.size <= C->C ≠ X.env.locals->(∀ x c,X.env.cells.lookup x=some c->c ≠ C)->(∀ p ∈ X.pn++aa,p.1 ≠ C) ->
   upd H' D (.lst ys) C=none->compPost (model X.prog X.w) X.A X.xe use Qv (.ref D) C (.ok .next) s') :
  wpAny (model X.prog X.w) X.A (comprehension (.ListComp elt [⟨tg,iter,ifs,0⟩] scope pos) scope X.env pos' (newList []) false (eval iter X.env) use) Qv X.xe s:=by
 obtain ⟨cl,cm,c1,c2⟩:=Mo (env:=X.env) (scope:=scope) fun y hy hyf=>by
  have:=hf.free y hy hyf;exact I.ok.has y.1 this
 refine wpAny_comprehension_free (use:=use) rfl hs cm hf.kind hf.loc (thn (hi aa s σ H _ I h) fun v s1 h1=>thn h1 fun itv s2 h2=>?_);obtain ⟨it,fp,tn,J,H2,e,I2,T,st2,f2,W,⟨m0,w0⟩,turn⟩:=h2;subst e
 have hlt:∀ b ∈ fp,b < s2.heap.objs.size:=fun b hb=>by
  obtain ⟨o,e,_⟩:=T.obj _ _ st2 b hb;exact lt_size e
 refine wpAny_newObj_type (Lj (cl:=cl) hf.cf hf.pc fun h₁ hns₁ hcl₁ old₁=>?_)
 dsimp only at hns₁ hcl₁ old₁ ⊢
 generalize hH2:s2.heap.push { cls:=.type "list", dict:=none,data:=.seq ([]:List Value).toArray }=HP at hns₁ hcl₁ old₁ ⊢;have hC:HP.objs.size=s2.heap.objs.size + 1:=by rw [← hH2,size_push]
 have hDC:s2.heap.objs.size ≠ HP.objs.size:=by rw [hC]; exact Nat.ne_of_lt (Nat.lt_succ_self _)
 have hCle:s2.heap.objs.size <= HP.objs.size:=by rw [hC]; exact Nat.le_succ _
 have hDZ:s2.heap.objs.size < HP.objs.size + 1:=by rw [hC]; omega
 have old:∀ b o,s2.heap.get? b=some o->h₁.get? b=some o:=fun b o e=>old₁ b o (hH2 ▸ get?_push_of_some _ e);have cn:h₁.get? s2.heap.objs.size=some { cls:=.type "list", dict:=none,data:=.seq ([]:List Value).toArray }:=old₁ _ _ (hH2 ▸ get?_push_size _ rfl);generalize hZZ:HP.objs.size + 1=Z at *;generalize hCC:HP.objs.size=C at *;generalize hDD:s2.heap.objs.size=D at *;have IX:=KU (N':=N') (fp:=fp) I2 hf c1 c2 (by rw [hDD]; exact hCle) (by rw [hDD]; exact Nat.le_of_lt hDZ) f2 (by rw [hDD]; exact hlt) (tk:=s2.toks) old hns₁ ⟨_,hcl₁⟩;have hDn:H2 D=none:=I2.hok.fresh (by rw [hDD]; exact Nat.le_refl _)
 have hDfs:D ∉ frs X.stack:=fun z=>by
  rcases mem_cons.mp (I2.stkSub D z) with q | q
  ·have:=I2.lt; rw [← q,hDD] at this; exact Nat.lt_irrefl _ this
  ·exact I2.nofs (by rw [hDD]; exact Nat.le_refl _) q
 have cellLt:∀ x c,X.env.cells.lookup x=some c->c < D:=fun x c e=>by
  obtain ⟨v,z⟩:=I2.cell x c e;rw [← hDD]; exact z.lt
 have pinLt:∀ p ∈ X.pn++aa,p.1 < D:=fun p hp=>by rw [← hDD]; exact lt_size (I2.pin p hp).1
 have s0D:X.s₀.heap.objs.size <= D:=by rw [← hDD]; exact I2.sz
 have locLt:X.env.locals < D:=by rw [← hDD]; exact I2.lt
 let X':Cx:=A3 z X N' scope ((z,Z) :: cl) s2 H2 C fp (X.pn++aa)
 have stat:∀ {H':Hp} {ob:Obj},(∀ b ∈ fp,H' b=none)->∀ b ∈ fp,DW X' [(D,ob)] H' b:=fun {H' ob} hn b hb=>by
  refine ⟨hn b hb,Nat.ne_of_lt (Nat.lt_of_lt_of_le (hlt b hb) hCle),fun z=>?_,.inl hb,fun x c e=>(G7 c1 e).elim (fun q=>(f2 b hb).2.2.2.2.1 x c q) (fun q=>q.2 ▸ Nat.ne_of_gt (Nat.lt_trans (hlt b hb) hDZ)),fun p hp=>?_⟩
  ·exact IX.ok.exfs b hb z
  ·rcases mem_append.mp hp with z | z
   ·exact (f2 b hb).2.2.2.2.2 p z
   ·have e:p=(D,ob):=by simpa using z
    subst e;exact Nat.ne_of_gt (hlt b hb)
 have pinD:∀ {σ':St} {H':Hp} {s':Shared} {ob:Obj},Inv X' [] σ' H' s'->s'.heap.get? D=some ob->H' D=none->(∀ v,ob.data ≠ .cell v)->Inv X' [(D,ob)] σ' H' s':=fun {σ' H' s' ob} Ia e n d =>
  Ia.pins_of fun p hp=>by
   have q:p=(D,ob):=by simpa using hp
   subst q;exact ⟨e,n,hDC,hDfs,d⟩
 have loop:∀ s3:Shared,s3={ s2 with heap:=h₁,toks:=s2.toks } ->
   codeAny (model X.prog X.w) X.A (.compLoop (.ListComp elt [⟨tg,iter,ifs,0⟩] scope pos) 0 (.ref it) (.ref D) (compEnvC scope ((z,Z) :: cl) C X.env)) (compPost (model X.prog X.w) X.A X.xe use Qv (.ref D) C) s3:=by
  rintro s3 rfl
  refine codeAny_loop rfl (fun n s'=>∃ i ys its k H',Inv X' [(D,({ cls:=.type "list", data:=.seq (List.toArray its) k }:Obj))] (Bv ix σ) H' s'/\tn i s'.heap/\(∀ b ∈ fp,H' b=none)/\W i n ys H'/\Vals ys its)
   (fun n s4 hI=>?_) m0 ⟨0,[],[],_,H2,pinD IX cn hDn (fun v z=>by cases z),T.keep _ _ _ st2 (fun b _ o e=>old b o e),fun b hb=>(f2 b hb).1,w0,.nil⟩
  obtain ⟨i,ys,its,k,H4,I4,st4,fr4,w4,rv⟩:=hI;show wpAny _ X.A ((compTurn (.ListComp elt [⟨tg,iter,ifs,0⟩] scope pos) 0 (.ref it) (.ref D) (compEnvC scope ((z,Z) :: cl) C X.env)).onRaise (fun x=>do noteFrame x (compEnvC scope ((z,Z) :: cl) C X.env); theTreesLotGoes x)) _ _ s4;refine wpAny_noted ?_;rw [compTurn_list];refine C4 ?_;rcases turn i n ys H4 w4 with ⟨stop,hz,r⟩ | ⟨go,N,hN,step⟩
  ·refine wpAny_bind (wpAny_standAt (wpAny_bind (thn (T.done X' rfl rfl rfl (hc _ _ _ _ _ _) i _ s4 _ H4 _ I4 (stat fr4) st4 stop) fun r' s5 ⟨hr,I5⟩=>?_)));subst hr;have pD:=I5.pin (D,_) (mem_append_right _ mem_cons_self);have Ib:Inv X aa σ H4 s5:=Lk I2 f2 I5;have Ic:Inv X aa σ (upd H4 D (.lst ys)) s5:=Ib.track pD.2.1 (Nat.ne_of_gt locLt) (.inr s0D) (fun x c e=>Nat.ne_of_lt (cellLt x c e)) (fun p hp=>Nat.ne_of_lt (pinLt p hp)) ⟨hz,its,k,rv,pD.1⟩;obtain ⟨m5,n5,_⟩:=I5.loc
   refine wpAny_pure (ck s5 ys H4 D C m5 Ic r pD.2.1 n5 (Nat.le_trans s0D hCle) (Nat.ne_of_gt (Nat.lt_of_lt_of_le locLt hCle)) (fun x c e=>Nat.ne_of_lt (Nat.lt_of_lt_of_le (cellLt x c e) hCle))
    (fun p hp=>Nat.ne_of_lt (Nat.lt_of_lt_of_le (pinLt p hp) hCle)) ?_)
   rw [AE (Ne.symm hDC)];exact I5.free
  ·refine wpAny_bind (wpAny_standAt (wpAny_bind (thn (T.item X' rfl rfl rfl (hc _ _ _ _ _ _) i _ s4 _ H4 _ I4 (stat fr4) st4 go) fun r' s5 ⟨u,hr,h5⟩=>?_)));subst hr;refine wpAny_bind (thn h5 fun _ s6 ⟨x,H6,I6,r6,y6,st6,fr6⟩=>?_);have I6':=I6.pinned (stat fr6) (T.obj _ _ st6);refine wpAny_bind (thn (hg _ _ _ _ _ _ _ s6 _ H6 x u _ I6' r6 (step x H6 y6)) fun _ s7 ⟨σ7,H7,I7,k7,q7⟩=>?_);refine wpAny_bind (thn (ht _ _ _ _ _ _ _ s7 σ7 H7 _ I7 q7) fun b s8 ⟨H8,I8,q8⟩=>?_)
   have again:∀ {H9:Hp} {s9:Shared} {ys':List V} {its':List Value} {k':Nat},Inv X' ([(D,({ cls:=.type "list", data:=.seq (List.toArray its') k' }:Obj))]++Cq fp s6.heap) σ7 H9 s9->Vals ys' its' ->
     (∃ m',m' < n/\W (i + 1) m' ys' H9)->∃ m,m < n/\∃ i ys its k H',Inv X' [(D,({ cls:=.type "list", data:=.seq (List.toArray its) k }:Obj))] (Bv ix σ) H' s9/\tn i s9.heap/\(∀ b ∈ fp,H' b=none)/\W i m ys H'/\Vals ys its:=by
    intro H9 s9 ys' its' k' I9 rv' ⟨m',hm,w9⟩;refine ⟨m',hm,i + 1,ys',its',k',H9,I9.unpinned.weak (I4.len.trans I9.len.symm) k7,T.keep _ _ _ st6 fun b hb o e=>(I9.pin (b,o) (mem_append_right _ (mem_append_right _ (Bw hb e)))).1,fun b hb=>?_,w9,rv'⟩;obtain ⟨o,e,d⟩:=T.obj _ _ st6 b hb;exact (I9.pin (b,o) (mem_append_right _ (mem_append_right _ (Bw hb e)))).2.1
   cases b with
   | false =>
    rw [if_neg Bool.false_ne_true] at q8;exact wpAny_pure ⟨rfl,again I8 rv (hN _ _ q8).2⟩
   | true =>
    rw [if_pos rfl] at q8;refine wpAny_bind (wpAny_bind (thn (he _ _ _ _ _ _ _ s8 σ7 H8 _ I8 q8) fun y s9 ⟨z,H9,I9,r9,q9⟩=>?_))
    have hz:ys.length < sizeLine:=by
     have:=(hN _ _ q9).1;rw [length_append,length_singleton] at this;omega
    have pD:=I9.pin (D,_) (mem_append_right _ (mem_append_left _ mem_cons_self));have ay:=rv.length;refine wpAny_bind (call_meets F.slot_list_append ⟨_,pD.1,rfl⟩ F.entry_list_append (F.args_list_append_2 _ _) (PySem.list_append D its.toArray k y (by rw [size_toArray]; omega)) ⟨pD.1,wpAny_pure (wpAny_pure ⟨rfl,?_⟩)⟩);have eq':its.toArray.push y=(its++[y]).toArray:=by simp
    obtain ⟨k',q⟩:∃ k',(s9.heap.update D (Obj.mapSeq (·.push y))).get? D=some { cls:=.type "list", data:=.seq (its++[y]).toArray k' }:=⟨_,by rw [← eq']; exact PySem.IsL.update pD.1 (·.push y)⟩;have Iw:Inv X' (Cq fp s6.heap) σ7 H9 s9:=I9.pins_of fun p hp=>I9.pin p (mem_append_right _ (mem_append_right _ hp))
    have It:Inv X' (Cq fp s6.heap) σ7 H9 { s9 with heap:=s9.heap.update D (Obj.mapSeq (·.push y)),toks:=s9.toks }:=Iw.turned (it:=D) (fun b o hb e=>(get?_update_other s9.heap (Obj.mapSeq (·.push y)) (Ne.symm hb)).trans e) pD.2.1 hDC
     (.inr (by show s2.heap.objs.size <= D; rw [hDD]; exact Nat.le_refl _)) (fun x c e=>(G7 c1 e).elim (fun q=>Nat.ne_of_lt (cellLt x c q)) (fun q=>q.2 ▸ Nat.ne_of_gt hDZ)) (fun p hp=>by
      rcases mem_append.mp hp with z' | z'
      ·exact Nat.ne_of_lt (pinLt p z')
      ·exact Nat.ne_of_lt (hlt p.1 (FQ z').1))
    refine again (its':=its++[y]) (k':=k') (It.pins_of fun p hp=>?_) (rv.append (.cons r9 .nil)) (hN _ _ q9).2;rcases mem_append.mp hp with z' | z'
    ·have e:p=(D,({ cls:=.type "list", data:=.seq (its++[y]).toArray k' }:Obj)):=by simpa using z'
     subst e;exact ⟨q,pD.2.1,hDC,hDfs,fun v z=>by cases z⟩
    ·exact It.pin p (mem_append_right _ z')
 exact codeAny_compStart_list (loop _ rfl) (T.self _ 0 _ _ _ (T.keep _ _ _ st2 fun b _ o e=>old b o e) (loop _ rfl))
theorem N1 {z:Str} (hf:CompFits1 X.env.scope scope X.N N' ix z) (hc:X.calm=true) (hi:PI X tg iter wi)
  (hg:∀ cl s H C fp pn,PGk (A3 z X N' scope cl s H C fp pn) tg ix g) (ht:∀ cl s H C fp pn,PTs (A3 z X N' scope cl s H C fp pn) ifs tt) (he:∀ cl s H C fp pn,PE (A3 z X N' scope cl s H C fp pn) elt te)
  (hs:∀ x,foldedSetIterable iter X.env x=pure x:=by intro _; rfl) :
  PE X (.ListComp elt [⟨tg,iter,ifs,0⟩] scope pos) (fun σ H Q=>Bc wi g tt te ix (fun ys H'=>∀ p,H' p=none->Q (.ref p) (upd H' p (.lst ys))) σ H):=by
 intro aa s σ H Q I h;rw [eval_ListComp];refine G8 (use:=none) hf (fun _ _ _ _ _ _=>hc) hi.g hg ht he hs I h fun s' ys H' D C m I' r hD hn h1 h2 h3 h4 h5=>?_;refine ⟨m,hn,fun h'' hs''=>⟨.ref D,_,I'.turned (it:=C) (t':=s'.toks) (fun b o hb e=>(hs''.2 b hb).trans e) h5 h2 (.inr h1) h3 h4,rfl,r D hD⟩⟩
theorem N2 {z:Str} {i:Nat} {py spos:Pos} (hN:X.N.Nodup) (hi':X.N[i]?=some x) (hx:X.env.scope.names.lookup x=some .local) (hsw:swapsWith (.ListComp elt [⟨tg,iter,ifs,0⟩] scope pos) (some (.Name x py)) spos.line X.env=pure true)
  (hf:CompFits1 X.env.scope scope X.N N' ix z) (hc:X.calm=true) (hi:PI X tg iter wi)
  (hg:∀ cl s H C fp pn,PGk (A3 z X N' scope cl s H C fp pn) tg ix g) (ht:∀ cl s H C fp pn,PTs (A3 z X N' scope cl s H C fp pn) ifs tt) (he:∀ cl s H C fp pn,PE (A3 z X N' scope cl s H C fp pn) elt te)
  (hs:∀ x,foldedSetIterable iter X.env x=pure x:=by intro _; rfl) :
  PS X (.Assign [.Name x py] (.ListComp elt [⟨tg,iter,ifs,0⟩] scope pos) spos) (fun D σ H=>Bc wi g tt te ix (fun ys H'=>∀ p,H' p=none->D.nx (σ.set i (some (.ref p))) (upd H' p (.lst ys))) σ H):=by
 intro aa s σ H D I h;rw [exec_Assign_Name_used _ _ _ _ hsw];refine wpAny_bind (wpAny_standAt (wpAny_bind ?_));show wpAny _ X.A (do let _ ← comprehension (.ListComp elt [⟨tg,iter,ifs,0⟩] scope pos) scope X.env _ (newList []) false (eval iter X.env) (some (assign (.Name x py) X.env))) _ _ s;refine wpAny_bind (thn (G8 (use:=some (assign (.Name x py) X.env)) (Qv:=fun _ s'=>SP X aa D .next s') hf (fun _ _ _ _ _ _=>hc) hi.g hg ht he hs I h fun s' ys H' Da C m I' r hD hn h1 h2 h3 h4 h5=>?_) fun _ s' hq=>wpAny_pure (wpAny_pure hq));show wpAny _ X.A (assign (.Name x py) X.env (.ref Da)) _ _ _;refine wpAny_assign_Name (FO (v:=.ref Da) I' hN hi' (.inl hx) rfl (fun s'' I'' ⟨a,hsb,ha⟩=>?_) (.inr hx))
 have hCa:C ≠ a:=by
  rcases ha with z | z
  ·rw [z]; exact h2
  ·exact (h3 x a z).symm
 refine ⟨m,hn.sameBut hsb hCa,fun h'' hs''=>?_⟩;exact ⟨_,_,I''.turned (it:=C) (t':=s''.toks) (fun b o hb e=>(hs''.2 b hb).trans e) h5 h2 (.inr h1) h3 h4,r Da hD⟩
end
section
variable {iter elt:Expr} {ifs:List Expr} {scope:Scope} {px py pt:Pos} {wi:TI} {tt:TT} {y:Str} {kt:Nat}
theorem N3 (Nc:List Str) (ixc:List (Option Nat)) (hf:JW X.env.scope scope X.N (x :: y :: Nc) (none :: none :: ixc) y=true) (hcf:∀ n cl,cellsFrom n scope.names cl=(y,n) :: cl)
  (hpc:∀ h,pushCells h scope.names=h.push { cls:=.type "cell", data:=.cell none }) (hnd:(x :: y :: Nc).Nodup) (hx:scope.names.lookup x=some .local) (hy:scope.names.lookup y=some .cell) (hc:X.calm=true)
  (hi:PI X (.Tuple [.Name x px,.Name y py] kt pt) iter wi)
  (ht:∀ cl s H C fp pn,PTs (A3 y X (x :: y :: Nc) scope cl s H C fp pn) ifs tt) (he:∀ cl s H C fp pn,PE (A3 y X (x :: y :: Nc) scope cl s H C fp pn) elt te) (hs:∀ x,foldedSetIterable iter X.env x=pure x:=by intro _; rfl) :
  PE X (.ListComp elt [⟨.Tuple [.Name x px,.Name y py] kt pt,iter,ifs,0⟩] scope pos) (fun σ H Q=>Bc wi (g2 X.K) tt te (none :: none :: ixc) (fun ys H'=>∀ p,H' p=none->Q (.ref p) (upd H' p (.lst ys))) σ H) :=
 N1 (CompFits1.of hf hcf hpc) hc hi (fun cl s H C fp pn=>Ez (BO (X:=A3 y X (x :: y :: Nc) scope cl s H C fp pn) hc (AO (AM (i:=0) hnd rfl (.inl (lookup_relabel_local hx)) (.inr (lookup_relabel_local hx)))
  (AO (AM (i:=1) hnd rfl (.inr (Cw (env:=X.env) hy)) (.inl (beq_self_eq_true y))) A2)))) ht he hs
theorem N4 {i:Nat} {z:Str} {pz spos:Pos} (hN:X.N.Nodup) (hi':X.N[i]?=some z) (hz:X.env.scope.names.lookup z=some .local) (Nc:List Str) (ixc:List (Option Nat)) (hf:JW X.env.scope scope X.N (x :: y :: Nc) (none :: none :: ixc) y=true)
  (hcf:∀ n cl,cellsFrom n scope.names cl=(y,n) :: cl) (hpc:∀ h,pushCells h scope.names=h.push { cls:=.type "cell", data:=.cell none }) (hnd:(x :: y :: Nc).Nodup)
  (hx:scope.names.lookup x=some .local) (hy:scope.names.lookup y=some .cell) (hc:X.calm=true) (hi:PI X (.Tuple [.Name x px,.Name y py] kt pt) iter wi)
  (ht:∀ cl s H C fp pn,PTs (A3 y X (x :: y :: Nc) scope cl s H C fp pn) ifs tt) (he:∀ cl s H C fp pn,PE (A3 y X (x :: y :: Nc) scope cl s H C fp pn) elt te)
  (hsw:swapsWith (.ListComp elt [⟨.Tuple [.Name x px,.Name y py] kt pt,iter,ifs,0⟩] scope pos) (some (.Name z pz)) spos.line X.env=pure true:=by rfl) (hs:∀ x,foldedSetIterable iter X.env x=pure x:=by intro _; rfl) :
  PS X (.Assign [.Name z pz] (.ListComp elt [⟨.Tuple [.Name x px,.Name y py] kt pt,iter,ifs,0⟩] scope pos) spos) (fun D σ H=>Bc wi (g2 X.K) tt te (none :: none :: ixc) (fun ys H'=>∀ p,H' p=none->D.nx (σ.set i (some (.ref p))) (upd H' p (.lst ys))) σ H) :=
 N2 hN hi' hz hsw (CompFits1.of hf hcf hpc) hc hi (fun cl s H C fp pn=>Ez (BO (X:=A3 y X (x :: y :: Nc) scope cl s H C fp pn) hc (AO (AM (i:=0) hnd rfl (.inl (lookup_relabel_local hx)) (.inr (lookup_relabel_local hx)))
  (AO (AM (i:=1) hnd rfl (.inr (Cw (env:=X.env) hy)) (.inl (beq_self_eq_true y))) A2)))) ht he hs
end
end L2
end
section
namespace MK
open PySem
theorem Cl (a b:Nat):Builtin.bitAnd (a:Int) (b:Int)=((a &&& b:Nat):Int):=by
 rw [PyProof.Rows.bitAnd_pp (Int.natCast_nonneg _) (Int.natCast_nonneg _)]; simp
theorem EL (a b:Nat):Builtin.bitOr (a:Int) (b:Int)=((a ||| b:Nat):Int):=by
 have ha:¬ (0:Int) <= Builtin.bitNot (a:Int):=by unfold Builtin.bitNot; omega
 have hb:¬ (0:Int) <= Builtin.bitNot (b:Int):=by unfold Builtin.bitNot; omega
 unfold Builtin.bitOr;rw [PyProof.Rows.bitAnd_nn ha hb];have e:∀ n:Nat,(Builtin.bitNot (Builtin.bitNot (n:Int))).toNat=n:=fun n=>by unfold Builtin.bitNot; omega
 rw [e a,e b];unfold Builtin.bitNot; omega
theorem Ll (a b:Nat):Builtin.bitAnd (a:Int) (Builtin.bitNot (b:Int))=((a - (a &&& b):Nat):Int):=by
 rw [PyProof.Rows.bitAnd_not,Cl];have:a &&& b <= a:=Nat.and_le_left;omega
noncomputable def Av (l:List Nat):Nat:=l.foldl (· ||| ·) 0
theorem E6 (k:Nat):∀ (l:List Nat) (a:Nat),(l.foldl (· ||| ·) a).testBit k=(a.testBit k || l.any (·.testBit k))
 | [],a=>by simp
 | x :: r,a=>by rw [foldl_cons,E6 k r,Nat.testBit_or,any_cons,Bool.or_assoc]
theorem CY (l:List Nat) (k:Nat):(Av l).testBit k=l.any (·.testBit k):=by
 unfold Av; rw [E6]; simp
theorem KW {l:List Nat} {m:Nat} (h:∀ n ∈ l,n < 2 ^ m):Av l < 2 ^ m:=by
 have:∀ (l:List Nat) (a:Nat),a < 2 ^ m->(∀ n ∈ l,n < 2 ^ m)->l.foldl (· ||| ·) a < 2 ^ m:=by
  intro l;induction l with
  | nil=>intro a ha _; exact ha
  | cons x r ih=>intro a ha hl; exact ih _ (Nat.or_lt_two_pow ha (hl x mem_cons_self)) fun n hn=>hl n (mem_cons_of_mem _ hn)
 exact this l 0 (Nat.two_pow_pos m) h
theorem EM (l:List Nat) (n:Nat):Av (l++[n])=Av l ||| n:=by unfold Av; rw [foldl_append]; rfl
noncomputable def Aw (n:Nat):Bool:=decide (0 < n) && decide (n &&& (n - 1)=0)
theorem Lm (k:Nat):Aw (2 ^ k)=true:=by
 unfold Aw;have h0:0 < 2 ^ k:=Nat.two_pow_pos k
 have h1:2 ^ k &&& (2 ^ k - 1)=0:=by
  apply Nat.eq_of_testBit_eq;intro i;rw [Nat.testBit_and,Nat.testBit_two_pow,Nat.testBit_two_pow_sub_one,Nat.zero_testBit];by_cases e:k=i
  ·subst e; simp
  ·simp [e]
 simp [h0,h1]
theorem BB {n:Nat} (h:Aw n=true):∃ k,n=2 ^ k:=by
 unfold Aw at h;simp only [Bool.and_eq_true,decide_eq_true_eq] at h;obtain ⟨h0,h1⟩:=h;refine ⟨n.log2,?_⟩;have hlo:2 ^ n.log2 <= n:=Nat.log2_self_le (by omega);have hhi:n < 2 ^ (n.log2 + 1):=Nat.lt_log2_self;rcases Nat.eq_or_lt_of_le hlo with e | hlt
 ·exact e.symm
 ·exfalso
  have b1:n.testBit n.log2=true:=by
   rw [Nat.testBit_eq_decide_div_mod_eq];simp
   have:n / 2 ^ n.log2=1:=by
    apply Nat.div_eq_of_lt_le <;> (try rw [Nat.pow_succ] at hhi) <;> omega
   rw [this]
  have b2:(n - 1).testBit n.log2=true:=by
   rw [Nat.testBit_eq_decide_div_mod_eq];simp
   have:(n - 1) / 2 ^ n.log2=1:=by
    apply Nat.div_eq_of_lt_le <;> (try rw [Nat.pow_succ] at hhi) <;> omega
   rw [this]
  have:(n &&& (n - 1)).testBit n.log2=true:=by rw [Nat.testBit_and,b1,b2]; rfl
  rw [h1,Nat.zero_testBit] at this;cases this
noncomputable def DF (n:Nat):List Nat:=(List.range 42).filter fun k=>n.testBit k
theorem G9 {α:Type} [DecidableEq α] {p:α->Bool}:∀ {l:List α} {a:α},l.Nodup->a ∈ l->(∀ b ∈ l,p b=true ↔ b=a)->l.filter p=[a]
 | [],_,_,h,_=>by cases h
 | b :: r,a,hn,ha,hp=>by
  obtain ⟨n1,n2⟩:=nodup_cons.mp hn;by_cases e:b=a
  ·subst e;have hb:p b=true:=(hp b mem_cons_self).mpr rfl;rw [filter_cons,if_pos hb];congr 1;apply List.filter_eq_nil_iff.mpr;intro c hc hpc;have:=(hp c (mem_cons_of_mem _ hc)).mp hpc;exact n1 (this ▸ hc)
  ·have hb:¬ p b=true:=fun z=>e ((hp b mem_cons_self).mp z);rw [filter_cons,if_neg hb];rcases mem_cons.mp ha with z | z
   ·exact absurd z.symm e
   ·exact G9 n2 z fun c hc=>hp c (mem_cons_of_mem _ hc)
theorem Hw {n:Nat} (hn:n < 2 ^ 42):decide ((DF n).length=1)=Aw n:=by
 rw [Bool.eq_iff_iff,decide_eq_true_eq];constructor
 ·intro h;obtain ⟨k,hk⟩:∃ k,DF n=[k]:=List.length_eq_one_iff.mp h
  have mem:∀ i,i < 42->(n.testBit i=true ↔ i=k):=fun i hi=>by
   have:i ∈ DF n ↔ i=k:=by rw [hk]; simp
   unfold DF at this;rw [mem_filter] at this;constructor
   ·intro hb; exact this.mp ⟨mem_range.mpr hi,hb⟩
   ·intro e; exact (this.mpr e).2
  have hk42:k < 42:=by
   have:k ∈ DF n:=by rw [hk]; simp
   unfold DF at this;exact mem_range.mp (mem_filter.mp this).1
  have e:n=2 ^ k:=by
   apply Nat.eq_of_testBit_eq;intro i;rw [Nat.testBit_two_pow];by_cases hi:i < 42
   ·rw [Bool.eq_iff_iff,mem i hi,decide_eq_true_eq]; exact eq_comm
   ·have h1:n.testBit i=false:=Nat.testBit_lt_two_pow (Nat.lt_of_lt_of_le hn (Nat.pow_le_pow_right (by decide) (by omega)));rw [h1]; symm; rw [decide_eq_false_iff_not]; omega
  rw [e]; exact Lm k
 ·intro h;obtain ⟨k,rfl⟩:=BB h;have hk:k < 42:=(Nat.pow_lt_pow_iff_right (by decide)).mp hn
  have:DF (2 ^ k)=[k]:=by
   unfold DF;refine G9 List.nodup_range (mem_range.mpr hk) fun b _=>?_;rw [Nat.testBit_two_pow,decide_eq_true_eq]; exact eq_comm
  rw [this]; rfl
noncomputable def BY (m:Nat):Nat:=2 ^ (Builtin.Int.intBits (m:Int))
theorem Dg {m:Nat} (h:0 < m):Builtin.Int.intBits (m:Int)=m.log2 + 1:=by
 unfold Builtin.Int.intBits;have:((m:Int) == 0)=false:=by rw [beq_eq_false_iff_ne]; omega
 rw [this]; simp
theorem KY {m k:Nat} (h1:m < 2 ^ k) (h2:k=0\/2 ^ (k - 1) <= m):2 ^ k=BY m:=by
 unfold BY;congr 1;rcases Nat.eq_zero_or_pos m with e | hm
 ·subst e
  have:k=0:=by
   rcases h2 with z | z
   ·exact z
   ·have:=Nat.two_pow_pos (k - 1); omega
  rw [this]; rfl
 ·rw [Dg hm];rcases h2 with z | z
  ·subst z; simp at h1; omega
  ·have hk:0 < k:=by rcases Nat.eq_zero_or_pos k with e | e
                     ·subst e; simp at h1; omega
                     ·exact e
   have e:m.log2=k - 1:=by
    apply Nat.le_antisymm
    ·have:m.log2 < k:=(Nat.log2_lt (by omega)).mpr h1;omega
    ·exact (Nat.le_log2 (by omega)).mpr z
   omega
theorem Pf:∀ {l:List Nat} {a:Nat},(∀ n ∈ l,Aw n=true)->l.Pairwise (· < ·)->(∀ n ∈ l,a &&& n=0)->a + l.sum=l.foldl (· ||| ·) a
 | [],a,_,_,_=>by simp
 | n :: r,a,hm,hp,ha=>by
  obtain ⟨p1,p2⟩:=List.pairwise_cons.mp hp;have han:=ha n mem_cons_self
  have e:a ||| n=a + n:=by
   have h:=PyProof.Rows.bitOr_and (a:Int) (n:Int);rw [EL,Cl,han] at h;omega
  rw [sum_cons,foldl_cons,← Pf (a:=a ||| n) (fun m hm'=>hm m (mem_cons_of_mem _ hm')) p2 (fun m hm'=>?_),e]
  ·omega
  ·obtain ⟨i,rfl⟩:=BB (hm n mem_cons_self);obtain ⟨j,rfl⟩:=BB (hm m (mem_cons_of_mem _ hm'));have hlt:=p1 _ hm';have haj:=ha _ (mem_cons_of_mem _ hm');apply Nat.eq_of_testBit_eq;intro t;rw [Nat.testBit_and,Nat.testBit_or,Nat.zero_testBit];have h1:(a &&& 2 ^ j).testBit t=false:=by rw [haj]; exact Nat.zero_testBit t
   rw [Nat.testBit_and] at h1;rw [Bool.and_or_distrib_right,h1,Nat.testBit_two_pow,Nat.testBit_two_pow];have:i ≠ j:=fun e=>by subst e; omega
   by_cases e1:i=t
   ·have:¬ j=t:=by omega
    simp [this]
   ·simp [e1]
theorem N5 {l:List Nat} (hm:∀ n ∈ l,Aw n=true) (hp:l.Pairwise (· < ·)):l.sum=Av l:=by
 have:=Pf (a:=0) hm hp (fun n _=>by simp);unfold Av;omega
end MK
end
end
variable {P:PySem.Program} {w:PySem.World} {K:FG} {mg:SV} {base:PySem.Heap} {f:PySem.Addr} {fd:PySem.FuncData} {H:L2.Hp} {H':L2.Hp} {due:Aa} {ac:Aa} {C:PySem.Addr} {VC:PySem.Addr} {EC:PySem.Addr}
section
namespace Mk
open PySem L2 MK
noncomputable def top (i:Nat):Stmt:=PySem.Challenge.pw_markworks_k42_whole_never_and_always.main.body.getD i (.Pass ⟨0,0,0,0⟩)
noncomputable abbrev BE:Stmt:=inClass (top 2) 0
noncomputable abbrev HA:Stmt:=top 19
noncomputable abbrev JX:Stmt:=top 20
noncomputable abbrev JY:Stmt:=top 21
noncomputable abbrev HB:Stmt:=top 22
noncomputable abbrev FZ:Stmt:=top 23
noncomputable abbrev Dh:Stmt:=top 24
noncomputable abbrev Fa:Stmt:=top 25
noncomputable abbrev Fb:Stmt:=top 26
noncomputable abbrev EO:Stmt:=top 27
noncomputable abbrev DH:Stmt:=top 28
noncomputable abbrev EQ:Stmt:=top 29
noncomputable abbrev Fc:Stmt:=top 30
noncomputable abbrev Di:Stmt:=top 31
noncomputable abbrev BS:Stmt:=inClass (top 32) 0
noncomputable abbrev ER:Stmt:=inClass (top 32) 5
noncomputable abbrev JZ:Stmt:=top 34
noncomputable abbrev Dj:Stmt:=top 35
noncomputable abbrev Bn:Stmt:=inClass (top 36) 0
noncomputable abbrev CM:Stmt:=inClass (top 36) 2
noncomputable abbrev ES:Stmt:=inClass (top 36) 9
noncomputable abbrev DI:Stmt:=inClass (top 36) 12
noncomputable abbrev ET:Stmt:=inClass (top 36) 13
noncomputable abbrev CI:Stmt:=inClass (top 36) 14
noncomputable abbrev HC:Stmt:=top 38
noncomputable abbrev Fd:Stmt:=top 39
noncomputable abbrev HD:Stmt:=top 40
noncomputable abbrev EU:Stmt:=top 41
noncomputable abbrev Dk:Stmt:=top 42
noncomputable abbrev Al:Stmt:=top 43
noncomputable abbrev EV:Stmt:=top 44
noncomputable abbrev EW:Stmt:=top 45
noncomputable abbrev B0:Stmt:=top 46
noncomputable abbrev Dl:Stmt:=top 47
noncomputable abbrev DJ:Stmt:=top 48
noncomputable abbrev EY:Stmt:=top 49
noncomputable abbrev Fe:Stmt:=top 50
noncomputable abbrev Ci:Stmt:=top 51
structure Fn (P:Program) (w:World) (K:FG) (mg:SV) (base:Heap) (x:Str) (k:Nat) (ps:List Str) (sp:Sp):Prop where
 ex:∃ f fd,Aj P w K mg base CX0 k f fd ps sp/\mg x=some (.ref f)/\W.keepIn K (.ref f)=true/\Binds K fd ps []
structure Bl (mg:SV):Prop where
 len:mg "len" = none
 isi:mg "isinstance" = none
 max:mg "max" = none
 min:mg "min" = none
 range:mg "range" = none
 list:mg "list" = none
 tuple:mg "tuple" = none
 sorted:mg "sorted" = none
 sum:mg "sum" = none
 all:mg "all" = none
 enum:mg "enumerate" = none
 int:mg "int" = none
 bool:mg "bool" = none
 str:mg "str" = none
noncomputable def AW (ns:List Nat):List V:=ns.map fun (n:Nat)=>V.int (n:Int)
section
def HE:Sp:=fun vs H Q _=>∃ n:Nat,vs=[.int (n:Int)]/\Q (.bl (Aw n)) H
theorem Pg:AR ["number"] ["number"] (defScope JY):=fsc
theorem Ln (n:Nat):(decide (0 < (n:Int)) && decide (V.int (Builtin.bitAnd (n:Int) ((n:Int) - 1))=V.int 0))=Aw n:=by
 unfold Aw;rcases Nat.eq_zero_or_pos n with e | h
 ·subst e; rfl
 ·have e1:((n:Int) - 1)=((n - 1:Nat):Int):=by omega
  rw [e1,Cl];have e2:decide (0 < (n:Int))=true:=decide_eq_true (by omega);have e3:decide (0 < n)=true:=decide_eq_true h;rw [e2,e3];congr 1;rw [Bool.eq_iff_iff,decide_eq_true_eq,decide_eq_true_eq];constructor
  ·intro z; injection z with z; omega
  ·intro z; rw [z]; rfl
theorem N6 (F:Fun K "is_mark" "is_mark" JY f fd):Aj P w K mg base CX0 1 f fd ["number"] HE:=by
 refine F.m Pg fun vs H Q E h=>?_;obtain ⟨n,rfl,k⟩:=h;refine ⟨rfl,fun ad A outer s hr=>?_⟩;refine ⟨_,AF (AV (ED (Em MZ (pv 0) AJ (Ak _)) (EB (Em IB (AU Bx (pv 0) (AU Od (pv 0) AJ)) AJ (Ak _))))),?_⟩;rw [← Ln] at k;refine ⟨_,rfl,_,_,rfl,rfl,_,rfl,?_⟩;refine CL (fun h=>?_) (fun h=>?_)
 ·rw [h,Bool.true_and] at k;exact ⟨_,rfl,_,rfl,_,_,rfl,rfl,_,_,rfl,rfl,rfl,k⟩
 ·rw [Bool.eq_false_iff.mpr h,Bool.false_and] at k;exact k
def C6 (K:FG):Sp:=fun vs H Q _=>∃ (a:Addr) (ns:List Nat),vs=[.ref a]/\SqL K H a (AW ns)/\Q (.int (Av ns:Nat)) H
theorem scUnionOf:AR ["numbers", "bits", "number"] ["numbers"] (defScope HB):=fsc
theorem DK {ns:List Nat} {i:Nat} {x:V} (h:(AW ns)[i]?=some x):∃ n,ns[i]?=some n/\x=V.int (n:Int):=by
 unfold AW at h;rw [getElem?_map] at h;cases e:ns[i]? with
 | none=>rw [e] at h; cases h
 | some n=>rw [e] at h; exact ⟨n,rfl,(Option.some.inj h).symm⟩
theorem Lo (F:Fun K "union_of" "union_of" HB f fd):Aj P w K mg base CX0 1 f fd ["numbers"] (C6 K):=by
 refine F.m scUnionOf fun vs H Q E h=>?_;obtain ⟨a,ns,rfl,hS,k⟩:=h;refine ⟨rfl,fun ad A outer s hr=>?_⟩
 refine ⟨_,AD (Ae (i:=1) scUnionOf.nd rfl (Or.inl rfl) AJ)
  (AD (Bg PassesOwn.never rfl (Ac (pv 0)) (AM (i:=2) scUnionOf.nd rfl (Or.inl rfl))
   (AF (OY (i:=1) scUnionOf.nd rfl (Or.inl rfl) (pv 2) (SM:OpR _ _ _))))
  (AF (AV (pv 1)))),?_⟩
 refine ⟨_,rfl,a,rfl,⟨_,hS⟩,BC (K:=K) (a:=a) (xs:=AW ns) (fun i σ H2=>∃ v:Option V,σ=[some (.ref a),some (.int (Av (ns.take i):Nat)),v]/\H2=H) ⟨none,rfl,rfl⟩ (fun i σ H2 _ ⟨_,_,e⟩=>e ▸ hS) ?_ ?_⟩
 ·rintro i x σ H2 hi ⟨v,rfl,rfl⟩;obtain ⟨n,hn,rfl⟩:=DK hi;refine ⟨_,rfl,_,rfl,_,_,rfl,rfl,?_⟩;refine ⟨some (V.int (n:Int)),?_,rfl⟩;rw [take_add_one,hn,Option.toList_some,EM];show [some (V.ref a),some (V.int (Builtin.bitOr (Av (ns.take i):Nat) (n:Nat))),some (V.int (n:Int))]=_;rw [EL]
 ·rintro σ H2 ⟨v,rfl,rfl⟩;refine ⟨_,rfl,?_⟩;have e:(AW ns).length=ns.length:=by unfold AW; rw [AI]
  rw [e,take_length];exact k
end
end Mk
end
section
namespace L2
open PySem
theorem Ph {x:Str} {g:TG} {tt:TT} {te:TE} {ix:List (Option Nat)} {R:List V->Hp->Prop} {σ:St} {H1:Hp} (Pv:Nat->List V->Hp->Prop) (h0:Pv 0 [] H1) (hz:∀ i ys H,Pv i ys H->ys.length <= 1000)
  (hs:∀ (i c:Nat) ys H,x.cps[i]?=some c->Pv i ys H->g (.str ⟨#[c]⟩) (Bv ix σ) H fun σ2 H2=>tt σ2 H2 fun b H3=>if b=true then te σ2 H3 fun y H4=>Pv (i + 1) (ys++[y]) H4 else Pv (i + 1) ys H3) (hd:∀ ys H,Pv x.cps.size ys H->R ys H) :
  ∃ W:Nat->Nat->List V->Hp->Prop,(∃ m,W 0 m [] H1)/\∀ i m ys H,W i m ys H ->
   ((Its x).stop i H/\ys.length <= sizeLine/\R ys H) \/
   ((Its x).go i H/\∃ N:List V->Hp->Prop,(∀ ys' H',N ys' H'->ys'.length <= sizeLine/\∃ m',m' < m/\W (i + 1) m' ys' H') /\
    ∀ v H',(Its x).yld i H v H'->g v (Bv ix σ) H' fun σ2 H2=>tt σ2 H2 fun b H3=>if b=true then te σ2 H3 fun y H4=>N (ys++[y]) H4 else N ys H3):=by
 refine ⟨fun i m ys H=>m=x.cps.size - i/\i <= x.cps.size/\Pv i ys H,⟨_,rfl,Nat.zero_le _,h0⟩,?_⟩;rintro i m ys H ⟨rfl,hi,hp⟩;by_cases hlt:i < x.cps.size
 ·refine .inr ⟨hlt,Pv (i + 1),fun ys' H' q=>⟨Nat.le_of_lt (AT (hz _ ys' H' q)),x.cps.size - (i + 1),by omega,rfl,hlt,q⟩,?_⟩;rintro v H' ⟨rfl,c,hc,rfl⟩;exact hs i c ys H' hc hp
 ·have e:i=x.cps.size:=by omega
  subst e;exact .inl ⟨Nat.le_refl _,Nat.le_of_lt (AT (hz _ ys H hp)),hd ys H hp⟩
end L2
namespace Mk
open PySem L2 MK
theorem Ff:bootBuiltins "all" = some (.builtin "all"):=by decide +kernel
theorem EZ:bootBuiltins "isinstance" = some (.builtin "isinstance"):=by decide +kernel
theorem Fg:bootBuiltins "sorted" = some (.builtin "sorted"):=by decide +kernel
theorem Pi:bootBuiltins "sum" = some (.builtin "sum"):=by decide +kernel
theorem Sf:bootBuiltins "min" = some (.builtin "min"):=by decide +kernel
theorem Sg:bootBuiltins "max" = some (.builtin "max"):=by decide +kernel
theorem Ja:bootBuiltins "str" = some (.type "str"):=by decide +kernel
theorem Pj:bootBuiltins "int" = some (.type "int"):=by decide +kernel
theorem RJ:bootBuiltins "bool" = some (.type "bool"):=by decide +kernel
theorem Be:bootBuiltins "tuple" = some (.type "tuple"):=by decide +kernel
theorem CT:bootBuiltins "list" = some (.type "list"):=by decide +kernel
theorem AB {H1:Hp} {p:Addr} {o:HO} (s:Same H H1) (hp:H1 p=none):Same H (upd H1 p o):=fun b u e=>by
 have e':=s b u e;rw [AE (AH e' hp)];exact e'
noncomputable def Hx (c:Nat):Bool:=decide (65 <= c) && decide (c <= 90)
noncomputable def Hy (x:Str):Bool:=(decide (1 <= x.length) && decide (x.length <= 6)) && x.cps.toList.all Hx
section
theorem CB {X:Cx} {e:Expr} {te:TE} {T:String} {x:Str} {p p2 pos:Pos} (K:FG) (hK:X.K=K) (hg:Gl X "isinstance") (hm:X.mg "isinstance" = none) (hgT:Gl X x) (hmT:X.mg x=none) (hvT:bootBuiltins x=some (.type T)) (he:PE X e te)
  (hn:x ≠ "__name__" := by decide) (hdb:(x == ("__debug__" : Str))=false:=by decide)
  (hs:starEach [e,.Name x p2] X.env=(false,eval e X.env) :: starEach [.Name x p2] X.env:=by rfl) (hpl:(backTo pos (starEach [.Name x p2] X.env)).any (·.1)=false:=by rfl) (hs2:starEach [.Name x p2] X.env=(false,eval (.Name x p2) X.env) :: starEach [] X.env:=by rfl) :
  PE X (.Call (.Name "isinstance" p) [e,.Name x p2] [] pos) (tCB (fun xs H Q=>∃ v T t b,xs=[v,.ty T]/\TyOf K H v t/\W.kitOne K t (.type T)=some b/\Q (.bl b) H) (Ah te (Ah (tC (.ty T)) By))):=by
 subst hK;exact AS O0 hg hm EZ (AA he (AA (B7 hgT hmT hvT rfl hn hdb) AC hs2) hs) (by decide) (by decide) hs hpl
theorem BF {X:Cx} (K:FG) (hK:X.K=K):IxR X (Tl K):=hK ▸ Qp
theorem F7 {X:Cx} (K:FG) (hK:X.K=K):IxR X (Tm K):=hK ▸ SO
theorem Ax {X:Cx} (K:FG) (hK:X.K=K):Bb X (.builtin "len") (fun xs H Q=>∃ p ys,xs=[.ref p]/\(SqL K H p ys\/SqT K H p ys)/\Q (.int ys.length) H):=hK ▸ Es
theorem RK {X:Cx} {e:Expr} {f:Str} {pos:Pos} {ta:TE} (K:FG) (hK:X.K=K) (he:PE X e ta) (hb:attributeBase e f X.env (eval e X.env)=eval e X.env):PE X (.Attribute e f pos) (Tf K ta f):=hK ▸ BD he hb
def HF:Sp:=fun vs H Q _=>∃ x:Str,vs=[.str x]/\x.cps.all (· < 128)=true/\x.length <= 1000/\∀ H',Same H H'->Q (.bl (Hy x)) H'
theorem Pk:AR ["thing"] ["thing"] (defScope JX):=fsc
theorem Pl (c:Nat):(if (!decide ((⟨#[c]⟩:Str).cps.toList < ("A" : Str).cps.toList))=true then (!decide (("Z" : Str).cps.toList < (⟨#[c]⟩:Str).cps.toList)) else false)=Hx c:=by
 have hA:("A" : Str).cps.toList=[65]:=by decide +kernel
 have hZ:("Z" : Str).cps.toList=[90]:=by decide +kernel
 rw [hA,hZ];show (if (!decide ([c] < [65]))=true then !decide ([90] < [c]) else false)=Hx c;unfold Hx
 have e1:decide ([c] < [65])=decide (c < 65):=by
  rw [Bool.eq_iff_iff,decide_eq_true_eq,decide_eq_true_eq,List.cons_lt_cons_iff];simp
 have e2:decide ([90] < [c])=decide (90 < c):=by
  rw [Bool.eq_iff_iff,decide_eq_true_eq,decide_eq_true_eq,List.cons_lt_cons_iff];simp
 rw [e1,e2];by_cases h1:c < 65 <;> by_cases h2:90 < c <;> simp [h1,h2] <;> omega
theorem N7 {t6:Tok} (F:Fun K "is_name" "is_name" JX f fd) (B:Bl mg) (hL:mg "LONGEST_NAME" = some (.int 6 t6)):Aj P w K mg base CX0 1 f fd ["thing"] HF:=by
 refine F.m Pk fun vs H Q E h=>?_;obtain ⟨x,rfl,ha,hz,k⟩:=h;refine ⟨rfl,fun ad A outer s hr=>?_⟩
 refine ⟨_,AD (Au (PW.pt (DT (BN (BK (CB K rfl rfl B.isi rfl B.str Ja (pv 0)))) (CJ (BN (Gh Gf Gf AJ (AS JK rfl B.len PySem.boot_len (AA (pv 0) AC)) (El (v:=.int 6) rfl hL ⟨t6,rfl⟩))))))
   (AF (AV MQ)) Ab)
  (AF (AV (AS (C5 rfl) rfl B.all Ff (AA (As [] [] (by kernel_rfl) (by decide +kernel) (by kernel_rfl) rfl (SX (pv 0)) (fun _ _ _ _ _ _=>BH) (fun _ _ _ _ _ _=>Oh IQ IQ AY (pv 0) AY)) AC)))),?_⟩
 refine ⟨_,rfl,_,_,_,true,rfl,.str x,rfl,_,rfl,?_⟩;refine A1 ?_;refine ⟨_,rfl,x,rfl,Nat.le_of_lt (AT hz),_,_,rfl,rfl,_,rfl,?_⟩;refine CL (fun h1=>?_) (fun h1=>?_)
 ·have h1':1 <= x.length:=by have:=of_decide_eq_true h1; omega
  refine ⟨_,_,rfl,rfl,_,rfl,?_⟩;refine CL (fun h2=>?_) (fun h2=>?_)
  ·have h2':¬ x.length <= 6:=by
    intro z;rw [decide_eq_true (show (x.length:Int) <= 6 by omega)] at h2;cases h2
   have e:Hy x=false:=by unfold Hy; simp [h2']
   have:=k H (Same.refl H);rw [e] at this;exact this
  ·have h2':x.length <= 6:=Decidable.byContradiction fun z=>h2 (by rw [decide_eq_false (show ¬ (x.length:Int) <= 6 by omega)]; rfl);refine ⟨_,rfl,x,rfl,ha,Ph (x:=x) (fun i ys H2=>H2=H/\ys=(x.cps.toList.take i).map fun c=>V.bl (Hx c)) ⟨rfl,rfl⟩ (fun i ys H2 ⟨_,e⟩=>?_) ?_ ?_⟩
   ·rw [e,AI,length_take];have:x.cps.toList.length=x.length:=by rw [Array.length_toList]; rfl
    omega
   ·rintro i c ys H2 hc ⟨rfl,rfl⟩;refine ⟨_,rfl,_,_,rfl,rfl,_,rfl,?_⟩
    have fin:∀ b,b=Hx c->(H2=H2/\(x.cps.toList.take i).map (fun c=>V.bl (Hx c))++[V.bl b]=(x.cps.toList.take (i + 1)).map fun c=>V.bl (Hx c)):=fun b hb=>by
     refine ⟨rfl,?_⟩;have hc':x.cps.toList[i]?=some c:=by rw [Array.getElem?_toList]; exact hc
     rw [take_add_one,hc',map_append,hb];rfl
    have hu:=Pl c;refine CL (fun h3=>?_) (fun h3=>?_)
    ·rw [if_pos h3] at hu;exact ⟨_,_,rfl,rfl,fin _ hu⟩
    ·rw [if_neg h3] at hu;exact fin _ hu
   ·rintro ys H2 ⟨rfl,rfl⟩ p hp;have el:x.cps.toList.take x.cps.size=x.cps.toList:=List.take_of_length_le (by rw [Array.length_toList]; exact Nat.le_refl _);refine ⟨p,x.cps.toList.map Hx,rfl,SqL.of (by rw [upd_same,el,map_map]; rfl),?_⟩
    have e:Hy x=((x.cps.toList.map Hx).all id):=by
     unfold Hy;rw [decide_eq_true h1',decide_eq_true h2',all_map];rfl
    rw [← e];exact k _ (AB (Same.refl _) hp)
 ·have h1':¬ 1 <= x.length:=fun z=>h1 (decide_eq_true (by omega));refine ⟨_,rfl,?_⟩;refine Bd ?_;have e:Hy x=false:=by unfold Hy; simp [h1']
  have:=k H (Same.refl H);rw [e] at this;exact this
end
inductive Th where
 | non | num (n:Nat) | nms (ns:List Str)
def ThAt (H:Hp) (v:V):Th->Prop
 | .non=>v=.non
 | .num n=>v=.int (n:Int)
 | .nms ns=>∃ a,v=.ref a/\H a=some (.tup (ns.map V.str))
noncomputable def Dm (ns:List Nat):Nat:=ns.foldl max 0
noncomputable def look (due:Aa) (x:Str):Nat:=((due.find? fun p=>decide (p.1=x)).map (·.2)).getD 0
noncomputable def BL (due:Aa):LK:=due.map fun p=>(Sum.inr p.1,V.int (p.2:Int))
noncomputable def Cm (due:Aa):Th->Nat
 | .non=>BY (Dm (due.map (·.2)))
 | .num n=>n
 | .nms ns=>Av (ns.map (look due))
theorem Ea (x:Str):∀ due:Aa,A7 (BL due) (Sum.inr x)=(due.find? fun p=>decide (p.1=x)).map fun p=>V.int (p.2:Int)
 | []=>rfl
 | p :: r=>by
  show A7 ((Sum.inr p.1,V.int (p.2:Int)) :: BL r) (Sum.inr x)=_;by_cases e:p.1=x
  ·rw [C2 (p:=(Sum.inr p.1,V.int (p.2:Int))) (by rw [← e]),List.find?_cons_of_pos (by simpa using e)]; rfl
  ·rw [C3 (p:=(Sum.inr p.1,V.int (p.2:Int))) (fun z=>e (Sum.inr.inj z)),List.find?_cons_of_neg (by simpa using e)]; exact Ea x r
theorem N8 {x:Str} (h:x ∈ due.map (·.1)):(due.find? fun p=>decide (p.1=x)).isSome=true:=by
 obtain ⟨p,hp,e⟩:=mem_map.mp h;rw [List.find?_isSome];exact ⟨p,hp,by simpa using e⟩
theorem Fy {x:Str} (h:x ∈ due.map (·.1)):A7 (BL due) (Sum.inr x)=some (V.int (look due x:Int)):=by
 rw [Ea];unfold look;obtain ⟨p,hp⟩:=Option.isSome_iff_exists.mp (N8 h);rw [hp]; rfl
theorem E7 {x:Str} (h:x ∉ due.map (·.1)):A7 (BL due) (Sum.inr x)=none:=by
 rw [Ea]
 have:(due.find? fun p=>decide (p.1=x))=none:=by
  rw [List.find?_eq_none];intro p hp e;exact h (mem_map.mpr ⟨p,hp,by simpa using e⟩)
 rw [this]; rfl
theorem E8 {m:Nat}:∀ (l:List Nat) (a:Nat),a < m->(∀ n ∈ l,n < m)->l.foldl max a < m
 | [],a,h,_=>h
 | x :: r,a,h,k=>E8 r (max a x) (by have:=k x mem_cons_self; omega) fun n hn=>k n (mem_cons_of_mem _ hn)
theorem KZ {ns:List Nat} {m:Nat} (h0:0 < m) (h:∀ n ∈ ns,n < m):Dm ns < m:=E8 ns 0 h0 h
theorem Pm (a b:Nat):max (a:Int) (b:Int)=((max a b:Nat):Int):=by omega
theorem HG:∀ (r:List Nat) (a:Nat),(r.map fun n:Nat=>(n:Int)).foldl max (a:Int)=((r.foldl max a:Nat):Int)
 | [],_=>rfl
 | x :: r,a=>by rw [map_cons,foldl_cons,Pm,HG r]; rfl
theorem Ka {ns:List Nat} (h:ns ≠ []):J8 0 (ns.map fun n:Nat=>(n:Int))=(Dm ns:Nat):=by
 cases ns with
 | nil=>exact absurd rfl h
 | cons a r =>
  show (r.map fun n:Nat=>(n:Int)).foldl max (a:Int)=_;rw [HG];unfold Dm;rw [foldl_cons];have:max 0 a=a:=by omega
  rw [this]
theorem Lp {m:Nat} (h:m < 2 ^ 20):Builtin.Int.intBits (m:Int) <= 20:=by
 rcases Nat.eq_zero_or_pos m with e | hm
 ·subst e; decide
 ·rw [Dg hm];have:m.log2 < 20:=(Nat.log2_lt (by omega)).mpr h;omega
section
def Eb (K:FG):Sp:=fun vs H Q _=>∃ (a:Addr) (ns:List Nat),vs=[.ref a]/\SqL K H a (AW ns)/\(∀ n ∈ ns,n < 2 ^ 20)/\Q (.int (BY (Dm ns):Nat)) H
theorem Lq:AR ["numbers"] ["numbers"] (defScope Fb):=fsc
theorem DL (ns:List Nat):AW ns=(ns.map fun n:Nat=>(n:Int)).map V.int:=by unfold AW; rw [map_map]; rfl
theorem Kb (F:Fun K "next_mark" "next_mark" Fb f fd) (B:Bl mg):Aj P w K mg base CX0 1 f fd ["numbers"] (Eb K):=by
 refine F.m Lq fun vs H Q E h=>?_;obtain ⟨a,ns,rfl,hS,hlt,k⟩:=h;refine ⟨rfl,fun ad A outer s hr=>?_⟩;refine ⟨_,AF (AV (AU Ge AJ (SR PySem.F.plainAttrs_int PySem.F.slot_int_bit_length PySem.F.type_int_bit_length JP (Ms rfl rfl B.max (pv 0) AJ)))),?_⟩;have hm:=KZ (m:=2 ^ 20) (by decide) hlt
 have fin:∀ m:Int,m=(Dm ns:Nat)->tyV K "int" (.int m) H/\∃ i,V.int m=.int i/\([]:List V)=[]/\∃ i' j,V.int 1=.int i'/\V.int (Builtin.Int.intBits i:Nat)=.int j/\SK i' j/\Q (.int (i' * 2 ^ j.toNat)) H:=fun m e=>by
  subst e;refine ⟨rfl,_,rfl,rfl,1,_,rfl,rfl,⟨Int.natCast_nonneg _,?_,by decide⟩,?_⟩
  ·have:=Lp hm; omega
  ·have e:(1:Int) * 2 ^ ((Builtin.Int.intBits (Dm ns:Nat):Nat):Int).toNat=((BY (Dm ns):Nat):Int):=by
    unfold BY;rw [Int.one_mul,Int.toNat_natCast];simp
   rw [e];exact k
 refine ⟨_,rfl,a,ns.map (fun n:Nat=>(n:Int)),0,rfl,rfl,by rw [← DL]; exact hS,fun e=>?_,fun e=>?_⟩
 ·have e':ns=[]:=List.map_eq_nil_iff.mp e;exact fin 0 (by rw [e']; rfl)
 ·have e':ns ≠ []:=fun z=>e (by rw [z]; rfl);exact fin _ (Ka e')
def Du (K:FG):Sp:=fun vs H Q _=>(∃ (x:Str) (d:Addr) (kvs:LK),vs=[.str x,.ref d]/\Rd H d (.dK kvs)/\Q (.bl (A7 kvs (Sum.inr x:Key)).isSome) H) \/
 (∃ (x:Str) (t:Addr) (xs:List Str),vs=[.str x,.ref t]/\SqT K H t (xs.map V.str)/\Q (.bl (inV (.str x) (xs.map V.str))) H)
theorem Ih:AR ["thing", "names"] ["thing", "names"] (defScope Dh):=fsc
theorem B1:∀ xs:List Str,(xs.map V.str).all Eo=true
 | []=>rfl
 | _ :: r=>B1 r
theorem Lr (F:Fun K "is_one_of" "is_one_of" Dh f fd) (B:Bl mg):Aj P w K mg base CX0 1 f fd ["thing", "names"] (Du K):=by
 refine F.ok Ih (fun vs H Q E h=>?_) (fun ad A outer s H vs Q E hr h=>?_)
 ·rcases h with ⟨x,d,kvs,rfl,_⟩ | ⟨x,t,xs,rfl,_⟩ <;> rfl
 ·have hu:=Cj hr;rcases h with ⟨x,d,kvs,rfl,hd,k⟩ | ⟨x,t,xs,rfl,ht,k⟩
  ·refine ⟨_,AF (AV (ED (CB K rfl rfl B.isi rfl B.str Ja (pv 0)) (EB (OU (LQ hu (pv 0) (pv 1)))))),?_⟩;refine ⟨_,rfl,_,_,_,true,rfl,.str x,rfl,_,rfl,?_⟩;exact ⟨_,rfl,_,rfl,d,_,rfl,.inl ⟨kvs,Sum.inr x,hd,rfl,rfl⟩,k⟩
  ·refine ⟨_,AF (AV (ED (CB K rfl rfl B.isi rfl B.str Ja (pv 0)) (EB (Em C0 (pv 0) (pv 1) (by with_unfolding_all rfl))))),?_⟩;refine ⟨_,rfl,_,_,_,true,rfl,.str x,rfl,_,rfl,?_⟩;exact ⟨_,rfl,_,rfl,t,_,rfl,.inr ht,rfl,B1 xs,k⟩
def Do:Sp:=fun vs H Q _=>∃ (a d:Addr) (ns:List Str) (kvs:LK),vs=[.ref a,.ref d]/\H a=some (.tup (ns.map V.str))/\ns.length <= 1000/\Rd H d (.dK kvs) /\
 ∀ H',Same H H'->Q (.bl (decide (0 < ns.length) && ns.all fun x=>(A7 kvs (Sum.inr x:Key)).isSome)) H'
theorem Kc:AR ["parts", "ahead"] ["parts", "ahead"] (defScope EO):=fsc
theorem Same.rd {a:Addr} {u:HO} (s:Same H H') (h:Rd H a u):Rd H' a u:=by
 rcases h with h | ⟨o,h⟩
 ·exact .inl (s _ _ h)
 ·exact .inr ⟨o,s _ _ h⟩
theorem Jb (F:Fun K "is_names_of" "is_names_of" EO f fd) (B:Bl mg) (GO:Fn P w K mg base "is_one_of" 1 ["thing", "names"] (Du K)):Aj P w K mg base CX0 2 f fd ["parts", "ahead"] Do:=by
 obtain ⟨fO,dO,GO,mO,kO,bO⟩:=GO.ex;refine F.m Kc fun vs H Q E h=>?_;obtain ⟨a,d,ns,kvs,rfl,ha,hz,hd,k⟩:=h;refine ⟨rfl,fun ad A outer s hr=>?_⟩;have hu:=Cj hr
 refine ⟨_,AF (AV (ED (Em MZ (AS Es rfl B.len PySem.boot_len (AA (pv 0) AC)) AJ (Ak _))
  (EB (AS (C5 rfl) rfl B.all Ff (AA (As ["ahead"] [some 1] (by kernel_rfl) (by decide +kernel) (by kernel_rfl) rfl (JG (pv 0)) (fun _ _ _ _ _ _=>BH)
   (fun _ _ _ _ _ _=>AQ GO hr rfl mO kO bO .nil AZ (AA (pv 0) (AA (pv 1) AC)))) AC))))),?_⟩
 have hl:(ns.map V.str).length=ns.length:=AI _;refine ⟨_,rfl,a,_,rfl,.inr (SqT.of ha),_,_,rfl,rfl,_,rfl,?_⟩;refine CL (fun h1=>?_) (fun h1=>?_)
 ·have h1':0 < ns.length:=by have:=of_decide_eq_true h1; rw [hl] at this; omega
  refine ⟨_,rfl,a,rfl,⟨_,SqT.of ha⟩,E1 (K:=K) (a:=a) (xs:=ns.map V.str) (fun i ys H2=>H2=H/\ys=(ns.take i).map fun x=>V.bl (A7 kvs (Sum.inr x:Key)).isSome) ⟨rfl,rfl⟩ (fun i ys H2 _ ⟨e,_⟩=>e ▸ SqT.of ha) (fun i ys H2 ⟨_,e⟩=>?_) ?_ ?_⟩
  ·rw [e,AI,length_take]; omega
  ·rintro i v ys H2 hi ⟨rfl,rfl⟩;rw [getElem?_map] at hi
   obtain ⟨x,hx,rfl⟩:∃ x,ns[i]?=some x/\v=V.str x:=by
    cases e:ns[i]? with
    | none=>rw [e] at hi; cases hi
    | some x=>rw [e] at hi; exact ⟨x,rfl,(Option.some.inj hi).symm⟩
   refine ⟨_,rfl,_,rfl,.inl ⟨x,d,kvs,rfl,hd,rfl,?_⟩⟩;rw [take_add_one,hx,map_append];rfl
  ·rintro ys H2 ⟨rfl,rfl⟩ p hp;have el:ns.take (ns.map V.str).length=ns:=by rw [hl]; exact take_length
   refine ⟨p,ns.map fun x=>(A7 kvs (Sum.inr x:Key)).isSome,rfl,SqL.of (by rw [upd_same,el,map_map]; rfl),?_⟩
   have e:(decide (0 < ns.length) && ns.all fun x=>(A7 kvs (Sum.inr x:Key)).isSome)=(ns.map fun x=>(A7 kvs (Sum.inr x:Key)).isSome).all id:=by
    rw [decide_eq_true h1',Bool.true_and,all_map];rfl
   rw [← e];exact k _ (AB (Same.refl _) hp)
 ·have h1':¬ 0 < ns.length:=fun z=>h1 (decide_eq_true (by rw [hl]; omega));have:=k H (Same.refl H);rw [decide_eq_false h1',Bool.false_and] at this;exact this
def Fh:Sp:=fun vs H Q _=>∃ n:Int,vs=[.int n]/\Q (.bl true) H
theorem N9:AR ["thing"] ["thing"] (defScope HA):=fsc
theorem Ls (F:Fun K "is_whole" "is_whole" HA f fd) (B:Bl mg):Aj P w K mg base CX0 1 f fd ["thing"] Fh:=by
 refine F.m N9 fun vs H Q E h=>?_;obtain ⟨n,rfl,k⟩:=h;refine ⟨rfl,fun ad A outer s hr=>?_⟩;refine ⟨_,AF (AV (ED (CB K rfl rfl B.isi rfl B.int Pj (pv 0)) (EB (SE (CB K rfl rfl B.isi rfl B.bool RJ (pv 0)))))),?_⟩;refine ⟨_,rfl,_,_,_,true,rfl,.int n,rfl,_,rfl,?_⟩;exact ⟨_,rfl,_,_,_,false,rfl,.int n,(by kernel_rfl),_,rfl,k⟩
structure Kd (due:Aa):Prop where
 len:due.length <= 10
 lt:∀ p ∈ due,p.2 < 2 ^ 20
 nd:(due.map (·.1)).Nodup
 nm:∀ p ∈ due,Hy p.1=true/\p.1.cps.all (· < 128)=true/\p.1.length <= 1000
def RL (due:Aa):Th->Prop
 | .non=>True
 | .num _=>True
 | .nms ns=>ns ≠ []/\ns.length <= 10/\∀ x ∈ ns,x ∈ due.map (·.1)
def Jc:Sp:=fun vs H Q _=>∃ (tv:V) (th:Th) (d:Addr) (due:Aa),vs=[tv,.ref d]/\ThAt H tv th/\Rd H d (.dK (BL due))/\Kd due/\RL due th/\∀ H',Same H H'->Q (.int (Cm due th:Nat)) H'
theorem RM:AR ["thing", "ahead"] ["thing", "ahead"] (defScope DH):=fsc
theorem Pn (due:Aa):(BL due).map (·.2)=AW (due.map (·.2)):=by unfold BL AW; rw [map_map,map_map]; rfl
theorem Po (F:Fun K "thing_number" "thing_number" DH f fd) (B:Bl mg) (GN:Fn P w K mg base "next_mark" 1 ["numbers"] (Eb K)) (GI:Fn P w K mg base "is_names_of" 2 ["parts", "ahead"] Do)
  (GU:Fn P w K mg base "union_of" 1 ["numbers"] (C6 K)) (GW:Fn P w K mg base "is_whole" 1 ["thing"] Fh):Aj P w K mg base CX0 3 f fd ["thing", "ahead"] Jc:=by
 obtain ⟨fN,dN,GN,mN,kN,bN⟩:=GN.ex;obtain ⟨fI,dI,GI,mI,kI,bI⟩:=GI.ex;obtain ⟨fU,dU,GU,mU,kU,bU⟩:=GU.ex;obtain ⟨fW,dW,GW,mW,kW,bW⟩:=GW.ex;refine F.m RM fun vs H Q E h=>?_;obtain ⟨tv,th,d,due,rfl,hT,hd,DO,TO,k⟩:=h;refine ⟨rfl,fun ad A outer s hr=>?_⟩;have hu:=Cj hr;have hr1:Room 1 _:=hr.mono (by decide)
 refine ⟨_,AD (Au (D9 (Gb (pv 0))) (AF (AV (AQ GN hr1 rfl mN kN bN .nil AZ (AA (BP (Gx rfl) rfl B.list CT (AA (Oy PySem.F.slot_dict_values PySem.F.type_dict_values IN (pv 1)) AC)) AC)))) Ab)
  (AD (Au (PW.pt (FP (BK (CB K rfl rfl B.isi rfl B.tuple Be (pv 0))) (Ds (BK (AQ GI hr rfl mI kI bI .nil AZ (AA (pv 0) (AA (pv 1) AC)))))))
   (AF (AV (AQ GU hr1 rfl mU kU bU .nil AZ (AA (As ["ahead"] [some 1] (by kernel_rfl) (by decide +kernel) (by kernel_rfl) rfl (JG (pv 0)) (fun _ _ _ _ _ _=>BH) (fun _ _ _ _ _ _=>BM hu (pv 1) (pv 0) (fun _ _=>rfl))) AC)))) Ab)
  (AD (Au (BK (AQ GW hr1 rfl mW kW bW .nil AZ (AA (pv 0) AC))) (AF (AV (pv 0))) Ab)
  (AF Ad))),?_⟩
 refine ⟨_,rfl,_,rfl,?_⟩;cases th with
 | non =>
  have e:tv=.non:=hT;subst e;refine CL (fun _=>?_) (fun z=>absurd rfl z);refine ⟨_,rfl,d,rfl,.inl ⟨_,hd⟩,d,_,rfl,rfl,hd,fun p hp=>?_⟩;refine ⟨p,d,_,rfl,upd_same,Same.rd (AB (Same.refl _) hp) hd,fun l hl=>?_⟩;refine ⟨l,due.map (·.2),rfl,SqL.of (by rw [upd_same,Pn]),fun n hn=>?_,?_⟩
  ·obtain ⟨q,hq,rfl⟩:=mem_map.mp hn;exact DO.lt q hq
  ·exact k _ (AB (AB (Same.refl _) hp) hl)
 | num n =>
  have e:tv=.int (n:Int):=hT;subst e;refine CL (fun z=>absurd (of_decide_eq_true z) (by intro q; cases q)) (fun _=>?_);refine ⟨_,rfl,_,_,_,false,rfl,.int _,(by kernel_rfl),_,rfl,?_⟩;refine A1 ?_;refine ⟨_,rfl,n,rfl,_,rfl,?_⟩;refine Bd ?_;exact ⟨_,rfl,k H (Same.refl H)⟩
 | nms ns =>
  obtain ⟨a,rfl,ha⟩:=hT;obtain ⟨av,hln,hin⟩:=TO;refine CL (fun z=>absurd (of_decide_eq_true z) (by intro q; cases q)) (fun _=>?_);refine ⟨_,rfl,_,_,_,true,rfl,.tup ha,rfl,_,rfl,?_⟩;have hl:(ns.map V.str).length=ns.length:=AI _;refine ⟨_,rfl,_,rfl,a,d,ns,BL due,rfl,ha,by omega,hd,fun H1 s1=>⟨_,rfl,?_⟩⟩
  have e1:(decide (0 < ns.length) && ns.all fun x=>(A7 (BL due) (Sum.inr x:Key)).isSome)=true:=by
   rw [Bool.and_eq_true,decide_eq_true_eq,List.all_eq_true];refine ⟨List.length_pos_iff.mpr av,fun x hx=>?_⟩;rw [Fy (hin x hx)];rfl
  rw [e1];refine Bd ?_;refine ⟨_,rfl,a,rfl,⟨_,SqT.of (s1 _ _ ha)⟩,E1 (K:=K) (a:=a) (xs:=ns.map V.str) (fun i ys H2=>H2=H1/\ys=AW ((ns.take i).map (look due))) ⟨rfl,rfl⟩ (fun i ys H2 _ ⟨e,_⟩=>e ▸ SqT.of (s1 _ _ ha)) (fun i ys H2 ⟨_,e⟩=>?_) ?_ ?_⟩
  ·rw [e];unfold AW;rw [AI,AI,length_take];omega
  ·rintro i v ys H2 hi ⟨rfl,rfl⟩;rw [getElem?_map] at hi
   obtain ⟨x,hx,rfl⟩:∃ x,ns[i]?=some x/\v=V.str x:=by
    cases e:ns[i]? with
    | none=>rw [e] at hi; cases hi
    | some x=>rw [e] at hi; exact ⟨x,rfl,(Option.some.inj hi).symm⟩
   refine ⟨_,rfl,_,rfl,d,_,rfl,.inl ⟨BL due,Sum.inr x,Same.rd s1 hd,rfl,(Fy (hin x (mem_of_getElem? hx))).symm⟩,rfl,?_⟩;rw [take_add_one,hx,map_append];unfold AW;rw [map_append];rfl
  ·rintro ys H2 ⟨rfl,rfl⟩ p hp;have el:ns.take (ns.map V.str).length=ns:=by rw [hl]; exact take_length
   refine ⟨p,ns.map (look due),rfl,SqL.of (by rw [upd_same,el]),?_⟩;exact k _ (AB s1 hp)
end
end Mk
end
section
namespace L2
open PySem
theorem Pp {a:Addr} {xs:List V} {g:TG} {tb:TS} {D:D7} {σ:St} (Pv:Nat->St->Hp->Prop) (h0:Pv 0 σ H) (hl:∀ i σ H,i <= xs.length->Pv i σ H->SqL K H a xs)
  (hs:∀ i x σ H p,xs[i]?=some x->Pv i σ H->H p=none->g (.ref p) σ (upd H p (.tup [.int i,x])) fun σ2 H2=>tb { D with nx:=Pv (i + 1),ct:=Pv (i + 1),bk:=D.nx } σ2 H2) (hd:∀ σ H,Pv xs.length σ H->D.nx σ H) :
  ∃ W:Nat->Nat->St->Hp->Prop,(∃ m,W 0 m σ H)/\∀ i m σ H,W i m σ H ->
   ((Ite K a).stop i H/\D.nx σ H)\/((Ite K a).go i H/\∃ N:St->Hp->Prop,(∀ σ' H',N σ' H'->∃ m',m' < m/\W (i + 1) m' σ' H')/\∀ x H',(Ite K a).yld i H x H'->g x σ H' fun σ2 H2=>tb { D with nx:=N,ct:=N,bk:=D.nx } σ2 H2):=by
 refine ⟨fun i m σ H=>m=xs.length - i/\i <= xs.length/\Pv i σ H,⟨_,rfl,Nat.zero_le _,h0⟩,?_⟩;rintro i m σ H ⟨rfl,hi,hp⟩;by_cases hlt:i < xs.length
 ·have hx:xs[i]?=some xs[i]:=List.getElem?_eq_getElem hlt;refine .inr ⟨⟨xs,xs[i],hl i σ H hi hp,hx⟩,Pv (i + 1),fun σ' H' q=>⟨xs.length - (i + 1),by omega,rfl,hlt,q⟩,?_⟩;rintro x H' ⟨p,y,hn,rfl,hy,rfl⟩
  have ex:y=xs[i]:=by
   have:=hy xs (hl i σ H hi hp);rw [hx] at this;exact (Option.some.inj this).symm
  subst ex;exact hs i xs[i] σ H p hx hp hn
 ·have e:i=xs.length:=by omega
  subst e;exact .inl ⟨⟨xs,hl _ σ H hi hp,Nat.le_refl _⟩,hd σ H hp⟩
theorem OA {a:Addr} {o:Obj} {kvs:LK} {g:TG} {tb:TS} {D:D7} {σ:St} (Pv:Nat->St->Hp->Prop) (h0:Pv 0 σ H) (hl:∀ i σ H,Pv i σ H->H a=some (.frz o (.dK kvs)))
  (hs:∀ i kv σ H p,kvs[i]?=some kv->Pv i σ H->H p=none->g (.ref p) σ (upd H p (.tup [kV kv.1,kv.2])) fun σ2 H2=>tb { D with nx:=Pv (i + 1),ct:=Pv (i + 1),bk:=D.nx } σ2 H2) (hd:∀ σ H,Pv kvs.length σ H->D.nx σ H) :
  ∃ W:Nat->Nat->St->Hp->Prop,(∃ m,W 0 m σ H)/\∀ i m σ H,W i m σ H ->
   ((Iti a o kvs).stop i H/\D.nx σ H)\/((Iti a o kvs).go i H/\∃ N:St->Hp->Prop,(∀ σ' H',N σ' H'->∃ m',m' < m/\W (i + 1) m' σ' H')/\∀ x H',(Iti a o kvs).yld i H x H'->g x σ H' fun σ2 H2=>tb { D with nx:=N,ct:=N,bk:=D.nx } σ2 H2):=by
 refine ⟨fun i m σ H=>m=kvs.length - i/\i <= kvs.length/\Pv i σ H,⟨_,rfl,Nat.zero_le _,h0⟩,?_⟩;rintro i m σ H ⟨rfl,hi,hp⟩;by_cases hlt:i < kvs.length
 ·refine .inr ⟨⟨hl i σ H hp,hlt⟩,Pv (i + 1),fun σ' H' q=>⟨kvs.length - (i + 1),by omega,rfl,hlt,q⟩,?_⟩;rintro x H' ⟨p,kv,hn,rfl,hkv,rfl⟩;exact hs i kv σ H p hkv hp hn
 ·have e:i=kvs.length:=by omega
  subst e;exact .inl ⟨⟨hl _ σ H hp,Nat.le_refl _⟩,hd σ H hp⟩
theorem Lu {a:Addr} {o:Obj} {kvs:LK} {g:TG} {tt:TT} {te:TE} {ix:List (Option Nat)} {R:List V->Hp->Prop} {σ:St} {H1:Hp} (Pv:Nat->List V->Hp->Prop) (h0:Pv 0 [] H1) (hl:∀ i ys H,Pv i ys H->H a=some (.frz o (.dK kvs))) (hz:∀ i ys H,Pv i ys H->ys.length <= 1000)
  (hs:∀ i kv ys H p,kvs[i]?=some kv->Pv i ys H->H p=none->g (.ref p) (Bv ix σ) (upd H p (.tup [kV kv.1,kv.2])) fun σ2 H2=>tt σ2 H2 fun b H3=>if b=true then te σ2 H3 fun y H4=>Pv (i + 1) (ys++[y]) H4 else Pv (i + 1) ys H3) (hd:∀ ys H,Pv kvs.length ys H->R ys H) :
  ∃ W:Nat->Nat->List V->Hp->Prop,(∃ m,W 0 m [] H1)/\∀ i m ys H,W i m ys H ->
   ((Iti a o kvs).stop i H/\ys.length <= sizeLine/\R ys H) \/
   ((Iti a o kvs).go i H/\∃ N:List V->Hp->Prop,(∀ ys' H',N ys' H'->ys'.length <= sizeLine/\∃ m',m' < m/\W (i + 1) m' ys' H') /\
    ∀ x H',(Iti a o kvs).yld i H x H'->g x (Bv ix σ) H' fun σ2 H2=>tt σ2 H2 fun b H3=>if b=true then te σ2 H3 fun y H4=>N (ys++[y]) H4 else N ys H3):=by
 refine ⟨fun i m ys H=>m=kvs.length - i/\i <= kvs.length/\Pv i ys H,⟨_,rfl,Nat.zero_le _,h0⟩,?_⟩;rintro i m ys H ⟨rfl,hi,hp⟩;by_cases hlt:i < kvs.length
 ·refine .inr ⟨⟨hl i ys H hp,hlt⟩,Pv (i + 1),fun ys' H' q=>⟨Nat.le_of_lt (AT (hz _ ys' H' q)),kvs.length - (i + 1),by omega,rfl,hlt,q⟩,?_⟩;rintro x H' ⟨p,kv,hn,rfl,hkv,rfl⟩;exact hs i kv ys H p hkv hp hn
 ·have e:i=kvs.length:=by omega
  subst e;exact .inl ⟨⟨hl _ ys H hp,Nat.le_refl _⟩,Nat.le_of_lt (AT (hz _ ys H hp)),hd ys H hp⟩
end L2
namespace Mk
open PySem L2 MK
def T3 (x:Str):Prop:=Hy x=true/\x.cps.all (· < 128)=true/\x.length <= 1000
structure M7 (due:Aa) (r:Str × Th):Prop where
 ahead:Kd due
 few:due.length < 10
 nm:T3 r.1
 new:r.1 ∉ due.map (·.1)
 th:RL due r.2
 lt:Cm due r.2 < 2 ^ 20
noncomputable def Ai (rows:List (Str × Th)):Aa:=rows.foldl (fun due r=>due++[(r.1,Cm due r.2)]) []
theorem Fi (rows:List (Str × Th)) (r:Str × Th):Ai (rows++[r])=Ai rows++[(r.1,Cm (Ai rows) r.2)]:=by unfold Ai; rw [foldl_append]; rfl
def Ec (rows:List (Str × Th)):Prop:=∀ (i:Nat) r,rows[i]?=some r->M7 (Ai (rows.take i)) r
def RowAt (H:Hp) (b:Addr) (r:Str × Th):Prop:=∃ tv,H b=some (.tup [.str r.1,tv])/\ThAt H tv r.2
def Pq (H:Hp) (l:Addr) (rows:List (Str × Th)):Prop:=∃ as:List Addr,H l=some (.lst (as.map V.ref))/\Paired (RowAt H) as rows
theorem ThAt.same {v:V} {th:Th} (s:Same H H') (h:ThAt H v th):ThAt H' v th:=by
 cases th with
 | non=>exact h
 | num n=>exact h
 | nms ns=>obtain ⟨a,e,h⟩:=h; exact ⟨a,e,s _ _ h⟩
theorem RowAt.same {b:Addr} {r:Str × Th} (s:Same H H') (h:RowAt H b r):RowAt H' b r:=by
 obtain ⟨tv,e,t⟩:=h;exact ⟨tv,s _ _ e,t.same s⟩
theorem B2 {α β:Type} {F:α->β->Prop}:∀ {xs:List α} {ys:List β} {i:Nat} {x:α},Paired F xs ys->xs[i]?=some x->∃ y,ys[i]?=some y/\F x y
 | _,_,_,_,.nil,e=>by simp at e
 | _,_,0,_,.cons r _,e=>by simp at e; subst e; exact ⟨_,rfl,r⟩
 | _,_,i + 1,x,.cons _ t,e=>by
  obtain ⟨u,h1,h2⟩:=B2 (i:=i) (x:=x) t (by simpa using e);exact ⟨u,by simpa using h1,h2⟩
theorem HH {H1:Hp} {d:Addr} {o:HO} (s:Same H H1) (hd:H d=none):Same H (upd H1 d o):=fun b u e=>by
 rw [AE (AH e hd)];exact s b u e
section
def Pr:Sp:=fun vs H Q _=>∃ (b d:Addr) (r:Str × Th) (due:Aa),vs=[.ref b,.ref d]/\RowAt H b r/\Rd H d (.dK (BL due))/\M7 due r/\∀ H',Same H H'->Q (.int (Cm due r.2:Nat)) H'
theorem scRow:AR ["row", "ahead", "name", "thing", "number"] ["row", "ahead"] (defScope EQ):=fsc
theorem Sh {tg:Tok} (F:Fun K "row_number" "row_number" EQ f fd) (B:Bl mg) (hG:mg "GREATEST" = some (.int 1048575 tg)) (GN:Fn P w K mg base "is_name" 1 ["thing"] HF) (GT:Fn P w K mg base "thing_number" 3 ["thing", "ahead"] Jc) :
  Aj P w K mg base CX0 4 f fd ["row", "ahead"] Pr:=by
 obtain ⟨fN,dN,GN,mN,kN,bN⟩:=GN.ex;obtain ⟨fT,dT,GT,mT,kT,bT⟩:=GT.ex;refine F.m scRow fun vs H Q E h=>?_;obtain ⟨b,d,r,due,rfl,⟨tv,hb,hT⟩,hd,RO,k⟩:=h;refine ⟨rfl,fun ad A outer s hr=>?_⟩;have hu:=Cj hr;have hr1:Room 1 _:=hr.mono (by decide)
 refine ⟨_,AD (Au (PW.pt (DT (BN (BK (CB K rfl rfl B.isi rfl B.tuple Be (pv 0)))) (CJ (AX CZ (AS (Ax K rfl) rfl B.len PySem.boot_len (AA (pv 0) AC)) AJ (Ak _))))) (AF Ad) Ab)
  (AD (DX (pv 0) (BO rfl (AO (AM (i:=2) scRow.nd rfl (Or.inl rfl)) (AO (AM (i:=3) scRow.nd rfl (Or.inl rfl)) A2))))
  (AD (Au (PW.pt (DT (BN (BK (AQ GN hr1 rfl mN kN bN .nil AZ (AA (pv 2) AC)))) (CJ (D9 (LQ hu (pv 2) (pv 1)))))) (AF Ad) Ab)
  (AD (Ae (i:=4) scRow.nd rfl (Or.inl rfl) (AQ GT hr rfl mT kT bT .nil AZ (AA (pv 3) (AA (pv 1) AC))))
  (AD (Au (PW.pt (DT (D9 (Gb (pv 4))) (CJ (BN (Gh Gf Gf AJ (pv 4) (El (v:=.int 1048575) rfl hG ⟨tg,rfl⟩)))))) (AF Ad) Ab)
  (AF (AV (pv 4))))))),?_⟩
 refine ⟨_,rfl,_,_,_,true,rfl,.tup hb,rfl,_,rfl,?_⟩;refine A1 ?_;refine ⟨_,rfl,b,_,rfl,.inr (SqT.of hb),rfl,_,rfl,?_⟩;refine Ml rfl ?_;refine ⟨_,rfl,b,_,rfl,SqT.of hb,rfl,_,_,rfl,_,_,rfl,rfl,?_⟩;refine ⟨_,rfl,r.1,rfl,RO.nm.2.1,RO.nm.2.2,fun H1 s1=>⟨_,rfl,?_⟩⟩;rw [RO.nm.1];refine A1 ?_;refine ⟨_,rfl,_,rfl,d,_,rfl,.inl ⟨BL due,Sum.inr r.1,Same.rd s1 hd,rfl,(E7 RO.new).symm⟩,_,rfl,?_⟩;refine A1 ?_;refine ⟨_,rfl,_,rfl,tv,r.2,d,due,rfl,hT.same s1,Same.rd s1 hd,RO.ahead,RO.th,fun H2 s2=>?_⟩;refine ⟨_,rfl,_,rfl,?_⟩;refine CL (fun z=>absurd (of_decide_eq_true z) (by intro q; cases q)) (fun _=>?_);refine ⟨_,rfl,_,_,rfl,rfl,_,rfl,?_⟩;refine CL (fun _=>?_) (fun z=>absurd (decide_eq_true (Int.natCast_nonneg _)) z);refine ⟨_,_,rfl,rfl,_,rfl,?_⟩;have hlt:=RO.lt;refine Ml (show ((Cm due r.2:Nat):Int) <= 1048575 by omega) ?_;exact ⟨_,rfl,k _ (s1.trans s2)⟩
def Ed:Sp:=fun vs H Q _=>∃ (l:Addr) (rows:List (Str × Th)),vs=[.ref l]/\Pq H l rows/\0 < rows.length/\rows.length <= 10/\Ec rows /\
 ∀ d H',Same H H'->H d=none->H' d=some (.dK (BL (Ai rows)))->Q (.ref d) H'
theorem scNumbered:AR ["rows", "numbers", "at", "row", "number"] ["rows"] (defScope Fc):=fsc
theorem RN {x:Str} {n:Nat} (h:x ∉ due.map (·.1)):CG (BL due) (Sum.inr x:Key) (V.int (n:Int))=BL (due++[(x,n)]):=by
 rw [Gn _ (E7 h)];unfold BL;rw [map_append];rfl
theorem Ii (due:Aa):(BL due).length=due.length:=AI _
theorem Bs:∀ rows:List (Str × Th),(Ai rows).length=rows.length:=fun rows=>by
 have:∀ (l:List (Str × Th)) (a:Aa),(l.foldl (fun due r=>due++[(r.1,Cm due r.2)]) a).length=a.length + l.length:=by
  intro l;induction l with
  | nil=>intro a; rfl
  | cons x r ih=>intro a; rw [foldl_cons,ih,length_append,length_cons,length_cons,length_nil]; omega
 have e:=this rows [];rw [length_nil] at e;unfold Ai;omega
theorem Ke {tm:Tok} (F:Fun K "numbered" "numbered" Fc f fd) (B:Bl mg) (hM:mg "MOST_ROWS" = some (.int 10 tm)) (GR:Fn P w K mg base "row_number" 4 ["row", "ahead"] Pr):Aj P w K mg base CX0 5 f fd ["rows"] Ed:=by
 obtain ⟨fR,dR,GR,mR,kR,bR⟩:=GR.ex;refine F.m scNumbered fun vs H Q E h=>?_;obtain ⟨l,rows,rfl,⟨as,hl,hP⟩,h0,h10,RO,k⟩:=h;refine ⟨rfl,fun ad A outer s hr=>?_⟩;have hu:=Cj hr;have ay:as.length=rows.length:=hP.length
 refine ⟨_,AD (Au (PW.pt (DT (BN (BK (CB K rfl rfl B.isi rfl B.list CT (pv 0)))) (CJ (BN (Gh Gf Gf AJ (AS (Ax K rfl) rfl B.len PySem.boot_len (AA (pv 0) AC)) (El (v:=.int 10) rfl hM ⟨tm,rfl⟩)))))) (AF Ad) Ab)
  (AD (Ae (i:=1) scNumbered.nd rfl (Or.inl rfl) Gq)
  (AD (Bg PassesOwn.never rfl (Qz rfl B.enum (AA (pv 0) AC)) (BO rfl (AO (AM (i:=2) scNumbered.nd rfl (Or.inl rfl)) (AO (AM (i:=3) scNumbered.nd rfl (Or.inl rfl)) A2)))
   (AD (Ae (i:=4) scNumbered.nd rfl (Or.inl rfl) (AQ GR hr rfl mR kR bR .nil AZ (AA (pv 3) (AA (pv 1) AC))))
   (AD (Au (D9 (Gb (pv 4))) (AF Ad) Ab)
   (AF (Mj hu (pv 1) (Bq (F7 K rfl) (pv 3) AJ (fun _ _=>rfl)) (pv 4) rfl)))))
  (AF (AV (pv 1))))),?_⟩
 refine ⟨_,rfl,_,_,_,true,rfl,.lst hl,rfl,_,rfl,?_⟩;refine A1 ?_;have hll:(as.map V.ref).length=rows.length:=by rw [AI,ay]
 refine ⟨_,rfl,l,_,rfl,.inl (SqL.of hl),_,_,rfl,rfl,_,rfl,?_⟩;refine CL (fun _=>?_) (fun z=>absurd (decide_eq_true (by rw [hll]; omega)) z);refine ⟨_,_,rfl,rfl,_,rfl,?_⟩;refine Ml (show (((as.map V.ref).length:Nat):Int) <= 10 by rw [hll]; omega) ?_;intro d hdn
 refine ⟨_,rfl,l,rfl,⟨_,SqL.of (AB (Same.refl _) hdn _ _ hl)⟩,Pp (K:=K) (a:=l) (xs:=as.map V.ref) (fun i σ H2=>∃ v1 v2 v3:Option V,σ=[some (.ref l),some (.ref d),v1,v2,v3]/\Same H H2/\H2 d=some (.dK (BL (Ai (rows.take i)))))
  ⟨none,none,none,rfl,AB (Same.refl _) hdn,upd_same⟩ (fun i σ H2 _ ⟨_,_,_,_,s2,_⟩=>SqL.of (s2 _ _ hl)) ?_ ?_⟩
 ·rintro i y σ H2 p hi ⟨v1,v2,v3,rfl,s2,hd2⟩ hp;rw [getElem?_map] at hi
  obtain ⟨b,hb,rfl⟩:∃ b,as[i]?=some b/\y=V.ref b:=by
   cases e:as[i]? with
   | none=>rw [e] at hi; cases hi
   | some x=>rw [e] at hi; exact ⟨x,rfl,(Option.some.inj hi).symm⟩
  obtain ⟨r,hr',hra⟩:=B2 hP hb;have R1:=RO i r hr';have s3:Same H (upd H2 p (.tup [.int i,.ref b])):=AB s2 hp;have hd3:(upd H2 p (.tup [.int i,.ref b])) d=some (.dK (BL (Ai (rows.take i)))):=by rw [AE (AH hd2 hp)]; exact hd2
  refine ⟨p,_,rfl,SqT.of upd_same,rfl,_,_,rfl,_,_,rfl,rfl,?_⟩;refine ⟨_,rfl,_,rfl,b,d,r,Ai (rows.take i),rfl,hra.same s3,.inl hd3,R1,fun H4 s4=>?_⟩;refine ⟨_,rfl,_,rfl,?_⟩;refine CL (fun z=>absurd (of_decide_eq_true z) (by intro q; cases q)) (fun _=>?_);obtain ⟨tv,ai,_⟩:=hra.same (s3.trans s4);refine ⟨_,rfl,_,rfl,_,rfl,b,_,0,.str r.1,rfl,rfl,SqT.of ai,rfl,d,_,rfl,DPut.k (k:=Sum.inr r.1) (s4 _ _ hd3) (AT (by rw [Ii,Bs,length_take]; omega)),?_⟩;refine ⟨_,_,_,rfl,HH (s3.trans s4) hdn,?_⟩;rw [upd_same,RN R1.new,take_add_one,hr',Option.toList_some,Fi]
 ·rintro σ H2 ⟨v1,v2,v3,rfl,s2,hd2⟩;rw [hll,take_length] at hd2;exact ⟨_,rfl,k d H2 s2 hdn hd2⟩
end
noncomputable def AN (due:Aa):List (Nat × Str):=due.foldl (fun fs p=>if (fs.map (·.1)).contains p.2 then fs else fs++[(p.2,p.1)]) []
noncomputable def B3 (fs:List (Nat × Str)):LK:=fs.map fun q=>(Sum.inl (q.1:Int),V.str q.2)
noncomputable def Az (fs:List (Nat × Str)) (n:Nat):Str:=((fs.find? fun q=>decide (q.1=n)).map (·.2)).getD (Str.ofString "")
theorem Cn (due:Aa) (p:Str × Nat):AN (due++[p])=if ((AN due).map (·.1)).contains p.2 then AN due else AN due++[(p.2,p.1)]:=by unfold AN; rw [foldl_append]; rfl
theorem Fj (n:Nat):∀ fs:List (Nat × Str),A7 (B3 fs) (Sum.inl (n:Int):Key)=(fs.find? fun q=>decide (q.1=n)).map fun q=>V.str q.2
 | []=>rfl
 | q :: r=>by
  show A7 ((Sum.inl (q.1:Int),V.str q.2) :: B3 r) (Sum.inl (n:Int))=_;by_cases e:q.1=n
  ·rw [C2 (p:=(Sum.inl (q.1:Int),V.str q.2)) (by rw [← e]),List.find?_cons_of_pos (by simpa using e)]; rfl
  ·rw [C3 (p:=(Sum.inl (q.1:Int),V.str q.2)) (fun z=>e (by have:=Sum.inl.inj z; omega)),List.find?_cons_of_neg (by simpa using e)]; exact Fj n r
theorem HI {fs:List (Nat × Str)} {n:Nat} (h:n ∈ fs.map (·.1)):(fs.find? fun q=>decide (q.1=n)).isSome=true:=by
 obtain ⟨q,hq,e⟩:=mem_map.mp h;rw [List.find?_isSome];exact ⟨q,hq,by simpa using e⟩
theorem E9 {fs:List (Nat × Str)} {n:Nat} (h:n ∈ fs.map (·.1)):A7 (B3 fs) (Sum.inl (n:Int):Key)=some (V.str (Az fs n)):=by
 rw [Fj];unfold Az;obtain ⟨q,hq⟩:=Option.isSome_iff_exists.mp (HI h);rw [hq]; rfl
theorem Fk {fs:List (Nat × Str)} {n:Nat} (h:n ∉ fs.map (·.1)):A7 (B3 fs) (Sum.inl (n:Int):Key)=none:=by
 rw [Fj]
 have:(fs.find? fun q=>decide (q.1=n))=none:=by
  rw [List.find?_eq_none];intro q hq e;exact h (mem_map.mpr ⟨q,hq,by simpa using e⟩)
 rw [this]; rfl
theorem Kh {fs:List (Nat × Str)} {n:Nat} {x:Str} (h:n ∉ fs.map (·.1)):CG (B3 fs) (Sum.inl (n:Int):Key) (V.str x)=B3 (fs++[(n,x)]):=by
 rw [Gn _ (Fk h)];unfold B3;rw [map_append];rfl
theorem Ce (due:Aa):(AN due).length <= due.length:=by
 have:∀ (l:Aa) (a:List (Nat × Str)),(l.foldl (fun fs p=>if (fs.map (·.1)).contains p.2 then fs else fs++[(p.2,p.1)]) a).length <= a.length + l.length:=by
  intro l;induction l with
  | nil=>intro a; exact Nat.le_refl _
  | cons x r ih =>
   intro a;rw [foldl_cons];refine Nat.le_trans (ih _) ?_;split
   ·rw [length_cons]; omega
   ·rw [length_append,length_cons,length_cons,length_nil]; omega
 have e:=this due [];rw [length_nil] at e;unfold AN;omega
theorem Fz (due:Aa):∀ (a:List (Nat × Str)),(a.map (·.1)).Nodup->(∀ n ∈ a.map (·.1),n ∈ (due.foldl (fun fs p=>if (fs.map (·.1)).contains p.2 then fs else fs++[(p.2,p.1)]) a).map (·.1)) /\
  ((due.foldl (fun fs p=>if (fs.map (·.1)).contains p.2 then fs else fs++[(p.2,p.1)]) a).map (·.1)).Nodup/\(∀ p ∈ due,p.2 ∈ (due.foldl (fun fs p=>if (fs.map (·.1)).contains p.2 then fs else fs++[(p.2,p.1)]) a).map (·.1)) /\
  (∀ q ∈ due.foldl (fun fs p=>if (fs.map (·.1)).contains p.2 then fs else fs++[(p.2,p.1)]) a,q ∈ a\/(q.2,q.1) ∈ due):=by
 induction due with
 | nil=>intro a ha; exact ⟨fun n hn=>hn,ha,fun p hp=>(nomatch hp),fun q hq=>.inl hq⟩
 | cons p r ih =>
  intro a ha;rw [foldl_cons];by_cases hc:(a.map (·.1)).contains p.2=true
  ·rw [if_pos hc];obtain ⟨i1,i2,i3,i4⟩:=ih a ha;refine ⟨i1,i2,fun q hq=>?_,fun q hq=>?_⟩
   ·rcases mem_cons.mp hq with rfl | hq
    ·exact i1 _ (by simpa using hc)
    ·exact i3 q hq
   ·rcases i4 q hq with z | z
    ·exact .inl z
    ·exact .inr (mem_cons_of_mem _ z)
  ·rw [if_neg hc];have hnot:p.2 ∉ a.map (·.1):=fun z=>hc (by simpa using z);obtain ⟨i1,i2,i3,i4⟩:=ih (a++[(p.2,p.1)]) (by rw [map_append]; exact Mn ha hnot);refine ⟨fun n hn=>i1 n (by rw [map_append]; exact mem_append_left _ hn),i2,fun q hq=>?_,fun q hq=>?_⟩
   ·rcases mem_cons.mp hq with rfl | hq
    ·exact i1 _ (by rw [map_append]; exact mem_append_right _ (by simp))
    ·exact i3 q hq
   ·rcases i4 q hq with z | z
    ·rcases mem_append.mp z with z | z
     ·exact .inl z
     ·have:q=(p.2,p.1):=by simpa using z
      subst this;exact .inr mem_cons_self
    ·exact .inr (mem_cons_of_mem _ z)
theorem Ij (due:Aa):((AN due).map (·.1)).Nodup:=(Fz due [] nodup_nil).2.1
theorem Ik {q:Nat × Str} (h:q ∈ AN due):(q.2,q.1) ∈ due:=by
 rcases (Fz due [] nodup_nil).2.2.2 q h with z | z
 ·cases z
 ·exact z
section
def HJ:Sp:=fun vs H Q _=>∃ (d:Addr) (o:Obj) (due:Aa),vs=[.ref d]/\H d=some (.frz o (.dK (BL due)))/\due.length <= 100/\∀ e H',Same H H'->H e=none->H' e=some (.dK (B3 (AN due)))->Q (.ref e) H'
theorem scFirsts:AR ["numbers", "firsts", "name", "number"] ["numbers"] (defScope Di):=fsc
theorem Pt {i:Nat} {kv:Key × V} (h:(BL due)[i]?=some kv):∃ p,due[i]?=some p/\kv=(Sum.inr p.1,V.int (p.2:Int)):=by
 unfold BL at h;rw [getElem?_map] at h;cases e:due[i]? with
 | none=>rw [e] at h; cases h
 | some p=>rw [e] at h; exact ⟨p,rfl,(Option.some.inj h).symm⟩
theorem OB (F:Fun K "first_names" "first_names" Di f fd):Aj P w K mg base CX0 1 f fd ["numbers"] HJ:=by
 refine F.m scFirsts fun vs H Q E h=>?_;obtain ⟨d,o,due,rfl,hd,hz,k⟩:=h;refine ⟨rfl,fun ad A outer s hr=>?_⟩
 refine ⟨_,AD (Ae (i:=1) scFirsts.nd rfl (Or.inl rfl) Gq)
  (AD (Bg PassesOwn.never rfl (J7 (pv 0)) (BO rfl (AO (AM (i:=2) scFirsts.nd rfl (Or.inl rfl)) (AO (AM (i:=3) scFirsts.nd rfl (Or.inl rfl)) A2)))
   (AF (DE (Gm PySem.F.plainAttrs_dict PySem.F.slot_dict_setdefault PySem.F.type_dict_setdefault Hs (pv 1) (AA (pv 3) (AA (pv 2) AC))))))
  (AF (AV (pv 1)))),?_⟩
 intro e he
 refine ⟨_,rfl,d,o,BL due,rfl,AB (Same.refl _) he _ _ hd,OA (a:=d) (o:=o) (kvs:=BL due) (fun i σ H2=>∃ v1 v2:Option V,σ=[some (.ref d),some (.ref e),v1,v2]/\Same H H2/\H2 e=some (.dK (B3 (AN (due.take i)))))
  ⟨none,none,rfl,AB (Same.refl _) he,upd_same⟩ (fun i σ H2 ⟨_,_,_,s2,_⟩=>s2 _ _ hd) ?_ ?_⟩
 ·rintro i kv σ H2 p hkv ⟨v1,v2,rfl,s2,he2⟩ hp;obtain ⟨pr,hpr,rfl⟩:=Pt hkv;have s3:Same H (upd H2 p (.tup [.str pr.1,.int (pr.2:Int)])):=AB s2 hp;have he3:(upd H2 p (.tup [.str pr.1,.int (pr.2:Int)])) e=some (.dK (B3 (AN (due.take i)))):=by rw [AE (AH he2 hp)]; exact he2
  have et:due.take (i + 1)=due.take i++[pr]:=by rw [take_add_one,hpr]; rfl
  have hle:(B3 (AN (due.take i))).length <= 100:=by
   unfold B3;rw [AI];have:=Ce (due.take i);rw [length_take] at this;omega
  refine ⟨p,_,rfl,SqT.of upd_same,rfl,_,_,rfl,_,_,rfl,rfl,?_⟩;refine ⟨_,rfl,.inr (.inr (.inl ⟨rfl,.inl ⟨_,he3⟩⟩)),_,rfl,_,rfl,e,_,Sum.inl (pr.2:Int),.str pr.1,rfl,rfl,he3,AT (by omega),fun w' hw=>?_,fun hn=>?_⟩
  ·refine ⟨_,_,rfl,s3,?_⟩;have z:pr.2 ∈ (AN (due.take i)).map (·.1):=Decidable.byContradiction fun z=>by rw [Fk z] at hw; cases hw
   rw [et,Cn,if_pos (by simpa using z)];exact he3
  ·have z:pr.2 ∉ (AN (due.take i)).map (·.1):=fun z=>by rw [E9 z] at hn; cases hn
   refine ⟨_,_,rfl,HH s3 he,?_⟩;rw [upd_same,et,Cn,if_neg (by simpa using z),Kh z]
 ·rintro σ H2 ⟨v1,v2,rfl,s2,he2⟩;rw [Ii,take_length] at he2;exact ⟨_,rfl,k e H2 s2 he he2⟩
end
theorem n12:¬ (("numbers" : Str) = "firsts"):=by decide +kernel
theorem n13:¬ (("numbers" : Str) = "rule"):=by decide +kernel
theorem n23:¬ (("firsts" : Str) = "rule"):=by decide +kernel
noncomputable def Ki (d1 d2:Addr) (r:Str):List (Str × V):=Af "rule" (.str r) (Af "firsts" (.ref d2) (Af "numbers" (.ref d1) []))
theorem HK (d1 d2:Addr) (r:Str):(Ki d1 d2 r).lookup ("numbers" : Str)=some (.ref d1):=by
 unfold Ki;rw [AK,if_neg n13,AK,if_neg n12,AK,if_pos rfl]
theorem Kj (d1 d2:Addr) (r:Str):(Ki d1 d2 r).lookup ("firsts" : Str)=some (.ref d2):=by
 unfold Ki;rw [AK,if_neg n23,AK,if_pos rfl]
theorem F8 (d1 d2:Addr) (r:Str) {m:Str} (h1:¬ m = "rule" := by decide +kernel) (h2:¬ m = "firsts" := by decide +kernel) (h3:¬ m = "numbers" := by decide +kernel):(Ki d1 d2 r).lookup m=none:=by
 unfold Ki;rw [AK,if_neg h1,AK,if_neg h2,AK,if_neg h3];rfl
theorem RP (d1:Addr):(Af "numbers" (V.ref d1) []).lookup ("numbers" : Str)=some (.ref d1):=by rw [AK,if_pos rfl]
structure KindAt (C:Addr) (H:Hp) (p:Addr) (due:Aa) (r:Str):Prop where
 ex:∃ dx d1 o1 d2 o2,H p=some (.ins C dx (Ki d1 d2 r))/\H d1=some (.frz o1 (.dK (BL due)))/\H d2=some (.frz o2 (.dK (B3 (AN due))))
theorem KindAt.same {p:Addr} {r:Str} (s:Same H H') (h:KindAt C H p due r):KindAt C H' p due r:=by
 obtain ⟨dx,d1,o1,d2,o2,a,b,c⟩:=h.ex;exact ⟨⟨dx,d1,o1,d2,o2,s _ _ a,s _ _ b,s _ _ c⟩⟩
structure Lv (K:FG) (C:Addr):Prop where
 cl:Cls K C
 nN:NoAttr K C "numbers"
 nF:NoAttr K C "firsts"
 nR:NoAttr K C "rule"
noncomputable def ruleNames:List Str:=["bar", "drop", "keep", "leave"]
section
def Pu (C:Addr):Sp:=fun vs H Q _=>∃ (p dx l:Addr) (rows:List (Str × Th)) (r:Str),vs=[.ref p,.ref l,.str r]/\H p=some (.ins C dx [])/\Pq H l rows/\0 < rows.length/\rows.length <= 10/\Ec rows/\r ∈ ruleNames /\
 ∀ H',(∀ b o,H b=some o->b ≠ p->H' b=some o)->KindAt C H' p (Ai rows) r->Q .non H'
theorem Si:AR ["self", "rows", "rest"] ["self", "rows", "rest"] (defScope BS):=fsc
theorem Px {r:Str} (h:r ∈ ruleNames):inV (.str r) (ruleNames.map V.str)=true:=by
 unfold inV;rw [any_map,any_eq_true];exact ⟨r,h,by show (r == r)=true; simp⟩
theorem RQ {aR:Addr} (F:Fun K "__init__" "Kind.__init__" BS f fd) (B:Bl mg) (T:Lv K C) (hR:mg "RULES" = some (.ref aR)) (hRT:∀ H:Hp,SqT K H aR (ruleNames.map V.str))
  (GN:Fn P w K mg base "numbered" 5 ["rows"] Ed) (GF:Fn P w K mg base "first_names" 1 ["numbers"] HJ) (GO:Fn P w K mg base "is_one_of" 1 ["thing", "names"] (Du K)):Aj P w K mg base CX0 6 f fd ["self", "rows", "rest"] (Pu C):=by
 obtain ⟨fN,dN,GN,mN,kN,bN⟩:=GN.ex;obtain ⟨fF,dF,GF,mF,kF,bF⟩:=GF.ex;obtain ⟨fO,dO,GO,mO,kO,bO⟩:=GO.ex;refine F.m Si fun vs H Q E h=>?_;obtain ⟨p,dx,l,rows,r,rfl,hp,RA,h0,h10,RO,ao,k⟩:=h;refine ⟨rfl,fun ad A outer s hr=>?_⟩;have hr1:Room 1 _:=hr.mono (by decide)
 refine ⟨_,AD (Bh (pv 0) (AQ GN hr rfl mN kN bN .nil AZ (AA (pv 1) AC)) rfl)
  (Cd (AD (Au (BN (BK (AQ GO hr1 rfl mO kO bO .nil AZ (AA (pv 2) (AA (El (v:=.ref aR) rfl hR rfl) AC))))) (AF Ad) Ab)
  (AD (Bh (pv 0) (AQ GF hr1 rfl mF kF bF .nil AZ (AA (BD (pv 0) rfl) AC)) rfl)
  (Cd (AF (Bh (pv 0) (pv 2) rfl)))))),?_⟩
 refine ⟨_,rfl,l,rows,rfl,RA,h0,h10,RO,fun d1 H1 s1 hd1n hd1=>?_⟩;have npd:p ≠ d1:=AH hp hd1n;refine ⟨_,rfl,p,C,dx,[],rfl,s1 _ _ hp,T.cl,T.nN,(by show 0 < 1000; decide),?_⟩;refine ⟨d1,BL (Ai rows),by rw [AE (Ne.symm npd)]; exact hd1,fun o1=>?_⟩;refine ⟨_,rfl,.inr ⟨r,aR,ruleNames,rfl,hRT _,_,rfl,?_⟩⟩;rw [Px ao];refine A1 ?_;have ak:∀ o,(upd (upd H1 p (.ins C dx (Af "numbers" (.ref d1) []))) d1 o) p=some (.ins C dx (Af "numbers" (.ref d1) [])):=fun o=>by rw [AE npd,upd_same]
 refine ⟨_,rfl,p,C,dx,_,_,rfl,ak _,T.cl,T.nN,RP d1,d1,o1,Ai rows,rfl,upd_same,by rw [Bs]; omega,fun d2 H2 s2 hd2n hd2=>?_⟩;have npd2:p ≠ d2:=AH (ak _) hd2n;have hp3:=s2 _ _ (ak _);refine ⟨_,rfl,p,C,dx,_,rfl,hp3,T.cl,T.nF,(by show 1 < 1000; decide),?_⟩;refine ⟨d2,B3 (AN (Ai rows)),by rw [AE (Ne.symm npd2)]; exact hd2,fun o2=>?_⟩;have hp4:∀ o,(upd (upd H2 p (.ins C dx (Af "firsts" (.ref d2) (Af "numbers" (.ref d1) [])))) d2 o) p=some (.ins C dx (Af "firsts" (.ref d2) (Af "numbers" (.ref d1) []))):=fun o=>by rw [AE npd2,upd_same]
 refine ⟨_,rfl,_,rfl,p,C,dx,_,rfl,hp4 _,T.cl,T.nR,Nat.lt_of_le_of_lt (BA _ _ _) (by show 2 < 1000; decide),?_⟩;have nd12:d1 ≠ d2:=AH (upd_same (H:=upd H1 p (.ins C dx (Af "numbers" (.ref d1) []))) (o:=.frz o1 (.dK (BL (Ai rows))))) hd2n;refine k _ (fun b o e hb=>?_) ⟨⟨dx,d1,o1,d2,o2,upd_same,?_,?_⟩⟩
 ·rw [AE hb,AE,AE hb]
  ·refine s2 _ _ ?_;rw [AE (AH e hd1n),AE hb];exact s1 _ _ e
  ·intro z;subst z
   have:(upd (upd H1 p (.ins C dx (Af "numbers" (.ref d1) []))) d1 (.frz o1 (.dK (BL (Ai rows))))) b=some o:=by
    rw [AE (AH e hd1n),AE hb];exact s1 _ _ e
   rw [hd2n] at this;cases this
 ·rw [AE (Ne.symm npd),AE nd12,AE (Ne.symm npd)];exact s2 _ _ upd_same
 ·rw [AE (Ne.symm npd2),upd_same]
end
structure Mt (P:Program) (w:World) (K:FG) (mg:SV) (base:Heap) (C:Addr) (m:Str) (k:Nat) (ps:List Str) (sp:Sp):Prop where
 ex:∃ f fd,Aj P w K mg base CX0 k f fd ps sp/\NX K C m f/\Binds K fd ps []
noncomputable def FA (due:Aa):List (V × V):=due.map fun p=>(V.str p.1,V.int (p.2:Int))
noncomputable def At (due:Aa):List Nat:=((AN due).map (·.1)).mergeSort fun a b=>decide (a <= b)
noncomputable def AG (due:Aa):List Nat:=(At due).filter Aw
noncomputable def C7 (due:Aa):List (V × V):=(AG due).map fun n=>(V.str (Az (AN due) n),V.int (n:Int))
theorem Cf (due:Aa):(At due).Perm ((AN due).map (·.1)):=List.mergeSort_perm _ _
theorem FB (due:Aa):(At due).Pairwise (· <= ·):=by
 have:=List.pairwise_mergeSort (le:=fun a b:Nat=>decide (a <= b)) (fun a b c h1 h2=>by simp at h1 h2 ⊢; omega) (fun a b=>by simp; omega) ((AN due).map (·.1));exact this.imp fun h=>by simpa using h
theorem Kk {ns:List Int} (hp:ns.Perm ((B3 (AN due)).map fun kv=>match kv.1 with | Sum.inl i=>i | Sum.inr _=>0)) (hs:ns.Pairwise (· <= ·)):ns=(At due).map fun n:Nat=>(n:Int):=by
 refine List.Perm.eq_of_pairwise (le:=(· <= ·)) (fun a b _ _ h1 h2=>Int.le_antisymm h1 h2) hs ?_ ?_
 ·rw [pairwise_map];exact (FB due).imp fun h=>by omega
 ·have e:((B3 (AN due)).map fun kv=>match kv.1 with | Sum.inl i=>i | Sum.inr _=>0)=((AN due).map (·.1)).map fun n:Nat=>(n:Int):=by
   unfold B3;rw [map_map,map_map];rfl
  rw [e] at hp;exact hp.trans ((Cf due).symm.map _)
theorem mem_keysS {n:Nat}:n ∈ At due ↔ n ∈ (AN due).map (·.1):=(Cf due).mem_iff
theorem Dv (due:Aa):(At due).length <= due.length:=by
 rw [(Cf due).length_eq,AI];exact Ce due
section
def FC (C:Addr):Sp:=fun vs H Q _=>∃ (p:Addr) (due:Aa) (r:Str),vs=[.ref p]/\KindAt C H p due r/\due.length <= 60/\∀ l as H',Same H H'->H' l=some (.lst (as.map V.ref))->TupsAt H' as (C7 due)->Q (.ref l) H'
theorem RS:AR ["self"] ["self"] (defScope ER):=fsc
theorem Il {as:List Addr} {ps:List (V × V)} {b:Addr} {p:V × V} (s:Same H H') (h:TupsAt H as ps) (hb:H' b=some (.tup [p.1,p.2])):TupsAt H' (as++[b]) (ps++[p]):=Paired.snoc (TupsAt.same s h) hb
theorem Py (F:Fun K "marks" "Kind.marks" ER f fd) (B:Bl mg) (T:Lv K C) (GM:Fn P w K mg base "is_mark" 1 ["number"] HE):Aj P w K mg base CX0 2 f fd ["self"] (FC C):=by
 obtain ⟨fM,dM,GM,mM,kM,bM⟩:=GM.ex;refine F.m RS fun vs H Q E h=>?_;obtain ⟨p,due,r,rfl,KA,h60,k⟩:=h;refine ⟨rfl,fun ad A outer s hr=>?_⟩;have hu:=Cj hr;obtain ⟨dx,d1,o1,d2,o2,hp,h1,h2⟩:=KA.ex
 refine ⟨_,AF (AV (As ["self"] [some 0] (by kernel_rfl) (by decide +kernel) (by kernel_rfl) rfl (Ac (AS (E2 rfl) rfl B.sorted Fg (AA (BD (pv 0) rfl) AC)))
  (fun _ _ _ _ _ _=>Ba (BK (AQ GM hr rfl mM kM bM .nil AZ (AA (pv 0) AC))))
  (fun _ _ _ _ _ _=>A4 (AA (BM hu (RK K rfl (pv 1) rfl) (pv 0) (fun _ _=>rfl)) (AA (pv 0) AC))))),?_⟩
 have hle:(B3 (AN due)).length <= due.length:=by unfold B3; rw [AI]; exact Ce due
 refine ⟨_,rfl,p,C,dx,_,_,rfl,hp,T.cl,T.nF,Kj _ _ _,d2,_,rfl,.inr ⟨o2,h2⟩,by omega,fun kv hkv=>?_,fun l ns hl cq cr=>?_⟩
 ·unfold B3 at hkv;obtain ⟨q,_,rfl⟩:=mem_map.mp hkv;exact ⟨_,rfl⟩
 ·have en:=Kk cq cr;subst en;have s1:Same H (upd H l (.lst (((At due).map fun n:Nat=>(n:Int)).map V.int))):=AB (Same.refl _) hl;have exs:((At due).map fun n:Nat=>(n:Int)).map V.int=AW (At due):=(DL _).symm
  refine ⟨l,rfl,⟨_,SqL.of upd_same⟩,Ag (K:=K) (a:=l) (xs:=AW (At due))
   (fun i ys H2=>∃ as,ys=as.map V.ref/\Same H H2/\H2 l=some (.lst (AW (At due)))/\TupsAt H2 as ((((At due).take i).filter Aw).map fun n=>(V.str (Az (AN due) n),V.int (n:Int)))) ⟨[],rfl,s1,by rw [upd_same,exs],.nil⟩
   (fun i ys H2 _ ⟨_,_,_,e,_⟩=>SqL.of e) (fun i ys H2 ⟨as,e,_,_,t⟩=>?_) ?_ ?_⟩
  ·have:=t.length;rw [e,AI,this,AI];have h3:(((At due).take i).filter Aw).length <= ((At due).take i).length:=length_filter_le _ _;rw [length_take] at h3;have:=Dv due;omega
  ·rintro i v ys H2 hi ⟨as,rfl,s2,hl2,ht⟩;obtain ⟨n,hn,rfl⟩:=DK hi;have b8:n ∈ (AN due).map (·.1):=mem_keysS.mp (mem_of_getElem? hn);have et:((At due).take (i + 1)).filter Aw=((At due).take i).filter Aw++(if Aw n then [n] else []):=PySem.take_succ_filter Aw _ i n hn;refine ⟨_,rfl,n,rfl,_,rfl,?_⟩;refine CL (fun hm=>?_) (fun hm=>?_)
   ·refine ⟨_,rfl,p,C,dx,_,_,rfl,s2 _ _ hp,T.cl,T.nF,Kj _ _ _,_,rfl,d2,_,rfl,.inl ⟨_,Sum.inl (n:Int),Same.rd s2 (.inr ⟨o2,h2⟩),rfl,(E9 b8).symm⟩,_,rfl,sl2,fun b hb=>?_⟩;refine ⟨as++[b],by rw [map_append]; rfl,AB s2 hb,by rw [AE (AH hl2 hb)]; exact hl2,?_⟩;rw [et,hm,if_pos rfl,map_append];exact Il (AB (Same.refl _) hb) ht upd_same
   ·refine ⟨as,rfl,s2,hl2,?_⟩;rw [et,if_neg hm,append_nil];exact ht
  ·rintro ys H2 ⟨as,rfl,s2,_,ht⟩ q hq
   have el:(At due).take (AW (At due)).length=At due:=by
    have:(AW (At due)).length=(At due).length:=by unfold AW; rw [AI]
    rw [this]; exact take_length
   rw [el] at ht;exact k q as _ (AB s2 hq) upd_same (TupsAt.same (AB (Same.refl _) hq) ht)
end
theorem Kl {as:List Addr} {ps:List (V × V)} {i:Nat} {b:Addr} (h:TupsAt H as ps) (e:as[i]?=some b):∃ p,ps[i]?=some p/\H b=some (.tup [p.1,p.2]):=B2 h e
section
theorem KindAt.ins {p:Addr} {r:Str} (h:KindAt C H p due r):∃ dx d1 d2,H p=some (.ins C dx (Ki d1 d2 r)):=by
 obtain ⟨dx,d1,o1,d2,o2,a,_⟩:=h.ex;exact ⟨dx,d1,d2,a⟩
theorem Im (due:Aa):(C7 due).length=(AG due).length:=AI _
end
theorem M8 (h:∀ p ∈ due,p.2 < 2 ^ 20):∀ n ∈ (AN due).map (·.1),n < 2 ^ 20:=fun n hn=>by
 obtain ⟨q,hq,rfl⟩:=mem_map.mp hn;exact h _ (Ik hq)
theorem Pz (h:∀ p ∈ due,p.2 < 2 ^ 20):∀ n ∈ AG due,n < 2 ^ 20:=fun n hn=>M8 h n (mem_keysS.mp (mem_filter.mp hn).1)
theorem FD {x:Int} {n:Nat} (h0:0 <= x) (h:x < 2 ^ n):Builtin.Int.intBits x <= n:=by
 obtain ⟨m,rfl⟩:=Int.eq_ofNat_of_zero_le h0;have hm:m < 2 ^ n:=by exact_mod_cast h
 rcases Nat.eq_zero_or_pos m with e | hp
 ·subst e; exact Nat.zero_le _
 ·rw [Dg hp];exact (Nat.log2_lt (by omega)).mpr hm
theorem Jd {xs:List V} {i:Int} (h0:0 <= i) (h1:i < xs.length):∃ v,atI xs i=some v/\xs[i.toNat]?=some v:=by
 have hlt:i.toNat < xs.length:=by omega
 refine ⟨xs[i.toNat],?_,List.getElem?_eq_getElem hlt⟩;unfold atI ixN;rw [if_pos h0,if_pos h1];exact List.getElem?_eq_getElem hlt
structure HL (d:Addr) (H H':Hp):Prop where
 old:∀ b o,H b=some o->b ≠ d->H' b=some o
 dice:∃ a b:Int,H' d=some (.lst [.int a,.int b])
section
def Lw (K:FG):Sp:=fun vs H Q _=>∃ (a:Addr) (ns:List Int) (k:Int),vs=[.ref a,.int k]/\SqL K H a (ns.map V.int)/\ns.length <= 63/\0 <= k/\∀ (v:Int) H',Same H H'->Q (.int v) H'
theorem Sj:AR ["_law_script", "_law_k"] ["_law_script", "_law_k"] (defScope HC):=fsc
theorem RV (F:Fun K "_law_cell" "_law_cell" HC f fd) (B:Bl mg):Aj P w K mg base CX0 1 f fd ["_law_script", "_law_k"] (Lw K):=by
 refine F.m Sj fun vs H Q E h=>?_;obtain ⟨a,ns,kk,rfl,hS,h63,hk,k⟩:=h;refine ⟨rfl,fun ad A outer s hr=>?_⟩;have hu:=hr.units
 refine ⟨_,AD (Au (AX (SY K rfl hu) (pv 0) (Ay AC) (Ak _)) (AF (AV (AU Gd (pv 1) AJ))) Ab)
  (AF (AV (AU Cr (Bq (BF K rfl) (pv 0) (AU DY (pv 1) (AS (Ax K rfl) rfl B.len PySem.boot_len (AA (pv 0) AC))) (fun _ _=>rfl))
   (AU Gd (AU JH (pv 1) (AS (Ax K rfl) rfl B.len PySem.boot_len (AA (pv 0) AC))) AJ)))),?_⟩
 refine ⟨_,rfl,Nat.zero_le _,fun p hp=>?_⟩;have s1:Same H (upd H p (.lst [])):=AB (Same.refl _) hp;refine ⟨a,p,ns,[],rfl,rfl,s1.seq hS,SqL.of upd_same,_,rfl,?_⟩;refine CL (fun h0=>?_) (fun h0=>?_)
 ·exact ⟨_,rfl,_,_,rfl,rfl,.inr ⟨by decide,by decide⟩,k _ _ s1⟩
 ·have av:ns ≠ []:=fun z=>h0 (decide_eq_true z);have hpos:0 < ns.length:=List.length_pos_iff.mpr av;have hl:(ns.map V.int).length=ns.length:=AI _;have hm0:0 <= kk % ((ns.map V.int).length:Int):=Int.emod_nonneg _ (by rw [hl]; omega);have hm1:kk % ((ns.map V.int).length:Int) < ((ns.map V.int).length:Nat):=Int.emod_lt_of_pos _ (by rw [hl]; omega);obtain ⟨v,hv,hv2⟩:=Jd (xs:=ns.map V.int) hm0 hm1
  obtain ⟨n,rfl⟩:∃ n,v=V.int n:=by
   rw [getElem?_map] at hv2;cases e:ns[(kk % ((ns.map V.int).length:Int)).toNat]? with
   | none=>rw [e] at hv2; cases hv2
   | some n=>rw [e] at hv2; exact ⟨n,(Option.some.inj hv2).symm⟩
  refine ⟨_,rfl,_,rfl,_,rfl,a,_,rfl,.inl (s1.seq hS),_,_,rfl,rfl,(by rw [hl]; omega),a,_,_,_,rfl,rfl,s1.seq hS,hv,?_⟩;exact ⟨_,rfl,_,rfl,a,_,rfl,.inl (s1.seq hS),_,_,rfl,rfl,⟨by rw [hl]; omega,by rw [hl]; omega⟩,_,_,rfl,rfl,.inr ⟨by decide,by decide⟩,_,_,rfl,rfl,k _ _ s1⟩
def Je:Sp:=fun vs H Q _=>∃ (c k:Int),vs=[.int c,.int k]/\∀ r:Int,0 <= r->Q (.int r) H
theorem scDrawn:AR ["_law_cell_here", "_law_k", "_law_more"] ["_law_cell_here", "_law_k"] (defScope Fd):=fsc
theorem P1 (F:Fun K "_law_drawn" "_law_drawn" Fd f fd):Aj P w K mg base CX0 1 f fd ["_law_cell_here", "_law_k"] Je:=by
 refine F.m scDrawn fun vs H Q E h=>?_;obtain ⟨c,kk,rfl,k⟩:=h;refine ⟨rfl,fun ad A outer s hr=>?_⟩
 refine ⟨_,AD (Ae (i:=2) scDrawn.nd rfl (Or.inl rfl) (AU DY (AU Cr (AU Gd (pv 0) AJ) (AU Gd (AU Cr (pv 1) AJ) AJ)) AJ))
  (AD (Ae (i:=2) scDrawn.nd rfl (Or.inl rfl) (AU DY (AU JR (pv 2) (pv 2)) AJ))
  (AD (Ae (i:=2) scDrawn.nd rfl (Or.inl rfl) (AU JR (AU JR (AU Cr (AU DY (pv 2) AJ) AJ) (AU Cr (AU O3 (pv 2) AJ) AJ)) (pv 2)))
  (AF (AV (AU DY (pv 2) AJ))))),?_⟩
 refine ⟨_,rfl,_,_,rfl,rfl,.inr ⟨by decide,by decide⟩,_,rfl,_,_,rfl,rfl,_,_,rfl,rfl,.inr ⟨by decide,by decide⟩,_,_,rfl,rfl,_,_,rfl,rfl,(by show (0:Int) < _; decide),?_⟩;generalize ha:(c * 6364136223846793005 + (kk + 1) * 1442695040888963407) % 340282366920938463463374607431768211507=m1
 have h1:0 <= m1/\m1 < 2 ^ 130:=by
  rw [← ha];exact ⟨Int.emod_nonneg _ (by decide),Int.lt_trans (Int.emod_lt_of_pos _ (by decide)) (by decide)⟩
 have b1:Builtin.Int.intBits m1 <= 2 ^ 20:=Nat.le_trans (FD h1.1 h1.2) (by decide);subst ha;refine ⟨_,rfl,_,rfl,_,_,rfl,rfl,⟨b1,b1⟩,_,_,rfl,rfl,(by show (0:Int) < _; decide),?_⟩;generalize hb:(c * 6364136223846793005 + (kk + 1) * 1442695040888963407) % 340282366920938463463374607431768211507 * ((c * 6364136223846793005 + (kk + 1) * 1442695040888963407) % 340282366920938463463374607431768211507) % 340282366920938463463374607431768211297=m2
 have h2:0 <= m2/\m2 < 2 ^ 130:=by
  rw [← hb];exact ⟨Int.emod_nonneg _ (by decide),Int.lt_trans (Int.emod_lt_of_pos _ (by decide)) (by decide)⟩
 have b2:Builtin.Int.intBits m2 <= 2 ^ 20:=Nat.le_trans (FD h2.1 h2.2) (by decide)
 have p1:0 <= m2 % 18446744073709551557 + 1/\m2 % 18446744073709551557 + 1 < 2 ^ 65:=by
  have:=Int.emod_nonneg m2 (show (18446744073709551557:Int) ≠ 0 by decide);have:=Int.emod_lt_of_pos m2 (show (0:Int) < 18446744073709551557 by decide);omega
 have p2:0 <= m2 / 18446744073709551557 + 1/\m2 / 18446744073709551557 + 1 < 2 ^ 131:=by
  have h3:=Int.ediv_nonneg h2.1 (show (0:Int) <= 18446744073709551557 by decide);have h4:=Int.ediv_le_self (18446744073709551557) h2.1;omega
 have p3:0 <= (m2 % 18446744073709551557 + 1) * (m2 / 18446744073709551557 + 1):=Int.mul_nonneg p1.1 p2.1
 have p4:(m2 % 18446744073709551557 + 1) * (m2 / 18446744073709551557 + 1) < 2 ^ 196:=by
  have:=Int.mul_lt_mul' (Int.le_of_lt p1.2) p2.2 p2.1 (show (0:Int) < 2 ^ 65 by decide);exact Int.lt_of_lt_of_le this (by decide)
 have c1:Builtin.Int.intBits (m2 % 18446744073709551557 + 1) <= 2 ^ 20:=Nat.le_trans (FD p1.1 p1.2) (by decide);have c2:Builtin.Int.intBits (m2 / 18446744073709551557 + 1) <= 2 ^ 20:=Nat.le_trans (FD p2.1 p2.2) (by decide);have c3:Builtin.Int.intBits ((m2 % 18446744073709551557 + 1) * (m2 / 18446744073709551557 + 1)) <= 2 ^ 20:=Nat.le_trans (FD p3 p4) (by decide);subst hb;refine ⟨_,rfl,_,_,rfl,rfl,(by show (0:Int) < _; decide),_,_,rfl,rfl,_,rfl,_,_,rfl,rfl,⟨by decide,PyProof.noPylong_of_log2 (by decide +kernel)⟩,_,_,rfl,rfl,_,_,rfl,rfl,⟨c1,c2⟩,?_⟩;refine ⟨_,rfl,_,_,rfl,rfl,⟨c3,b2⟩,?_⟩;exact ⟨_,rfl,_,_,rfl,rfl,(by show (0:Int) < _; decide),k _ (Int.emod_nonneg _ (by decide))⟩
def HM:Sp:=fun vs H Q _=>∃ (d:Addr) (a b m:Int),vs=[.ref d,.int m]/\H d=some (.lst [.int a,.int b])/\0 < m/\m < 1073741824/\∀ r a' b':Int,0 <= r->r < m->Q (.int r) (upd H d (.lst [.int a',.int b']))
theorem scRoll:AR ["_law_dice", "_law_many", "_law_told_here"] ["_law_dice", "_law_many"] (defScope HD):=fsc
theorem RW (F:Fun K "_law_roll" "_law_roll" HD f fd) (GD:Fn P w K mg base "_law_drawn" 1 ["_law_cell_here", "_law_k"] Je):Aj P w K mg base CX0 2 f fd ["_law_dice", "_law_many"] HM:=by
 obtain ⟨fD,dD,GD,mD,kD,bD⟩:=GD.ex;refine F.m scRoll fun vs H Q E h=>?_;obtain ⟨d,a,b,m,rfl,hd,m0,m1,k⟩:=h;refine ⟨rfl,fun ad A outer s hr=>?_⟩
 refine ⟨_,AD (Au (AX Ru (Bq (BF K rfl) (pv 0) AJ (fun _ _=>rfl)) (AU Oe AJ AJ) (Ak _))
   (AD (Ae (i:=2) scRoll.nd rfl (Or.inl rfl) (AU DY (Bq (BF K rfl) (pv 0) AJ (fun _ _=>rfl)) (pv 1)))
   (AD (DX (AU JH (Bq (BF K rfl) (pv 0) AJ (fun _ _=>rfl)) (pv 1)) (OX (pv 0) AJ J3))
   (AF (AV (pv 2))))) Ab)
  (AD (DX (AU Cr (Bq (BF K rfl) (pv 0) AJ (fun _ _=>rfl)) AJ) (OX (pv 0) AJ J3))
  (AF (AV (AU DY (AU JH (AQ GD hr rfl mD kD bD .nil AZ (AA (Bq (BF K rfl) (pv 0) AJ (fun _ _=>rfl)) (AA (Bq (BF K rfl) (pv 0) AJ (fun _ _=>rfl)) AC))) AJ) (pv 1))))),?_⟩
 refine ⟨_,rfl,d,_,0,.int a,rfl,rfl,SqL.of hd,CS (j:=0) rfl,_,_,rfl,rfl,⟨by decide,by decide,by decide⟩,_,_,rfl,rfl,_,rfl,?_⟩;refine CL (fun _=>?_) (fun _=>?_)
 ·refine ⟨_,rfl,d,_,0,.int a,rfl,rfl,SqL.of hd,CS (j:=0) rfl,_,rfl,_,_,rfl,rfl,m0,?_⟩;refine ⟨_,rfl,d,_,0,.int a,rfl,rfl,SqL.of hd,CS (j:=0) rfl,_,rfl,_,_,rfl,rfl,⟨m0,m1⟩,_,rfl,d,_,0,0,rfl,rfl,hd,rfl,?_⟩;exact ⟨_,rfl,k _ (a / m) b (Int.emod_nonneg _ (by omega)) (Int.emod_lt_of_pos _ m0)⟩
 ·refine ⟨_,rfl,d,_,1,.int b,rfl,rfl,SqL.of hd,CS (j:=1) rfl,_,_,rfl,rfl,_,rfl,d,_,1,1,rfl,rfl,hd,rfl,?_⟩;have hd2:(upd H d (.lst ([V.int a,V.int b].set 1 (V.int (b + 1))))) d=some (.lst [.int a,.int (b + 1)]):=upd_same;refine ⟨_,rfl,d,_,0,.int a,rfl,rfl,SqL.of hd2,CS (j:=0) rfl,_,rfl,d,_,1,.int (b + 1),rfl,rfl,SqL.of hd2,CS (j:=1) rfl,_,_,rfl,fun r hr0=>?_⟩;refine ⟨_,_,rfl,rfl,⟨by decide,by decide⟩,_,rfl,_,_,rfl,rfl,m0,?_⟩;exact k _ a (b + 1) (Int.emod_nonneg _ (by omega)) (Int.emod_lt_of_pos _ m0)
def HN:Sp:=fun vs H Q _=>∃ (d:Addr) (a b:Int),vs=[.ref d]/\H d=some (.lst [.int a,.int b])/\∀ (r:Str) H',r ∈ (["bar", "drop", "keep", "leave"]:List Str)->HL d H H'->Q (.str r) H'
theorem P2:AR ["_law_dice"] ["_law_dice"] (defScope EW):=fsc
theorem OC (F:Fun K "_law_rule_of" "_law_rule_of" EW f fd) (GR:Fn P w K mg base "_law_roll" 2 ["_law_dice", "_law_many"] HM):Aj P w K mg base CX0 3 f fd ["_law_dice"] HN:=by
 obtain ⟨fR,dR,GR,mR,kR,bR⟩:=GR.ex;refine F.m P2 fun vs H Q E h=>?_;obtain ⟨d,a,b,rfl,hd,k⟩:=h;refine ⟨rfl,fun ad A outer s hr=>?_⟩;refine ⟨_,AF (AV (Bq (BF K rfl) (Ay (AA AY (AA AY (AA AY (AA AY AC))))) (AQ GR hr rfl mR kR bR .nil AZ (AA (pv 0) (AA AJ AC))) (fun _ _=>rfl))),?_⟩;refine ⟨sl4,fun p hp=>?_⟩;have npd:d ≠ p:=AH hd hp;refine ⟨_,rfl,d,a,b,4,rfl,by rw [AE npd]; exact hd,by decide,by decide,fun r a' b' h0 h1=>?_⟩;have hl:(upd (upd H p (.lst [.str "bar", .str "drop", .str "keep", .str "leave"])) d (.lst [.int a',.int b'])) p=some (.lst [.str "bar", .str "drop", .str "keep", .str "leave"]):=by rw [AE (Ne.symm npd),upd_same]
 obtain ⟨v,hv,hv2⟩:=Jd (xs:=[V.str "bar", V.str "drop", V.str "keep", V.str "leave"]) h0 (by show r < 4; exact h1)
 have hin:∃ x,v=.str x/\x ∈ (["bar", "drop", "keep", "leave"]:List Str):=by
  have:=mem_of_getElem? hv2;simp only [mem_cons,not_mem_nil,or_false] at this;rcases this with z | z | z | z
  ·exact ⟨_,z,by simp⟩
  ·exact ⟨_,z,by simp⟩
  ·exact ⟨_,z,by simp⟩
  ·exact ⟨_,z,by simp⟩
 obtain ⟨x,rfl,hx⟩:=hin;refine ⟨p,_,r,_,rfl,rfl,SqL.of hl,hv,k x _ hx ⟨fun c o e hc=>?_,⟨a',b',upd_same⟩⟩⟩;rw [AE hc,AE (AH e hp)];exact e
end
theorem M9 (n k:Nat):decide (V.int (Builtin.bitAnd ((n:Int) / 2 ^ ((0:Int) + (k:Int)).toNat) 1)=V.int 1)=n.testBit k:=by
 have e0:((0:Int) + (k:Int)).toNat=k:=by omega
 have e1:(n:Int) / 2 ^ k=((n / 2 ^ k:Nat):Int):=by push_cast; rfl
 have e2:Builtin.bitAnd ((n / 2 ^ k:Nat):Int) 1=((n / 2 ^ k % 2:Nat):Int):=by
  have:=Cl (n / 2 ^ k) 1;rw [Nat.and_one_is_mod] at this;exact this
 rw [e0,e1,e2,Nat.testBit_eq_decide_div_mod_eq];refine decide_eq_decide.mpr ⟨fun h=>?_,fun h=>?_⟩
 ·have:=V.int.inj h;omega
 ·rw [h]; rfl
section
def HQ (K:FG):Sp:=fun vs H Q _=>∃ (a:Addr) (ns:List Int),vs=[.ref a,.int 3]/\SqL K H a (ns.map V.int)/\ns.length <= 63 /\
 ∀ (l:Addr) (as:List Addr) H',Same H H'->H' l=some (.lst (as.map V.ref))->as.Nodup->l ∉ as->as.length <= 4->(∀ b ∈ as,H b=none/\∃ x y:Int,H' b=some (.lst [.int x,.int y]))->Q (.ref l) H'
theorem P3:AR ["_law_script", "_law_most"] ["_law_script", "_law_most"] (defScope EU):=fsc
theorem OD (F:Fun K "_law_rounds" "_law_rounds" EU f fd) (B:Bl mg) (GC:Fn P w K mg base "_law_cell" 1 ["_law_script", "_law_k"] (Lw K)):Aj P w K mg base CX0 2 f fd ["_law_script", "_law_most"] (HQ K):=by
 obtain ⟨fC,dC,GC,mC,kC,bC⟩:=GC.ex;refine F.m P3 fun vs H Q E h=>?_;obtain ⟨a,ns,rfl,hS,h63,k⟩:=h;refine ⟨rfl,fun ad A outer s hr=>?_⟩
 refine ⟨_,AF (AV (As ["_law_script"] [some 0] (by kernel_rfl) (by decide +kernel) (by kernel_rfl) rfl
  (Cz rfl B.range (AA (AS (NU rfl) rfl B.max Sg (AA AJ (AA (AS (NV rfl) rfl B.min Sf (AA (pv 1) (AA (AS (Ax K rfl) rfl B.len PySem.boot_len (AA (pv 0) AC)) AC))) AC))) AC))
  (fun _ _ _ _ _ _=>BH)
  (fun _ _ _ _ _ _=>Ay (AA (AQ GC hr rfl mC kC bC .nil AZ (AA (pv 1) (AA (pv 0) AC))) (AA AJ AC))))),?_⟩
 have hl:(ns.map V.int).length=ns.length:=AI _;refine ⟨_,rfl,_,rfl,a,_,rfl,.inl hS,_,_,rfl,_,_,rfl,_,rfl,?_,?_,?_⟩
 ·split <;> split <;> omega
 ·split <;> split <;> omega
 ·generalize hn:(if (if (((ns.map V.int).length:Nat):Int) < 3 then (((ns.map V.int).length:Nat):Int) else 3) > 1 then (if (((ns.map V.int).length:Nat):Int) < 3 then (((ns.map V.int).length:Nat):Int) else 3) else 1).toNat=n
  have n5:n <= 4:=by
   rw [← hn];split <;> split <;> omega
  refine EG (lo:=0) (n:=n) (fun i ys H2=>∃ as:List Addr,ys=as.map V.ref/\as.length=i/\i <= 4/\Same H H2/\as.Nodup/\∀ b ∈ as,H b=none/\∃ x y:Int,H2 b=some (.lst [.int x,.int y])) ⟨[],rfl,rfl,by decide,Same.refl _,nodup_nil,fun b hb=>nomatch hb⟩ ?_ ?_ ?_
  ·rintro i ys H2 ⟨as,rfl,e,h5,_⟩;rw [AI]; omega
  ·rintro i ys H2 hi ⟨as,rfl,e,h5,s2,nd,hb⟩;refine ⟨_,rfl,_,rfl,a,ns,_,rfl,s2.seq hS,h63,by omega,fun v H3 s3=>⟨sl2,fun p hp=>?_⟩⟩;refine ⟨as++[p],by rw [map_append]; rfl,by rw [length_append,e]; rfl,by omega,AB (s2.trans s3) hp,?_,fun b hb'=>?_⟩
   ·refine List.nodup_append.mpr ⟨nd,nodup_cons.mpr ⟨not_mem_nil,nodup_nil⟩,?_⟩;intro x hx y hy;rw [mem_singleton] at hy;subst hy;obtain ⟨_,x1,y1,e1⟩:=hb x hx;exact AH (s3 _ _ e1) hp
   ·rcases mem_append.mp hb' with z | z
    ·obtain ⟨h0,x1,y1,e1⟩:=hb b z;exact ⟨h0,x1,y1,AB s3 hp _ _ e1⟩
    ·rw [mem_singleton] at z;subst z;refine ⟨?_,v,0,upd_same⟩;cases e:H b with
     | none=>rfl
     | some o =>
      have:=s3 _ _ (s2 _ _ e);rw [this] at hp;cases hp
  ·rintro ys H2 ⟨as,rfl,e,h5,s2,nd,hb⟩ l hl;refine k l as _ (AB s2 hl) upd_same nd ?_ (by omega) fun b hb'=>?_
   ·intro z;obtain ⟨_,x,y,e1⟩:=hb l z;rw [e1] at hl; cases hl
   ·obtain ⟨h0,x,y,e1⟩:=hb b hb';exact ⟨h0,x,y,AB (Same.refl _) hl _ _ e1⟩
def HR:Sp:=fun vs H Q _=>∃ n:Nat,vs=[.int (n:Int)]/\∀ l ys H',Same H H'->H' l=some (.lst ys)->ys.length=(DF n).length->Q (.ref l) H'
theorem P4:AR ["_law_number"] ["_law_number"] (defScope EV):=fsc
theorem OE (F:Fun K "_law_bits_of" "_law_bits_of" EV f fd) (B:Bl mg):Aj P w K mg base CX0 1 f fd ["_law_number"] HR:=by
 refine F.m P4 fun vs H Q E h=>?_;obtain ⟨n,rfl,k⟩:=h;refine ⟨rfl,fun ad A outer s hr=>?_⟩
 refine ⟨_,AF (AV (As ["_law_number"] [some 0] (by kernel_rfl) (by decide +kernel) (by kernel_rfl) rfl (Cz rfl B.range (AA AJ AC))
  (fun _ _ _ _ _ _=>Ba (AX IB (AU Bx (AU SL (pv 1) (pv 0)) AJ) AJ (Ak _)))
  (fun _ _ _ _ _ _=>AU Ge AJ (pv 0)))),?_⟩
 refine ⟨42,rfl,by decide,by decide,?_⟩;refine EG (lo:=0) (n:=42) (fun i ys H2=>ys.length=((List.range i).filter fun k=>n.testBit k).length/\i <= 42/\H2=H) ⟨rfl,by decide,rfl⟩ ?_ ?_ ?_
 ·rintro i ys H2 ⟨e,hi,_⟩;rw [e];have:=length_filter_le (fun k=>n.testBit k) (List.range i);rw [List.length_range] at this;omega
 ·rintro i ys H2 hi ⟨e,_,rfl⟩;refine ⟨_,rfl,_,rfl,_,_,rfl,rfl,(by omega),_,_,rfl,rfl,?_⟩;refine ⟨rfl,_,rfl,?_⟩
  have er:((List.range (i + 1)).filter fun k=>n.testBit k).length=((List.range i).filter fun k=>n.testBit k).length + (if n.testBit i then 1 else 0):=by
   rw [List.range_succ,filter_append,length_append,filter_cons,filter_nil];split <;> rfl
  refine CL (fun h=>?_) (fun h=>?_)
  ·have hb:n.testBit i=true:=by rw [← M9]; exact h
   refine ⟨_,rfl,_,_,rfl,rfl,⟨by omega,by first | decide | omega,by first | decide | omega⟩,?_,by omega,rfl⟩;rw [er,hb,length_append,e]; rfl
  ·have hb:n.testBit i=false:=by rw [← M9]; exact Bool.eq_false_iff.mpr h
   refine ⟨?_,by omega,rfl⟩;rw [er,hb,e]; rfl
 ·rintro ys H2 ⟨e,_,rfl⟩ l hl;exact k l ys _ (AB (Same.refl _) hl) upd_same e
end
end Mk
end
section
namespace L2
open PySem
def T4 (t u:TS):TS:=fun D σ H=>∃ G:St->Hp->Prop,(∀ R:St->Hp->Prop,(∀ σ H,G σ H->R σ H)->t { D with nx:=R } σ H)/\∀ σ H,G σ H->u D σ H
theorem FE {X:Cx} {st:Stmt} {rest:List Stmt} {t u:TS} (h1:PS X st t) (h2:PSs X rest u):PSs X (st :: rest) (T4 t u):=fun aa s σ H D I ⟨_,a,b⟩=>AD h1 h2 aa s σ H D I (a (u D) b)
end L2
namespace Mk
open PySem L2 MK
def SameT (H H':Hp):Prop:=∀ b xs,H b=some (.tup xs)->H' b=some (.tup xs)
theorem SameT.of (s:Same H H'):SameT H H':=fun b xs e=>s _ _ e
theorem SameT.upd {d:Addr} {xs ys:List V} (h:H d=some (.lst xs)):SameT H (upd H d (.lst ys)):=fun b zs e=>by
 rw [AE (fun z=>by subst z; rw [h] at e; cases e)]; exact e
theorem SameT.trans {H1 H2:Hp} (x:SameT H H1) (y:SameT H1 H2):SameT H H2:=fun b xs e=>y _ _ (x _ _ e)
theorem TupsAt.sameT {as:List Addr} {ps:List (V × V)} (s:SameT H H') (h:TupsAt H as ps):TupsAt H' as ps:=Paired.mapP h fun _ _ e=>s _ _ e
theorem ThAt.sameT {v:V} {th:Th} (s:SameT H H') (h:ThAt H v th):ThAt H' v th:=by
 cases th with
 | non=>exact h
 | num n=>exact h
 | nms ns=>obtain ⟨a,e,h⟩:=h; exact ⟨a,e,s _ _ h⟩
theorem RowAt.sameT {b:Addr} {r:Str × Th} (s:SameT H H') (h:RowAt H b r):RowAt H' b r:=by
 obtain ⟨tv,e,t⟩:=h;exact ⟨tv,s _ _ e,t.sameT s⟩
theorem BZ {as:List Addr} {rows:List (Str × Th)} (s:SameT H H') (h:Paired (RowAt H) as rows):Paired (RowAt H') as rows:=Paired.mapP h fun _ _ e=>e.sameT s
noncomputable def P5 (due:Aa):List PyData:=due.map fun p=>.tuple [.str p.1,.int (p.2:Int)]
theorem P6 {b:Addr} {x:Str} {n:Int} (h:H b=some (.tup [.str x,.int n])):Bz K H (.tuple [.str x,.int n]) (.ref b):=by
 rw [Bz];refine ⟨b,_,rfl,SqT.of h,?_⟩;rw [A6];refine ⟨_,_,rfl,by rw [Bz],?_⟩;rw [A6];refine ⟨_,_,rfl,by rw [Bz],?_⟩;rw [A6]
theorem Km:∀ {due:Aa} {bs:List Addr},TupsAt H bs (FA due)->A6 K H (P5 due) (bs.map V.ref)
 | [],bs,h=>by
  have:bs=[]:=List.eq_nil_of_length_eq_zero (by rw [h.length]; rfl);subst this;show A6 K H [] [];rw [A6]
 | p :: r,[],h=>by have:=h.length; simp [FA] at this
 | p :: r,b :: bs,h=>by
  have hh:H b=some (.tup [.str p.1,.int (p.2:Int)])/\TupsAt H bs (FA r):=by
   cases h with
   | cons h1 h2=>exact ⟨h1,h2⟩
  show A6 K H (.tuple [.str p.1,.int (p.2:Int)] :: P5 r) (V.ref b :: bs.map V.ref);rw [A6];exact ⟨_,_,rfl,P6 hh.1,Km hh.2⟩
theorem Dp:∀ xs:List Str,A6 K H (xs.map PyData.str) (xs.map V.str)
 | []=>by show A6 K H [] []; rw [A6]
 | x :: r=>by
  show A6 K H (.str x :: r.map PyData.str) (V.str x :: r.map V.str);rw [A6];exact ⟨_,_,rfl,by rw [Bz],Dp r⟩
theorem HS:∀ xs:List Nat,A6 K H (xs.map fun n:Nat=>PyData.int (n:Int)) (AW xs)
 | []=>by show A6 K H [] []; rw [A6]
 | x :: r=>by
  show A6 K H (.int x :: r.map fun n:Nat=>PyData.int (n:Int)) (V.int x :: AW r);rw [A6];exact ⟨_,_,rfl,by rw [Bz],HS r⟩
theorem BQ {l:Addr} {ds:List PyData} {xs:List V} (h:H l=some (.lst xs)) (d:A6 K H ds xs):Bz K H (.list ds) (.ref l):=by
 rw [Bz];exact ⟨l,xs,rfl,SqL.of h,d⟩
theorem F9:A6 K H [] []:=by rw [A6]
theorem Jf (ds:List PyData):PyData.eqv (.list ds) (.list [])=ds.isEmpty:=by
 cases ds with
 | nil=>rfl
 | cons a r=>simp [PyData.eqv,PyData.eqvAll]
theorem FF {x:Str} (h:x.cps.all (· < 128)=true):PyData.strOk x=true:=by
 unfold PyData.strOk;simp only [Array.all_eq_true,decide_eq_true_eq] at h ⊢;intro i hi;have:=h i hi;simp;omega
theorem Lx {ds:List PyData} (h:∀ d ∈ ds,d.canLay0=true):PyData.canLayAll0 ds=true:=by
 induction ds with
 | nil=>rfl
 | cons a r ih=>rw [PyData.canLayAll0,h a mem_cons_self,ih fun d hd=>h d (mem_cons_of_mem _ hd)]; rfl
theorem Sk {ds:List PyData} {k:Nat} (h:∀ d ∈ ds,d.depth <= k):PyData.depthAll ds <= k:=by
 induction ds with
 | nil=>rw [PyData.depthAll]; exact Nat.zero_le _
 | cons a r ih=>rw [PyData.depthAll]; exact Nat.max_le.mpr ⟨h a mem_cons_self,ih fun d hd=>h d (mem_cons_of_mem _ hd)⟩
theorem Dq {ds:List PyData} (h:∀ d ∈ ds,d.canLay0=true/\d.depth <= 60):SeqAt.shaped (.list ds)=true:=by
 unfold SeqAt.shaped;rw [Bool.and_eq_true,decide_eq_true_eq];refine ⟨by rw [PyData.canLay0]; exact Lx fun d hd=>(h d hd).1,?_⟩;rw [PyData.depth];have:=Sk (k:=60) fun d hd=>(h d hd).2;omega
theorem P7 {x:Str} {n:Int} (h:x.cps.all (· < 128)=true):(PyData.tuple [.str x,.int n]).canLay0=true/\(PyData.tuple [.str x,.int n]).depth <= 60:=by
 refine ⟨?_,?_⟩
 ·rw [PyData.canLay0];refine Lx fun d hd=>?_;simp only [mem_cons,not_mem_nil,or_false] at hd;rcases hd with rfl | rfl
  ·rw [PyData.canLay0]; exact FF h
  ·rw [PyData.canLay0]
 ·simp only [PyData.depth,PyData.depthAll];omega
theorem Kn (h:∀ p ∈ due,p.1.cps.all (· < 128)=true):SeqAt.shaped (.list (P5 due))=true:=Dq fun d hd=>by
 obtain ⟨p,hp,rfl⟩:=mem_map.mp hd;exact P7 (h p hp)
theorem Co {xs:List Str} (h:∀ x ∈ xs,x.cps.all (· < 128)=true):SeqAt.shaped (.list (xs.map PyData.str))=true:=Dq fun d hd=>by
 obtain ⟨x,hx,rfl⟩:=mem_map.mp hd;exact ⟨by rw [PyData.canLay0]; exact FF (h x hx),by simp [PyData.depth]⟩
theorem Cp (xs:List Nat):SeqAt.shaped (.list (xs.map fun n:Nat=>PyData.int (n:Int)))=true:=Dq fun d hd=>by
 obtain ⟨x,hx,rfl⟩:=mem_map.mp hd;exact ⟨by rw [PyData.canLay0],by simp [PyData.depth]⟩
theorem Ly:SeqAt.shaped (.list [])=true:=by decide +kernel
noncomputable def uni (due:Aa) (ns:List Str):Nat:=Av (due.map fun p=>if inV (.str p.1) (ns.map V.str) then p.2 else 0)
theorem GE (x:Str) (ns:List Str):inV (.str x) (ns.map V.str)=ns.any (· == x):=by
 unfold inV;rw [any_map];rfl
theorem C8 {p:Str × Nat} (nd:(due.map (·.1)).Nodup) (h:p ∈ due):look due p.1=p.2:=by
 induction due with
 | nil=>cases h
 | cons q r ih =>
  rw [map_cons,nodup_cons] at nd;unfold look;by_cases e:q.1=p.1
  ·rw [List.find?_cons_of_pos (by simpa using e)];rcases mem_cons.mp h with z | z
   ·subst z; rfl
   ·exact absurd (mem_map.mpr ⟨p,z,e.symm⟩) nd.1
  ·rw [List.find?_cons_of_neg (by simpa using e)];rcases mem_cons.mp h with z | z
   ·subst z; exact absurd rfl e
   ·exact ih nd.2 z
theorem Sl {ns:List Str} (nd:(due.map (·.1)).Nodup) (hs:∀ x ∈ ns,x ∈ due.map (·.1)):uni due ns=Av (ns.map (look due)):=by
 refine Nat.eq_of_testBit_eq fun k=>?_;unfold uni;rw [CY,CY,any_map,any_map,Bool.eq_iff_iff,any_eq_true,any_eq_true];constructor
 ·rintro ⟨p,hp,hb⟩;simp only [Function.comp] at hb;by_cases hi:inV (.str p.1) (ns.map V.str)=true
  ·rw [if_pos hi] at hb;rw [GE,any_eq_true] at hi;obtain ⟨x,hx,e⟩:=hi;have e':x=p.1:=by simpa using e
   subst e';exact ⟨p.1,hx,by simp only [Function.comp]; rw [C8 nd hp]; exact hb⟩
  ·rw [if_neg hi,Nat.zero_testBit] at hb;cases hb
 ·rintro ⟨x,hx,hb⟩;obtain ⟨p,hp,rfl⟩:=mem_map.mp (hs x hx);refine ⟨p,hp,?_⟩;simp only [Function.comp] at hb ⊢;rw [C8 nd hp] at hb;rw [if_pos (by rw [GE,any_eq_true]; exact ⟨p.1,hx,by simp⟩)];exact hb
theorem Ko {rows:List (Str × Th)} {r:Str × Th} (h:Ec rows) (hr:M7 (Ai rows) r):Ec (rows++[r]):=by
 intro i q e;rcases Nat.lt_trichotomy i rows.length with z | z | z
 ·rw [List.getElem?_append_left z] at e;rw [List.take_append_of_le_length (Nat.le_of_lt z)];exact h i q e
 ·subst z;rw [List.getElem?_append_right (Nat.le_refl _),Nat.sub_self] at e;have:r=q:=by simpa using e
  subst this;rw [List.take_append_of_le_length (Nat.le_refl _),take_length];exact hr
 ·rw [List.getElem?_eq_none (by rw [length_append,length_singleton]; omega)] at e;cases e
theorem Kp {rows:List (Str × Th)} (h:Ec rows) (h10:rows.length <= 10):Kd (Ai rows):=by
 have key:∀ n,n <= rows.length->Kd (Ai (rows.take n)):=by
  intro n;induction n with
  | zero=>intro _; rw [List.take_zero]; exact ⟨by decide,(fun p hp=>nomatch hp),nodup_nil,(fun p hp=>nomatch hp)⟩
  | succ n ih =>
   intro hn;have D:=ih (by omega);have hq:rows[n]?=some rows[n]:=List.getElem?_eq_getElem (by omega);have R:=h n _ hq;rw [take_add_one,hq,Option.toList_some,Fi];refine ⟨?_,fun p hp=>?_,?_,fun p hp=>?_⟩
   ·rw [length_append,length_singleton]; have:=R.few; omega
   ·rcases mem_append.mp hp with z | z
    ·exact D.lt p z
    ·rw [mem_singleton] at z; subst z; exact R.lt
   ·rw [map_append];refine List.nodup_append.mpr ⟨D.nd,nodup_cons.mpr ⟨not_mem_nil,nodup_nil⟩,?_⟩;intro x hx y hy;have ey:y=(rows[n]).1:=by simpa using hy
    subst ey;exact fun z=>R.new (z ▸ hx)
   ·rcases mem_append.mp hp with z | z
    ·exact D.nm p z
    ·rw [mem_singleton] at z; subst z; exact R.nm
 have:=key rows.length (Nat.le_refl _);rw [take_length] at this;exact this
theorem Sm {A B:TT} {σ:St} {Q:Bool->Hp->Prop} (p q:Bool) (hA:∀ Q':Bool->Hp->Prop,Q' p H->A σ H Q') (hB:∀ Q':Bool->Hp->Prop,Q' q H->B σ H Q') (h:Q (p || q) H):tOr A B σ H Q:=by
 refine hA _ ?_;cases p with
 | true=>exact Bd h
 | false=>exact A1 (hB _ h)
theorem RX {A B:TT} {σ:St} {Q:Bool->Hp->Prop} (p q:Bool) (hA:∀ Q':Bool->Hp->Prop,Q' p H->A σ H Q') (hB:∀ Q':Bool->Hp->Prop,(∀ H',Same H H'->Q' q H')->B σ H Q') (h:∀ H',Same H H'->Q (p && q) H'):TR A B σ H Q:=by
 refine hA _ ?_;cases p with
 | true=>exact Bd (hB _ h)
 | false=>exact A1 (h _ (Same.refl _))
theorem Io {p:Addr} (s:Same H H') (h:H' p=none):H p=none:=by
 cases e:H p with
 | none=>rfl
 | some o=>rw [s _ _ e] at h; cases h
theorem Cy {X:Cx} {x:Str} {j} {p:Pos} {es:List Expr} {t:TA} (h:PA X es t):PA X (.Constant (.str x) j p :: es) (Ah (tC (.str x)) t):=AA AY h
theorem OF {X:Cx} {x0 x1 x2 x3 x4 x5 x6 x7 x8 x9:Str} {j0} {j1} {j2} {j3} {j4} {j5} {j6} {j7} {j8} {j9} {p0 p1 p2 p3 p4 p5 p6 p7 p8 p9:Pos}:PA X [.Constant (.str x0) j0 p0,.Constant (.str x1) j1 p1,.Constant (.str x2) j2 p2,.Constant (.str x3) j3 p3,.Constant (.str x4) j4 p4,.Constant (.str x5) j5 p5,.Constant (.str x6) j6 p6,.Constant (.str x7) j7 p7,.Constant (.str x8) j8 p8,.Constant (.str x9) j9 p9] (Ah (tC (.str x0)) (Ah (tC (.str x1)) (Ah (tC (.str x2)) (Ah (tC (.str x3)) (Ah (tC (.str x4)) (Ah (tC (.str x5)) (Ah (tC (.str x6)) (Ah (tC (.str x7)) (Ah (tC (.str x8)) (Ah (tC (.str x9)) (By))))))))))):=Cy (Cy (Cy (Cy (Cy (Cy (Cy (Cy (Cy (Cy (AC))))))))))
theorem C9 {bs:List Addr} {i:Nat} {v:V} (h:TupsAt H bs (FA due)) (e:(bs.map V.ref)[i]?=some v):∃ b p,v=.ref b/\bs[i]?=some b/\due[i]?=some p/\H b=some (.tup [.str p.1,.int (p.2:Int)]):=by
 rw [getElem?_map] at e
 obtain ⟨b,hb,rfl⟩:∃ b,bs[i]?=some b/\v=V.ref b:=by
  cases q:bs[i]? with
  | none=>rw [q] at e; cases e
  | some x=>rw [q] at e; exact ⟨x,rfl,(Option.some.inj e).symm⟩
 obtain ⟨pq,hpq,ai⟩:=Kl h hb;unfold FA at hpq;rw [getElem?_map] at hpq
 obtain ⟨pr,hpr,rfl⟩:∃ q,due[i]?=some q/\pq=(V.str q.1,V.int (q.2:Int)):=by
  cases q:due[i]? with
  | none=>rw [q] at hpq; cases hpq
  | some x=>rw [q] at hpq; exact ⟨x,rfl,(Option.some.inj hpq).symm⟩
 exact ⟨b,pr,rfl,hb,hpr,ai⟩
noncomputable def wordsL:List Str:=["A", "B", "CD", "EFG", "H", "IJKLMN", "O", "P", "Q", "R"]
theorem P8:∀ x ∈ wordsL,T3 x:=by
 have:∀ x ∈ wordsL,(Hy x && x.cps.all (· < 128) && decide (x.length <= 1000))=true:=by decide +kernel
 intro x hx;have:=this x hx;simp only [Bool.and_eq_true,decide_eq_true_eq] at this;exact ⟨this.1.1,this.1.2,this.2⟩
theorem OG:∀ i:Fin 10,(wordsL[i.1]?.map fun x=>decide (x ∈ wordsL.take i.1))=some false:=by decide +kernel
structure LW (d w f u:Addr) (H0 H:Hp) (rows:List (Str × Th)):Prop where
 old:∀ b o,H0 b=some o->b ≠ d->H b=some o
 dice:∃ a b:Int,H d=some (.lst [.int a,.int b])
 words:H w=some (.lst (wordsL.map V.str))
 found:∃ as:List Addr,H f=some (.lst (as.map V.ref))/\Paired (RowAt H) as rows
 due:∃ bs:List Addr,H u=some (.lst (bs.map V.ref))/\TupsAt H bs (FA (Ai rows))
structure Ap (d w f u:Addr) (H0:Hp):Prop where
 wd:w ≠ d
 fd:f ≠ d
 ud:u ≠ d
 wf:w ≠ f
 wu:w ≠ u
 fu:f ≠ u
 nf:H0 f=none
 nu:H0 u=none
section
variable {d w u:Addr} {H0:Hp} {rows:List (Str × Th)}
theorem LW.same (h:LW d w f u H0 H rows) (s:Same H H'):LW d w f u H0 H' rows:=by
 obtain ⟨a,b,e⟩:=h.dice;obtain ⟨as,e1,p1⟩:=h.found;obtain ⟨bs,e2,p2⟩:=h.due;exact ⟨fun c o ec hc=>s _ _ (h.old c o ec hc),⟨a,b,s _ _ e⟩,s _ _ h.words,⟨as,s _ _ e1,BZ (SameT.of s) p1⟩,⟨bs,s _ _ e2,TupsAt.sameT (SameT.of s) p2⟩⟩
theorem LW.roll (A:Ap d w f u H0) (h:LW d w f u H0 H rows) (a' b':Int):LW d w f u H0 (upd H d (.lst [.int a',.int b'])) rows:=by
 obtain ⟨a,b,e⟩:=h.dice;obtain ⟨as,e1,p1⟩:=h.found;obtain ⟨bs,e2,p2⟩:=h.due;have t:SameT H (upd H d (.lst [.int a',.int b'])):=SameT.upd e;exact ⟨fun c o ec hc=>by rw [AE hc]; exact h.old c o ec hc,⟨a',b',upd_same⟩,by rw [AE A.wd]; exact h.words,⟨as,by rw [AE A.fd]; exact e1,BZ t p1⟩,⟨bs,by rw [AE A.ud]; exact e2,TupsAt.sameT t p2⟩⟩
end
theorem DA {rows:List (Str × Th)} {bs:List Addr} (h:TupsAt H bs (FA (Ai rows))):bs.length=rows.length:=by
 rw [h.length]; unfold FA; rw [AI,Bs]
theorem Kq (rows:List (Str × Th)):(Ai rows).map (·.1)=rows.map (·.1):=by
 have:∀ (l:List (Str × Th)) (a:Aa),((l.foldl (fun due r=>due++[(r.1,Cm due r.2)]) a).map (·.1))=a.map (·.1)++l.map (·.1):=by
  intro l;induction l with
  | nil=>intro a; simp
  | cons x r ih=>intro a; rw [foldl_cons,ih,map_append]; simp
 have e:=this rows [];unfold Ai;rw [e]; rfl
noncomputable def Uf:St->Nat
 | [_,_,_,_,_,_,_,_,_,some (.int i),_,_]=>(2 ^ 22 - i).toNat
 | _=>0
section
def Jg:Sp:=fun vs H Q _=>∃ (d:Addr) (a b M:Int),vs=[.ref d,.int M]/\1 <= M/\M <= 10/\H d=some (.lst [.int a,.int b]) /\
 ∀ (q f u:Addr) (as bs:List Addr) (rows:List (Str × Th)) H',HL d H H'->H' q=some (.tup [.ref f,.ref u])->H f=none->H u=none->H' f=some (.lst (as.map V.ref))->Paired (RowAt H') as rows->H' u=some (.lst (bs.map V.ref))->TupsAt H' bs (FA (Ai rows)) ->
  0 < rows.length->(rows.length:Int) <= M->Ec rows->(∀ x ∈ rows.map (·.1),x ∈ wordsL)->Q (.ref q) H'
noncomputable abbrev Sn:List Str:=["_law_dice", "_law_most", "_law_words", "_law_found", "_law_due", "_law_at", "_law_high", "_law_kind", "_law_thing", "_law_number", "_law_name", "_law_more"]
@[irreducible] noncomputable def Lz:Expr:=match defBody B0 with | .Assign _ (.Tuple (e :: _) _ _) _ :: _=>e | _=>.Constant .none 0 ⟨0,0,0,0⟩
noncomputable abbrev RY:Stmt:=match defBody B0 with | .Assign t (.Tuple (_ :: r) k p) q :: _=>.Assign t (.Tuple (Lz :: r) k p) q | _=>.Pass ⟨0,0,0,0⟩
noncomputable abbrev So:List Stmt:=(defBody B0).drop 1
theorem Sq:defBody B0=RY :: So:=by kernel_rfl
theorem OH {X:Cx}:PE X Lz (JI (Ah (tC (.str "A")) (Ah (tC (.str "B")) (Ah (tC (.str "CD")) (Ah (tC (.str "EFG")) (Ah (tC (.str "H")) (Ah (tC (.str "IJKLMN")) (Ah (tC (.str "O")) (Ah (tC (.str "P")) (Ah (tC (.str "Q")) (Ah (tC (.str "R")) (By)))))))))))):=by
 unfold Lz;exact Ay OF
theorem scLines:AR Sn ["_law_dice", "_law_most"] (defScope B0):=fsc
theorem P9 {f0:Addr} (F:Fun K "_law_lines" "_law_lines" B0 f0 fd) (B:Bl mg) (GR:Fn P w K mg base "_law_roll" 2 ["_law_dice", "_law_many"] HM):Aj P w K mg base CX0 3 f0 fd ["_law_dice", "_law_most"] Jg:=by
 obtain ⟨fR,dR,GR,mR,kR,bR⟩:=GR.ex;refine F.m scLines fun vs H Q E h=>?_;obtain ⟨d,a,b,M,rfl,M1,M10,hd,k⟩:=h;refine ⟨rfl,fun ad A outer s hr=>?_⟩;have hu64:=hr.units;have nd:=scLines.nd;rw [Sq]
 refine ⟨_,AD (DX (hs:=by kernel_rfl) (hw:=by kernel_rfl) (A4 (AA (hs:=by kernel_rfl) OH (AA (Ay AC) (AA (Ay AC) AC))))
   (BO rfl (AO (AM (i:=2) scLines.nd rfl (Or.inl rfl)) (AO (AM (i:=3) scLines.nd rfl (Or.inl rfl)) (AO (AM (i:=4) scLines.nd rfl (Or.inr rfl)) A2)))))
  (AD (Bg PassesOwn.never rfl (Cz rfl B.range (AA (AU Cr AJ (AQ GR hr rfl mR kR bR .nil AZ (AA (pv 0) (AA (pv 1) AC)))) AC)) (AM (i:=5) scLines.nd rfl (Or.inl rfl))
   (FE (Ae (i:=6) scLines.nd rfl (Or.inl rfl) (Ms rfl rfl B.max (Cc [] [] (by kernel_rfl) (by decide +kernel) (by kernel_rfl) (by kernel_rfl) rfl (Ac (pv 4)) (fun _ _ _ _ _ _=>BH) (fun _ _ _ _ _ _=>pv 1)) AJ))
   (AD (Ae (i:=7) scLines.nd rfl (Or.inl rfl) (AQ GR hr rfl mR kR bR .nil AZ (AA (pv 0) (AA AJ AC))))
   (AD (DX (hs:=by kernel_rfl) (hw:=by kernel_rfl) (A4 (AA Ga (AA AJ AC))) (BO rfl (AO (AM (i:=8) scLines.nd rfl (Or.inl rfl)) (AO (AM (i:=9) scLines.nd rfl (Or.inl rfl)) A2))))
   (FE (Oa PassesOwn.never (AX Gf (pv 9) (pv 6) (Ak _)) (AF (Ae (i:=9) scLines.nd rfl (Or.inl rfl) (AU Gd (pv 9) AJ))))
   (FE (Au (PW.pt (DT (AX IB (pv 7) AJ (Ak _)) (CJ (AX Ru (pv 9) (AU Oe AJ AJ) (Ak _)))))
     (AD (Ae (i:=8) scLines.nd rfl (Or.inl rfl) (Bq (BF K rfl) (Ay (AA (AU Ge AJ (AQ GR hr rfl mR kR bR .nil AZ (AA (pv 0) (AA AJ AC)))) (AA (AQ GR hr rfl mR kR bR .nil AZ (AA (pv 0) (AA AJ AC)))
      (AA (AU Ge AJ (AQ GR hr rfl mR kR bR .nil AZ (AA (pv 0) (AA AJ AC)))) (AA AJ AC))))) (AQ GR hr rfl mR kR bR .nil AZ (AA (pv 0) (AA AJ AC))) (fun _ _=>rfl)))
     (AF (Ae (i:=9) scLines.nd rfl (Or.inl rfl) (pv 8)))) Ab)
   (FE (Au (PW.pt (FP (AX MZ (pv 7) AJ (Ak _)) (Ds (AX (Gy K rfl hu64) (pv 4) (Ay AC) (Ak _)))))
     (AD (Ae (i:=8) scLines.nd rfl (Or.inl rfl) (BP Dz rfl B.tuple Be (AA (As ["_law_due", "_law_dice"] [some 4,some 0] (by kernel_rfl) (by decide +kernel) (by kernel_rfl) rfl (Cz rfl B.range (AA (AU Cr AJ (AQ GR hr rfl mR kR bR .nil AZ (AA (pv 0) (AA AJ AC)))) AC)) (fun _ _ _ _ _ _=>BH)
      (fun _ _ _ _ _ _=>Bq (F7 K rfl) (Bq (BF K rfl) (pv 1) (AQ GR hr rfl mR kR bR .nil AZ (AA (pv 2) (AA (AS (Ax K rfl) rfl B.len PySem.boot_len (AA (pv 1) AC)) AC))) (fun _ _=>rfl)) AJ (fun _ _=>rfl))) AC)))
     (AD (Ae (i:=9) scLines.nd rfl (Or.inl rfl) AJ)
     (AF (Bg PassesOwn.never rfl (Ac (pv 4)) (BO rfl (AO (AM (i:=10) scLines.nd rfl (Or.inl rfl)) (AO (AM (i:=11) scLines.nd rfl (Or.inl rfl)) A2)))
      (AF (Ae (i:=9) scLines.nd rfl (Or.inl rfl) (AU MU (pv 9) (OV (AX C0 (pv 10) (pv 8) rfl) (pv 11) AJ)))))))) Ab)
   (AD (DE (Gm PySem.F.plainAttrs_list PySem.F.slot_list_append PySem.F.type_list_append C1 (pv 3) (AA (A4 (AA (Bq (BF K rfl) (pv 2) (pv 5) (fun _ _=>rfl)) (AA (pv 8) AC))) AC)))
   (AF (DE (Gm PySem.F.plainAttrs_list PySem.F.slot_list_append PySem.F.type_list_append C1 (pv 4) (AA (A4 (AA (Bq (BF K rfl) (pv 2) (pv 5) (fun _ _=>rfl)) (AA (pv 9) AC))) AC))))))))))))
  (AF (AV (A4 (AA (pv 3) (AA (pv 4) AC)))))),?_⟩
 refine ⟨(by show 10 <= sizeLine; decide),fun pw hpw=>⟨Nat.zero_le _,fun pf hpf=>⟨Nat.zero_le _,fun pu hpu=>⟨sl3,fun q0 hq0=>?_⟩⟩⟩⟩;refine ⟨q0,_,rfl,SqT.of upd_same,rfl,_,_,rfl,_,_,rfl,_,_,rfl,rfl,?_⟩;have dw:pw ≠ d:=Ne.symm (AH hd hpw);have s1:Same H (upd H pw (.lst (wordsL.map V.str))):=AB (Same.refl _) hpw;have s2:Same (upd H pw (.lst (wordsL.map V.str))) (upd (upd H pw (.lst (wordsL.map V.str))) pf (.lst [])):=AB (Same.refl _) hpf;have s3:Same (upd (upd H pw (.lst (wordsL.map V.str))) pf (.lst [])) (upd (upd (upd H pw (.lst (wordsL.map V.str))) pf (.lst [])) pu (.lst [])):=AB (Same.refl _) hpu;have s4:=AB (Same.refl _) hq0 (o:=HO.tup [.ref pw,.ref pf,.ref pu]);have nf0:H pf=none:=Io s1 hpf;have nu0:H pu=none:=Io (s1.trans s2) hpu;have AP:Ap d pw pf pu H:=⟨dw,Ne.symm (AH hd nf0),Ne.symm (AH hd nu0),AH upd_same hpf,AH (s2 _ _ upd_same) hpu,AH upd_same hpu,nf0,nu0⟩;have L0:LW d pw pf pu H _ []:=⟨fun b o e _=>s4 _ _ (s3 _ _ (s2 _ _ (s1 _ _ e))),⟨a,b,s4 _ _ (s3 _ _ (s2 _ _ (s1 _ _ hd)))⟩,s4 _ _ (s3 _ _ (s2 _ _ upd_same)),⟨[],s4 _ _ (s3 _ _ upd_same),.nil⟩,⟨[],s4 _ _ upd_same,.nil⟩⟩;obtain ⟨a1,b1,hd1⟩:=L0.dice;refine ⟨_,rfl,_,rfl,d,a1,b1,M,rfl,hd1,by omega,by omega,fun r a' b' h0 h1=>?_⟩;refine ⟨_,_,rfl,rfl,_,rfl,by omega,by omega,?_⟩
 refine IA (lo:=0) (n:=(1 + r).toNat) (fun i σ H2=>∃ (v5 v6 v7 v8 v9 v10 v11:Option V) (rows:List (Str × Th)),σ=[some (.ref d),some (.int M),some (.ref pw),some (.ref pf),some (.ref pu),v5,v6,v7,v8,v9,v10,v11]/\rows.length=i/\Ec rows/\rows.map (·.1)=wordsL.take i/\LW d pw pf pu H H2 rows)
  ⟨none,none,none,none,none,none,none,[],rfl,rfl,(fun i r e=>by simp at e),rfl,L0.roll AP a' b'⟩ ?_ ?_
 ·rintro i σ H2 hi ⟨v5,v6,v7,v8,v9,v10,v11,rows,rfl,ay,RO,b9,L⟩;have hi10:i < 10:=by omega
  have DO:Kd (Ai rows):=Kp RO (by omega);generalize bq:Dm ((Ai rows).map (·.2))=a0
  have hh20:a0 < 2 ^ 20:=by
   rw [← bq];exact KZ (by decide) fun n hn=>by obtain ⟨p,hp,rfl⟩:=mem_map.mp hn; exact DO.lt p hp
  refine ⟨fun σ H3=>σ=[some (.ref d),some (.int M),some (.ref pw),some (.ref pf),some (.ref pu),some (.int (0 + (i:Int))),some (.int (a0:Int)),v7,v8,v9,v10,v11]/\LW d pw pf pu H H3 rows,fun R hR=>?_,?_⟩
  ·obtain ⟨bs,hu,am⟩:=L.due;have hbl:=DA am;refine ⟨_,rfl,pu,rfl,⟨_,SqL.of hu⟩,Ag (K:=K) (a:=pu) (xs:=bs.map V.ref) (fun j ys H3=>ys=AW (((Ai rows).take j).map (·.2))/\H3=H2) ⟨by rfl,rfl⟩ (fun j ys H3 _ ⟨_,e⟩=>e ▸ SqL.of hu) (fun j ys H3 ⟨e,_⟩=>?_) ?_ ?_⟩
   ·rw [e]; unfold AW; rw [AI,AI,length_take,Bs]; omega
   ·rintro j v ys H3 hj ⟨rfl,rfl⟩;obtain ⟨bb,p,rfl,hb1,aj,ai⟩:=C9 am hj;refine ⟨bb,_,rfl,SqT.of ai,rfl,_,_,rfl,_,_,rfl,rfl,?_⟩;refine ⟨_,rfl,?_,rfl⟩;rw [take_add_one,aj,Option.toList_some,map_append];unfold AW;rw [map_append];rfl
   ·rintro ys H3 ⟨rfl,rfl⟩ p hp;have sp:=AB (Same.refl _) hp (o:=HO.lst (AW (((Ai rows).take (bs.map V.ref).length).map (·.2))));have el:(Ai rows).take (bs.map V.ref).length=Ai rows:=by rw [AI,hbl,← Bs,take_length]
    refine ⟨p,((Ai rows).map (·.2)).map (fun n:Nat=>(n:Int)),0,rfl,rfl,SqL.of (by rw [upd_same,el,DL]),fun e=>?_,fun e=>?_⟩
    ·refine hR _ _ ⟨?_,L.same sp⟩;have:(Ai rows).map (·.2)=[]:=List.map_eq_nil_iff.mp e;rw [this] at bq;subst bq;rfl
    ·refine hR _ _ ⟨?_,L.same sp⟩;have av:(Ai rows).map (·.2) ≠ []:=fun z=>e (by rw [z]; rfl);rw [Ka av,bq];rfl
  ·rintro σ H3 ⟨rfl,L3⟩;obtain ⟨a3,b3,hd3⟩:=L3.dice;refine ⟨_,rfl,d,a3,b3,8,rfl,hd3,by decide,by decide,fun kd a4 b4 kd0 kd1=>?_⟩;have L4:=L3.roll AP a4 b4;refine ⟨sl2,fun q hq=>⟨q,_,rfl,SqT.of upd_same,rfl,_,_,rfl,_,_,rfl,rfl,?_⟩⟩;have L5:=L4.same (AB (Same.refl _) hq (o:=HO.tup [V.non,V.int 1]));refine ⟨fun σ H6=>σ=[some (.ref d),some (.int M),some (.ref pw),some (.ref pf),some (.ref pu),some (.int (0 + (i:Int))),some (.int (a0:Int)),some (.int kd),some .non,some (.int (BY a0:Nat)),v10,v11]/\LW d pw pf pu H H6 rows,fun R hR=>?_,?_⟩
   ·refine Oc (fun σ H6=>LW d pw pf pu H H6 rows/\∃ j:Nat,j <= 20/\σ=[some (.ref d),some (.int M),some (.ref pw),some (.ref pf),some (.ref pu),some (.int (0 + (i:Int))),some (.int (a0:Int)),some (.int kd),some .non,some (.int ((2 ^ j:Nat):Int)),v10,v11]/\(j=0\/2 ^ (j - 1) <= a0)) (fun σ _=>Uf σ) ⟨L5,0,by omega,rfl,.inl rfl⟩ ?_ ?_
    ·rintro σ H6 ⟨L6,j,hj,rfl,hjj⟩;refine ⟨_,rfl,_,rfl,_,_,rfl,rfl,_,rfl,?_⟩;refine CL (fun hle=>?_) (fun hle=>?_)
     ·have hle':2 ^ j <= a0:=by have:=of_decide_eq_true hle; exact_mod_cast this
      have hj20:j < 20:=(Nat.pow_lt_pow_iff_right (by decide)).mp (Nat.lt_of_le_of_lt hle' hh20);refine ⟨_,rfl,_,_,rfl,rfl,.inr ⟨by decide,by decide⟩,?_⟩;have e2:(((2 ^ j:Nat):Int) * 2)=((2 ^ (j + 1):Nat):Int):=by rw [Nat.pow_succ]; omega
      refine ⟨⟨L6,j + 1,by omega,?_,.inr hle'⟩,?_⟩
      ·show [some (V.ref d),some (V.int M),some (V.ref pw),some (V.ref pf),some (V.ref pu),some (V.int (0 + (i:Int))),some (V.int (a0:Int)),some (V.int kd),some V.non,some (V.int (((2 ^ j:Nat):Int) * 2)),v10,v11]=_;rw [e2]
      ·show (2 ^ 22 - (((2 ^ j:Nat):Int) * 2)).toNat < (2 ^ 22 - ((2 ^ j:Nat):Int)).toNat;have h1:0 < 2 ^ j:=Nat.two_pow_pos j;have h2:2 ^ j <= 2 ^ 20:=Nat.pow_le_pow_right (by decide) hj;omega
     ·have hgt:a0 < 2 ^ j:=by
       have:¬ ((2 ^ j:Nat):Int) <= (a0:Int):=fun z=>hle (decide_eq_true z);omega
      refine hR _ _ ⟨?_,L6⟩;rw [KY hgt hjj]
    ·rintro σ H6 Q1 Q2 hQ ⟨v,e1,v2,e2,i,j,a,b,c,ec,q⟩;exact ⟨v,e1,v2,e2,i,j,a,b,c,ec,hQ _ _ q⟩
   ·rintro σ H6 ⟨rfl,L6⟩;have hsig:∀ (tv nv w10 w11:V),True:=fun _ _ _ _=>trivial;refine ⟨fun σ H7=>∃ (tv:V) (th:Th) (w10 w11:Option V),σ=[some (.ref d),some (.int M),some (.ref pw),some (.ref pf),some (.ref pu),some (.int (0 + (i:Int))),some (.int (a0:Int)),some (.int kd),some tv,some (.int (Cm (Ai rows) th:Nat)),w10,w11]/\LW d pw pf pu H H7 rows/\ThAt H7 tv th/\RL (Ai rows) th/\Cm (Ai rows) th < 2 ^ 20,fun R hR=>?_,?_⟩
    ·refine Sm (decide (V.int kd=V.int 5)) (decide ((2:Int) ^ (20:Int).toNat <= (BY a0:Nat))) (fun Q' h=>⟨_,rfl,rfl,_,rfl,h⟩) (fun Q' h=>⟨_,rfl,_,_,rfl,rfl,⟨by decide,by decide,by decide⟩,_,_,rfl,rfl,_,rfl,h⟩) ?_;refine CL (fun _=>?_) (fun hc=>?_)
     ·obtain ⟨x1,y1,e1⟩:=L6.dice;refine ⟨_,rfl,d,x1,y1,8,rfl,e1,by decide,by decide,fun r1 a1 b1 r10 r11=>?_⟩;have M1:=L6.roll AP a1 b1;refine ⟨_,_,rfl,rfl,⟨r10,by omega,by decide⟩,?_⟩;obtain ⟨x2,y2,e2⟩:=M1.dice;refine ⟨_,rfl,d,x2,y2,64,rfl,e2,by decide,by decide,fun r2 a2 b2 r20 r21=>?_⟩;have M2:=M1.roll AP a2 b2;obtain ⟨x3,y3,e3⟩:=M2.dice;refine ⟨_,rfl,d,x3,y3,20,rfl,e3,by decide,by decide,fun r3 a3 b3 r30 r31=>?_⟩;have M3:=M2.roll AP a3 b3;refine ⟨_,_,rfl,rfl,⟨r30,by omega,by decide⟩,?_⟩;refine ⟨sl4,fun p hp=>?_⟩;have M4:=M3.same (AB (Same.refl _) hp (o:=HO.lst [V.int (1 * 2 ^ r1.toNat),V.int r2,V.int (1 * 2 ^ r3.toNat),V.int 0]));obtain ⟨x4,y4,e4⟩:=M4.dice;have npd:p ≠ d:=Ne.symm (AH upd_same hp);refine ⟨_,rfl,d,x4,y4,4,rfl,e4,by decide,by decide,fun r4 a4 b4 r40 r41=>?_⟩;have M5:=M4.roll AP a4 b4;obtain ⟨v,hv,hv2⟩:=Jd (xs:=[V.int (1 * 2 ^ r1.toNat),V.int r2,V.int (1 * 2 ^ r3.toNat),V.int 0]) r40 (by show r4 < 4; exact r41)
      have hin:∃ n:Nat,v=.int (n:Int)/\n < 2 ^ 20:=by
       have:=mem_of_getElem? hv2;simp only [mem_cons,not_mem_nil,or_false] at this;rcases this with z | z | z | z
       ·refine ⟨2 ^ r1.toNat,by rw [z]; simp,?_⟩;exact (Nat.pow_lt_pow_iff_right (by decide)).mpr (by omega)
       ·exact ⟨r2.toNat,by rw [z,Int.toNat_of_nonneg r20],by omega⟩
       ·refine ⟨2 ^ r3.toNat,by rw [z]; simp,?_⟩;exact (Nat.pow_lt_pow_iff_right (by decide)).mpr (by omega)
       ·exact ⟨0,z,by decide⟩
      obtain ⟨n,rfl,hn⟩:=hin;refine ⟨p,_,r4,_,rfl,rfl,SqL.of (by rw [AE npd]; exact upd_same),hv,?_⟩;exact ⟨_,rfl,hR _ _ ⟨.int (n:Int),.num n,v10,v11,rfl,M5,rfl,trivial,hn⟩⟩
     ·refine hR _ _ ⟨.non,.non,v10,v11,?_,L6,rfl,trivial,?_⟩
      ·show _=[some (V.ref d),some (V.int M),some (V.ref pw),some (V.ref pf),some (V.ref pu),some (V.int (0 + (i:Int))),some (V.int (a0:Int)),some (V.int kd),some V.non,some (V.int ((BY (Dm ((Ai rows).map (·.2))):Nat):Int)),v10,v11];rw [bq]
      ·show BY (Dm ((Ai rows).map (·.2))) < 2 ^ 20;rw [bq];have h2:¬ ((2:Int) ^ (20:Int).toNat <= (BY a0:Nat)):=fun z=>hc (by rw [decide_eq_true z,Bool.or_true]);have h3:((2:Int) ^ (20:Int).toNat)=1048576:=by decide
       omega
    ·rintro σ H7 ⟨tv,th,w10,w11,rfl,L7,hT,hTO,hlt⟩;obtain ⟨bs,hu,am⟩:=L7.due;have hbl:=DA am;refine ⟨fun σ H8=>∃ (tv:V) (th:Th) (w10 w11:Option V),σ=[some (.ref d),some (.int M),some (.ref pw),some (.ref pf),some (.ref pu),some (.int (0 + (i:Int))),some (.int (a0:Int)),some (.int kd),some tv,some (.int (Cm (Ai rows) th:Nat)),w10,w11]/\LW d pw pf pu H H8 rows/\ThAt H8 tv th/\RL (Ai rows) th/\Cm (Ai rows) th < 2 ^ 20,fun R hR=>?_,?_⟩
     ·refine RX (decide ((5:Int) < kd)) (!(P5 (Ai rows)).isEmpty) (fun Q' h=>⟨_,rfl,_,_,rfl,rfl,_,rfl,h⟩) (fun Q' h=>⟨_,rfl,Nat.zero_le _,fun p hp=>?_⟩) (fun H8 s8=>?_)
      ·have sp:=AB (Same.refl _) hp (o:=HO.lst []);refine ⟨.list (P5 (Ai rows)),.list [],BQ (sp _ _ hu) (Km (TupsAt.sameT (SameT.of sp) am)),BQ upd_same F9,Kn fun p hp=>(DO.nm p hp).2.1,Ly,_,rfl,?_⟩;rw [Jf];exact h _ sp
      ·refine CL (fun hc=>?_) (fun hc=>?_)
       ·have av:0 < bs.length:=by
         rw [Bool.and_eq_true] at hc;have h2:=hc.2;rw [hbl,← Bs];cases hz:Ai rows with
         | nil=>rw [hz] at h2; cases h2
         | cons x r=>simp
        have L8:=L7.same s8;obtain ⟨x1,y1,e1⟩:=L8.dice;refine ⟨_,rfl,d,x1,y1,3,rfl,e1,by decide,by decide,fun r1 a1 b1 r10 r11=>?_⟩;have M1:=L8.roll AP a1 b1;refine ⟨_,_,rfl,rfl,_,rfl,by omega,by omega,?_⟩;refine EG (lo:=0) (n:=(1 + r1).toNat) (fun j ys H9=>∃ ns:List Str,ys=ns.map V.str/\ns.length=j/\j <= 3/\(∀ x ∈ ns,x ∈ (Ai rows).map (·.1))/\LW d pw pf pu H H9 rows) ⟨[],rfl,rfl,by decide,(fun x hx=>nomatch hx),M1⟩ ?_ ?_ ?_
        ·rintro j ys H9 ⟨ns,rfl,e,h3,_⟩;rw [AI]; omega
        ·rintro j ys H9 hj ⟨ns,rfl,e,h3,hin,L9⟩;obtain ⟨x2,y2,e2⟩:=L9.dice;obtain ⟨cs,hu9,ax⟩:=L9.due;have af:=DA ax;have aq:(cs.map V.ref).length=bs.length:=by rw [AI,af,hbl]
         refine ⟨_,rfl,_,rfl,_,rfl,pu,_,rfl,.inl (SqL.of hu9),d,x2,y2,_,rfl,e2,by rw [aq]; omega,by rw [aq]; omega,fun r2 a2 b2 r20 r21=>?_⟩;have M2:=L9.roll AP a2 b2;have hu10:(upd H9 d (.lst [.int a2,.int b2])) pu=some (.lst (cs.map V.ref)):=by rw [AE AP.ud]; exact hu9
         have hcs2:TupsAt (upd H9 d (.lst [.int a2,.int b2])) cs (FA (Ai rows)):=TupsAt.sameT (SameT.upd e2) ax;obtain ⟨v,hv,hv2⟩:=Jd (xs:=cs.map V.ref) r20 (by exact r21);obtain ⟨bb,p,rfl,_,aj,ai⟩:=C9 hcs2 hv2;refine ⟨pu,_,r2,_,rfl,rfl,SqL.of hu10,hv,bb,_,0,.str p.1,rfl,rfl,SqT.of ai,rfl,?_⟩;refine ⟨ns++[p.1],by rw [map_append]; rfl,by rw [length_append,e]; rfl,by omega,fun x hx=>?_,M2⟩;rcases mem_append.mp hx with z | z
         ·exact hin x z
         ·rw [mem_singleton] at z;subst z;exact mem_map.mpr ⟨p,mem_of_getElem? aj,rfl⟩
        ·rintro ys H9 ⟨ns,rfl,e,h3,hin,L9⟩ l hl;have L10:=L9.same (AB (Same.refl _) hl (o:=HO.lst (ns.map V.str)));refine ⟨l,_,rfl,.inl ⟨SqL.of upd_same,fun t ht=>?_⟩⟩;have L11:=L10.same (AB (Same.refl _) ht (o:=HO.tup (ns.map V.str)));obtain ⟨cs,hu11,ax⟩:=L11.due;have af:=DA ax;refine ⟨_,rfl,pu,rfl,⟨_,SqL.of hu11⟩,BC (K:=K) (a:=pu) (xs:=cs.map V.ref) (fun j σ H12=>H12=upd (upd H9 l (.lst (ns.map V.str))) t (.tup (ns.map V.str))/\∃ w10 w11:Option V,σ=[some (.ref d),some (.int M),some (.ref pw),some (.ref pf),some (.ref pu),some (.int (0 + (i:Int))),some (.int (a0:Int)),some (.int kd),some (.ref t),some (.int (uni ((Ai rows).take j) ns:Nat)),w10,w11]) ⟨rfl,w10,w11,rfl⟩ (fun j σ H12 _ ⟨e,_⟩=>e ▸ SqL.of hu11) ?_ ?_⟩
         ·rintro j v σ H12 hj ⟨rfl,w10,w11,rfl⟩;obtain ⟨bb,p,rfl,_,aj,ai⟩:=C9 ax hj;refine ⟨bb,_,rfl,SqT.of ai,rfl,_,_,rfl,_,_,rfl,rfl,?_⟩;refine ⟨_,rfl,_,rfl,_,rfl,t,_,rfl,.inr (SqT.of upd_same),rfl,?_,_,rfl,?_⟩
          ·rw [all_map];exact List.all_eq_true.mpr fun _ _=>rfl
          ·have eu:uni ((Ai rows).take (j + 1)) ns=uni ((Ai rows).take j) ns ||| (if inV (.str p.1) (ns.map V.str) then p.2 else 0):=by
            unfold uni;rw [take_add_one,aj,Option.toList_some,map_append];exact EM _ _
           refine CL (fun hc2=>?_) (fun hc2=>?_)
           ·refine ⟨_,rfl,_,_,rfl,rfl,rfl,some (.str p.1),some (.int (p.2:Int)),?_⟩;have hc3:inV (.str p.1) (ns.map V.str)=true:=hc2;rw [hc3,if_pos rfl] at eu;rw [eu,← EL];rfl
           ·refine ⟨_,_,rfl,rfl,rfl,some (.str p.1),some (.int (p.2:Int)),?_⟩;have hc3:inV (.str p.1) (ns.map V.str)=false:=Bool.eq_false_iff.mpr hc2;rw [hc3,if_neg Bool.false_ne_true] at eu;rw [eu,← EL];rfl
         ·rintro σ H12 ⟨rfl,w10,w11,rfl⟩;have el:(Ai rows).take (cs.map V.ref).length=Ai rows:=by rw [AI,af,← Bs,take_length]
          have en:Cm (Ai rows) (.nms ns)=uni (Ai rows) ns:=(Sl DO.nd hin).symm;have eL:ns.length=(1 + r1).toNat:=e;refine hR _ _ ⟨.ref t,.nms ns,w10,w11,by rw [el,en],L11,⟨t,rfl,upd_same⟩,⟨?_,by omega,hin⟩,?_⟩
          ·intro z; subst z; simp at eL; omega
          ·show Av (ns.map (look (Ai rows))) < 2 ^ 20;refine KW fun n hn=>?_;obtain ⟨x,hx,rfl⟩:=mem_map.mp hn;obtain ⟨p,hp,rfl⟩:=mem_map.mp (hin x hx);rw [C8 DO.nd hp];exact DO.lt p hp
       ·exact hR _ _ ⟨tv,th,w10,w11,rfl,L7.same s8,hT.same s8,hTO,hlt⟩
     ·rintro σ H8 ⟨tv,th,w10,w11,rfl,L8,hT,hTO,hlt⟩;obtain ⟨as,hf,hP⟩:=L8.found;have ar:as.length=rows.length:=hP.length;have hw:wordsL[i]?=some wordsL[i]:=List.getElem?_eq_getElem hi10;generalize ap:wordsL[i]=wd at hw
      have hat:atI (wordsL.map V.str) (0 + (i:Int))=some (.str wd):=by
       have:(0:Int) + (i:Int)=((i:Nat):Int):=by omega
       rw [this];exact CS (by rw [getElem?_map,hw]; rfl)
      refine ⟨_,rfl,.inl ⟨rfl,_,SqL.of hf⟩,_,rfl,_,rfl,pw,_,_,.str wd,rfl,rfl,SqL.of L8.words,hat,_,rfl,sl2,fun p hp=>?_⟩;have sp:=AB (Same.refl _) hp (o:=HO.tup [V.str wd,tv]);have hz1:(as.map V.ref).length < sizeLine:=AT (by rw [AI]; omega);refine ⟨pf,_,.ref p,rfl,rfl,sp _ _ hf,hz1,?_⟩;have t1:SameT (upd H8 p (.tup [V.str wd,tv])) (upd (upd H8 p (.tup [V.str wd,tv])) pf (.lst (as.map V.ref++[.ref p]))):=SameT.upd (sp _ _ hf);obtain ⟨bs,hu,am⟩:=L8.due;have hbl:=DA am;have hu1:(upd (upd H8 p (.tup [V.str wd,tv])) pf (.lst (as.map V.ref++[.ref p]))) pu=some (.lst (bs.map V.ref)):=by rw [AE (Ne.symm AP.fu)]; exact sp _ _ hu
      have hw1:(upd (upd H8 p (.tup [V.str wd,tv])) pf (.lst (as.map V.ref++[.ref p]))) pw=some (.lst (wordsL.map V.str)):=by rw [AE AP.wf]; exact sp _ _ L8.words
      refine ⟨_,rfl,.inl ⟨rfl,_,SqL.of hu1⟩,_,rfl,_,rfl,pw,_,_,.str wd,rfl,rfl,SqL.of hw1,hat,_,rfl,sl2,fun q hq=>?_⟩;have sq:=AB (Same.refl _) hq (o:=HO.tup [V.str wd,V.int ((Cm (Ai rows) th:Nat):Int)]);have hz2:(bs.map V.ref).length < sizeLine:=AT (by rw [AI]; omega);refine ⟨pu,_,.ref q,rfl,rfl,sq _ _ hu1,hz2,?_⟩;have t2:=SameT.upd (sq _ _ hu1) (ys:=bs.map V.ref++[.ref q]);have tall:=((SameT.of sp).trans t1).trans ((SameT.of sq).trans t2);obtain ⟨x,y,ed⟩:=L8.dice;have RR:M7 (Ai rows) (wd,th):=⟨DO,by rw [Bs]; omega,P8 wd (mem_of_getElem? hw),?_,hTO,hlt⟩;refine ⟨_,_,_,_,_,_,_,rows++[(wd,th)],rfl,by rw [length_append,ay]; rfl,Ko RO RR,?_,?_⟩
      ·rw [map_append,b9,take_add_one,hw,Option.toList_some]; rfl
      ·refine ⟨fun c o ec hc=>?_,⟨x,y,?_⟩,?_,⟨as++[p],?_,?_⟩,⟨bs++[q],?_,?_⟩⟩
       ·have n1:c ≠ pu:=AH ec AP.nu;have n2:c ≠ pf:=AH ec AP.nf;rw [AE n1];refine sq _ _ ?_;rw [AE n2];exact sp _ _ (L8.old c o ec hc)
       ·rw [AE (Ne.symm AP.ud)];refine sq _ _ ?_;rw [AE (Ne.symm AP.fd)];exact sp _ _ ed
       ·rw [AE AP.wu];exact sq _ _ hw1
       ·rw [AE AP.fu];refine sq _ _ ?_;rw [upd_same,map_append]; rfl
       ·refine Paired.snoc (BZ tall hP) ?_;exact ⟨tv,t2 _ _ (sq _ _ (t1 _ _ upd_same)),hT.sameT tall⟩
       ·rw [upd_same,map_append]; rfl
       ·rw [Fi];unfold FA;rw [map_append];exact Paired.snoc (TupsAt.sameT tall am) (t2 _ _ upd_same)
      ·rw [Kq,b9];intro z;have key:=OG ⟨i,hi10⟩;rw [hw] at key;have:=Option.some.inj key;exact of_decide_eq_false this z
 ·rintro σ H2 ⟨v5,v6,v7,v8,v9,v10,v11,rows,rfl,ay,RO,b9,L⟩;obtain ⟨as,hf,hP⟩:=L.found;obtain ⟨bs,hu,am⟩:=L.due;refine ⟨_,rfl,_,rfl,sl2,fun q hq=>?_⟩;have sq:=AB (Same.refl _) hq (o:=HO.tup [V.ref pf,V.ref pu]);refine k q pf pu as bs rows _ ⟨fun c o e hc=>sq _ _ (L.old c o e hc),?_⟩ upd_same nf0 nu0 (sq _ _ hf) (BZ (SameT.of sq) hP) (sq _ _ hu) (TupsAt.sameT (SameT.of sq) am) (by omega) (by omega) RO (fun x hx=>List.mem_of_mem_take (b9 ▸ hx));obtain ⟨x,y,e⟩:=L.dice;exact ⟨x,y,sq _ _ e⟩
end
structure Ug (K:FG) (C:Addr):Prop where
 cl:Cls K C
 ha:W.findIn K (.ref C) "__class__" = some (some (.builtin "object.__class__"))
 hn:W.specialIn K (.builtin "object.__class__") "__get__" = some (some (.builtin "getset_descriptor.__get__"))
 ht:W.takesIn K (.builtin "object.__class__")=some true
 hm:W.mroIn K C (.type "object")=some true
 nl:W.kitOne K (.type "list") (.ref C)=some false
theorem Kr (K:FG) (C:Addr):W.kitOne K (.ref C) (.ref C)=some true:=by
 unfold W.kitOne;rw [if_pos (by simp)]
section
def Asc (due:Aa):Prop:=∀ p ∈ due,p.1.cps.all (· < 128)=true
end
noncomputable def QA (due:Aa) (e m:Addr):LK:=[(Sum.inr "known", V.int (Av (due.map (·.2)):Nat)),(Sum.inr "firsts", V.ref e),(Sum.inr "marks", V.ref m),(Sum.inr "bits", V.int (Av (AG due):Nat))]
theorem Sr (a b c d:V):FV [] [((Sum.inr "known" : Key),a),(Sum.inr "firsts", b),(Sum.inr "marks", c),(Sum.inr "bits", d)]=[((Sum.inr "known" : Key),a),(Sum.inr "firsts", b),(Sum.inr "marks", c),(Sum.inr "bits", d)]:=by kernel_rfl
theorem B4 (due:Aa) (e m:Addr):A7 (QA due e m) (Sum.inr "marks")=some (V.ref m):=by kernel_rfl
theorem QB (due:Aa) (e m:Addr):A7 (QA due e m) (Sum.inr "bits")=some (V.int (Av (AG due):Nat)):=by kernel_rfl
theorem Ip (due:Aa):(AG due).Pairwise (· < ·):=by
 have h1:=FB due;have h2:(At due).Nodup:=(Cf due).nodup_iff.mpr (Ij due);have h3:(At due).Pairwise (· < ·):=List.Pairwise.imp₂ (fun a b h n=>Nat.lt_of_le_of_ne h n) h1 h2;exact h3.filter _
theorem Iq (due:Aa):((AG due).map fun n:Nat=>(n:Int)).sum=((Av (AG due):Nat):Int):=by
 have hs:(AG due).sum=Av (AG due):=N5 (fun n hn=>(mem_filter.mp hn).2) (Ip due);rw [← hs];clear hs;generalize AG due=l;induction l with
 | nil=>rfl
 | cons a r ih=>rw [map_cons,sum_cons,sum_cons,ih]; push_cast; rfl
section
def Jh:Sp:=fun vs H Q _=>∃ (u:Addr) (bs:List Addr) (due:Aa),vs=[.ref u]/\H u=some (.lst (bs.map V.ref))/\TupsAt H bs (FA due)/\due.length <= 10/\(∀ p ∈ due,p.2 < 2 ^ 20) /\
 ∀ t e m ms H',Same H H'->H' t=some (.dK (QA due e m))->H' e=some (.dK (B3 (AN due)))->H' m=some (.lst (ms.map V.ref))->TupsAt H' ms (C7 due)->Q (.ref t) H'
noncomputable abbrev Ss:List Str:=["_law_due", "_law_known", "_law_firsts", "_law_name", "_law_number", "_law_marks"]
theorem scTable:AR Ss ["_law_due"] (defScope Dl):=fsc
theorem QC (F:Fun K "_law_table_of" "_law_table_of" Dl f fd) (B:Bl mg) (GB:Fn P w K mg base "_law_bits_of" 1 ["_law_number"] HR):Aj P w K mg base CX0 2 f fd ["_law_due"] Jh:=by
 obtain ⟨fB,dB,GB,mB,kB,bB⟩:=GB.ex;refine F.m scTable fun vs H Q E h=>?_;obtain ⟨u,bs,due,rfl,hu0,am,h10,hlt,k⟩:=h;refine ⟨rfl,fun ad A outer s hr=>?_⟩;have hu:=Cj hr
 refine ⟨_,AD (DX (hs:=by kernel_rfl) (hw:=by kernel_rfl) (A4 (AA AJ (AA Gq AC))) (BO rfl (AO (AM (i:=1) scTable.nd rfl (Or.inl rfl)) (AO (AM (i:=2) scTable.nd rfl (Or.inr rfl)) A2))))
  (AD (Bg PassesOwn.never rfl (Ac (pv 0)) (BO rfl (AO (AM (i:=3) scTable.nd rfl (Or.inl rfl)) (AO (AM (i:=4) scTable.nd rfl (Or.inl rfl)) A2)))
   (AD (Ae (i:=1) scTable.nd rfl (Or.inl rfl) (AU MU (pv 1) (pv 4)))
   (AF (Au (D9 (Nb hu (pv 4) (pv 2))) (AF (Mj hu (pv 2) (pv 4) (pv 3) rfl)) Ab))))
  (AD (Os (i:=5) scTable.nd rfl (by kernel_rfl) ["_law_firsts"] [some 2] (by kernel_rfl) (by decide +kernel) (by kernel_rfl) rfl (Ac (AS (E2 rfl) rfl B.sorted Fg (AA (pv 2) AC)))
   (fun _ _ _ _ _ _=>Ba (AX IB (AS (Ax K rfl) rfl B.len PySem.boot_len (AA (AQ GB hr rfl mB kB bB .nil AZ (AA (pv 0) AC)) AC)) AJ (Ak _)))
   (fun _ _ _ _ _ _=>A4 (AA (BM hu (pv 1) (pv 0) (fun _ _=>rfl)) (AA (pv 0) AC))))
  (AF (AV (Qx (Ex AY (pv 1) (Ex AY (pv 2) (Ex AY (pv 5) (Ex AY (AS (Oz rfl) rfl B.sum Pi (AA (Cc [] [] (by kernel_rfl) (by decide +kernel) (by kernel_rfl) (by kernel_rfl) rfl (Ac (pv 5)) (fun _ _ _ _ _ _=>BH) (fun _ _ _ _ _ _=>pv 1)) AC)) Qw)))) rfl rfl (by simp) (by decide)))))),?_⟩
 refine fun e he=>⟨sl2,fun q hq=>⟨q,_,rfl,SqT.of upd_same,rfl,_,_,rfl,_,_,rfl,rfl,?_⟩⟩;have s1:=AB (AB (Same.refl _) he (o:=HO.dK [])) hq (o:=HO.tup [V.int 0,V.ref e]);have hbl:bs.length=due.length:=by rw [am.length]; unfold FA; rw [AI]
 refine ⟨_,rfl,u,rfl,⟨_,SqL.of (s1 _ _ hu0)⟩,BC (K:=K) (a:=u) (xs:=bs.map V.ref) (fun i σ H2=>∃ v3 v4:Option V,σ=[some (.ref u),some (.int (Av ((due.take i).map (·.2)):Nat)),some (.ref e),v3,v4,none]/\Same H H2/\H2 e=some (.dK (B3 (AN (due.take i)))))
  ⟨none,none,rfl,s1,AB (Same.refl _) hq _ _ upd_same⟩ (fun i σ H2 _ ⟨_,_,_,s2,_⟩=>SqL.of (s2 _ _ hu0)) ?_ ?_⟩
 ·rintro i v σ H2 hi ⟨v3,v4,rfl,s2,he2⟩;obtain ⟨bb,p,rfl,_,aj,ai⟩:=C9 (TupsAt.same s2 am) hi;have et:due.take (i + 1)=due.take i++[p]:=by rw [take_add_one,aj]; rfl
  have ek:(((Av ((due.take (i + 1)).map (·.2)):Nat)):Int)=Builtin.bitOr ((Av ((due.take i).map (·.2)):Nat):Int) (p.2:Int):=by
   rw [et,map_append,EL];exact congrArg _ (EM _ _)
  have hle:(B3 (AN (due.take i))).length <= 100:=by
   unfold B3;rw [AI];have:=Ce (due.take i);rw [length_take] at this;omega
  refine ⟨bb,_,rfl,SqT.of ai,rfl,_,_,rfl,_,_,rfl,rfl,?_⟩;refine ⟨_,rfl,_,rfl,_,_,rfl,rfl,?_⟩;by_cases z:p.2 ∈ (AN (due.take i)).map (·.1)
  ·refine ⟨_,rfl,_,rfl,e,_,rfl,.inl ⟨_,Sum.inl (p.2:Int),.inl he2,rfl,(E9 z).symm⟩,_,rfl,?_⟩;refine A1 ⟨_,_,by rw [ek]; rfl,s2,?_⟩;rw [et,Cn,if_pos (by simpa using z)];exact he2
  ·refine ⟨_,rfl,_,rfl,e,_,rfl,.inl ⟨_,Sum.inl (p.2:Int),.inl he2,rfl,(Fk z).symm⟩,_,rfl,?_⟩;refine Bd ⟨_,rfl,_,rfl,_,rfl,e,_,rfl,DPut.k (k:=Sum.inl (p.2:Int)) he2 (AT (by omega)),?_⟩;refine ⟨_,_,by rw [ek]; rfl,HH s2 he,?_⟩;rw [upd_same,et,Cn,if_neg (by simpa using z),Kh z]
 ·rintro σ H2 ⟨v3,v4,rfl,s2,he2⟩;have e1:due.take (bs.map V.ref).length=due:=by rw [AI,hbl,take_length]
  rw [e1] at he2 ⊢;have hle:(B3 (AN due)).length <= due.length:=by unfold B3; rw [AI]; exact Ce due
  refine ⟨_,rfl,e,_,rfl,.inl he2,by omega,fun kv hkv=>?_,fun l ns hl cq cr=>?_⟩
  ·unfold B3 at hkv;obtain ⟨q,_,rfl⟩:=mem_map.mp hkv;exact ⟨_,rfl⟩
  ·have en:=Kk cq cr;subst en;have s3:=AB (Same.refl _) hl (o:=HO.lst (((At due).map fun n:Nat=>(n:Int)).map V.int));have exs:((At due).map fun n:Nat=>(n:Int)).map V.int=AW (At due):=(DL _).symm
   refine ⟨l,rfl,⟨_,SqL.of upd_same⟩,Ag (K:=K) (a:=l) (xs:=AW (At due))
    (fun i ys H3=>∃ as,ys=as.map V.ref/\Same H2 H3/\H3 l=some (.lst (AW (At due)))/\TupsAt H3 as ((((At due).take i).filter Aw).map fun n=>(V.str (Az (AN due) n),V.int (n:Int)))) ⟨[],rfl,s3,by rw [upd_same,exs],.nil⟩
    (fun i ys H3 _ ⟨_,_,_,e,_⟩=>SqL.of e) (fun i ys H3 ⟨as,e,_,_,t⟩=>?_) ?_ ?_⟩
   ·have:=t.length;rw [e,AI,this,AI];have h3:(((At due).take i).filter Aw).length <= ((At due).take i).length:=length_filter_le _ _;rw [length_take] at h3;have:=Dv due;omega
   ·rintro i v ys H3 hi ⟨as,rfl,s4,hl3,ht⟩;obtain ⟨n,hn,rfl⟩:=DK hi;have b8:n ∈ (AN due).map (·.1):=mem_keysS.mp (mem_of_getElem? hn);have hn42:n < 2 ^ 42:=Nat.lt_trans (M8 hlt n b8) (by decide);have et:((At due).take (i + 1)).filter Aw=((At due).take i).filter Aw++(if Aw n then [n] else []):=PySem.take_succ_filter Aw _ i n hn;refine ⟨_,rfl,n,rfl,fun l2 zs H4 s5 hl4 hz=>⟨l2,_,rfl,.inl (SqL.of hl4),rfl,_,rfl,?_⟩⟩
    have eb:decide (V.int ((zs.length:Nat):Int)=V.int 1)=Aw n:=by
     rw [← Hw hn42,hz];refine decide_eq_decide.mpr ⟨fun h=>?_,fun h=>by rw [h]; rfl⟩;have:=V.int.inj h;omega
    rw [eb];have hl5:=s5 _ _ hl3;refine CL (fun hm=>?_) (fun hm=>?_)
    ·refine ⟨_,rfl,_,rfl,e,_,rfl,.inl ⟨_,Sum.inl (n:Int),.inl (s5 _ _ (s4 _ _ he2)),rfl,(E9 b8).symm⟩,_,rfl,sl2,fun b hb=>?_⟩;refine ⟨as++[b],by rw [map_append]; rfl,AB (s4.trans s5) hb,by rw [AE (AH hl5 hb)]; exact hl5,?_⟩;rw [et,hm,if_pos rfl,map_append];exact Il (AB s5 hb) ht upd_same
    ·refine ⟨as,rfl,s4.trans s5,hl5,?_⟩;rw [et,if_neg hm,append_nil];exact TupsAt.same s5 ht
   ·rintro ys H3 ⟨as,rfl,s4,_,ht⟩ m hm
    have el:(At due).take (AW (At due)).length=At due:=by
     have:(AW (At due)).length=(At due).length:=by unfold AW; rw [AI]
     rw [this]; exact take_length
    rw [el] at ht;have ht':TupsAt H3 as (C7 due):=ht;have s5:=AB (Same.refl _) hm (o:=HO.lst (as.map V.ref));have ar:as.length=(AG due).length:=by rw [ht'.length]; exact Im due
    refine fun t ht0=>⟨_,rfl,_,rfl,_,rfl,?_⟩;have s6:=AB (Same.refl _) ht0 (o:=HO.dK []);have htm:=TupsAt.same (s5.trans s6) ht';have hm6:=s6 _ _ (upd_same (H:=H3) (a:=m) (o:=HO.lst (as.map V.ref)));refine ⟨_,rfl,m,rfl,⟨_,SqL.of hm6⟩,Ag (K:=K) (a:=m) (xs:=as.map V.ref) (fun j ys H7=>ys=AW ((AG due).take j)/\H7=upd (upd H3 m (.lst (as.map V.ref))) t (.dK [])) ⟨by rfl,rfl⟩ (fun j ys H7 _ ⟨_,e⟩=>e ▸ SqL.of hm6) (fun j ys H7 ⟨e,_⟩=>?_) ?_ ?_⟩
    ·rw [e]; unfold AW; rw [AI,length_take];have h3:(AG due).length <= (At due).length:=length_filter_le _ _;have:=Dv due;omega
    ·rintro j v ys H7 hj ⟨rfl,rfl⟩;rw [getElem?_map] at hj
     obtain ⟨b,hb,rfl⟩:∃ b,as[j]?=some b/\v=V.ref b:=by
      cases q:as[j]? with
      | none=>rw [q] at hj; cases hj
      | some x=>rw [q] at hj; exact ⟨x,rfl,(Option.some.inj hj).symm⟩
     obtain ⟨pq,hpq,ai⟩:=Kl htm hb;unfold C7 at hpq;rw [getElem?_map] at hpq
     obtain ⟨n,hn,rfl⟩:∃ n,(AG due)[j]?=some n/\pq=(V.str (Az (AN due) n),V.int (n:Int)):=by
      cases q:(AG due)[j]? with
      | none=>rw [q] at hpq; cases hpq
      | some x=>rw [q] at hpq; exact ⟨x,rfl,(Option.some.inj hpq).symm⟩
     refine ⟨b,_,rfl,SqT.of ai,rfl,_,_,rfl,_,_,rfl,rfl,?_⟩;refine ⟨_,rfl,?_,rfl⟩;rw [take_add_one,hn,Option.toList_some];unfold AW;rw [map_append];rfl
    ·rintro ys H7 ⟨rfl,rfl⟩ l2 hl2;have el2:(AG due).take (as.map V.ref).length=AG due:=by rw [AI,ar,take_length]
     rw [el2];have s7:=AB (Same.refl _) hl2 (o:=HO.lst (AW (AG due)));refine ⟨l2,(AG due).map fun n:Nat=>(n:Int),rfl,SqL.of (by rw [upd_same,DL]),fun n hn=>?_,?_,?_⟩
     ·obtain ⟨x,_,rfl⟩:=mem_map.mp hn;exact Int.natCast_nonneg _
     ·rw [Iq];have:=KW (Pz hlt);omega
     ·rw [Iq];refine ⟨s7 _ _ upd_same,[((Sum.inr "known" : Key),V.int (Av (due.map (·.2)):Nat)),(Sum.inr "firsts", .ref e),(Sum.inr "marks", .ref m),(Sum.inr "bits", V.int (Av (AG due):Nat))],rfl,(by show 4 <= 15; decide),?_⟩;rw [Sr];have nt:∀ b o,H3 b=some o->b ≠ t:=fun b o ebo=>AH (s5 _ _ ebo) ht0
      have sAll:Same (upd H3 m (.lst (as.map V.ref))) (upd (upd (upd (upd H3 m (.lst (as.map V.ref))) t (.dK [])) l2 (.lst (AW (AG due)))) t (.dK (QA due e m))):=fun b o ebo=>by
       rw [AE (AH ebo ht0)];exact s7 _ _ (s6 _ _ ebo)
      refine k t e m as _ ?_ upd_same ?_ (sAll _ _ upd_same) (TupsAt.same (s5.trans sAll) ht')
      ·intro b o ebo;exact sAll _ _ (s5 _ _ (s4 _ _ (s2 _ _ ebo)))
      ·exact sAll _ _ (s5 _ _ (s4 _ _ he2))
end
theorem Dr:∀ {ds:List PyData},(∀ d ∈ ds,PyData.eqv d d=true)->PyData.eqvAll ds ds=true
 | [],_=>by rw [PyData.eqvAll]
 | d :: r,h=>by
  rw [PyData.eqvAll,h d mem_cons_self,Dr fun x hx=>h x (mem_cons_of_mem _ hx)];rfl
theorem D4 {ds:List PyData} (h:∀ d ∈ ds,PyData.eqv d d=true):PyData.eqv (.list ds) (.list ds)=true:=by
 rw [PyData.eqv]; exact Dr h
theorem Ji {ds:List PyData} (h:∀ d ∈ ds,PyData.eqv d d=true):PyData.eqv (.tuple ds) (.tuple ds)=true:=by
 rw [PyData.eqv]; exact Dr h
theorem DN (x:Str):PyData.eqv (.str x) (.str x)=true:=by simp [PyData.eqv]
theorem D5 (xs:List Str):PyData.eqv (.list (xs.map PyData.str)) (.list (xs.map PyData.str))=true:=D4 fun d hd=>by
 obtain ⟨n,_,rfl⟩:=mem_map.mp hd;exact DN _
theorem GG {b:Addr} {x y:Str} (h:H b=some (.tup [.str x,.str y])):Bz K H (.tuple [.str x,.str y]) (.ref b):=by
 rw [Bz];refine ⟨b,_,rfl,SqT.of h,?_⟩;rw [A6];refine ⟨_,_,rfl,by rw [Bz],?_⟩;rw [A6];refine ⟨_,_,rfl,by rw [Bz],?_⟩;rw [A6]
theorem OI {fs:List (Nat × Str)} {n:Nat} (h:n ∈ fs.map (·.1)):(n,Az fs n) ∈ fs:=by
 unfold Az;obtain ⟨q,hq⟩:=Option.isSome_iff_exists.mp (HI h);rw [hq];have e:q.1=n:=by simpa using List.find?_some hq
 have hm:=List.mem_of_find?_eq_some hq;subst e;exact hm
section
theorem DB {D kp dx:Addr} (hkp:H kp=none) (aw:H dx=none) (av:dx ≠ kp):Same H (upd (upd H dx (.own kp)) kp (.ins D dx [])):=by
 refine AB (AB (Same.refl _) aw) ?_;rw [AE (Ne.symm av)];exact hkp
theorem B5 {Hc:Hp} {kp:Addr} (sN:Same H H') (hkp:H kp=none) (sc:∀ b o,H' b=some o->b ≠ kp->Hc b=some o):Same H Hc:=fun b o e=>sc b o (sN _ _ e) (AH e hkp)
end
section
variable {CU:Addr}
def Fl (K:FG):Sp:=fun vs H Q _=>∃ (e C:Addr) (dx:Option Addr) (x:Str),vs=[.ref e,.str x]/\BJ K C=true/\H e=some (KF e C dx)/\Q .non H
theorem OJ:AR ["self", "words"] ["self", "words"] (defScope BE):=fsc
theorem HU (F:FunD K "__init__" "MarkError.__init__" BE f fd) (hV:mg "ValueError" = none):Aj P w K mg base CX0 1 f fd ["self", "words"] (Fl K):=by
 refine F.ok OJ (fun vs H Q E h=>?_) (fun ad A outer s H vs Q E hr h=>?_)
 ·obtain ⟨e,C,dx,x,rfl,_⟩:=h;rfl
 ·obtain ⟨e,C,dx,x,rfl,hC,he,k⟩:=h;refine ⟨_,AF (DE (PD rfl hV (AA (pv 0) (AA (pv 1) AC)))),?_⟩;exact ⟨_,rfl,_,rfl,e,C,dx,[.str x],rfl,(by show 1 <= 1000; decide),hC,he,k⟩
structure NA (P:Program) (w:World) (K:FG) (mg:SV) (base:Heap) (x:Str) (CU:Addr):Prop where
 cls:mg x=some (.ref CU)
 make:∃ f fd,MkX K CU f/\Aj P w K mg base CX0 1 f fd ["self", "words"] (Fl K)/\Binds K fd ["self", "words"] []
def Uq (H:Hp) (E:XK) (CU:Addr):Prop:=∀ e H',Same H H'->H e=none->H' e=some (FY e CU none)->E (.ref CU) none H'
theorem none_of {x:Addr} (s:Same H H') (h:H' x=none):H x=none:=by
 cases e:H x with
 | none=>rfl
 | some u=>rw [s _ _ e] at h; cases h
theorem Ee {te:XK->TE} {σ:St} {H1:Hp} {E:XK} {D:D7} {x:Str} (hC:BJ K CU=true) (s1:Same H H1) (h:Uq H E CU):O8 CU (O7 CU (Fl K) [] E0 (Ah (tC (.str x)) By)) E D σ H1:=by
 refine ⟨(by show 1 <= 1000; decide),fun a ha=>?_⟩;refine ⟨a,CU,none,x,rfl,hC,upd_same,rfl,a,none,rfl,upd_same,?_⟩;refine h a _ (s1.trans ?_) (none_of s1 ha) upd_same;rw [JF];exact AB (Same.refl _) ha
end
noncomputable def wds:List Str:=["BadRows", "BadRest", "BadText", "Unled", "BadRule", "BadName", "BadNumber", "Unlike", "BadPairs", "Never", "Nothing"]
noncomputable def wd (j:Nat):Str:=wds.getD j ""
noncomputable def flg (j:Nat):List Bool:=(List.range 11).map fun i=>decide (i=j)
noncomputable def b1 (b:Bool):Int:=if b then 1 else 0
theorem NB:∀ j,j < 11->((flg j).map b1).sum=1:=by decide +kernel
theorem Su:∀ j,j < 11->(flg j)[j]?=some true/\∀ m,m < j->(flg j)[m]?=some false:=by decide +kernel
theorem Sv:∀ j:Nat,j < 11->atI (wds.map V.str) (j:Int)=some (V.str (wd j)):=by decide +kernel
structure Ks (mg:SV) (ec:Nat->Addr):Prop where
 e0:mg "BadRows" = some (.ref (ec 0))
 e1:mg "BadRest" = some (.ref (ec 1))
 e2:mg "BadText" = some (.ref (ec 2))
 e3:mg "Unled" = some (.ref (ec 3))
 e4:mg "BadRule" = some (.ref (ec 4))
 e5:mg "BadName" = some (.ref (ec 5))
 e6:mg "BadNumber" = some (.ref (ec 6))
 e7:mg "Unlike" = some (.ref (ec 7))
 e8:mg "BadPairs" = some (.ref (ec 8))
 e9:mg "Never" = some (.ref (ec 9))
 e10:mg "Nothing" = some (.ref (ec 10))
 ev:mg "ValueError" = none
structure NC (K:FG) (ec:Nat->Addr) (C:Addr) (j:Nat):Prop where
 hj:j < 11
 kx:RB K C
 kit:∀ i,i < 11->W.kitOne K (.ref C) (.ref (ec i))=some (decide (i=j))
 val:W.kitOne K (.ref C) (.type "ValueError")=some true
section
variable {ec:Nat->Addr}
theorem Bt {X:Cx} {a:Expr} {te:TE} {e c:Addr} {oe:Obj} {x:Str} {p p2 pos:Pos} (K:FG) (hK:X.K=K) (pX:ExcP X e oe C) (k:RB K C) (hg:Gl X "isinstance") (hm:X.mg "isinstance" = none) (hgT:Gl X x) (hmT:X.mg x=some (.ref c)) (he:PE X a te)
  (hdb:(x == ("__debug__" : Str))=false:=by decide)
  (hs:starEach [a,.Name x p2] X.env=(false,eval a X.env) :: starEach [.Name x p2] X.env:=by rfl) (hpl:(backTo pos (starEach [.Name x p2] X.env)).any (·.1)=false:=by rfl) (hs2:starEach [.Name x p2] X.env=(false,eval (.Name x p2) X.env) :: starEach [] X.env:=by rfl) :
  PE X (.Call (.Name "isinstance" p) [a,.Name x p2] [] pos) (tCB (fun xs H Q=>∃ v c b,xs=[.ref e,v]/\((∃ D,v=.ref D/\c=.ref D)\/∃ T,v=.ty T/\c=.type T)/\(oe.dict=none\/∃ d u,oe.dict=some d/\H d=some u)/\W.kitOne K (.ref C) c=some b/\Q (.bl b) H) (Ah te (Ah (tC (.ref c)) By))):=by
 subst hK;exact AS (IV pX k) hg hm EZ (AA he (AA (El (v:=.ref c) hgT hmT rfl hdb) AC hs2) hs) (by decide) (by decide) hs hpl
def Cg (K:FG) (ec:Nat->Addr):SpS:=fun e oe vs H Q=>vs=[.ref e]/\∃ (C:Addr) (j:Nat) (fs:Array Value),oe.cls=.ref C/\oe.data=.fields fs/\fs[2]?=some .none/\(oe.dict=none\/∃ d u,oe.dict=some d/\H d=some u)/\NC K ec C j /\
 ∀ p H',Same H H'->H' p=some (.tup [.str "refused", .str (wd j)])->Q (.ref p) H'
theorem scWord:AR ["_law_e", "_law_flags", "_law_words"] ["_law_e"] (defScope Dk):=fsc
theorem RZ (F:Fun K "_law_word" "_law_word" Dk f fd) (B:Bl mg) (M:Ks mg ec):My P w K mg base 1 f fd ["_law_e"] (Cg K ec):=by
 refine F.okS scWord (fun e oe vs H Q h=>?_) (fun ad A outer s H vs Q e oe hh hr h=>?_)
 ·obtain ⟨rfl,_⟩:=h;rfl
 ·obtain ⟨rfl,C,j,fs,hc,hf,h2,hd,EA,k⟩:=h;have hj:=EA.hj
  have hdS:∀ H',Same H H'->(oe.dict=none\/∃ d u,oe.dict=some d/\H' d=some u):=fun H' s=>by
   rcases hd with z | ⟨d,u,z,y⟩
   ·exact .inl z
   ·exact .inr ⟨d,u,z,s _ _ y⟩
  have kt:=EA.kit;have pX:ExcP (G4 P w K mg base ["_law_e", "_law_flags", "_law_words"] "_law_word" (defScope Dk) f ad A outer s H e oe) e oe C:=⟨mem_cons_self,hc,⟨fs,hf⟩⟩;have rd:Rdy (G4 P w K mg base ["_law_e", "_law_flags", "_law_words"] "_law_word" (defScope Dk) f ad A outer s H e oe):=Q7 hh hf h2
  refine ⟨_,AD (Ae (i:=1) scWord.nd rfl (Or.inl rfl) (Ay (AA (Bt K rfl pX EA.kx rfl B.isi rfl M.e0 (pv 0)) (AA (Bt K rfl pX EA.kx rfl B.isi rfl M.e1 (pv 0)) (AA (Bt K rfl pX EA.kx rfl B.isi rfl M.e2 (pv 0)) (AA (Bt K rfl pX EA.kx rfl B.isi rfl M.e3 (pv 0)) AC))))))
   (AD (Ae (i:=1) scWord.nd rfl (Or.inl rfl) (AU CK (pv 1) (Ay (AA (Bt K rfl pX EA.kx rfl B.isi rfl M.e4 (pv 0)) (AA (Bt K rfl pX EA.kx rfl B.isi rfl M.e5 (pv 0)) (AA (Bt K rfl pX EA.kx rfl B.isi rfl M.e6 (pv 0)) AC))))))
   (AD (Ae (i:=1) scWord.nd rfl (Or.inl rfl) (AU CK (pv 1) (Ay (AA (Bt K rfl pX EA.kx rfl B.isi rfl M.e7 (pv 0)) AC))))
   (AD (Ae (i:=1) scWord.nd rfl (Or.inl rfl) (AU CK (pv 1) (Ay (AA (Bt K rfl pX EA.kx rfl B.isi rfl M.e8 (pv 0)) (AA (Bt K rfl pX EA.kx rfl B.isi rfl M.e9 (pv 0)) (AA (Bt K rfl pX EA.kx rfl B.isi rfl M.e10 (pv 0)) AC))))))
   (AD (Ae (i:=2) scWord.nd rfl (Or.inl rfl) (Ay (AA AY (AA AY (AA AY (AA AY (AA AY (AA AY (AA AY AC)))))))))
   (AD (Ae (i:=2) scWord.nd rfl (Or.inl rfl) (AU CK (pv 2) (Ay (AA AY (AA AY AC)))))
   (AD (Au (PW.pt (DT (AX CZ (AS (IP rd) rfl B.sum Pi (AA (Nj [] [] (by kernel_rfl) (by decide +kernel) (by kernel_rfl) rd (Ox (pv 1)) (fun _ _ _ _ _ _=>BH) (fun _ _ _ _ _ _=>BP NW rfl B.int Pj (AA (pv 0) AC))) AC)) AJ (Ak _))
     (CJ (BN (BK (AS (IV pX EA.kx) rfl B.isi EZ (AA (pv 0) (AA (B7 (v:=.ty "ValueError") rfl M.ev Mx rfl) AC)))))))) (AF Ad) Ab)
   (AF (AV (A4 (AA AY (AA (Bq (BF K rfl) (AU CK (pv 2) (Ay (AA AY (AA AY AC)))) (Gm PySem.F.plainAttrs_list PySem.F.slot_list_index PySem.F.type_list_index Nx (pv 1) (AA MQ AC)) (fun _ _=>rfl)) AC))))))))))),?_⟩
  refine ⟨_,rfl,_,_,_,rfl,.inl ⟨_,rfl,rfl⟩,hdS _ (Same.refl _),kt 0 (by decide),_,rfl,_,_,_,rfl,.inl ⟨_,rfl,rfl⟩,hdS _ (Same.refl _),kt 1 (by decide),_,rfl,_,_,_,rfl,.inl ⟨_,rfl,rfl⟩,hdS _ (Same.refl _),kt 2 (by decide),_,rfl,_,_,_,rfl,.inl ⟨_,rfl,rfl⟩,hdS _ (Same.refl _),kt 3 (by decide),sl4,fun l1 h1=>?_⟩;have s1:=AB (Same.refl H) h1 (o:=.lst [V.bl (decide (0=j)),V.bl (decide (1=j)),V.bl (decide (2=j)),V.bl (decide (3=j))]);have a1:=upd_same (H:=H) (a:=l1) (o:=.lst [V.bl (decide (0=j)),V.bl (decide (1=j)),V.bl (decide (2=j)),V.bl (decide (3=j))]);generalize upd H l1 (.lst [V.bl (decide (0=j)),V.bl (decide (1=j)),V.bl (decide (2=j)),V.bl (decide (3=j))])=H1 at s1 a1 ⊢;refine ⟨_,rfl,_,rfl,_,_,_,rfl,.inl ⟨_,rfl,rfl⟩,hdS _ s1,kt 4 (by decide),_,rfl,_,_,_,rfl,.inl ⟨_,rfl,rfl⟩,hdS _ s1,kt 5 (by decide),_,rfl,_,_,_,rfl,.inl ⟨_,rfl,rfl⟩,hdS _ s1,kt 6 (by decide),sl3,fun l2 h2'=>?_⟩;refine ⟨l1,l2,_,_,rfl,rfl,(AB (Same.refl H1) h2') _ _ a1,upd_same,(by show 4 + 3 <= sizeLine; decide),fun l3 h3=>?_⟩;have s3:=s1.trans (AB (AB (Same.refl H1) h2' (o:=.lst [V.bl (decide (4=j)),V.bl (decide (5=j)),V.bl (decide (6=j))])) h3 (o:=.lst ([V.bl (decide (0=j)),V.bl (decide (1=j)),V.bl (decide (2=j)),V.bl (decide (3=j))]++[V.bl (decide (4=j)),V.bl (decide (5=j)),V.bl (decide (6=j))])));generalize e3:upd (upd H1 l2 (.lst [V.bl (decide (4=j)),V.bl (decide (5=j)),V.bl (decide (6=j))])) l3 (.lst ([V.bl (decide (0=j)),V.bl (decide (1=j)),V.bl (decide (2=j)),V.bl (decide (3=j))]++[V.bl (decide (4=j)),V.bl (decide (5=j)),V.bl (decide (6=j))]))=H3 at s3 ⊢;have a3:H3 l3=some (.lst ([V.bl (decide (0=j)),V.bl (decide (1=j)),V.bl (decide (2=j)),V.bl (decide (3=j))]++[V.bl (decide (4=j)),V.bl (decide (5=j)),V.bl (decide (6=j))])):=by rw [← e3,upd_same]
  refine ⟨_,rfl,_,rfl,_,_,_,rfl,.inl ⟨_,rfl,rfl⟩,hdS _ s3,kt 7 (by decide),sl1,fun l4 h4=>?_⟩;refine ⟨l3,l4,_,_,rfl,rfl,(AB (Same.refl H3) h4) _ _ a3,upd_same,(by show 7 + 1 <= sizeLine; decide),fun l5 h5=>?_⟩;have s5:=s3.trans (AB (AB (Same.refl H3) h4 (o:=.lst [V.bl (decide (7=j))])) h5 (o:=.lst (([V.bl (decide (0=j)),V.bl (decide (1=j)),V.bl (decide (2=j)),V.bl (decide (3=j))]++[V.bl (decide (4=j)),V.bl (decide (5=j)),V.bl (decide (6=j))])++[V.bl (decide (7=j))])));generalize e5:upd (upd H3 l4 (.lst [V.bl (decide (7=j))])) l5 (.lst (([V.bl (decide (0=j)),V.bl (decide (1=j)),V.bl (decide (2=j)),V.bl (decide (3=j))]++[V.bl (decide (4=j)),V.bl (decide (5=j)),V.bl (decide (6=j))])++[V.bl (decide (7=j))]))=H5 at s5 ⊢;have a5:H5 l5=some (.lst (([V.bl (decide (0=j)),V.bl (decide (1=j)),V.bl (decide (2=j)),V.bl (decide (3=j))]++[V.bl (decide (4=j)),V.bl (decide (5=j)),V.bl (decide (6=j))])++[V.bl (decide (7=j))])):=by rw [← e5,upd_same]
  refine ⟨_,rfl,_,rfl,_,_,_,rfl,.inl ⟨_,rfl,rfl⟩,hdS _ s5,kt 8 (by decide),_,rfl,_,_,_,rfl,.inl ⟨_,rfl,rfl⟩,hdS _ s5,kt 9 (by decide),_,rfl,_,_,_,rfl,.inl ⟨_,rfl,rfl⟩,hdS _ s5,kt 10 (by decide),sl3,fun l6 h6=>?_⟩;refine ⟨l5,l6,_,_,rfl,rfl,(AB (Same.refl H5) h6) _ _ a5,upd_same,(by show 8 + 3 <= sizeLine; decide),fun l7 h7=>?_⟩;have s7:=s5.trans (AB (AB (Same.refl H5) h6 (o:=.lst [V.bl (decide (8=j)),V.bl (decide (9=j)),V.bl (decide (10=j))])) h7 (o:=.lst ((([V.bl (decide (0=j)),V.bl (decide (1=j)),V.bl (decide (2=j)),V.bl (decide (3=j))]++[V.bl (decide (4=j)),V.bl (decide (5=j)),V.bl (decide (6=j))])++[V.bl (decide (7=j))])++[V.bl (decide (8=j)),V.bl (decide (9=j)),V.bl (decide (10=j))])));generalize e7:upd (upd H5 l6 (.lst [V.bl (decide (8=j)),V.bl (decide (9=j)),V.bl (decide (10=j))])) l7 (.lst ((([V.bl (decide (0=j)),V.bl (decide (1=j)),V.bl (decide (2=j)),V.bl (decide (3=j))]++[V.bl (decide (4=j)),V.bl (decide (5=j)),V.bl (decide (6=j))])++[V.bl (decide (7=j))])++[V.bl (decide (8=j)),V.bl (decide (9=j)),V.bl (decide (10=j))]))=H7 at s7 ⊢;have a7:H7 l7=some (.lst ((flg j).map V.bl)):=by rw [← e7]; exact upd_same
  refine ⟨sl7,fun l8 h8=>?_⟩;refine ⟨_,rfl,sl2,fun l9 h9=>?_⟩;refine ⟨l8,l9,_,_,rfl,rfl,(AB (Same.refl _) h9) _ _ upd_same,upd_same,(by show 7 + 2 <= sizeLine; decide),fun l10 h10=>?_⟩;have s10:=AB (AB (AB (Same.refl H7) h8 (o:=.lst [V.str "BadRows", V.str "BadRest", V.str "BadText", V.str "Unled", V.str "BadRule", V.str "BadName", V.str "BadNumber"])) h9 (o:=.lst [V.str "Unlike", V.str "BadPairs"])) h10 (o:=.lst ([V.str "BadRows", V.str "BadRest", V.str "BadText", V.str "Unled", V.str "BadRule", V.str "BadName", V.str "BadNumber"]++[V.str "Unlike", V.str "BadPairs"]));generalize e10:upd (upd (upd H7 l8 (.lst [V.str "BadRows", V.str "BadRest", V.str "BadText", V.str "Unled", V.str "BadRule", V.str "BadName", V.str "BadNumber"])) l9 (.lst [V.str "Unlike", V.str "BadPairs"])) l10 (.lst ([V.str "BadRows", V.str "BadRest", V.str "BadText", V.str "Unled", V.str "BadRule", V.str "BadName", V.str "BadNumber"]++[V.str "Unlike", V.str "BadPairs"]))=H10 at s10 ⊢;have a10:H10 l10=some (.lst ([V.str "BadRows", V.str "BadRest", V.str "BadText", V.str "Unled", V.str "BadRule", V.str "BadName", V.str "BadNumber"]++[V.str "Unlike", V.str "BadPairs"])):=by rw [← e10]; exact upd_same
  have b7:=s10 _ _ a7;refine ⟨_,rfl,l7,rfl,⟨_,SqL.of b7⟩,Ag (K:=K) (a:=l7) (xs:=(flg j).map V.bl) (fun i ys H2=>ys=((flg j).take i).map (fun b=>V.int (b1 b))/\H2=H10) ⟨rfl,rfl⟩ (fun i ys H2 _ ⟨_,e⟩=>e ▸ SqL.of b7) (fun i ys H2 ⟨e,_⟩=>?_) ?_ ?_⟩
  ·rw [e,AI,length_take];have:(flg j).length=11:=rfl;omega
  ·rintro i v ys H2 hi ⟨rfl,rfl⟩;rw [getElem?_map] at hi;obtain ⟨b,hb,rfl⟩:=Option.map_eq_some_iff.mp hi;refine ⟨_,rfl,.inr ⟨b,rfl,?_,rfl⟩⟩;rw [take_add_one,hb,Option.toList_some,map_append];rfl
  ·rintro ys H2 ⟨rfl,rfl⟩ p hp;have el:(flg j).take ((flg j).map V.bl).length=flg j:=by rw [AI]; exact take_length
   rw [el];have em:(flg j).map (fun b=>V.int (b1 b))=((flg j).map b1).map V.int:=by rw [map_map]; rfl
   rw [em];have s11:=AB (Same.refl H2) hp (o:=.lst (((flg j).map b1).map V.int));refine ⟨p,(flg j).map b1,rfl,SqL.of upd_same,fun n hn=>?_,(by rw [NB j hj]; decide),rfl,_,rfl,?_⟩
   ·obtain ⟨b,_,rfl⟩:=mem_map.mp hn;unfold b1;split <;> decide
   rw [NB j hj];refine A1 ?_;refine ⟨_,rfl,_,_,true,rfl,.inr ⟨_,rfl,rfl⟩,hdS _ (s7.trans (s10.trans s11)),EA.val,_,rfl,?_⟩;refine A1 ?_;refine ⟨_,rfl,sl2,fun l11 h11=>?_⟩;have s12:=AB s11 h11 (o:=.lst [V.str "Never", V.str "Nothing"]);refine ⟨l10,l11,_,_,rfl,rfl,s12 _ _ a10,upd_same,(by show 9 + 2 <= sizeLine; decide),fun l12 h12=>?_⟩;have s13:=AB s12 h12 (o:=.lst (([V.str "BadRows", V.str "BadRest", V.str "BadText", V.str "Unled", V.str "BadRule", V.str "BadName", V.str "BadNumber"]++[V.str "Unlike", V.str "BadPairs"])++[V.str "Never", V.str "Nothing"]));have c7:=s13 _ _ b7;obtain ⟨f1,f2⟩:=Su j hj;refine ⟨_,rfl,.inl ⟨rfl,_,SqL.of c7⟩,l7,flg j,j,rfl,rfl,c7,f1,f2,l12,_,(j:Int),_,rfl,rfl,SqL.of upd_same,Sv j hj,sl2,fun q hq=>?_⟩;exact k q _ (s7.trans (s10.trans (AB s13 hq))) upd_same
end
structure Ir (K:FG) (ec:Nat->Addr) (cM C:Addr) (j:Nat):Prop where
 ea:NC K ec C j
 cx:BJ K C=true
 n0:(Dx K C).contains (.ref (ec 0))=false
 n1:(Dx K C).contains (.ref (ec 1))=false
 n2:(Dx K C).contains (.ref (ec 2))=false
 n3:(Dx K C).contains (.ref (ec 3))=false
 m:(Dx K C).contains (.ref cM)=true
noncomputable def Jj (j:Nat):Str:=(["at", "bits", "at", "name"]:List Str).getD j ""
structure Rz (K:FG) (ec:Nat->Addr) (C:Addr) (j:Nat):Prop where
 ea:NC K ec C j
 cx:BJ K C=true
 j4:j < 4
 no:∀ i,i < j->(Dx K C).contains (.ref (ec i))=false
 m:(Dx K C).contains (.ref (ec j))=true
 g:Ty K C (Jj j)
structure MA (K:FG) (mg:SV) (ec:Nat->Addr) (cM:Addr):Prop where
 m:mg "MarkError" = some (.ref cM)
 xm:BJ K cM=true
 x0:BJ K (ec 0)=true
 x1:BJ K (ec 1)=true
 x2:BJ K (ec 2)=true
 x3:BJ K (ec 3)=true
structure FnS (P:Program) (w:World) (K:FG) (mg:SV) (base:Heap) (x:Str) (k:Nat) (ps:List Str) (sp:SpS):Prop where
 ex:∃ f fd,My P w K mg base k f fd ps sp/\mg x=some (.ref f)/\W.keepIn K (.ref f)=true/\Binds K fd ps []
def QD (K:FG) (ec:Nat->Addr) (cM C:Addr) (dx:Option Addr) (e:Addr):TS:=fun D σ H=>σ.length=2 /\
 ((∃ j,Ir K ec cM C j/\dx=none/\∀ p H',Same H H'->H' p=some (.tup [.str "refused", .str (wd j)])->D.rt (.ref p) H') \/
  ∃ j d v,Rz K ec C j/\dx=some d/\H d=some (.xd [(Jj j,v)])/\∀ p H',Same H H'->H' p=some (.tup [.str "refused", .str (wd j),v])->D.rt (.ref p) H')
def Kt (K:FG) (ec:Nat->Addr) (cM:Addr) (Q:VK):XK:=fun Cv dx H2=>∃ C,Cv=.ref C/\∀ e,H2 e=some (FY e C dx) ->
 ((∃ j,Ir K ec cM C j/\dx=none/\∀ p H',Same (del H2 e) H'->H' p=some (.tup [.str "refused", .str (wd j)])->Q (.ref p) H') \/
  ∃ j d v,Rz K ec C j/\dx=some d/\(del H2 e) d=some (.xd [(Jj j,v)])/\∀ p H',Same (del H2 e) H'->H' p=some (.tup [.str "refused", .str (wd j),v])->Q (.ref p) H')
theorem scTold:AR ["_law_deed", "_law_e"] ["_law_deed"] (defScope Al):=fsc
section
variable {ec:Nat->Addr} {cM:Addr}
theorem QE {X:Cx} (K:FG) (hK:X.K=K):OpR X (binaryOp .Add) (Me K):=hK ▸ Qn
theorem Ra {k:Nat} {lf c':Addr} (F:Fun K "_law_told" "_law_told" Al f fd) (M:Ks mg ec) (EX:MA K mg ec cM) (GW:FnS P w K mg base "_law_word" 1 ["_law_e"] (Cg K ec))
  {A:Around} {outer:List Env} {s:Shared} {H:Hp} {args:Args} {Nl:List Str} {scope:Scope} {cl:List (Str × Addr)} {σl:St} {name qual:Str} {params:Arguments} {body:Expr} {pm ctv:Value} {tl:XK->TE} {Q:VK}
  (hr:Room (k + 2) A) (e0:Env0 P w K mg base A outer s H) (hb:BindsTo s fd args ((["_law_deed"]:List Str).zip [Value.ref lf])) (C:G5 Nl scope cl σl H s.heap) (hfs:∀ x c,cl.lookup x=some c->c ∉ frs outer)
  (h1:H lf=some (FnO lf (W.kla_obj name qual params body scope cl pm c' ctv))) (h2:H c'=some (E4 c' qual))
  (bi:bindArgs (W.kla_fn name qual params body scope cl pm (.ref c') ctv) ⟨[],[]⟩=pure [])
  (hco:scope.isCoroutine=false) (bp:scope.isGenerator=false) (hk:scope.kind=.function) (bd:∀ x ∈ scope.names,x.2 ≠ .cell)
  (cu:∀ (A':Around) (outer':List Env) (s':Shared) (H':Hp) (E:XK),Room k (A'.deeper (W.envX qual scope s'.heap.objs.size lf (.ref c') cl))->PE (D3 P w K mg base Nl qual scope lf (.ref c') cl A' outer' s' H' E) body (tl E))
  (h:tl (Kt K ec cM Q) σl H Q):codeAny (model P w) A (.call (.ref f) args) (CR CX0 outer P w H s Q E0) s:=by
 obtain ⟨fW,dW,GW,mW,kW,bW⟩:=GW.ex;refine F.at (N:=["_law_deed", "_law_e"]) scTold (vs:=[.ref lf]) rfl (k:=k + 1) hr e0 hb (.cons rfl .nil) fun ad hr1=>?_;have own:=SZ (CX:=CX0) (P:=P) (w:=w) (K:=K) (mg:=mg) (base:=base) (N:=["_law_deed", "_law_e"]) (qual := "_law_told") (scope:=defScope Al) (f:=f) (cd:=ad) (A:=A) (outer:=outer) (s:=s) (H:=H) (E:=E0)
 have hrm:∀ e:Addr,RoomS 1 ((A.deeper (PyProof.Rows.envOfC "_law_told" (defScope Al) s.heap.objs.size f ad)).mark (some (.ref e))):=fun e=>by
  have q:=hr1.mono (show 1 <= k + 1 by omega);exact ⟨q.dp,q.un⟩
 refine ⟨_,AF (Sc (tb:=fun E=>OW (KN 0 lf c' qual (W.kla_obj name qual params body scope cl pm c' ctv) σl (tl E))) (th:=QD K ec cM) own (fun P0 xe E hx=>?_) (fun CC dx=>?_)),?_⟩
 ·exact AF (AV (Li (X:=E3 (BI CX0 P w K mg base ["_law_deed", "_law_e"] "_law_told" (defScope Al) f ad A outer s H E0) P0 xe) (i:=0) (k:=k + 1) rfl (Or.inl rfl) hr1 C hfs rfl hx bi hco bp hk bd (fun s' H'=>cu _ _ s' H' E (hr1.deeper _))))
 ·intro aa s1 σ H1 D e oe T oT c I h;obtain ⟨hl,⟨j,EP,rfl,kq⟩ | ⟨j,d,v,EF,rfl,hxd,kq⟩⟩:=h
  ·refine (?hp:PH (BI CX0 P w K mg base ["_law_deed", "_law_e"] "_law_told" (defScope Al) f ad A outer s H E0) CC none _ (fun e=>Mz 1 (fun D σ H=>σ[1]?=some (some (.ref e))/\∀ p H',Same H H'->H' p=some (.tup [.str "refused", .str (wd j)])->D.rt (.ref p) H') e)) aa s1 σ H1 D e oe T oT c I ?_
   ·refine CA (Dn:=ec 0) EP.cx EX.x0 rfl M.e0 EP.n0 ?_;refine CA (Dn:=ec 1) EP.cx EX.x1 rfl M.e1 EP.n1 ?_;refine CA (Dn:=ec 2) EP.cx EX.x2 rfl M.e2 EP.n2 ?_;refine CA (Dn:=ec 3) EP.cx EX.x3 rfl M.e3 EP.n3 ?_;refine M0 (Dn:=cM) (i:=1) (tb:=fun (e:Addr) (D:D7) (σ:St) (H:Hp)=>σ[1]?=some (some (V.ref e))/\∀ p H',Same H H'->H' p=some (.tup [.str "refused", .str (wd j)])->D.rt (.ref p) H') scTold.nd rfl rfl EP.cx EX.xm rfl EX.m EP.m (fun e oe T oT c=>?_);refine fun aa s2 σ2 H2 D2 I2 h2=>?_;obtain ⟨fs,hd,hf1,hf2⟩:=c.fld;refine (?hb2:PSs (BW (BI CX0 P w K mg base ["_law_deed", "_law_e"] "_law_told" (defScope Al) f ad A outer s H E0) e oe T oT) _ (OW (JT (Cg K ec) e oe (Ah (CD 1) By)))) aa s2 σ2 H2 D2 I2 ⟨_,h2.1,rfl,CC,j,fs,c.cls,hd,hf2,.inl c.dict,EP.ea,h2.2⟩;exact AF (AV (KM (X:=BW (BI CX0 P w K mg base ["_law_deed", "_law_e"] "_law_told" (defScope Al) f ad A outer s H E0) e oe T oT) (e:=e) (oe:=oe) GW (hrm e) rfl (by simp [BW]) rfl mW kW bW (AA (pv 1) AC)))
   ·exact ⟨by rw [List.getElem?_set_self (by omega)],kq⟩
  ·have hj4:=EF.j4;refine (?hq:PH (BI CX0 P w K mg base ["_law_deed", "_law_e"] "_law_told" (defScope Al) f ad A outer s H E0) CC (some d) _ (fun e=>Mz 1 (fun D σ H=>σ[1]?=some (some (.ref e))/\H d=some (.xd [(Jj j,v)])/\∀ p H',Same H H'->H' p=some (.tup [.str "refused", .str (wd j),v])->D.rt (.ref p) H') e)) aa s1 σ H1 D e oe T oT c I ?_
   ·have take:∀ {x:Str} {b₀:Stmt} {np pos:Pos} {hs:List ExceptHandler} (Dn:Addr),BJ K Dn=true->(hg:Gl (BI CX0 P w K mg base ["_law_deed", "_law_e"] "_law_told" (defScope Al) f ad A outer s H E0) x)->mg x=some (.ref Dn)->(Dx K CC).contains (.ref Dn)=true->(x == ("__debug__" : Str))=false ->
      (∀ e oe T oT,Cgt CC (some d) e oe T oT->PSs (BW (BI CX0 P w K mg base ["_law_deed", "_law_e"] "_law_told" (defScope Al) f ad A outer s H E0) e oe T oT) [b₀] (OW (tOp (Me K) (JT (Cg K ec) e oe (Ah (CD 1) By)) (Oj (Ah (PZ e oe (Jj j) (CD 1)) By))))) ->
      PH (BI CX0 P w K mg base ["_law_deed", "_law_e"] "_law_told" (defScope Al) f ad A outer s H E0) CC (some d) (.ExceptHandler (some (.Name x np)) (some "_law_e") [b₀] pos :: hs) (fun e=>Mz 1 (fun D σ H=>σ[1]?=some (some (.ref e))/\H d=some (.xd [(Jj j,v)])/\∀ p H',Same H H'->H' p=some (.tup [.str "refused", .str (wd j),v])->D.rt (.ref p) H') e):=fun {x b₀ np pos hs} Dn hD hg hm hc hdb hbod =>
     M0 (Dn:=Dn) (i:=1) (tb:=fun (e:Addr) (D:D7) (σ:St) (H:Hp)=>σ[1]?=some (some (V.ref e))/\H d=some (.xd [(Jj j,v)])/\∀ p H',Same H H'->H' p=some (.tup [.str "refused", .str (wd j),v])->D.rt (.ref p) H') scTold.nd rfl rfl EF.cx hD hg hm hc (fun e oe T oT c=>by
      refine fun aa s2 σ2 H2 D2 I2 h2=>?_;obtain ⟨fs,hd,hf1,hf2⟩:=c.fld;obtain ⟨g1,g2,g3⟩:=h2;refine hbod e oe T oT c aa s2 σ2 H2 D2 I2 ⟨_,g1,rfl,CC,j,fs,c.cls,hd,hf2,.inr ⟨d,_,c.dict,g2⟩,EF.ea,fun p H' sp hp=>?_⟩;refine ⟨_,g1,d,_,v,rfl,c.dict,sp _ _ g2,(by simp),sl1,fun q hq=>?_⟩;have sq:=AB (Same.refl H') hq (o:=.tup [v]);refine ⟨p,q,_,_,rfl,rfl,SqT.of (sq _ _ hp),SqT.of upd_same,(by simp),(by show 2 + 1 <= sizeLine; decide),(fun z=>nomatch z),fun _ r hr=>?_⟩
      exact g3 r _ (sp.trans (AB sq hr)) upd_same) hdb
    have pX:∀ e oe T oT,Cgt CC (some d) e oe T oT->ExcP (BW (BI CX0 P w K mg base ["_law_deed", "_law_e"] "_law_told" (defScope Al) f ad A outer s H E0) e oe T oT) e oe CC:=fun e oe T oT c=>by
     obtain ⟨fs,hd,_⟩:=c.fld;exact ⟨by simp [BW],c.cls,⟨fs,hd⟩⟩
    have bod:∀ {fl:Str} {p1 p2 p3 p4 p5 p6 p7:Pos} {kt:Nat},Jj j=fl->∀ e oe T oT,Cgt CC (some d) e oe T oT->PSs (BW (BI CX0 P w K mg base ["_law_deed", "_law_e"] "_law_told" (defScope Al) f ad A outer s H E0) e oe T oT) [.Return (some (.BinOp (.Call (.Name "_law_word" p1) [.Name "_law_e" p2] [] p3) .Add (.Tuple [.Attribute (.Name "_law_e" p4) fl p5] kt p6) p7)) p7] (OW (tOp (Me K) (JT (Cg K ec) e oe (Ah (CD 1) By)) (Oj (Ah (PZ e oe (Jj j) (CD 1)) By)))):=fun ae e oe T oT c=>by
     subst ae;exact AF (AV (AU (QE K rfl) (KM (X:=BW (BI CX0 P w K mg base ["_law_deed", "_law_e"] "_law_told" (defScope Al) f ad A outer s H E0) e oe T oT) (e:=e) (oe:=oe) GW (hrm e) rfl (by simp [BW]) rfl mW kW bW (AA (pv 1) AC)) (A4 (AA (RH (pX e oe T oT c) EF.g (pv 1) rfl) AC))))
    rcases (show j=0\/j=1\/j=2\/j=3 by omega) with z | z | z | z
    ·subst z;exact take (ec 0) EX.x0 rfl M.e0 EF.m (by decide) (bod rfl)
    ·subst z;refine CA (Dn:=ec 0) EF.cx EX.x0 rfl M.e0 (EF.no 0 (by decide)) ?_;exact take (ec 1) EX.x1 rfl M.e1 EF.m (by decide) (bod rfl)
    ·subst z;refine CA (Dn:=ec 0) EF.cx EX.x0 rfl M.e0 (EF.no 0 (by decide)) ?_;refine CA (Dn:=ec 1) EF.cx EX.x1 rfl M.e1 (EF.no 1 (by decide)) ?_;exact take (ec 2) EX.x2 rfl M.e2 EF.m (by decide) (bod rfl)
    ·subst z;refine CA (Dn:=ec 0) EF.cx EX.x0 rfl M.e0 (EF.no 0 (by decide)) ?_;refine CA (Dn:=ec 1) EF.cx EX.x1 rfl M.e1 (EF.no 1 (by decide)) ?_;refine CA (Dn:=ec 2) EF.cx EX.x2 rfl M.e2 (EF.no 2 (by decide)) ?_;exact take (ec 3) EX.x3 rfl M.e3 EF.m (by decide) (bod rfl)
   ·exact ⟨by rw [List.getElem?_set_self (by omega)],hxd,kq⟩
 ·refine ⟨rfl,h1,h2,?_⟩
  have e:Q9 (BI CX0 P w K mg base ["_law_deed", "_law_e"] "_law_told" (defScope Al) f ad A outer s H E0).N.length (QD K ec cM) { nx:=fun _ H'=>Q .non H',rt:=Q }=Kt K ec cM Q:=by
   funext Cv dx H2;unfold Q9 Kt QD;simp [BI]
  rw [← e] at h;exact h
end
end Mk
end
section
namespace L2
open PySem PySem.Spec PyProof.Rows
noncomputable def Rb (ix:List Nat) (σ:St):St:=ix.map fun j=>(σ[j]?).getD none
structure LamN (X:Cx) (Nl:List Str) (ix:List Nat) (scope:Scope) (clos:List (Str × Addr)):Prop where
 len:ix.length=Nl.length
 nm:∀ (i:Nat) (x:Str),Nl[i]?=some x->∃ j:Nat,ix[i]?=some j/\X.N[j]?=some x/\X.env.scope.names.lookup x=some .cell/\scope.names.lookup x=some .free
 cl:∀ x c,clos.lookup x=some c->X.env.cells.lookup x=some c
 has:∀ x,(scope.names.lookup x=some .cell\/scope.names.lookup x=some .free)->∃ c,clos.lookup x=some c
 fn:∀ x,X.fn x=true
section
variable {X:Cx} {aa:LO} {σ:St} {s:Shared} {Nl:List Str} {ix:List Nat} {scope:Scope} {clos:List (Str × Addr)}
theorem LamN.cells (L:LamN X Nl ix scope clos) (I:Inv X aa σ H s):G5 Nl scope clos (Rb ix σ) H s.heap:=by
 refine ⟨fun x y c h1 h2=>I.ok.inj x y c (L.cl x c h1) (L.cl y c h2),L.has,fun x c h=>⟨I.cell x c (L.cl x c h),I.freeC x c (L.cl x c h)⟩,fun i x v h1 h2=>?_,?_⟩
 ·obtain ⟨j,hj,hN,hk,hf⟩:=L.nm i x h1;refine ⟨hf,?_⟩;unfold Rb at h2;rw [getElem?_map,hj] at h2
  have hv:σ[j]?=some (some v):=by
   simp only [Option.map_some,Option.some.injEq] at h2;cases e:σ[j]? with
   | none=>rw [e] at h2; cases h2
   | some o=>rw [e] at h2; simp only [Option.getD_some] at h2; rw [h2]
  obtain ⟨m,_,hl⟩:=I.loc;obtain ⟨u,r,l⟩:=hl j x v hN hv (.inr (.inl hk));rcases l with ⟨l,_⟩ | ⟨_,c,e,z⟩
  ·rw [show X.env.kindOf x=X.env.scope.names.lookup x from rfl,hk] at l; cases l
  ·obtain ⟨c2,e2⟩:=L.has x (.inr hf);have e3:=L.cl x c2 e2;rw [e] at e3;cases e3;exact ⟨u,c,r,e2,z⟩
 ·unfold Rb; rw [AI]; exact L.len
theorem LamN.far (L:LamN X Nl ix scope clos) (I:Inv X aa σ H s):∀ x c,clos.lookup x=some c->c ∉ frs X.stack:=fun x c h z=>by
 have hc:=L.cl x c h;rcases mem_cons.mp (I.stkSub c z) with z | z
 ·exact I.cne x c hc z
 ·obtain ⟨_,o,ho,_⟩:=I.ok.funs.mem z;exact absurd (Nat.lt_of_lt_of_le (lt_size ho) (I.ok.cab x c (L.fn x) hc)) (Nat.lt_irrefl _)
end
end L2
namespace Mk
open PySem L2 MK
section
variable {X:Cx} {ec:Nat->Addr} {cM c P0:Addr} {ls:List Pos} {lpos:Pos}
def ND (K:FG) (ec:Nat->Addr) (cM P0:Addr) (qual:Str) (ls:List Pos) (ix:List Nat) (tl:XK->TE):TE:=fun σ H Q=>TabOk H P0 qual ls/\∀ H',M6 P0 H H'->TabOk H' P0 qual ls->tl (Kt K ec cM Q) (Rb ix σ) H' Q
theorem Jk {k:Nat} (F:Fun X.K "_law_told" "_law_told" Al f fd) (M:Ks X.mg ec) (EX:MA X.K X.mg ec cM) (GW:FnS X.prog X.w X.K X.mg X.base "_law_word" 1 ["_law_e"] (Cg X.K ec))
  (hr:Room (k + 2) X.A) (hg:Gl X "_law_told") (hm:X.mg "_law_told" = some (.ref f)) (hkp:W.keepIn X.K (.ref f)=true) (hB:Binds X.K fd ["_law_deed"] [])
  {Nl:List Str} {ix:List Nat} {scope:Scope} {clos:List (Str × Addr)} {params:Arguments} {body:Expr} {tl:XK->TE} {p pos:Pos}
  (L:Ny X c P0) (hls:lpos ∈ ls) (av:∀ q ∈ ls,q=lpos\/(q.line == lpos.line && q.col == lpos.col)=false) (af:closureFor scope X.env=pure clos) (cp:defaultsOf params X.env=([],[])) (LN:LamN X Nl ix scope clos)
  (bi:∀ pm c' ctv,bindArgs (W.kla_fn "<lambda>" (X.env.qual ++ "<lambda>") params body scope clos pm (.ref c') ctv) ⟨[],[]⟩=pure [])
  (hco:scope.isCoroutine=false) (bp:scope.isGenerator=false) (hk:scope.kind=.function) (bd:∀ x ∈ scope.names,x.2 ≠ .cell)
  (cu:∀ (lf c':Addr) (A':Around) (outer':List Env) (s':Shared) (H':Hp) (E:XK),Room k (A'.deeper (W.envX (X.env.qual ++ "<lambda>") scope s'.heap.objs.size lf (.ref c') clos))->PE (D3 X.prog X.w X.K X.mg X.base Nl (X.env.qual ++ "<lambda>") scope lf (.ref c') clos A' outer' s' H' E) body (tl E))
  (he:starEach [.Lambda params body scope lpos] X.env=(false,eval (.Lambda params body scope lpos) X.env) :: starEach [] X.env:=by rfl) (hpl:(backTo pos (starEach [] X.env)).any (·.1)=false:=by rfl) :
  PE X (.Call (.Name "_law_told" p) [.Lambda params body scope lpos] [] pos) (ND X.K ec cM P0 (X.env.qual ++ "<lambda>") ls ix tl):=by
 intro aa s σ H Q I ⟨hT,h⟩;refine wpAny_Call_Name_kw (B6 I hg hm ?_ (by decide));have ha:PA X [.Lambda params body scope lpos] (Ah (Tx P0 (X.env.qual ++ "<lambda>") ls (fun c' ctv=>W.kla_obj "<lambda>" (X.env.qual ++ "<lambda>") params body scope clos ((X.mg "__name__").getD .none) c' ctv)) By):=AA (Sd L hls av af cp) AC he;refine W.callWith_K (h₀:=X.base) I.ok.mod.kin hkp (thn (ha pos aa s σ H (fun vs H1=>∃ lf c' ctv,vs=[.ref lf]/\M6 P0 H H1/\TabOk H1 P0 (X.env.qual ++ "<lambda>") ls/\H1 lf=some (FnO lf (W.kla_obj "<lambda>" (X.env.qual ++ "<lambda>") params body scope clos ((X.mg "__name__").getD .none) c' ctv))/\H1 c'=some (E4 c' (X.env.qual ++ "<lambda>"))) I ⟨hT,fun lf c' ctv H' _ hs ht h1 h2=>⟨lf,c',ctv,rfl,hs,ht,h1,h2⟩⟩) fun us s1 ⟨vs,H1,I1,r,lf,c',ctv,ev,hs,ht,h1,h2⟩=>⟨I1.kIn,?_⟩) he hpl;subst ev;obtain ⟨u,eu,ru⟩:=CP r;subst eu;obtain rfl:u=Value.ref lf:=ru;have bb:=hB s1 [.ref lf] I1.kIn rfl;rw [append_nil] at bb;refine wpAny_call (codeAny_mono (Ra (k:=k) F M EX GW hr I1.env0 bb (LN.cells I1) (LN.far I1) h1 h2 (bi _ _ _) hco bp hk bd (cu lf c') (h H1 hs ht)) fun r s' hq=>?_);cases r with
 | error e=>exact False.elim hq
 | ok fl =>
  cases fl with
  | ret u=>exact I1.after hq
  | next=>exact False.elim hq
  | brk=>exact False.elim hq
  | cont=>exact False.elim hq
end
theorem Iu {α β:Type} {F:α->β->Prop}:∀ {xs:List α} {ys:List β} {i:Nat} {a:α},Paired F xs ys->xs[i]?=some a->∃ b,ys[i]?=some b/\F a b
 | _,_,_,_,.nil,e=>by simp at e
 | _,_,0,_,.cons r _,e=>by simp at e; subst e; exact ⟨_,rfl,r⟩
 | _,_,i + 1,x,.cons _ t,e=>by
  obtain ⟨u,h1,h2⟩:=Iu (i:=i) (a:=x) t (by simpa using e);exact ⟨u,by simpa using h1,h2⟩
theorem BG (due:Aa):(AG due).length <= due.length:=Nat.le_trans (length_filter_le _ _) (Dv due)
section
def Ef (C:Addr):Sp:=fun vs H Q _=>∃ (kp:Addr) (due:Aa) (r:Str),vs=[.ref kp]/\KindAt C H kp due r/\due.length <= 60/\∀ H',Same H H'->Q (.int (Av (AG due):Nat)) H'
theorem MB:AR ["kind"] ["kind"] (defScope Fa):=fsc
theorem Ku (F:Fun K "mark_bits" "mark_bits" Fa f fd) (T:Lv K C) (GM:Mt P w K mg base C "marks" 2 ["self"] (FC C)) (GU:Fn P w K mg base "union_of" 1 ["numbers"] (C6 K)):Aj P w K mg base CX0 3 f fd ["kind"] (Ef C):=by
 obtain ⟨fM,dM,GM,mM,bM⟩:=GM.ex;obtain ⟨fU,dU,GU,mU,kU,bU⟩:=GU.ex;refine F.m MB fun vs H Q E h=>?_;obtain ⟨kp,due,r,rfl,KA,h60,k⟩:=h;refine ⟨rfl,fun ad A outer s hr=>?_⟩;obtain ⟨dxk,d1,d2,ag⟩:=KA.ins;have hr1:Room 1 _:=hr.mono (by decide);refine ⟨_,AF (AV (AQ GU hr1 rfl mU kU bU .nil AZ (AA (Cc [] [] (by kernel_rfl) (by decide +kernel) (by kernel_rfl) (by kernel_rfl) rfl (Ac (Ca (pv 0) T.cl mM GM hr bM .nil AZ)) (fun _ _ _ _ _ _=>BH) (fun _ _ _ _ _ _=>pv 1)) AC))),?_⟩;refine ⟨_,rfl,kp,dxk,_,rfl,ag,(F8 _ _ _),kp,due,r,rfl,KA,h60,fun l as H1 s1 hl ht=>?_⟩;have aq:=BG due;have ar:as.length=(AG due).length:=by rw [ht.length]; unfold C7; rw [AI]
 refine ⟨l,rfl,⟨_,SqL.of hl⟩,Ag (K:=K) (a:=l) (xs:=as.map V.ref) (fun i ys H2=>ys=AW ((AG due).take i)/\H2=H1) ⟨rfl,rfl⟩ (fun i ys H2 _ ⟨_,e⟩=>e ▸ SqL.of hl) (fun i ys H2 ⟨e,_⟩=>?_) ?_ ?_⟩
 ·rw [e]; unfold AW; rw [AI,length_take]; omega
 ·rintro i v ys H2 hi ⟨rfl,rfl⟩;rw [getElem?_map] at hi;obtain ⟨b,hb,rfl⟩:=Option.map_eq_some_iff.mp hi;obtain ⟨pr,hpr,ai⟩:∃ pr,(C7 due)[i]?=some pr/\H2 b=some (.tup [pr.1,pr.2]):=Iu ht hb;unfold C7 at hpr;rw [getElem?_map] at hpr;obtain ⟨m,hm,rfl⟩:=Option.map_eq_some_iff.mp hpr;refine ⟨b,_,rfl,SqT.of ai,rfl,_,_,rfl,_,_,rfl,rfl,_,rfl,?_,rfl⟩;rw [take_add_one,hm,Option.toList_some];unfold AW;rw [map_append];rfl
 ·rintro ys H2 ⟨rfl,rfl⟩ q hq;have el:(AG due).take (as.map V.ref).length=AG due:=by rw [AI,ar]; exact take_length
  rw [el];exact ⟨q,AG due,rfl,SqL.of upd_same,k _ (AB s1 hq)⟩
end
end Mk
end
section
namespace MK
noncomputable def Jl:List Nat->List Nat->List Nat
 | us,[]=>us
 | us,m :: r=>Jl (us++us.map (· ||| m)) r
noncomputable def uns (ms:List Nat):List Nat:=Jl [0] ms
theorem Kv:∀ (us a b:List Nat),Jl us (a++b)=Jl (Jl us a) b
 | us,[],b=>rfl
 | us,m :: r,b=>Kv _ r b
theorem Kw (ms:List Nat) (m:Nat):uns (ms++[m])=uns ms++(uns ms).map (· ||| m):=Kv [0] ms [m]
theorem Kx:∀ (us ms:List Nat),(Jl us ms).length=us.length * 2 ^ ms.length
 | us,[]=>(Nat.mul_one _).symm
 | us,m :: r=>by
  show (Jl _ r).length=_;rw [Kx,length_append,AI,length_cons,Nat.pow_succ,← Nat.mul_two,Nat.mul_assoc,Nat.mul_comm 2]
theorem FH (ms:List Nat):(uns ms).length=2 ^ ms.length:=by unfold uns; rw [Kx,length_singleton,Nat.one_mul]
theorem Ky {k:Nat}:∀ {ms us:List Nat} {u:Nat},u ∈ Jl us ms->u.testBit k=true->(∃ v ∈ us,v.testBit k=true)\/∃ m ∈ ms,m.testBit k=true
 | [],us,u,h,hb=>.inl ⟨u,h,hb⟩
 | m :: r,us,u,h,hb=>by
  rcases Ky (ms:=r) h hb with ⟨v,hv,hvb⟩ | ⟨m',h1,h2⟩
  ·rcases mem_append.mp hv with z | z
   ·exact .inl ⟨v,z,hvb⟩
   ·obtain ⟨x,hx,rfl⟩:=mem_map.mp z;rw [Nat.testBit_or,Bool.or_eq_true] at hvb;rcases hvb with y | y
    ·exact .inl ⟨x,hx,y⟩
    ·exact .inr ⟨m,mem_cons_self ..,y⟩
  ·exact .inr ⟨m',mem_cons_of_mem _ h1,h2⟩
theorem Rc {k:Nat} {ms:List Nat} {u:Nat} (h:u ∈ uns ms) (hb:u.testBit k=true):∃ m ∈ ms,m.testBit k=true:=by
 rcases Ky h hb with ⟨v,hv,hvb⟩ | z
 ·rw [mem_singleton.mp hv,Nat.zero_testBit] at hvb;cases hvb
 ·exact z
theorem GH {u k:Nat} (h:u < 2 ^ k):u ||| 2 ^ k=u + 2 ^ k:=by
 have:=Nat.two_pow_add_eq_or_of_lt h 1;rw [Nat.mul_one] at this;rw [Nat.or_comm,← this,Nat.add_comm]
theorem Iv:∀ {ms us:List Nat},us.Pairwise (· < ·)->(∀ u ∈ us,∀ m ∈ ms,u < m)->(∀ m ∈ ms,Aw m=true)->ms.Pairwise (· < ·)->(Jl us ms).Pairwise (· < ·)
 | [],us,h,_,_,_=>h
 | m :: r,us,h,hu,hm,hp=>by
  obtain ⟨k,rfl⟩:=BB (hm m (mem_cons_self ..));have hb:∀ u ∈ us,u < 2 ^ k:=fun u h=>hu u h _ (mem_cons_self ..);have hp':=List.pairwise_cons.mp hp;refine Iv (ms:=r) ?_ ?_ (fun m h=>hm m (mem_cons_of_mem _ h)) hp'.2
  ·refine List.pairwise_append.mpr ⟨h,?_,fun u hu' v hv=>?_⟩
   ·rw [pairwise_map];refine h.imp_of_mem fun {a b} ha hb' hab=>?_;rw [GH (hb a ha),GH (hb b hb')];omega
   ·obtain ⟨x,hx,rfl⟩:=mem_map.mp hv;rw [GH (hb x hx)];have:=hb u hu';omega
  ·intro u hu' m' hm';have hlt:=hp'.1 m' hm';obtain ⟨k',rfl⟩:=BB (hm m' (mem_cons_of_mem _ hm'));rcases mem_append.mp hu' with z | z
   ·exact Nat.lt_trans (hb u z) hlt
   ·obtain ⟨x,hx,rfl⟩:=mem_map.mp z;rw [GH (hb x hx)];have h1:=hb x hx;have h2:k < k':=(Nat.pow_lt_pow_iff_right (by decide)).mp hlt;have h3:2 ^ (k + 1) <= 2 ^ k':=Nat.pow_le_pow_right (by decide) h2;rw [Nat.pow_succ] at h3;omega
theorem QF {ms:List Nat} (hm:∀ m ∈ ms,Aw m=true) (hp:ms.Pairwise (· < ·)):(uns ms).Pairwise (· < ·):=by
 refine Iv (List.pairwise_singleton _ _) (fun u hu m h=>?_) hm hp;rw [mem_singleton.mp hu];obtain ⟨k,rfl⟩:=BB (hm m h);exact Nat.two_pow_pos k
theorem OK {u n:Nat} (h:∀ k,u.testBit k=true->n.testBit k=true):u &&& n=u:=by
 refine Nat.eq_of_testBit_eq fun k=>?_;rw [Nat.testBit_and];cases e:u.testBit k with
 | false=>rfl
 | true=>rw [h k e]; rfl
end MK
end
section
namespace Mk
open PySem L2 MK
theorem Jm:bootBuiltins "dict" = some (.type "dict"):=by decide +kernel
noncomputable def Bf (due:Aa):LK:=(AG due).map fun n=>((Sum.inr (Az (AN due) n):Key),V.int (n:Int))
noncomputable def kM (due:Aa):LK:=BV [] (Bf due)
theorem QG {as:List Addr} {ps:LK} (t:TupsAt H as (ps.map fun q=>(kV q.1,q.2))):as.length=ps.length/\∀ (i:Nat) b q,as[i]?=some b->ps[i]?=some q->SqT K H b [kV q.1,q.2]:=by
 refine ⟨by rw [t.length,AI],fun i b q hb hq=>?_⟩;obtain ⟨p,hp,h⟩:=B2 t hb;rw [getElem?_map,hq] at hp;cases hp;exact SqT.of h
theorem HV (due:Aa):C7 due=(Bf due).map fun q=>(kV q.1,q.2):=by
 unfold C7 Bf;rw [map_map];rfl
theorem F0 {α β:Type} {f:α->β}:∀ {l:List α},l.Nodup->(∀ a ∈ l,∀ b ∈ l,f a=f b->a=b)->(l.map f).Nodup
 | [],_,_=>nodup_nil
 | a :: r,hn,h=>by
  rw [nodup_cons] at hn;rw [map_cons,nodup_cons];refine ⟨fun z=>?_,F0 hn.2 fun b hb c hc=>h b (mem_cons_of_mem _ hb) c (mem_cons_of_mem _ hc)⟩;obtain ⟨b,hb,e⟩:=mem_map.mp z;exact hn.1 (h a (mem_cons_self ..) b (mem_cons_of_mem _ hb) e.symm ▸ hb)
noncomputable def AL (due:Aa):List Str:=(AG due).map (Az (AN due))
theorem DP {n:Nat} (h:n ∈ AG due):n ∈ (AN due).map (·.1)/\Aw n=true:=by
 unfold AG at h;obtain ⟨h1,h2⟩:=mem_filter.mp h;exact ⟨mem_keysS.mp h1,h2⟩
theorem BU {n:Nat} (h:n ∈ AG due):(Az (AN due) n,n) ∈ due:=Ik (OI (DP h).1)
theorem OL (due:Aa):(AG due).Nodup:=((Cf due).nodup_iff.mpr (Ij due)).filter _
theorem QH (nd:(due.map (·.1)).Nodup) {x:Str} {m n:Nat} (h1:(x,m) ∈ due) (h2:(x,n) ∈ due):m=n:=by
 induction due with
 | nil=>cases h1
 | cons p r ih =>
  rw [map_cons,nodup_cons] at nd;rcases mem_cons.mp h1 with z1 | z1 <;> rcases mem_cons.mp h2 with z2 | z2
  ·rw [← z2] at z1;exact (Prod.mk.inj z1).2
  ·exact absurd (mem_map.mpr ⟨_,z2,by rw [← z1]⟩) nd.1
  ·exact absurd (mem_map.mpr ⟨_,z1,by rw [← z2]⟩) nd.1
  ·exact ih nd.2 z1 z2
theorem Ix (nd:(due.map (·.1)).Nodup):(AL due).Nodup :=
 F0 (OL due) fun a ha b hb e=>QH nd (BU ha) (e ▸ BU hb)
theorem Iy {x:Str} (h:x ∈ AL due):x ∈ due.map (·.1):=by
 obtain ⟨n,hn,rfl⟩:=mem_map.mp h;exact mem_map.mpr ⟨_,BU hn,rfl⟩
theorem Iz:∀ (ps kvs:LK),((kvs++ps).map (·.1)).Nodup->BV kvs ps=kvs++ps
 | [],kvs,_=>(append_nil _).symm
 | p :: r,kvs,h=>by
  have hn:A7 kvs p.1=none:=by
   cases e:A7 kvs p.1 with
   | none=>rfl
   | some v =>
    have h1:=Mm e;rw [map_append,List.nodup_append] at h;exact absurd rfl (h.2.2 _ h1 p.1 (mem_cons_self ..))
  show BV (CG kvs p.1 p.2) r=_;rw [Gn _ hn,Iz r,List.append_assoc]
  ·rfl
  ·rw [List.append_assoc];exact h
theorem NE (nd:(due.map (·.1)).Nodup):kM due=Bf due:=by
 unfold kM;refine Iz _ [] ?_;show ((Bf due).map (·.1)).Nodup;have h:=Ix nd;unfold Bf;rw [map_map];unfold AL at h;refine pairwise_map.mpr ((pairwise_map.mp h).imp fun q z=>q (Sum.inr.inj z))
theorem Eg (nd:(due.map (·.1)).Nodup) {x:Str} (h:x ∈ AL due):A7 (kM due) (Sum.inr x:Key)=some (.int ((look due x:Nat):Int)):=by
 obtain ⟨n,hn,rfl⟩:=mem_map.mp h;rw [NE nd,C8 nd (BU hn)]
 have key:∀ l:List Nat,(∀ m ∈ l,m ∈ AG due)->n ∈ l->A7 (l.map fun n=>((Sum.inr (Az (AN due) n):Key),V.int (n:Int))) (Sum.inr (Az (AN due) n):Key)=some (V.int (n:Int)):=by
  intro l hl hin;induction l with
  | nil=>cases hin
  | cons m r ih =>
   rw [map_cons];by_cases e:Az (AN due) m=Az (AN due) n
   ·have:m=n:=QH nd (BU (hl m (mem_cons_self ..))) (e ▸ BU hn);rw [C2 (by rw [e]),this]
   ·rw [C3 (fun z=>e (Sum.inr.inj z))];rcases mem_cons.mp hin with z | z
    ·exact absurd (by rw [z]) e
    ·exact ih (fun m hm=>hl m (mem_cons_of_mem _ hm)) z
 exact key _ (fun _ h=>h) hn
noncomputable def CV (due:Aa) (n:Nat) (x:Str):Bool:=decide (n &&& look due x ≠ 0)
noncomputable def DQ (due:Aa) (n:Nat) (p:Str × Str):Bool:=CV due n p.1 && !CV due n p.2
noncomputable def Fo (due:Aa) (n:Nat) (p:Str × Str):Bool:=CV due n p.1 && CV due n p.2
noncomputable def A5 (due:Aa) (ns bs:List (Str × Str)) (n:Nat):Option (Str × Str × Str):=match ns.find? (DQ due n) with
 | some p=>some ("need", p)
 | none=>(bs.find? (Fo due n)).map fun p=>("bar", p)
noncomputable def An (due:Aa) (ns bs:List (Str × Str)):List Nat:=(uns (AG due)).filter fun n=>(A5 due ns bs n).isNone
def Re (H:Hp) (v:V):Option (Str × Str × Str)->Prop
 | none=>v=.non
 | some t=>∃ q,v=.ref q/\H q=some (.tup [.str t.1,.str t.2.1,.str t.2.2])
theorem GK {α:Type} {f:α->Bool} {l:List α} {i:Nat} {a:α} (h:(l.take i).find? f=none) (e:l[i]?=some a) (hf:f a=true):l.find? f=some a:=by
 have hi:=(List.getElem?_eq_some_iff.mp e).1
 have:l=l.take i++a :: l.drop (i + 1):=by
  have h1:=List.take_append_drop i l;rw [List.drop_eq_getElem_cons hi,(List.getElem?_eq_some_iff.mp e).2] at h1;exact h1.symm
 rw [this,List.find?_append,h,find?_cons,hf];rfl
theorem Bo {α:Type} {f:α->Bool} {l:List α} {i:Nat} {a:α} (h:(l.take i).find? f=none) (e:l[i]?=some a) (hf:f a=false):(l.take (i + 1)).find? f=none:=by
 rw [take_add_one,e,List.find?_append,h];show Option.or none (List.find? f [a])=none;rw [find?_cons,hf];rfl
theorem CW (n m:Nat):decide (V.int (Builtin.bitAnd (n:Int) (m:Int))=V.int 0)=decide (n &&& m=0):=by
 rw [Cl];exact decide_eq_decide.mpr ⟨fun z=>by have:=V.int.inj z; omega,fun z=>by rw [z]; rfl⟩
theorem HW (due:Aa) (n:Nat) (x:Str):CV due n x=!decide (n &&& look due x=0):=by
 unfold CV;by_cases h:n &&& look due x=0
 ·rw [decide_eq_false (fun z=>z h),decide_eq_true h]; rfl
 ·rw [decide_eq_true h,decide_eq_false h]; rfl
theorem GQ {a:Addr} {o:HO} (s:Same H H') (h:Rd H a o):Rd H' a o:=by
 rcases h with h | ⟨ob,h⟩
 ·exact .inl (s _ _ h)
 ·exact .inr ⟨ob,s _ _ h⟩
noncomputable def prV (ps:List (Str × Str)):List (V × V):=ps.map fun p=>(V.str p.1,V.str p.2)
def PrsL (H:Hp) (l:Addr) (ps:List (Str × Str)):Prop:=∃ as:List Addr,H l=some (.lst (as.map V.ref))/\TupsAt H as (prV ps)
theorem PrsL.same {l:Addr} {ps:List (Str × Str)} (s:Same H H') (h:PrsL H l ps):PrsL H' l ps:=by
 obtain ⟨as,h1,h2⟩:=h;exact ⟨as,s _ _ h1,TupsAt.sameT (fun b xs e=>s _ _ e) h2⟩
theorem FI {as:List Addr} {ps:List (Str × Str)} {i:Nat} {v:V} (h:TupsAt H as (prV ps)) (e:(as.map V.ref)[i]?=some v):∃ b p,v=.ref b/\ps[i]?=some p/\H b=some (.tup [.str p.1,.str p.2]):=by
 rw [getElem?_map] at e;obtain ⟨b,hb,rfl⟩:=Option.map_eq_some_iff.mp e;obtain ⟨p,hp,ht⟩:=B2 h hb;unfold prV at hp;rw [getElem?_map] at hp;obtain ⟨q,hq,rfl⟩:=Option.map_eq_some_iff.mp hp;exact ⟨b,q,rfl,hq,ht⟩
def Dy (due:Aa) (ps:List (Str × Str)):Prop:=ps.length <= 100/\∀ p ∈ ps,p.1 ∈ AL due/\p.2 ∈ AL due/\p.1 ≠ p.2
section
variable {RC:Addr}
def QI (K:FG):Sp:=fun vs H Q _=>∃ (a:Addr) (ms:List Nat),vs=[.ref a]/\SqL K H a (AW ms)/\ms.length <= 8/\∀ l H',Same H H'->H' l=some (.lst (AW (uns ms)))->Q (.ref l) H'
theorem scUnions:AR ["marks", "unions", "mark"] ["marks"] (defScope FZ):=fsc
theorem Rf {n:Nat} (h:n <= 8):2 ^ n <= 256:=Nat.pow_le_pow_right (by decide) h
theorem Am (l:List Nat):(AW l).length=l.length:=AI _
theorem Sw (F:Fun K "unions_of" "unions_of" FZ f fd):Aj P w K mg base CX0 1 f fd ["marks"] (QI K):=by
 refine F.m scUnions fun vs H Q E h=>?_;obtain ⟨a,ms,rfl,hS,h8,k⟩:=h;refine ⟨rfl,fun ad A outer s hr=>?_⟩
 refine ⟨_,AD (Ae (i:=1) scUnions.nd rfl (Or.inl rfl) (Ay (AA AJ AC)))
  (AD (Bg PassesOwn.never rfl (Ac (pv 0)) (AM (i:=2) scUnions.nd rfl (Or.inr rfl))
   (AF (Ae (i:=1) scUnions.nd rfl (Or.inl rfl) (AU CK (pv 1) (As ["mark"] [some 2] (by kernel_rfl) (by decide +kernel) (by kernel_rfl) rfl (Ac (pv 1)) (fun _ _ _ _ _ _=>BH) (fun _ _ _ _ _ _=>AU MU (pv 0) (pv 1))))))) (AF (AV (pv 1)))),?_⟩
 refine ⟨sl1,fun l hl=>?_⟩;have s1:=AB (Same.refl _) hl (o:=HO.lst [V.int 0]);have hl1:=upd_same (H:=H) (a:=l) (o:=HO.lst [V.int 0]);generalize upd H l (HO.lst [V.int 0])=H1 at s1 hl1 ⊢;refine ⟨_,rfl,a,rfl,⟨_,s1.seq hS⟩,BC (K:=K) (a:=a) (xs:=AW ms) (fun i σ H2=>(∃ (l:Addr) (v:Option V),σ=[some (.ref a),some (.ref l),v]/\H2 l=some (.lst (AW (uns (ms.take i)))))/\Same H H2) ⟨⟨l,none,rfl,hl1⟩,s1⟩ (fun i σ H2 _ ⟨_,e⟩=>e.seq hS) ?_ ?_⟩
 ·rintro i x σ H2 hi ⟨⟨l2,v,rfl,hl2⟩,s2⟩;unfold AW at hi;rw [getElem?_map] at hi;obtain ⟨m,hm,rfl⟩:=Option.map_eq_some_iff.mp hi;have hi8:=(List.getElem?_eq_some_iff.mp hm).1;have ay:(uns (ms.take i)).length <= 256:=by rw [FH]; exact Rf (by rw [length_take]; omega)
  refine ⟨_,rfl,_,rfl,l2,rfl,⟨_,SqL.of hl2⟩,Ag (K:=K) (a:=l2) (xs:=AW (uns (ms.take i))) (fun j ys H3=>ys=AW (((uns (ms.take i)).take j).map (· ||| m))/\H3=H2) ⟨rfl,rfl⟩ (fun j ys H3 _ ⟨_,e⟩=>e ▸ SqL.of hl2) (fun j ys H3 ⟨e,_⟩=>by rw [e,Am,AI,length_take]; omega) ?_ ?_⟩
  ·rintro j v ys H3 hj ⟨rfl,rfl⟩;unfold AW at hj;rw [getElem?_map] at hj;obtain ⟨u,hu,rfl⟩:=Option.map_eq_some_iff.mp hj;refine ⟨_,rfl,_,rfl,_,_,rfl,rfl,?_,rfl⟩;rw [take_add_one,hu];unfold AW;rw [map_append,map_append];show _++[V.int (Builtin.bitOr _ _)]=_++[V.int _];rw [EL]
  ·rintro ys H3 ⟨rfl,rfl⟩ p hp;rw [Am,take_length] at *;have s3:=AB (Same.refl _) hp (o:=HO.lst (AW ((uns (ms.take i)).map (· ||| m))));refine ⟨l2,p,_,_,rfl,rfl,s3 _ _ hl2,upd_same,Nat.le_of_lt (AT (by rw [Am,Am,AI]; omega)),fun q hq=>?_⟩;refine ⟨⟨q,_,rfl,?_⟩,s2.trans (AB s3 hq)⟩;rw [upd_same,take_add_one,hm];show _=some (HO.lst (AW (uns (ms.take i++[m]))));rw [Kw];unfold AW;rw [map_append]
 ·rintro σ H2 ⟨⟨l2,v,rfl,hl2⟩,s2⟩;rw [Am,take_length] at hl2;exact ⟨_,rfl,k l2 _ s2 hl2⟩
end
def NoIs (K:FG) (T:Value) (H:Hp) (v:V):Prop:=(∃ t,(∀ H,TyOf K H v t)/\W.kitOne K t T=some false)\/(∃ a xs,v=.ref a/\H a=some (.tup xs)/\W.kitOne K (.type "tuple") T=some false)\/∃ a xs,v=.ref a/\H a=some (.lst xs)/\W.kitOne K (.type "list") T=some false
theorem NoIs.ty {T:Value} {v:V} (h:NoIs K T H v):∃ t,TyOf K H v t/\W.kitOne K t T=some false:=by
 rcases h with ⟨t,h,k⟩ | ⟨a,xs,rfl,h,k⟩ | ⟨a,xs,rfl,h,k⟩
 ·exact ⟨t,h H,k⟩
 ·exact ⟨_,.tup h,k⟩
 ·exact ⟨_,.lst h,k⟩
def SameL (H H':Hp):Prop:=∀ b o,H b=some o->(∃ xs,o=.tup xs\/o=.lst xs)->H' b=some o
theorem Jn (s:Same H H'):SameL H H':=fun b o e _=>s b o e
theorem SameL.tup {a:Addr} {xs:List V} (s:SameL H H') (h:H a=some (.tup xs)):H' a=some (.tup xs):=s _ _ h ⟨xs,.inl rfl⟩
theorem SameL.lst {a:Addr} {xs:List V} (s:SameL H H') (h:H a=some (.lst xs)):H' a=some (.lst xs):=s _ _ h ⟨xs,.inr rfl⟩
theorem NoIs.same {T:Value} {v:V} (s:SameL H H') (h:NoIs K T H v):NoIs K T H' v:=by
 rcases h with h | ⟨a,xs,e,h,k⟩ | ⟨a,xs,e,h,k⟩
 ·exact .inl h
 ·exact .inr (.inl ⟨a,xs,e,s.tup h,k⟩)
 ·exact .inr (.inr ⟨a,xs,e,s.lst h,k⟩)
def OneAt (K:FG) (kvs:LK) (H:Hp) (v:V) (b:Bool):Prop:=(∃ x:Str,v=.str x/\b=(A7 kvs (Sum.inr x:Key)).isSome)\/(NoIs K (.type "str") H v/\b=false)
theorem OneAt.same {kvs:LK} {v:V} {b:Bool} (s:SameL H H') (h:OneAt K kvs H v b):OneAt K kvs H' v b:=by
 rcases h with h | ⟨h,e⟩
 ·exact .inl h
 ·exact .inr ⟨h.same s,e⟩
def PairAt (K:FG) (km:LK) (H:Hp) (z:V) (b:Bool):Prop:=(NoIs K (.type "tuple") H z/\b=false) \/
 ∃ a xs,z=.ref a/\H a=some (.tup xs)/\((xs.length ≠ 2/\b=false)\/∃ u w b1 b2,xs=[u,w]/\OneAt K km H u b1/\OneAt K km H w b2/\b=(b1 && b2 && !decide (u=w)))
theorem PairAt.same {km:LK} {z:V} {b:Bool} (s:SameL H H') (h:PairAt K km H z b):PairAt K km H' z b:=by
 rcases h with ⟨h,e⟩ | ⟨a,xs,e,ha,h⟩
 ·exact .inl ⟨h.same s,e⟩
 ·refine .inr ⟨a,xs,e,s.tup ha,?_⟩;rcases h with h | ⟨u,w,b1,b2,e2,o1,o2,e3⟩
  ·exact .inl h
  ·exact .inr ⟨u,w,b1,b2,e2,o1.same s,o2.same s,e3⟩
def BadThing (K:FG) (km:LK) (H:Hp) (v:V):Prop:=(v=.non\/(∃ i,v=.int i)\/∃ x,v=.str x)\/∃ a z,v=.ref a/\H a=some (.lst [z])/\PairAt K km H z false
theorem BadThing.same {km:LK} {v:V} (s:SameL H H') (h:BadThing K km H v):BadThing K km H' v:=by
 rcases h with h | ⟨a,z,e,ha,h⟩
 ·exact .inl h
 ·exact .inr ⟨a,z,e,s.lst ha,h.same s⟩
theorem FJ {l:Addr} {xs:List V} (s:Same H H') (h:SqT K H l xs):SqT K H' l xs:=by
 rcases h with h | h
 ·exact .inl (GQ s h)
 ·exact .inr h
theorem QJ {X:Cx} {e:Expr}:PE X e (fun _ _ _=>False):=fun _ _ _ _ _ _ h=>h.elim
def PrsS (K:FG) (H:Hp) (l:Addr) (ps:List (Str × Str)):Prop:=∃ as:List Addr,(H l=some (.lst (as.map V.ref))\/SqT K H l (as.map V.ref))/\TupsAt H as (prV ps)
theorem PrsL.s {l:Addr} {ps:List (Str × Str)} (h:PrsL H l ps):PrsS K H l ps:=by
 obtain ⟨as,h1,h2⟩:=h;exact ⟨as,.inl h1,h2⟩
theorem Eh {X:Cx} (K:FG) (hK:X.K=K):Bb X (.builtin "isinstance") (fun xs H Q=>∃ a p ys,xs=[.ref a,.ref p]/\(H a=some (.lst ys)\/SqT K H a ys)/\SqT K H p [.ty "list", .ty "tuple"]/\Q (.bl true) H):=by
 subst hK;intro aa s σ H xs us Q I r h;obtain ⟨a,p,ys,rfl,ha,hp,q⟩:=h;obtain ⟨u,uT,rfl,ru,ruT⟩:=Fu r;cases ru;cases ruT;obtain ⟨its,rv,⟨o,e,c,n,dd⟩,_⟩:=I.tuple hp;obtain ⟨ocl,odi,oda,osl⟩:=o;simp only at c dd;subst c;subst dd
 have ei:its=[Value.type "list", Value.type "tuple"]:=by
  cases rv with
  | cons r1 r2 =>
   cases r2 with
   | cons r3 r4 =>
    cases r4;cases (show _=Value.type "list" from r1);cases (show _=Value.type "tuple" from r3);rfl
 subst ei;have fin:∀ tk,EP X aa σ Q (.bool true) { s with toks:=tk }:=fun tk=>⟨.bl true,H,I.tok tk,rfl,q⟩;rcases ha with ha | ha
 ·obtain ⟨_,_,m,_,h1⟩:=(show ObjOk X.prog X.w H s.heap a (.lst ys) from I.hok a _ ha);exact W.kia_tup W.kitx_list I.kIn ⟨_,h1,rfl⟩ e rfl (fun z=>nomatch z) fin
 ·obtain ⟨its2,rv2,⟨o2,e2,c2,n2,dd2⟩,_⟩:=I.tuple ha;exact W.kia_tup W.kitx_tuple I.kIn ⟨o2,e2,c2⟩ e rfl (fun z=>nomatch z) fin
section
variable {RC cP:Addr}
def Kz (K:FG):Sp:=fun vs H Q _=>∃ v d kvs b,vs=[v,.ref d]/\Rd H d (.dK kvs)/\OneAt K kvs H v b/\Q (.bl b) H
theorem Sx (F:Fun K "is_one_of" "is_one_of" Dh f fd) (B:Bl mg):Aj P w K mg base CX0 1 f fd ["thing", "names"] (Kz K):=by
 refine F.ok Ih (fun vs H Q E h=>?_) (fun ad A outer s H vs Q E hr h=>?_)
 ·obtain ⟨v,d,kvs,b,rfl,_⟩:=h;rfl
 ·have hu:=Cj hr;obtain ⟨v,d,kvs,b,rfl,hd,h,k⟩:=h;refine ⟨_,AF (AV (ED (CB K rfl rfl B.isi rfl B.str Ja (pv 0)) (EB (OU (LQ hu (pv 0) (pv 1)))))),?_⟩;rcases h with ⟨x,rfl,rfl⟩ | ⟨h,rfl⟩
  ·refine ⟨_,rfl,_,_,_,true,rfl,.str x,rfl,_,rfl,?_⟩;exact ⟨_,rfl,_,rfl,d,_,rfl,.inl ⟨kvs,Sum.inr x,hd,rfl,rfl⟩,k⟩
  ·obtain ⟨t,ht,hk⟩:=h.ty;exact ⟨_,rfl,_,_,_,false,rfl,ht,hk,_,rfl,A1 k⟩
def FK (K:FG):Sp:=fun vs H Q _=>∃ (z:V) (d:Addr) (km:LK) (b:Bool),vs=[z,.ref d]/\Rd H d (.dK km)/\PairAt K km H z b/\∀ H',Same H H'->Q (.bl b) H'
theorem QK:AR ["thing", "marks"] ["thing", "marks"] (defScope JZ):=fsc
theorem NF {km:LK} {v:V} (h:OneAt K km H v true):∃ x:Str,v=.str x:=by
 rcases h with ⟨x,e,_⟩ | ⟨_,e⟩
 ·exact ⟨x,e⟩
 ·cases e
theorem OM (F:Fun K "is_pair" "is_pair" JZ f fd) (B:Bl mg) (GO:Fn P w K mg base "is_one_of" 1 ["thing", "names"] (Kz K)):Aj P w K mg base CX0 2 f fd ["thing", "marks"] (FK K):=by
 obtain ⟨fO,dO,GO,mO,kO,bO⟩:=GO.ex;refine F.m QK fun vs H Q E h=>?_;obtain ⟨z,d,km,b,rfl,hd,h,k⟩:=h;refine ⟨rfl,fun ad A outer s hr=>?_⟩
 refine ⟨_,AD (Au (PW.pt (DT (BN (BK (CB K rfl rfl B.isi rfl B.tuple Be (pv 0)))) (CJ (AX CZ (AS (Ax K rfl) rfl B.len PySem.boot_len (AA (pv 0) AC)) AJ (Ak _))))) (AF (AV MQ)) Ab)
  (AF (AV (ED (AS (C5 rfl) rfl B.all Ff (AA (As ["marks"] [some 1] (by kernel_rfl) (by decide +kernel) (by kernel_rfl) rfl (JG (pv 0)) (fun _ _ _ _ _ _=>BH) (fun _ _ _ _ _ _=>AQ GO hr rfl mO kO bO .nil AZ (AA (pv 0) (AA (pv 1) AC)))) AC))
   (EB (Em CZ (Bq (F7 K rfl) (pv 0) AJ (fun _ _=>rfl)) (Bq (F7 K rfl) (pv 0) AJ (fun _ _=>rfl)) (Ak _)))))),?_⟩
 rcases h with ⟨h,rfl⟩ | ⟨a,xs,rfl,ha,h⟩
 ·obtain ⟨t,ht,hk⟩:=h.ty;exact ⟨_,rfl,_,_,_,false,rfl,ht,hk,_,rfl,Bd (Bd (k _ (Same.refl _)))⟩
 ·refine ⟨_,rfl,_,_,_,true,rfl,.tup ha,rfl,_,rfl,A1 ?_⟩;refine ⟨_,rfl,a,_,rfl,.inr (SqT.of ha),rfl,_,rfl,?_⟩;rcases h with ⟨hz,rfl⟩ | ⟨u,v,b1,b2,rfl,h1,h2,rfl⟩
  ·refine CL (fun _=>k _ (Same.refl _)) (fun z=>?_);exact absurd (by rw [decide_eq_false (fun q=>hz (by injection q; omega))]; rfl) z
  ·refine Ml rfl ?_;refine ⟨_,rfl,a,rfl,⟨_,SqT.of ha⟩,E1 (K:=K) (a:=a) (xs:=[u,v]) (fun i zs H2=>H2=H/\zs=([b1,b2].take i).map V.bl) ⟨rfl,rfl⟩ (fun i zs H2 _ ⟨e,_⟩=>e ▸ SqT.of ha) (fun i zs H2 ⟨_,e⟩=>by rw [e,AI,length_take]; show min i 2 <= _; omega) ?_ ?_⟩
   ·rintro i z zs H2 hi ⟨rfl,rfl⟩
    have hz:∃ b,[b1,b2][i]?=some b/\OneAt K km H2 z b:=by
     match i,hi with
     | 0,hi=>cases hi; exact ⟨b1,rfl,h1⟩
     | 1,hi=>cases hi; exact ⟨b2,rfl,h2⟩
    obtain ⟨b,hb,hz⟩:=hz;refine ⟨_,rfl,_,rfl,z,d,km,b,rfl,hd,hz,rfl,?_⟩;rw [take_add_one,hb,map_append];rfl
   ·rintro zs H2 ⟨rfl,rfl⟩ q hq;have sq:=AB (Same.refl _) hq (o:=HO.lst (([b1,b2].take [u,v].length).map V.bl));refine ⟨q,[b1,b2],rfl,SqL.of upd_same,_,rfl,?_⟩;cases b1 with
    | false=>exact A1 (k _ sq)
    | true =>
     cases b2 with
     | false=>exact A1 (k _ sq)
     | true =>
      obtain ⟨x,rfl⟩:=NF h1;obtain ⟨y,rfl⟩:=NF h2;exact Bd ⟨_,rfl,a,_,0,.str x,rfl,rfl,SqT.of (sq _ _ ha),rfl,_,rfl,a,_,1,.str y,rfl,rfl,SqT.of (sq _ _ ha),rfl,rfl,k _ sq⟩
def GS (K:FG):Sp:=fun vs H Q _=>∃ (l d:Addr) (km:LK) (ps:List (Str × Str)),vs=[.ref l,.ref d]/\PrsS K H l ps/\Rd H d (.dK km)/\ps.length <= 100/\(∀ p ∈ ps,(A7 km (Sum.inr p.1:Key)).isSome=true/\(A7 km (Sum.inr p.2:Key)).isSome=true/\p.1 ≠ p.2)/\∀ l' H',Same H H'->H l'=none->PrsL H' l' ps->Q (.ref l') H'
theorem NG:AR ["things", "marks"] ["things", "marks"] (defScope Dj):=fsc
theorem K1 {km:LK} {b:Addr} {x y:Str} (hb:H b=some (.tup [.str x,.str y])) (h1:(A7 km (Sum.inr x:Key)).isSome=true) (h2:(A7 km (Sum.inr y:Key)).isSome=true) (av:x ≠ y):PairAt K km H (.ref b) true:=by
 refine .inr ⟨b,_,rfl,hb,.inr ⟨_,_,_,_,rfl,.inl ⟨x,rfl,rfl⟩,.inl ⟨y,rfl,rfl⟩,?_⟩⟩;rw [h1,h2,decide_eq_false (show ¬ V.str x=V.str y from fun z=>av (V.str.inj z))];rfl
theorem K2 (F:Fun K "pairs_of" "pairs_of" Dj f fd) (B:Bl mg) (GP:Fn P w K mg base "is_pair" 2 ["thing", "marks"] (FK K)):Aj P w K mg base CX0 3 f fd ["things", "marks"] (GS K):=by
 obtain ⟨fP,dP,GP,mP,kP,bP⟩:=GP.ex;refine F.m NG fun vs H Q E h=>?_;obtain ⟨l,d,km,ps,rfl,⟨as,hl,has⟩,hd,h100,hps,k⟩:=h;refine ⟨rfl,fun ad A outer s hr=>?_⟩;have ar:as.length=ps.length:=by have:=has.length; unfold prV at this; rw [AI] at this; exact this
 have one:∀ {H2:Hp} {i:Nat} {z:V},Same H H2->(as.map V.ref)[i]?=some z->PairAt K km H2 z true:=fun {H2 i z} s12 hi=>by
  obtain ⟨b,p,rfl,hp,hb⟩:=FI (TupsAt.sameT (fun b xs e=>s12 _ _ e) has) hi;obtain ⟨q1,q2,q3⟩:=hps p (mem_of_getElem? hp);exact K1 hb q1 q2 q3
 have step:∀ {i:Nat} {z:V},(as.map V.ref)[i]?=some z->((as.take i).map fun _=>V.bl true)++[V.bl true]=(as.take (i + 1)).map fun _=>V.bl true:=fun {i z} hi=>by
  rw [getElem?_map] at hi;obtain ⟨c,hc,_⟩:=Option.map_eq_some_iff.mp hi;rw [take_add_one,hc,map_append];rfl
 rcases hl with hl | hl
 ·refine ⟨_,AD (Au (PW.pt (DT (BN (BK (AS (Eh K rfl) rfl B.isi EZ (AA (pv 0) (AA (A4 (AA (B7 (v:=.ty "list") rfl B.list CT rfl) (AA (B7 (v:=.ty "tuple") rfl B.tuple Be rfl) AC))) AC))))) (CJ (BN (BK (AS (C5 rfl) rfl B.all Ff (AA (As ["marks"] [some 1] (by kernel_rfl) (by decide +kernel) (by kernel_rfl) rfl (Ac (pv 0)) (fun _ _ _ _ _ _=>BH) (fun _ _ _ _ _ _=>AQ GP hr rfl mP kP bP .nil AZ (AA (pv 0) (AA (pv 1) AC)))) AC))))))) (AF Ad) Ab)
   (AF (AV (BP Et rfl B.list CT (AA (pv 0) AC)))),?_⟩
  refine ⟨_,rfl,sl2,fun t ht=>?_⟩;have s1:=AB (Same.refl _) ht (o:=HO.tup [V.ty "list", V.ty "tuple"]);have ht1:=upd_same (H:=H) (a:=t) (o:=HO.tup [V.ty "list", V.ty "tuple"]);generalize upd H t (HO.tup [V.ty "list", V.ty "tuple"])=H1 at s1 ht1 ⊢;refine ⟨l,t,_,rfl,.inl (s1 _ _ hl),SqT.of ht1,_,rfl,A1 ?_⟩;refine ⟨_,rfl,l,rfl,⟨_,SqL.of (s1 _ _ hl)⟩,Ag (K:=K) (a:=l) (xs:=as.map V.ref) (fun i ys H2=>Same H1 H2/\ys=(as.take i).map fun _=>V.bl true) ⟨Same.refl _,rfl⟩ (fun i ys H2 _ ⟨e,_⟩=>SqL.of (e _ _ (s1 _ _ hl))) (fun i ys H2 ⟨_,e⟩=>by rw [e,AI,length_take]; omega) ?_ ?_⟩
  ·rintro i z ys H2 hi ⟨s2,rfl⟩;exact ⟨_,rfl,_,rfl,z,d,km,true,rfl,GQ (s1.trans s2) hd,one (s1.trans s2) hi,fun H3 s3=>⟨s2.trans s3,step hi⟩⟩
  ·rintro ys H2 ⟨s2,rfl⟩ q hq;have sq:=AB s2 hq (o:=HO.lst ((as.take (as.map V.ref).length).map fun _=>V.bl true));refine ⟨q,(as.take (as.map V.ref).length).map fun _=>true,rfl,SqL.of (by rw [upd_same,map_map]; rfl),_,rfl,?_⟩;rw [show (((as.take (as.map V.ref).length).map fun _=>true).all id)=true by rw [all_map]; exact List.all_eq_true.mpr fun _ _=>rfl];refine A1 ⟨_,rfl,l,_,rfl,.inl (SqL.of (sq _ _ (s1 _ _ hl))),fun l' hl'=>?_⟩;have sl:=AB (s1.trans sq) hl' (o:=HO.lst (as.map V.ref));exact k l' _ sl (none_of (s1.trans sq) hl') ⟨as,upd_same,TupsAt.sameT (fun b xs e=>sl _ _ e) has⟩
 ·refine ⟨_,AD (Au (PW.pt (DT (BN (BK (AS (Eh K rfl) rfl B.isi EZ (AA (pv 0) (AA (A4 (AA (B7 (v:=.ty "list") rfl B.list CT rfl) (AA (B7 (v:=.ty "tuple") rfl B.tuple Be rfl) AC))) AC))))) (CJ (BN (BK (AS (C5 rfl) rfl B.all Ff (AA (As ["marks"] [some 1] (by kernel_rfl) (by decide +kernel) (by kernel_rfl) rfl (JG (pv 0)) (fun _ _ _ _ _ _=>BH) (fun _ _ _ _ _ _=>AQ GP hr rfl mP kP bP .nil AZ (AA (pv 0) (AA (pv 1) AC)))) AC))))))) (AF Ad) Ab)
   (AF (AV (BP Et rfl B.list CT (AA (pv 0) AC)))),?_⟩
  refine ⟨_,rfl,sl2,fun t ht=>?_⟩;have s1:=AB (Same.refl _) ht (o:=HO.tup [V.ty "list", V.ty "tuple"]);have ht1:=upd_same (H:=H) (a:=t) (o:=HO.tup [V.ty "list", V.ty "tuple"]);generalize upd H t (HO.tup [V.ty "list", V.ty "tuple"])=H1 at s1 ht1 ⊢;refine ⟨l,t,_,rfl,.inr (FJ s1 hl),SqT.of ht1,_,rfl,A1 ?_⟩;refine ⟨_,rfl,l,rfl,⟨_,FJ s1 hl⟩,E1 (K:=K) (a:=l) (xs:=as.map V.ref) (fun i ys H2=>Same H1 H2/\ys=(as.take i).map fun _=>V.bl true) ⟨Same.refl _,rfl⟩ (fun i ys H2 _ ⟨e,_⟩=>FJ (s1.trans e) hl) (fun i ys H2 ⟨_,e⟩=>by rw [e,AI,length_take]; omega) ?_ ?_⟩
  ·rintro i z ys H2 hi ⟨s2,rfl⟩;exact ⟨_,rfl,_,rfl,z,d,km,true,rfl,GQ (s1.trans s2) hd,one (s1.trans s2) hi,fun H3 s3=>⟨s2.trans s3,step hi⟩⟩
  ·rintro ys H2 ⟨s2,rfl⟩ q hq;have sq:=AB s2 hq (o:=HO.lst ((as.take (as.map V.ref).length).map fun _=>V.bl true));refine ⟨q,(as.take (as.map V.ref).length).map fun _=>true,rfl,SqL.of (by rw [upd_same,map_map]; rfl),_,rfl,?_⟩;rw [show (((as.take (as.map V.ref).length).map fun _=>true).all id)=true by rw [all_map]; exact List.all_eq_true.mpr fun _ _=>rfl];refine A1 ⟨_,rfl,l,_,rfl,.inr (FJ (s1.trans sq) hl),fun l' hl'=>?_⟩;have sl:=AB (s1.trans sq) hl' (o:=HO.lst (as.map V.ref));exact k l' _ sl (none_of (s1.trans sq) hl') ⟨as,upd_same,TupsAt.sameT (fun b xs e=>sl _ _ e) has⟩
def K4 (K:FG) (cP:Addr):Sp:=fun vs H Q E=>∃ (v:V) (d:Addr) (km:LK),vs=[v,.ref d]/\Rd H d (.dK km)/\BadThing K km H v/\Uq H E cP
theorem ON (F:Fun K "pairs_of" "pairs_of" Dj f fd) (B:Bl mg) (EP:NA P w K mg base "BadPairs" cP) (GP:Fn P w K mg base "is_pair" 2 ["thing", "marks"] (FK K)):Aj P w K mg base (CXr P w) 3 f fd ["things", "marks"] (K4 K cP):=by
 obtain ⟨fP,dP,GP,mP,kP,bP⟩:=GP.ex;obtain ⟨fX,dX,MX,GX,bX⟩:=EP.make;have mX:=EP.cls;refine F.n NG fun vs H Q E h=>?_;obtain ⟨v,d,km,rfl,hd,h,hU⟩:=h;refine ⟨rfl,fun ad A outer s hr=>?_⟩;have rz:=Mw (P:=P) (w:=w) (K:=K) (mg:=mg) (base:=base) (N:=["things", "marks"]) (qual := "pairs_of") (scope:=defScope Dj) (f:=f) (cd:=ad) (A:=A) (outer:=outer) (s:=s) (H:=H) (E:=E);rcases h with h | ⟨a,z,rfl,ha,h⟩
 ·refine ⟨_,AD (Au (PW.pt (DT (BN (BK (AS (KP K rfl) rfl B.isi EZ (AA (pv 0) (AA (A4 (AA (B7 (v:=.ty "list") rfl B.list CT rfl) (AA (B7 (v:=.ty "tuple") rfl B.tuple Be rfl) AC))) AC))))) (CJ (BN (BK QJ))))) (AF (G3 rz rfl MX.cls (G2 MX GX hr rfl mX bX .nil AZ (AA AY AC)))) Ab) (AF Ad),?_⟩;refine ⟨_,rfl,sl2,fun t ht=>?_⟩;have s1:=AB (Same.refl _) ht (o:=HO.tup [V.ty "list", V.ty "tuple"]);have ht1:=upd_same (H:=H) (a:=t) (o:=HO.tup [V.ty "list", V.ty "tuple"]);generalize upd H t (HO.tup [V.ty "list", V.ty "tuple"])=H1 at s1 ht1 ⊢;exact ⟨v,t,rfl,h,SqT.of ht1,_,rfl,Bd (Bd (Ee (te:=fun _=>tC (.str "")) MX.cls s1 hU))⟩
 ·refine ⟨_,AD (Au (PW.pt (DT (BN (BK (AS (Eh K rfl) rfl B.isi EZ (AA (pv 0) (AA (A4 (AA (B7 (v:=.ty "list") rfl B.list CT rfl) (AA (B7 (v:=.ty "tuple") rfl B.tuple Be rfl) AC))) AC))))) (CJ (BN (BK (AS (C5 rfl) rfl B.all Ff (AA (As ["marks"] [some 1] (by kernel_rfl) (by decide +kernel) (by kernel_rfl) rfl (Ac (pv 0)) (fun _ _ _ _ _ _=>BH) (fun _ _ _ _ _ _=>AQ GP hr rfl mP kP bP .nil AZ (AA (pv 0) (AA (pv 1) AC)))) AC))))))) (AF (G3 rz rfl MX.cls (G2 MX GX hr rfl mX bX .nil AZ (AA AY AC)))) Ab) (AF Ad),?_⟩;refine ⟨_,rfl,sl2,fun t ht=>?_⟩;have s1:=AB (Same.refl _) ht (o:=HO.tup [V.ty "list", V.ty "tuple"]);have ht1:=upd_same (H:=H) (a:=t) (o:=HO.tup [V.ty "list", V.ty "tuple"]);generalize upd H t (HO.tup [V.ty "list", V.ty "tuple"])=H1 at s1 ht1 ⊢;refine ⟨a,t,_,rfl,.inl (s1 _ _ ha),SqT.of ht1,_,rfl,A1 ?_⟩;refine ⟨_,rfl,a,rfl,⟨_,SqL.of (s1 _ _ ha)⟩,Ag (K:=K) (a:=a) (xs:=[z]) (fun i ys H2=>Same H1 H2/\ys=([false].take i).map V.bl) ⟨Same.refl _,rfl⟩ (fun i ys H2 _ ⟨e,_⟩=>SqL.of (e _ _ (s1 _ _ ha))) (fun i ys H2 ⟨_,e⟩=>by rw [e,AI,length_take]; show min i 1 <= _; omega) ?_ ?_⟩
  ·rintro i x ys H2 hi ⟨s2,rfl⟩
   match i,hi with
   | 0,hi =>
    cases hi;exact ⟨_,rfl,_,rfl,z,d,km,false,rfl,GQ (s1.trans s2) hd,h.same (Jn (s1.trans s2)),fun H3 s3=>⟨s2.trans s3,rfl⟩⟩
  ·rintro ys H2 ⟨s2,rfl⟩ q hq;have sq:=AB s2 hq (o:=HO.lst (([false].take [z].length).map V.bl));exact ⟨q,[false],rfl,SqL.of upd_same,_,rfl,Bd (Ee (te:=fun _=>tC (.str "")) MX.cls (s1.trans sq) hU)⟩
end
noncomputable def ruF:List Str:=["own_kind", "numbered_marks", "needs", "bars", "let_numbers"]
noncomputable def rf2 (k d:Addr):List (Str × V):=Af "numbered_marks" (.ref d) (Af "own_kind" (.ref k) [])
noncomputable def rf3 (k d ln:Addr):List (Str × V):=Af "needs" (.ref ln) (rf2 k d)
noncomputable def rf4 (k d ln lb:Addr):List (Str × V):=Af "bars" (.ref lb) (rf3 k d ln)
noncomputable def rf5 (k d ln lb ll:Addr):List (Str × V):=Af "let_numbers" (.ref ll) (rf4 k d ln lb)
structure RF (fs:List (Str × V)) (k d ln lb:Addr):Prop where
 ok:fs.lookup ("own_kind" : Str)=some (.ref k)
 om:fs.lookup ("numbered_marks" : Str)=some (.ref d)
 on:fs.lookup ("needs" : Str)=some (.ref ln)
 ob:fs.lookup ("bars" : Str)=some (.ref lb)
 no:∀ m:Str,m ∉ ruF->fs.lookup m=none
theorem QL {m:Str} (h:m ∉ ruF):¬ m = "own_kind" /\ ¬ m = "numbered_marks" /\ ¬ m = "needs" /\ ¬ m = "bars" /\ ¬ m = "let_numbers" := by
 unfold ruF at h;simp only [mem_cons,not_mem_nil,or_false,not_or] at h;exact h
theorem NH (k d:Addr):(rf2 k d).lookup ("numbered_marks" : Str)=some (.ref d):=by unfold rf2; rw [AK,if_pos rfl]
theorem QM (k d ln:Addr):(rf3 k d ln).lookup ("numbered_marks" : Str)=some (.ref d):=by unfold rf3; rw [AK,if_neg (by decide +kernel)]; exact NH k d
theorem QN (k d ln lb:Addr):RF (rf4 k d ln lb) k d ln lb:=by
 refine ⟨?_,?_,?_,?_,fun m h=>?_⟩
 ·unfold rf4 rf3 rf2;rw [AK,if_neg (by decide +kernel),AK,if_neg (by decide +kernel),AK,if_neg (by decide +kernel),AK,if_pos rfl]
 ·unfold rf4;rw [AK,if_neg (by decide +kernel)];exact QM k d ln
 ·unfold rf4 rf3;rw [AK,if_neg (by decide +kernel),AK,if_pos rfl]
 ·unfold rf4;rw [AK,if_pos rfl]
 ·obtain ⟨h1,h2,h3,h4,h5⟩:=QL h;unfold rf4 rf3 rf2;rw [AK,if_neg h4,AK,if_neg h3,AK,if_neg h2,AK,if_neg h1];rfl
theorem R5 (k d ln lb ll:Addr):(rf5 k d ln lb ll).lookup ("let_numbers" : Str)=some (.ref ll):=by unfold rf5; rw [AK,if_pos rfl]
theorem Sy (k d ln lb ll:Addr):RF (rf5 k d ln lb ll) k d ln lb:=by
 have h:=QN k d ln lb;refine ⟨?_,?_,?_,?_,fun m hm=>?_⟩
 ·unfold rf5; rw [AK,if_neg (by decide +kernel)]; exact h.ok
 ·unfold rf5; rw [AK,if_neg (by decide +kernel)]; exact h.om
 ·unfold rf5; rw [AK,if_neg (by decide +kernel)]; exact h.on
 ·unfold rf5; rw [AK,if_neg (by decide +kernel)]; exact h.ob
 ·unfold rf5; rw [AK,if_neg (QL hm).2.2.2.2]; exact h.no m hm
structure HX (K:FG) (RC:Addr):Prop where
 cl:Cls K RC
 nK:NoAttr K RC "own_kind"
 nM:NoAttr K RC "numbered_marks"
 nN:NoAttr K RC "needs"
 nB:NoAttr K RC "bars"
 nL:NoAttr K RC "let_numbers"
def RuB (RC:Addr) (H:Hp) (p k:Addr) (due:Aa) (ns bs:List (Str × Str)):Prop:=∃ dx fs d ln lb ob,H p=some (.ins RC dx fs)/\RF fs k d ln lb/\H d=some (.frz ob (.dK (kM due)))/\PrsL H ln ns/\PrsL H lb bs
def RuAt (RC:Addr) (H:Hp) (p k:Addr) (due:Aa) (ns bs:List (Str × Str)):Prop:=∃ dx fs d ln lb ob ll,H p=some (.ins RC dx fs)/\RF fs k d ln lb/\H d=some (.frz ob (.dK (kM due)))/\PrsL H ln ns/\PrsL H lb bs/\fs.lookup ("let_numbers" : Str)=some (.ref ll)/\H ll=some (.lst (AW (An due ns bs)))
def T5 (RC:Addr) (H:Hp) (p ll:Addr):Prop:=∃ dx fs,H p=some (.ins RC dx fs)/\fs.lookup ("let_numbers" : Str)=some (.ref ll)
theorem RuB.same {RC:Addr} {p k:Addr} {ns bs:List (Str × Str)} (s:Same H H') (h:RuB RC H p k due ns bs):RuB RC H' p k due ns bs:=by
 obtain ⟨dx,fs,d,ln,lb,ob,h1,h2,h3,h4,h5⟩:=h;exact ⟨dx,fs,d,ln,lb,ob,s _ _ h1,h2,s _ _ h3,h4.same s,h5.same s⟩
theorem RuAt.same {RC:Addr} {p k:Addr} {ns bs:List (Str × Str)} (s:Same H H') (h:RuAt RC H p k due ns bs):RuAt RC H' p k due ns bs:=by
 obtain ⟨dx,fs,d,ln,lb,ob,ll,h1,h2,h3,h4,h5,h6,h7⟩:=h;exact ⟨dx,fs,d,ln,lb,ob,ll,s _ _ h1,h2,s _ _ h3,h4.same s,h5.same s,h6,s _ _ h7⟩
section
variable {RC:Addr}
def Sz (RC:Addr):Sp:=fun vs H Q _=>∃ (p k:Addr) (due:Aa) (ns bs:List (Str × Str)) (n:Nat),vs=[.ref p,.int (n:Int)]/\RuB RC H p k due ns bs/\(due.map (·.1)).Nodup/\Dy due ns/\Dy due bs/\∀ v H',Same H H'->Re H' v (A5 due ns bs n)->Q v H'
noncomputable abbrev NFF:List Str:=["self", "number", "name", "needed", "barred"]
theorem scFF:AR NFF ["self", "number"] (defScope CM):=fsc
theorem T9 (F:Fun K "first_fault" "Rule.first_fault" CM f fd) (RT:HX K RC):Aj P w K mg base CX0 1 f fd ["self", "number"] (Sz RC):=by
 refine F.m scFF fun vs H Q E h=>?_;obtain ⟨p,k,due,ns,bs,n,rfl,⟨dx,fs,d,ln,lb,ob,hp,R,hd,⟨as,hln,has⟩,⟨cs,hlb,ax⟩⟩,nd,⟨l1,PN⟩,⟨l2,PB⟩,q⟩:=h;refine ⟨rfl,fun ad A outer s hr=>?_⟩;have hu:=Cj hr
 refine ⟨_,AD (Bg PassesOwn.never rfl (Ac (BD (pv 0) rfl)) (BO rfl (AO (AM (i:=2) scFF.nd rfl (Or.inl rfl)) (AO (AM (i:=3) scFF.nd rfl (Or.inl rfl)) A2)))
   (AF (Au (PW.pt (FP (AX CZ (AU Bx (pv 1) (BM hu (BD (pv 0) rfl) (pv 2) (fun _ _=>rfl))) AJ (Ak _)) (Ds (AX IB (AU Bx (pv 1) (BM hu (BD (pv 0) rfl) (pv 3) (fun _ _=>rfl))) AJ (Ak _)))))
    (AF (AV (A4 (AA AY (AA (pv 2) (AA (pv 3) AC)))))) Ab)))
  (AD (Bg PassesOwn.never rfl (Ac (BD (pv 0) rfl)) (BO rfl (AO (AM (i:=2) scFF.nd rfl (Or.inl rfl)) (AO (AM (i:=4) scFF.nd rfl (Or.inl rfl)) A2)))
   (AF (Au (PW.pt (FP (AX CZ (AU Bx (pv 1) (BM hu (BD (pv 0) rfl) (pv 2) (fun _ _=>rfl))) AJ (Ak _)) (Ds (AX CZ (AU Bx (pv 1) (BM hu (BD (pv 0) rfl) (pv 4) (fun _ _=>rfl))) AJ (Ak _)))))
    (AF (AV (A4 (AA AY (AA (pv 2) (AA (pv 4) AC)))))) Ab)))
  (AF (AV Ga))),?_⟩
 have ar:as.length=ns.length:=by have:=has.length; unfold prV at this; rw [AI] at this; exact this
 have af:cs.length=bs.length:=by have:=ax.length; unfold prV at this; rw [AI] at this; exact this
 have g:∀ x ∈ AL due,JL H d (.str x) (some (.int ((look due x:Nat):Int))):=fun x hx=>.inl ⟨kM due,Sum.inr x,.inr ⟨ob,hd⟩,rfl,(Eg nd hx).symm⟩;refine ⟨_,rfl,p,RC,dx,_,_,rfl,hp,RT.cl,RT.nN,R.on,ln,rfl,⟨_,SqL.of hln⟩,BC (K:=K) (a:=ln) (xs:=as.map V.ref) (fun i σ H2=>(∃ v2 v3:Option V,σ=[some (.ref p),some (.int (n:Int)),v2,v3,none])/\H2=H/\(ns.take i).find? (DQ due n)=none) ⟨⟨none,none,rfl⟩,rfl,rfl⟩ (fun i σ H2 _ ⟨_,e,_⟩=>e ▸ SqL.of hln) ?_ ?_⟩
 ·rintro i v σ H2 hi ⟨⟨v2,v3,rfl⟩,rfl,hf⟩;obtain ⟨b,pr,rfl,hpr,hb⟩:=FI has hi;obtain ⟨m1,m2,_⟩:=PN pr (mem_of_getElem? hpr);refine ⟨b,_,rfl,SqT.of hb,rfl,_,_,rfl,_,_,rfl,rfl,?_⟩;refine ⟨_,rfl,_,rfl,p,RC,dx,_,_,rfl,hp,RT.cl,RT.nM,R.om,_,rfl,d,_,rfl,g _ m1,_,_,rfl,rfl,rfl,_,rfl,?_⟩;rw [CW];have hnb:DQ due n pr=((!decide (n &&& look due pr.1=0)) && decide (n &&& look due pr.2=0)):=by unfold DQ; rw [HW,HW,Bool.not_not]
  by_cases h1:n &&& look due pr.1=0
  ·rw [decide_eq_true h1] at hnb ⊢;exact A1 (A1 ⟨⟨_,_,rfl⟩,rfl,Bo hf hpr hnb⟩)
  ·rw [decide_eq_false h1] at hnb ⊢;refine Bd ⟨_,rfl,_,rfl,p,RC,dx,_,_,rfl,hp,RT.cl,RT.nM,R.om,_,rfl,d,_,rfl,g _ m2,_,_,rfl,rfl,rfl,_,rfl,?_⟩;rw [CW];by_cases h2:n &&& look due pr.2=0
   ·rw [decide_eq_true h2] at hnb ⊢;refine Bd ⟨_,rfl,_,rfl,sl3,fun t ht=>?_⟩;refine q (.ref t) _ (AB (Same.refl _) ht) ?_;unfold A5;rw [GK hf hpr hnb];exact ⟨t,rfl,upd_same⟩
   ·rw [decide_eq_false h2] at hnb ⊢;exact A1 ⟨⟨_,_,rfl⟩,rfl,Bo hf hpr hnb⟩
 ·rintro σ H2 ⟨⟨v2,v3,rfl⟩,rfl,hf⟩;rw [AI,ar,take_length] at hf;refine ⟨_,rfl,p,RC,dx,_,_,rfl,hp,RT.cl,RT.nB,R.ob,lb,rfl,⟨_,SqL.of hlb⟩,BC (K:=K) (a:=lb) (xs:=cs.map V.ref) (fun i σ H3=>(∃ v2 v3 v4:Option V,σ=[some (.ref p),some (.int (n:Int)),v2,v3,v4])/\H3=H2/\(bs.take i).find? (Fo due n)=none) ⟨⟨_,_,_,rfl⟩,rfl,rfl⟩ (fun i σ H3 _ ⟨_,e,_⟩=>e ▸ SqL.of hlb) ?_ ?_⟩
  ·rintro i v σ H3 hi ⟨⟨v2,v3,v4,rfl⟩,rfl,hf2⟩;obtain ⟨b,pr,rfl,hpr,hb⟩:=FI ax hi;obtain ⟨m1,m2,_⟩:=PB pr (mem_of_getElem? hpr);refine ⟨b,_,rfl,SqT.of hb,rfl,_,_,rfl,_,_,rfl,rfl,?_⟩;refine ⟨_,rfl,_,rfl,p,RC,dx,_,_,rfl,hp,RT.cl,RT.nM,R.om,_,rfl,d,_,rfl,g _ m1,_,_,rfl,rfl,rfl,_,rfl,?_⟩;rw [CW];have hnb:Fo due n pr=((!decide (n &&& look due pr.1=0)) && !decide (n &&& look due pr.2=0)):=by unfold Fo; rw [HW,HW]
   by_cases h1:n &&& look due pr.1=0
   ·rw [decide_eq_true h1] at hnb ⊢;exact A1 (A1 ⟨⟨_,_,_,rfl⟩,rfl,Bo hf2 hpr hnb⟩)
   ·rw [decide_eq_false h1] at hnb ⊢;refine Bd ⟨_,rfl,_,rfl,p,RC,dx,_,_,rfl,hp,RT.cl,RT.nM,R.om,_,rfl,d,_,rfl,g _ m2,_,_,rfl,rfl,rfl,_,rfl,?_⟩;rw [CW];by_cases h2:n &&& look due pr.2=0
    ·rw [decide_eq_true h2] at hnb ⊢;exact A1 ⟨⟨_,_,_,rfl⟩,rfl,Bo hf2 hpr hnb⟩
    ·rw [decide_eq_false h2] at hnb ⊢;refine Bd ⟨_,rfl,_,rfl,sl3,fun t ht=>?_⟩;refine q (.ref t) _ (AB (Same.refl _) ht) ?_;unfold A5;rw [hf,GK hf2 hpr hnb];exact ⟨t,rfl,upd_same⟩
  ·rintro σ H3 ⟨⟨v2,v3,v4,rfl⟩,rfl,hf2⟩;rw [AI,af,take_length] at hf2;refine q .non _ (Same.refl _) ?_;unfold A5;rw [hf,hf2];rfl
end
def SameN (p:Addr) (H H':Hp):Prop:=∀ b o,H b=some o->b ≠ p->H' b=some o
theorem SameN.then {p:Addr} {H1 H2:Hp} (a:SameN p H H1) (s:Same H1 H2):SameN p H H2:=fun b o e h=>s _ _ (a b o e h)
theorem SameN.upd {p:Addr} {H1:Hp} {o:HO} (a:SameN p H H1):SameN p H (upd H1 p o):=fun b u e h=>by rw [AE h]; exact a b u e h
def D6 (p:Addr) (H:Hp):Prop:=∃ D dx fs,H p=some (.ins D dx fs)
theorem KindAt.sameN {p:Addr} {k:Addr} {r:Str} (s:SameN p H H') (hk:k ≠ p) (hp:D6 p H) (h:KindAt C H k due r):KindAt C H' k due r:=by
 obtain ⟨x,d1,o1,d2,o2,a,b,c⟩:=h.ex;obtain ⟨D,dx,fs,hp⟩:=hp;refine ⟨⟨x,d1,o1,d2,o2,s _ _ a hk,s _ _ b fun e=>?_,s _ _ c fun e=>?_⟩⟩
 ·subst e;rw [hp] at b;cases b
 ·subst e;rw [hp] at c;cases c
theorem PrsL.sameN {p l:Addr} {ps:List (Str × Str)} (s:SameN p H H') (hp:D6 p H) (h:PrsL H l ps):PrsL H' l ps:=by
 obtain ⟨as,h1,h2⟩:=h;obtain ⟨D,dx,fs,hp⟩:=hp;refine ⟨as,s _ _ h1 fun e=>?_,TupsAt.sameT (fun b xs e=>s _ _ e fun q=>?_) h2⟩
 ·subst e;rw [hp] at h1;cases h1
 ·subst q;rw [hp] at e;cases e
theorem PrsS.sameN {p l:Addr} {ps:List (Str × Str)} (s:SameN p H H') (hp:D6 p H) (h:PrsS K H l ps):PrsS K H' l ps:=by
 obtain ⟨as,h1,h2⟩:=h;obtain ⟨D,dx,fs,hp⟩:=hp;refine ⟨as,?_,TupsAt.sameT (fun b xs e=>s _ _ e fun q=>?_) h2⟩
 ·rcases h1 with h1 | (h1 | ⟨o,h1⟩) | h1
  ·exact .inl (s _ _ h1 fun e=>by subst e; rw [hp] at h1; cases h1)
  ·exact .inr (.inl (.inl (s _ _ h1 fun e=>by subst e; rw [hp] at h1; cases h1)))
  ·exact .inr (.inl (.inr ⟨o,s _ _ h1 fun e=>by subst e; rw [hp] at h1; cases h1⟩))
  ·exact .inr (.inr h1)
 ·subst q;rw [hp] at e;cases e
theorem SameN.l {p:Addr} (s:SameN p H H') (hp:D6 p H):SameL H H':=fun b o e ⟨xs,h⟩=>s b o e fun q=>by
 obtain ⟨D,dx,fs,hp⟩:=hp;subst q;rw [hp] at e;rcases h with h | h <;> (rw [h] at e; cases e)
section
variable {RC:Addr}
def NI (K:FG) (C RC:Addr):Sp:=fun vs H Q _=>∃ (p dx k l1 l2:Addr) (due:Aa) (r:Str) (ns bs:List (Str × Str)),vs=[.ref p,.ref k,.ref l1,.ref l2]/\H p=some (.ins RC dx [])/\KindAt C H k due r/\due.length <= 8/\(due.map (·.1)).Nodup/\PrsS K H l1 ns/\PrsS K H l2 bs/\Dy due ns/\Dy due bs /\
 ∀ H',SameN p H H'->RuAt RC H' p k due ns bs->(∀ ll,T5 RC H' p ll->H ll=none)->Q .non H'
noncomputable abbrev NRI:List Str:=["self", "kind", "needs", "bars", "unions"]
theorem scRI:AR NRI ["self", "kind", "needs", "bars"] (defScope Bn):=fsc
theorem QO (F:Fun K "__init__" "Rule.__init__" Bn f fd) (B:Bl mg) (hD:mg "dict" = none) (T:Lv K C) (RT:HX K RC) (GM:Mt P w K mg base C "marks" 2 ["self"] (FC C)) (GP:Fn P w K mg base "pairs_of" 3 ["things", "marks"] (GS K)) (GU:Fn P w K mg base "unions_of" 1 ["marks"] (QI K)) (GF:Mt P w K mg base RC "first_fault" 1 ["self", "number"] (Sz RC)) :
  Aj P w K mg base CX0 4 f fd ["self", "kind", "needs", "bars"] (NI K C RC):=by
 obtain ⟨fM,dM,GM,mM,bM⟩:=GM.ex;obtain ⟨fP,dP,GP,mP,kP,bP⟩:=GP.ex;obtain ⟨fU,dU,GU,mU,kU,bU⟩:=GU.ex;obtain ⟨fF,dF,GF,mF,bF⟩:=GF.ex;refine F.m scRI fun vs H Q E h=>?_;obtain ⟨p,dx,k,l1,l2,due,r,ns,bs,rfl,hp,KA,h8,nd,PL1,PL2,PN,PB,hG⟩:=h;refine ⟨rfl,fun ad A outer s hr=>?_⟩;have hr1:Room 1 _:=hr.mono (by decide);have hr2:Room 2 _:=hr.mono (by decide)
 refine ⟨_,AD (Bh (pv 0) (pv 1) rfl)
  (AD (Bh (pv 0) (BP (EK rfl) rfl hD Jm (AA (Ca (pv 1) T.cl mM GM hr2 bM .nil AZ) AC)) rfl)
  (Cd (AD (Bh (pv 0) (AQ GP hr rfl mP kP bP .nil AZ (AA (pv 2) (AA (BD (pv 0) rfl) AC))) rfl)
  (AD (Bh (pv 0) (AQ GP hr rfl mP kP bP .nil AZ (AA (pv 3) (AA (BD (pv 0) rfl) AC))) rfl)
  (AD (Ae (i:=4) scRI.nd rfl (Or.inl rfl) (AQ GU hr1 rfl mU kU bU .nil AZ (AA (BP (Gx rfl) rfl B.list CT (AA (Oy PySem.F.slot_dict_values PySem.F.type_dict_values IN (BD (pv 0) rfl)) AC)) AC)))
  (AF (Bh (pv 0) (As ["self"] [some 0] (by kernel_rfl) (by decide +kernel) (by kernel_rfl) rfl (Ac (pv 4)) (fun _ _ _ _ _ _=>Ba (D9 (Gb (En (pv 1) RT.cl mF GF hr1 bF .nil AZ (AA (pv 0) AC))))) (fun _ _ _ _ _ _=>pv 0)) rfl))))))),?_⟩
 have hkp:k ≠ p:=fun z=>by
  obtain ⟨x,d1,o1,d2,o2,a,_⟩:=KA.ex;subst z;rw [hp] at a;have q:=HK d1 d2 r;cases a
 have iP:D6 p H:=⟨_,_,_,hp⟩;refine ⟨_,rfl,_,rfl,p,RC,dx,_,rfl,hp,RT.cl,RT.nK,(by show 0 < 1000; decide),?_⟩;have s1:SameN p H (upd H p (.ins RC dx (Af "own_kind" (.ref k) []))):=SameN.upd (fun _ _ e _=>e);have aj:=upd_same (H:=H) (a:=p) (o:=.ins RC dx (Af "own_kind" (.ref k) []));generalize upd H p (.ins RC dx (Af "own_kind" (.ref k) []))=H1 at s1 aj ⊢;have KA1:=KA.sameN s1 hkp iP;obtain ⟨dk,e1,e2,hk1⟩:=KA1.ins;refine ⟨_,rfl,k,dk,_,rfl,hk1,(F8 _ _ _),k,due,r,rfl,KA1,by omega,fun la as1 H2 s2 hla hta=>?_⟩;rw [HV] at hta;obtain ⟨n1,q1⟩:=QG (K:=K) hta
 have z1:(Bf due).length <= 1000:=by
  have h3:(Bf due).length=(AG due).length:=AI _;have:=BG due;omega
 refine ⟨la,as1,Bf due,rfl,SqL.of hla,n1,z1,q1,fun d hd=>?_⟩;have ak:=s2 _ _ aj;have npd:p ≠ d:=AH ak hd;refine ⟨_,rfl,p,RC,dx,_,rfl,by rw [AE npd]; exact ak,RT.cl,RT.nM,(by show 1 < 1000; decide),?_⟩;refine ⟨d,kM due,by rw [AE (Ne.symm npd),upd_same]; rfl,fun ob=>?_⟩
 have s3:SameN p H (upd (upd (upd H2 d (HO.dK (BV [] (Bf due)))) p (HO.ins RC dx (Af "numbered_marks" (V.ref d) (Af "own_kind" (V.ref k) [])))) d (HO.frz ob (HO.dK (kM due)))):=fun b o e h=>by
  have e2:=s2 _ _ (s1 b o e h);rw [AE (AH e2 hd),AE h,AE (AH e2 hd)];exact e2
 have hp3:(upd (upd (upd H2 d (HO.dK (BV [] (Bf due)))) p (HO.ins RC dx (Af "numbered_marks" (V.ref d) (Af "own_kind" (V.ref k) [])))) d (HO.frz ob (HO.dK (kM due)))) p=some (.ins RC dx (rf2 k d)):=by rw [AE npd,upd_same]; rfl
 have hd3:(upd (upd (upd H2 d (HO.dK (BV [] (Bf due)))) p (HO.ins RC dx (Af "numbered_marks" (V.ref d) (Af "own_kind" (V.ref k) [])))) d (HO.frz ob (HO.dK (kM due)))) d=some (.frz ob (.dK (kM due))):=upd_same;generalize upd (upd (upd H2 d (HO.dK (BV [] (Bf due)))) p (HO.ins RC dx (Af "numbered_marks" (V.ref d) (Af "own_kind" (V.ref k) [])))) d (HO.frz ob (HO.dK (kM due)))=H3 at s3 hp3 hd3 ⊢;clear hla hta n1 q1 s2 ak hd hk1 KA1 aj s1
 have hIn:∀ ps:List (Str × Str),Dy due ps->∀ q ∈ ps,(A7 (kM due) (Sum.inr q.1:Key)).isSome=true/\(A7 (kM due) (Sum.inr q.2:Key)).isSome=true/\q.1 ≠ q.2:=fun ps hps q hq=>by
  obtain ⟨a1,a2,a3⟩:=hps.2 q hq;exact ⟨by rw [Eg nd a1]; rfl,by rw [Eg nd a2]; rfl,a3⟩
 refine ⟨_,rfl,_,rfl,p,RC,dx,_,_,rfl,hp3,RT.cl,RT.nM,NH k d,l1,d,kM due,ns,rfl,PL1.sameN s3 iP,.inr ⟨ob,hd3⟩,PN.1,hIn ns PN,fun ln H4 s4 hln0 hln=>?_⟩;have hp4:=s4 _ _ hp3;have nln:ln ≠ p:=Ne.symm (AH hp3 hln0);refine ⟨_,rfl,p,RC,dx,_,rfl,hp4,RT.cl,RT.nN,Nat.lt_of_le_of_lt (BA _ _ _) (by show 2 < 1000; decide),?_⟩;have iP4:D6 p H4:=⟨_,_,_,hp4⟩;have sN4:SameN p H4 (upd H4 p (HO.ins RC dx (Af "needs" (V.ref ln) (rf2 k d)))):=SameN.upd (fun _ _ e _=>e);have s5:SameN p H (upd H4 p (HO.ins RC dx (Af "needs" (V.ref ln) (rf2 k d)))):=SameN.upd (s3.then s4);have hp5:(upd H4 p (HO.ins RC dx (Af "needs" (V.ref ln) (rf2 k d)))) p=some (.ins RC dx (rf3 k d ln)):=upd_same;have hd5:(upd H4 p (HO.ins RC dx (Af "needs" (V.ref ln) (rf2 k d)))) d=some (.frz ob (.dK (kM due))):=by rw [AE (Ne.symm npd)]; exact s4 _ _ hd3
 have cv:=hln.sameN sN4 iP4;generalize upd H4 p (HO.ins RC dx (Af "needs" (V.ref ln) (rf2 k d)))=H5 at sN4 s5 hp5 hd5 cv ⊢;clear sN4 iP4 hln hp4 hd3 hp3 s4 s3;refine ⟨_,rfl,_,rfl,p,RC,dx,_,_,rfl,hp5,RT.cl,RT.nM,QM k d ln,l2,d,kM due,bs,rfl,PL2.sameN s5 iP,.inr ⟨ob,hd5⟩,PB.1,hIn bs PB,fun lb H6 s6 hlb0 hlb=>?_⟩;have hp6:=s6 _ _ hp5;refine ⟨_,rfl,p,RC,dx,_,rfl,hp6,RT.cl,RT.nB,Nat.lt_of_le_of_lt (Nat.le_trans (BA _ _ _) (Nat.succ_le_succ (BA _ _ _))) (by show 3 < 1000; decide),?_⟩;have iP6:D6 p H6:=⟨_,_,_,hp6⟩;have sN6:SameN p H6 (upd H6 p (HO.ins RC dx (Af "bars" (V.ref lb) (rf3 k d ln)))):=SameN.upd (fun _ _ e _=>e);have s7:SameN p H (upd H6 p (HO.ins RC dx (Af "bars" (V.ref lb) (rf3 k d ln)))):=SameN.upd (s5.then s6);have hp7:(upd H6 p (HO.ins RC dx (Af "bars" (V.ref lb) (rf3 k d ln)))) p=some (.ins RC dx (rf4 k d ln lb)):=upd_same;have hd7:(upd H6 p (HO.ins RC dx (Af "bars" (V.ref lb) (rf3 k d ln)))) d=some (.frz ob (.dK (kM due))):=by rw [AE (Ne.symm npd)]; exact s6 _ _ hd5
 have cw:=(cv.same s6).sameN sN6 iP6;have cy:=hlb.sameN sN6 iP6;generalize upd H6 p (HO.ins RC dx (Af "bars" (V.ref lb) (rf3 k d ln)))=H7 at sN6 s7 hp7 hd7 cw cy ⊢;clear sN6 iP6 cv hlb hp6 hd5 hp5 s6 s5;have R4:=QN k d ln lb;refine ⟨_,rfl,p,RC,dx,_,_,rfl,hp7,RT.cl,RT.nM,R4.om,d,rfl,.inl ⟨_,.inr ⟨ob,hd7⟩⟩,d,kM due,rfl,rfl,.inr ⟨ob,hd7⟩,fun vw hvw=>?_⟩;have sv:=AB (Same.refl _) hvw (o:=Mr d vw);refine ⟨vw,d,kM due,rfl,upd_same,.inr ⟨ob,sv _ _ hd7⟩,fun lv hlv=>?_⟩;have sl:=AB sv hlv (o:=HO.lst ((kM due).map (·.2)))
 have hkv:(kM due).map (·.2)=AW (AG due):=by
  rw [NE nd];unfold Bf AW;rw [map_map];rfl
 have hm8:(AG due).length <= 8:=Nat.le_trans (BG due) h8;refine ⟨lv,AG due,rfl,SqL.of (by rw [upd_same,hkv]),hm8,fun lu H8 s8 hlu=>?_⟩;have s78:=sl.trans s8;have hul:(uns (AG due)).length <= 256:=by rw [FH]; exact Rf hm8
 have B8:RuB RC H8 p k due ns bs:=RuB.same s78 ⟨dx,_,d,ln,lb,ob,hp7,R4,hd7,cw,cy⟩;refine ⟨_,rfl,lu,rfl,⟨_,SqL.of hlu⟩,Ag (K:=K) (a:=lu) (xs:=AW (uns (AG due))) (fun i ys H9=>ys=AW (((uns (AG due)).take i).filter fun n=>(A5 due ns bs n).isNone)/\Same H8 H9) ⟨rfl,Same.refl _⟩ (fun i ys H9 _ ⟨_,e⟩=>SqL.of (e _ _ hlu)) (fun i ys H9 ⟨e,_⟩=>?_) ?_ ?_⟩
 ·have:=length_filter_le (fun n=>(A5 due ns bs n).isNone) ((uns (AG due)).take i);rw [length_take] at this;rw [e,Am];omega
 ·rintro i v ys H9 hi ⟨rfl,s9⟩;unfold AW at hi;rw [getElem?_map] at hi;obtain ⟨u,hu,rfl⟩:=Option.map_eq_some_iff.mp hi;have hp9:=s9 _ _ (s78 _ _ hp7);have ht:((uns (AG due)).take (i + 1)).filter (fun n=>(A5 due ns bs n).isNone)=((uns (AG due)).take i).filter (fun n=>(A5 due ns bs n).isNone)++[u].filter (fun n=>(A5 due ns bs n).isNone):=by rw [take_add_one,hu,filter_append]; rfl
  refine ⟨_,rfl,p,dx,_,rfl,hp9,R4.no _ (by decide +kernel),_,rfl,p,k,due,ns,bs,u,rfl,B8.same s9,nd,PN,PB,fun v H10 s10 hv=>⟨_,rfl,?_⟩⟩;cases hf:A5 due ns bs u with
  | none =>
   rw [hf] at hv;have hv':v=.non:=hv;rw [decide_eq_true hv'];refine Bd ⟨_,rfl,?_,s9.trans s10⟩;rw [ht,List.filter_cons_of_pos (by rw [hf]; rfl),filter_nil];unfold AW;rw [map_append];rfl
  | some t =>
   rw [hf] at hv;obtain ⟨q',rfl,_⟩:=hv;rw [decide_eq_false (show ¬ V.ref q'=V.non from fun z=>nomatch z)];refine A1 ⟨?_,s9.trans s10⟩;rw [ht,List.filter_cons_of_neg (by rw [hf]; simp),filter_nil,append_nil]
 ·rintro ys H9 ⟨rfl,s9⟩ ll hll;rw [Am,take_length];have s79:=s78.trans s9;have hp9:=s79 _ _ hp7;have npl:ll ≠ p:=Ne.symm (AH hp9 hll);have sl9:=AB (Same.refl _) hll (o:=HO.lst (AW (An due ns bs)));refine ⟨_,rfl,p,RC,dx,_,rfl,by rw [AE (Ne.symm npl)]; exact hp9,RT.cl,RT.nL,Nat.lt_of_le_of_lt (Nat.le_trans (BA _ _ _) (Nat.succ_le_succ (Nat.le_trans (BA _ _ _) (Nat.succ_le_succ (BA _ _ _))))) (by show 4 < 1000; decide),?_⟩;have sE:=s79.trans sl9;have iPE:D6 p (upd H9 ll (HO.lst (AW (An due ns bs)))):=⟨_,_,_,sE _ _ hp7⟩;have sNE:SameN p (upd H9 ll (HO.lst (AW (An due ns bs)))) (upd (upd H9 ll (HO.lst (AW (An due ns bs)))) p (HO.ins RC dx (rf5 k d ln lb ll))):=SameN.upd (fun _ _ e _=>e);refine hG _ (SameN.upd (s7.then sE)) ⟨dx,_,d,ln,lb,ob,ll,upd_same,Sy k d ln lb ll,?_,(cw.same sE).sameN sNE iPE,(cy.same sE).sameN sNE iPE,R5 k d ln lb ll,?_⟩ fun l' ⟨dx',fs',e1,e2⟩=>?_
  ·rw [AE (Ne.symm npd)];exact sE _ _ hd7
  ·rw [AE npl,upd_same];rfl
  ·have e3:some (HO.ins RC dx (rf5 k d ln lb ll))=some (HO.ins RC dx' fs'):=upd_same.symm.trans e1;have e4:fs'=rf5 k d ln lb ll:=by cases e3; rfl
   rw [e4,R5] at e2;have e5:l'=ll:=by cases e2; rfl
   rw [e5];cases e6:H ll with
   | none=>rfl
   | some o =>
    have:=s79 _ _ (s7 ll o e6 npl);rw [hll] at this;cases this
end
section
variable {RC cP:Addr}
def DC (K:FG) (C RC cP:Addr):Sp:=fun vs H Q E=>∃ (p dx k:Addr) (v1 v2:V) (due:Aa) (r:Str),vs=[.ref p,.ref k,v1,v2]/\H p=some (.ins RC dx [])/\KindAt C H k due r/\due.length <= 8/\(due.map (·.1)).Nodup /\
 (BadThing K (kM due) H v1\/∃ l1 ns,v1=.ref l1/\PrsS K H l1 ns/\Dy due ns/\BadThing K (kM due) H v2)/\∀ e H',SameN p H H'->H' e=some (FY e cP none)->E (.ref cP) none H'
theorem OO {fP:Addr} {dP:FuncData} (F:Fun K "__init__" "Rule.__init__" Bn f fd) (hD:mg "dict" = none) (T:Lv K C) (RT:HX K RC) (GM:Mt P w K mg base C "marks" 2 ["self"] (FC C)) (GP:Aj P w K mg base CX0 3 fP dP ["things", "marks"] (GS K)) (GB:Aj P w K mg base (CXr P w) 3 fP dP ["things", "marks"] (K4 K cP)) (mP:mg "pairs_of" = some (.ref fP)) (kP:W.keepIn K (.ref fP)=true) (bP:Binds K dP ["things", "marks"] []) :
  Aj P w K mg base (CXr P w) 4 f fd ["self", "kind", "needs", "bars"] (DC K C RC cP):=by
 obtain ⟨fM,dM,GM,mM,bM⟩:=GM.ex;refine F.n scRI fun vs H Q E h=>?_;obtain ⟨p,dx,k,v1,v2,due,r,rfl,hp,KA,h8,nd,h,hU⟩:=h;refine ⟨rfl,fun ad A outer s hr=>?_⟩;have hr2:Room 2 _:=hr.mono (by decide);have ps:=Tw (P:=P) (w:=w) (K:=K) (mg:=mg) (base:=base) (N:=NRI) (qual := "Rule.__init__") (scope:=defScope Bn) (f:=f) (cd:=ad) (A:=A) (outer:=outer) (s:=s) (H:=H) (E:=E);rcases h with h | ⟨l1,ns,rfl,PL1,PN,h⟩
 ·refine ⟨_,AD (Bh (pv 0) (pv 1) rfl)
   (AD (Bh (pv 0) (BP (EK rfl) rfl hD Jm (AA (Ca (pv 1) T.cl mM GM hr2 bM .nil AZ) AC)) rfl)
   (Cd (AD (Bh (pv 0) (AQ GB hr rfl mP kP bP .nil ps (AA (pv 2) (AA (BD (pv 0) rfl) AC))) rfl) (AD Ad (AD Ad (AF Ad)))))),?_⟩
  have hkp:k ≠ p:=fun z=>by
   obtain ⟨x,d1,o1,d2,o2,a,_⟩:=KA.ex;subst z;rw [hp] at a;have q:=HK d1 d2 r;cases a
  have iP:D6 p H:=⟨_,_,_,hp⟩;refine ⟨_,rfl,_,rfl,p,RC,dx,_,rfl,hp,RT.cl,RT.nK,(by show 0 < 1000; decide),?_⟩;have s1:SameN p H (upd H p (.ins RC dx (Af "own_kind" (.ref k) []))):=SameN.upd (fun _ _ e _=>e);have aj:=upd_same (H:=H) (a:=p) (o:=.ins RC dx (Af "own_kind" (.ref k) []));generalize upd H p (.ins RC dx (Af "own_kind" (.ref k) []))=H1 at s1 aj ⊢;have KA1:=KA.sameN s1 hkp iP;obtain ⟨dk,e1,e2,hk1⟩:=KA1.ins;refine ⟨_,rfl,k,dk,_,rfl,hk1,(F8 _ _ _),k,due,r,rfl,KA1,by omega,fun la as1 H2 s2 hla hta=>?_⟩;rw [HV] at hta;obtain ⟨n1,q1⟩:=QG (K:=K) hta
  have z1:(Bf due).length <= 1000:=by
   have h3:(Bf due).length=(AG due).length:=AI _;have:=BG due;omega
  refine ⟨la,as1,Bf due,rfl,SqL.of hla,n1,z1,q1,fun d hd=>?_⟩;have ak:=s2 _ _ aj;have npd:p ≠ d:=AH ak hd;refine ⟨_,rfl,p,RC,dx,_,rfl,by rw [AE npd]; exact ak,RT.cl,RT.nM,(by show 1 < 1000; decide),?_⟩;refine ⟨d,kM due,by rw [AE (Ne.symm npd),upd_same]; rfl,fun ob=>?_⟩
  have s3:SameN p H (upd (upd (upd H2 d (HO.dK (BV [] (Bf due)))) p (HO.ins RC dx (Af "numbered_marks" (V.ref d) (Af "own_kind" (V.ref k) [])))) d (HO.frz ob (HO.dK (kM due)))):=fun b o e h=>by
   have e2:=s2 _ _ (s1 b o e h);rw [AE (AH e2 hd),AE h,AE (AH e2 hd)];exact e2
  have hp3:(upd (upd (upd H2 d (HO.dK (BV [] (Bf due)))) p (HO.ins RC dx (Af "numbered_marks" (V.ref d) (Af "own_kind" (V.ref k) [])))) d (HO.frz ob (HO.dK (kM due)))) p=some (.ins RC dx (rf2 k d)):=by rw [AE npd,upd_same]; rfl
  have hd3:(upd (upd (upd H2 d (HO.dK (BV [] (Bf due)))) p (HO.ins RC dx (Af "numbered_marks" (V.ref d) (Af "own_kind" (V.ref k) [])))) d (HO.frz ob (HO.dK (kM due)))) d=some (.frz ob (.dK (kM due))):=upd_same;generalize upd (upd (upd H2 d (HO.dK (BV [] (Bf due)))) p (HO.ins RC dx (Af "numbered_marks" (V.ref d) (Af "own_kind" (V.ref k) [])))) d (HO.frz ob (HO.dK (kM due)))=H3 at s3 hp3 hd3 ⊢;clear hla hta n1 q1 s2 ak hd hk1 KA1 aj s1;exact ⟨_,rfl,_,rfl,p,RC,dx,_,_,rfl,hp3,RT.cl,RT.nM,NH k d,v1,d,kM due,rfl,.inr ⟨ob,hd3⟩,h.same (s3.l iP),fun e H4 s4 _ he=>hU e H4 (s3.then s4) he⟩
 ·refine ⟨_,AD (Bh (pv 0) (pv 1) rfl)
   (AD (Bh (pv 0) (BP (EK rfl) rfl hD Jm (AA (Ca (pv 1) T.cl mM GM hr2 bM .nil AZ) AC)) rfl)
   (Cd (AD (Bh (pv 0) (AQ GP hr rfl mP kP bP .nil AZ (AA (pv 2) (AA (BD (pv 0) rfl) AC))) rfl)
   (AD (Bh (pv 0) (AQ GB hr rfl mP kP bP .nil ps (AA (pv 3) (AA (BD (pv 0) rfl) AC))) rfl) (AD Ad (AF Ad)))))),?_⟩
  have hkp:k ≠ p:=fun z=>by
   obtain ⟨x,d1,o1,d2,o2,a,_⟩:=KA.ex;subst z;rw [hp] at a;have q:=HK d1 d2 r;cases a
  have iP:D6 p H:=⟨_,_,_,hp⟩;refine ⟨_,rfl,_,rfl,p,RC,dx,_,rfl,hp,RT.cl,RT.nK,(by show 0 < 1000; decide),?_⟩;have s1:SameN p H (upd H p (.ins RC dx (Af "own_kind" (.ref k) []))):=SameN.upd (fun _ _ e _=>e);have aj:=upd_same (H:=H) (a:=p) (o:=.ins RC dx (Af "own_kind" (.ref k) []));generalize upd H p (.ins RC dx (Af "own_kind" (.ref k) []))=H1 at s1 aj ⊢;have KA1:=KA.sameN s1 hkp iP;obtain ⟨dk,e1,e2,hk1⟩:=KA1.ins;refine ⟨_,rfl,k,dk,_,rfl,hk1,(F8 _ _ _),k,due,r,rfl,KA1,by omega,fun la as1 H2 s2 hla hta=>?_⟩;rw [HV] at hta;obtain ⟨n1,q1⟩:=QG (K:=K) hta
  have z1:(Bf due).length <= 1000:=by
   have h3:(Bf due).length=(AG due).length:=AI _;have:=BG due;omega
  refine ⟨la,as1,Bf due,rfl,SqL.of hla,n1,z1,q1,fun d hd=>?_⟩;have ak:=s2 _ _ aj;have npd:p ≠ d:=AH ak hd;refine ⟨_,rfl,p,RC,dx,_,rfl,by rw [AE npd]; exact ak,RT.cl,RT.nM,(by show 1 < 1000; decide),?_⟩;refine ⟨d,kM due,by rw [AE (Ne.symm npd),upd_same]; rfl,fun ob=>?_⟩
  have s3:SameN p H (upd (upd (upd H2 d (HO.dK (BV [] (Bf due)))) p (HO.ins RC dx (Af "numbered_marks" (V.ref d) (Af "own_kind" (V.ref k) [])))) d (HO.frz ob (HO.dK (kM due)))):=fun b o e h=>by
   have e2:=s2 _ _ (s1 b o e h);rw [AE (AH e2 hd),AE h,AE (AH e2 hd)];exact e2
  have hp3:(upd (upd (upd H2 d (HO.dK (BV [] (Bf due)))) p (HO.ins RC dx (Af "numbered_marks" (V.ref d) (Af "own_kind" (V.ref k) [])))) d (HO.frz ob (HO.dK (kM due)))) p=some (.ins RC dx (rf2 k d)):=by rw [AE npd,upd_same]; rfl
  have hd3:(upd (upd (upd H2 d (HO.dK (BV [] (Bf due)))) p (HO.ins RC dx (Af "numbered_marks" (V.ref d) (Af "own_kind" (V.ref k) [])))) d (HO.frz ob (HO.dK (kM due)))) d=some (.frz ob (.dK (kM due))):=upd_same;generalize upd (upd (upd H2 d (HO.dK (BV [] (Bf due)))) p (HO.ins RC dx (Af "numbered_marks" (V.ref d) (Af "own_kind" (V.ref k) [])))) d (HO.frz ob (HO.dK (kM due)))=H3 at s3 hp3 hd3 ⊢;clear hla hta n1 q1 s2 ak hd hk1 KA1 aj s1
  have hIn:∀ q ∈ ns,(A7 (kM due) (Sum.inr q.1:Key)).isSome=true/\(A7 (kM due) (Sum.inr q.2:Key)).isSome=true/\q.1 ≠ q.2:=fun q hq=>by
   obtain ⟨a1,a2,a3⟩:=PN.2 q hq;exact ⟨by rw [Eg nd a1]; rfl,by rw [Eg nd a2]; rfl,a3⟩
  refine ⟨_,rfl,_,rfl,p,RC,dx,_,_,rfl,hp3,RT.cl,RT.nM,NH k d,l1,d,kM due,ns,rfl,PL1.sameN s3 iP,.inr ⟨ob,hd3⟩,PN.1,hIn,fun ln H4 s4 hln0 hln=>?_⟩;have hp4:=s4 _ _ hp3;refine ⟨_,rfl,p,RC,dx,_,rfl,hp4,RT.cl,RT.nN,Nat.lt_of_le_of_lt (BA _ _ _) (by show 2 < 1000; decide),?_⟩;have s5:SameN p H (upd H4 p (HO.ins RC dx (Af "needs" (V.ref ln) (rf2 k d)))):=SameN.upd (s3.then s4);have hp5:(upd H4 p (HO.ins RC dx (Af "needs" (V.ref ln) (rf2 k d)))) p=some (.ins RC dx (rf3 k d ln)):=upd_same;have hd5:(upd H4 p (HO.ins RC dx (Af "needs" (V.ref ln) (rf2 k d)))) d=some (.frz ob (.dK (kM due))):=by rw [AE (Ne.symm npd)]; exact s4 _ _ hd3
  generalize upd H4 p (HO.ins RC dx (Af "needs" (V.ref ln) (rf2 k d)))=H5 at s5 hp5 hd5 ⊢;exact ⟨_,rfl,_,rfl,p,RC,dx,_,_,rfl,hp5,RT.cl,RT.nM,QM k d ln,v2,d,kM due,rfl,.inr ⟨ob,hd5⟩,h.same (s5.l iP),fun e H6 s6 _ he=>hU e H6 (s5.then s6) he⟩
end
noncomputable def DR (due:Aa) (b:Int):List Str:=((AG due).filter fun (m:Nat)=>decide (Builtin.bitAnd (m:Int) b ≠ 0)).map (Az (AN due))
noncomputable def Fp (due:Aa) (x:Str) (ls:List Nat):Nat:=ls.foldl (fun c n=>if CV due n x then c &&& n else c) (Av (AG due))
theorem OP (due:Aa) (x:Str) (ls:List Nat) (n:Nat):Fp due x (ls++[n])=if CV due n x then Fp due x ls &&& n else Fp due x ls:=by
 unfold Fp;rw [foldl_append];rfl
section
variable {RC cN:Addr}
def Jo (RC:Addr):Sp:=fun vs H Q _=>∃ (p k:Addr) (due:Aa) (ns bs:List (Str × Str)),vs=[.ref p]/\RuAt RC H p k due ns bs/\Q (.int ((An due ns bs).length:Nat)) H
theorem Rg:AR ["self"] ["self"] (defScope ES):=fsc
theorem QP (F:Fun K "count" "Rule.count" ES f fd) (B:Bl mg) (RT:HX K RC):Aj P w K mg base CX0 1 f fd ["self"] (Jo RC):=by
 refine F.m Rg fun vs H Q E h=>?_;obtain ⟨p,k,due,ns,bs,rfl,⟨dx,fs,d,ln,lb,ob,ll,hp,R,hd,hln,hlb,hll,hl⟩,q⟩:=h;refine ⟨rfl,fun ad A outer s hr=>?_⟩;refine ⟨_,AF (AV (AS (Ax K rfl) rfl B.len PySem.boot_len (AA (BD (pv 0) rfl) AC))),?_⟩;refine ⟨_,rfl,p,RC,dx,_,_,rfl,hp,RT.cl,RT.nL,hll,ll,_,rfl,.inl (SqL.of hl),?_⟩;rw [Am];exact q
def Ri (RC:Addr):Sp:=fun vs H Q _=>∃ (p k:Addr) (due:Aa) (ns bs:List (Str × Str)) (b:Int),vs=[.ref p,.int b]/\RuAt RC H p k due ns bs/\(due.map (·.1)).Nodup/\due.length <= 8/\∀ l H',Same H H'->H' l=some (.lst ((DR due b).map V.str))->Q (.ref l) H'
theorem Uh:AR ["self", "bits"] ["self", "bits"] (defScope DI):=fsc
theorem UA (F:Fun K "names_in" "Rule.names_in" DI f fd) (RT:HX K RC):Aj P w K mg base CX0 1 f fd ["self", "bits"] (Ri RC):=by
 refine F.m Uh fun vs H Q E h=>?_;obtain ⟨p,k,due,ns,bs,b,rfl,⟨dx,fs,d,ln,lb,ob,ll,hp,R,hd,hln,hlb,hll,hl⟩,nd,h8,q⟩:=h;refine ⟨rfl,fun ad A outer s hr=>?_⟩;refine ⟨_,AF (AV (Cc ["bits"] [some 1] (by kernel_rfl) (by decide +kernel) (by kernel_rfl) (by kernel_rfl) rfl (J7 (BD (pv 0) rfl)) (fun _ _ _ _ _ _=>Ba (AX CZ (AU Bx (pv 1) (pv 2)) AJ (Ak _))) (fun _ _ _ _ _ _=>pv 0))),?_⟩;have hmd:=BG due;rw [NE nd] at hd
 refine ⟨_,rfl,p,RC,dx,_,_,rfl,hp,RT.cl,RT.nM,R.om,d,ob,_,rfl,hd,Lu (a:=d) (o:=ob) (kvs:=Bf due) (fun i ys H2=>ys=((((AG due).take i).filter fun (m:Nat)=>decide (Builtin.bitAnd (m:Int) b ≠ 0)).map (Az (AN due))).map V.str/\Same H H2) ⟨rfl,Same.refl _⟩
  (fun i ys H2 ⟨_,s2⟩=>s2 _ _ hd) (fun i ys H2 ⟨e,_⟩=>?_) ?_ ?_⟩
 ·have:=length_filter_le (fun (m:Nat)=>decide (Builtin.bitAnd (m:Int) b ≠ 0)) ((AG due).take i);rw [length_take] at this;rw [e,AI,AI];omega
 ·rintro i kv ys H2 t hkv ⟨rfl,s2⟩ ht;unfold Bf at hkv;rw [getElem?_map] at hkv;obtain ⟨m,hm,rfl⟩:=Option.map_eq_some_iff.mp hkv;have s3:Same H2 (upd H2 t (.tup [kV (Sum.inr (Az (AN due) m)),V.int (m:Int)])):=AB (Same.refl _) ht;have et:=PySem.take_succ_filter (fun (m:Nat)=>decide (Builtin.bitAnd (m:Int) b ≠ 0)) _ i m hm;refine ⟨t,_,rfl,SqT.of upd_same,rfl,_,_,rfl,_,_,rfl,rfl,?_⟩;refine ⟨_,rfl,_,rfl,_,_,rfl,rfl,rfl,_,rfl,?_⟩;by_cases hb:Builtin.bitAnd (m:Int) b=0
  ·rw [decide_eq_true (show V.int (Builtin.bitAnd (m:Int) b)=V.int 0 by rw [hb])];rw [decide_eq_false (fun z=>z hb)] at et;exact A1 ⟨by rw [et,if_neg Bool.false_ne_true,append_nil],s2.trans s3⟩
  ·rw [decide_eq_false (show ¬ V.int (Builtin.bitAnd (m:Int) b)=V.int 0 from fun z=>hb (V.int.inj z))];rw [decide_eq_true hb] at et;refine Bd ⟨_,rfl,?_,s2.trans s3⟩;rw [et,if_pos rfl,map_append,map_append];rfl
 ·rintro ys H2 ⟨rfl,s2⟩ l hl';have ay:(Bf due).length=(AG due).length:=AI _;refine q l _ (AB s2 hl') ?_;rw [upd_same,ay,take_length];rfl
def Jp (RC:Addr):Sp:=fun vs H Q _=>∃ (p k:Addr) (due:Aa) (ns bs:List (Str × Str)),vs=[.ref p]/\RuAt RC H p k due ns bs/\(due.map (·.1)).Nodup/\due.length <= 8/\∀ l H',Same H H'->H' l=some (.lst ((DR due (Builtin.bitNot (Av (An due ns bs):Nat))).map V.str))->Q (.ref l) H'
theorem Rj:AR ["self"] ["self"] (defScope ET):=fsc
theorem QQ (F:Fun K "never" "Rule.never" ET f fd) (RT:HX K RC) (GN:Mt P w K mg base RC "names_in" 1 ["self", "bits"] (Ri RC)) (GU:Fn P w K mg base "union_of" 1 ["numbers"] (C6 K)):Aj P w K mg base CX0 2 f fd ["self"] (Jp RC):=by
 obtain ⟨fN,dN,GN,mN,bN⟩:=GN.ex;obtain ⟨fU,dU,GU,mU,kU,bU⟩:=GU.ex;refine F.m Rj fun vs H Q E h=>?_;obtain ⟨p,k,due,ns,bs,rfl,RA,nd,h8,q⟩:=h;refine ⟨rfl,fun ad A outer s hr=>?_⟩;obtain ⟨dx,fs,d,ln,lb,ob,ll,hp,R,hd,hln,hlb,hll,hl⟩:=id RA;refine ⟨_,AF (AV (En (pv 0) RT.cl mN GN hr bN .nil AZ (AA (Tc SN (AQ GU hr rfl mU kU bU .nil AZ (AA (BD (pv 0) rfl) AC))) AC))),?_⟩;exact ⟨_,rfl,p,dx,_,rfl,hp,R.no _ (by decide +kernel),_,rfl,p,RC,dx,_,_,rfl,hp,RT.cl,RT.nL,hll,ll,_,rfl,SqL.of hl,_,rfl,p,k,due,ns,bs,_,rfl,RA,nd,h8,q⟩
def R8 (C RC:Addr):Sp:=fun vs H Q _=>∃ (p k:Addr) (due:Aa) (r:Str) (ns bs:List (Str × Str)) (x:Str),vs=[.ref p,.str x]/\RuAt RC H p k due ns bs/\KindAt C H k due r/\(due.map (·.1)).Nodup/\due.length <= 8/\x ∈ AL due/\∀ l H',Same H H'->H' l=some (.lst ((DR due (Fp due x (An due ns bs):Nat)).map V.str))->Q (.ref l) H'
noncomputable abbrev NAl:List Str:=["self", "name", "common", "let_number"]
theorem scAl:AR NAl ["self", "name"] (defScope CI):=fsc
theorem S0 (F:Fun K "always" "Rule.always" CI f fd) (RT:HX K RC) (GN:Mt P w K mg base RC "names_in" 1 ["self", "bits"] (Ri RC)) (GB:Fn P w K mg base "mark_bits" 3 ["kind"] (Ef C)) (GO:Fn P w K mg base "is_one_of" 1 ["thing", "names"] (Kz K)):Aj P w K mg base CX0 4 f fd ["self", "name"] (R8 C RC):=by
 obtain ⟨fN,dN,GN,mN,bN⟩:=GN.ex;obtain ⟨fB,dB,GB,mB,kB,bB⟩:=GB.ex;obtain ⟨fO,dO,GO,mO,kO,bO⟩:=GO.ex;refine F.m scAl fun vs H Q E h=>?_;obtain ⟨p,k,due,r,ns,bs,x,rfl,RA,KA,nd,h8,hx,q⟩:=h;refine ⟨rfl,fun ad A outer s hr=>?_⟩;obtain ⟨dx,fs,d,ln,lb,ob,ll,hp,R,hd,hln,hlb,hll,hl⟩:=id RA;have hu:=Cj hr;have hr1:Room 1 _:=hr.mono (by decide)
 refine ⟨_,AD (Au (BN (BK (AQ GO hr1 rfl mO kO bO .nil AZ (AA (pv 1) (AA (BD (pv 0) rfl) AC))))) (AF Ad) Ab)
  (AD (Ae (i:=2) scAl.nd rfl (Or.inl rfl) (AQ GB hr rfl mB kB bB .nil AZ (AA (BD (pv 0) rfl) AC)))
  (AD (Bg PassesOwn.never rfl (Ac (BD (pv 0) rfl)) (AM (i:=3) scAl.nd rfl (Or.inl rfl))
   (AF (Au (AX CZ (AU Bx (pv 3) (BM hu (BD (pv 0) rfl) (pv 1) (fun _ _=>rfl))) AJ (Ak _)) (AF (OY (i:=2) scAl.nd rfl (Or.inl rfl) (pv 3) (Qi:OpR _ _ _))) Ab)))
  (AF (AV (En (pv 0) RT.cl mN GN hr1 bN .nil AZ (AA (pv 2) AC)))))),?_⟩
 have hv:=Eg nd hx;have g:∀ {H2:Hp},Same H H2->JL H2 d (.str x) (some (.int ((look due x:Nat):Int))):=fun {H2} s2=>.inl ⟨kM due,Sum.inr x,.inr ⟨ob,s2 _ _ hd⟩,rfl,hv.symm⟩;refine ⟨_,rfl,_,rfl,p,RC,dx,_,_,rfl,hp,RT.cl,RT.nM,R.om,.str x,d,kM due,true,rfl,.inr ⟨ob,hd⟩,.inl ⟨x,rfl,by rw [hv]; rfl⟩,_,rfl,A1 ?_⟩;refine ⟨_,rfl,p,RC,dx,_,_,rfl,hp,RT.cl,RT.nK,R.ok,k,due,r,rfl,KA,by omega,fun H1 s1=>?_⟩;refine ⟨_,rfl,p,RC,dx,_,_,rfl,s1 _ _ hp,RT.cl,RT.nL,hll,ll,rfl,⟨_,SqL.of (s1 _ _ hl)⟩,BC (K:=K) (a:=ll) (xs:=AW (An due ns bs)) (fun i σ H2=>(∃ v:Option V,σ=[some (.ref p),some (.str x),some (.int (Fp due x ((An due ns bs).take i):Nat)),v])/\H2=H1) ⟨⟨none,rfl⟩,rfl⟩ (fun i σ H2 _ ⟨_,e⟩=>e ▸ SqL.of (s1 _ _ hl)) ?_ ?_⟩
 ·rintro i v σ H2 hi ⟨⟨v3,rfl⟩,rfl⟩;obtain ⟨n,hn,rfl⟩:=DK hi
  have et:Fp due x ((An due ns bs).take (i + 1))=if CV due n x then Fp due x ((An due ns bs).take i) &&& n else Fp due x ((An due ns bs).take i):=by
   rw [take_add_one,hn];exact OP _ _ _ _
  refine ⟨_,rfl,_,rfl,p,RC,dx,_,_,rfl,s1 _ _ hp,RT.cl,RT.nM,R.om,_,rfl,d,_,rfl,g s1,_,_,rfl,rfl,rfl,_,rfl,?_⟩;rw [CW];rw [HW] at et;by_cases h1:n &&& look due x=0
  ·rw [decide_eq_true h1] at et ⊢;exact A1 ⟨⟨_,by rw [et]; rfl⟩,rfl⟩
  ·rw [decide_eq_false h1] at et ⊢;refine Bd ⟨_,rfl,_,rfl,_,_,rfl,rfl,?_⟩;refine ⟨⟨some (V.int (n:Int)),?_⟩,rfl⟩;rw [et,if_pos (show (!false)=true from rfl)];show [some (V.ref p),some (V.str x),some (V.int (Builtin.bitAnd (Fp due x ((An due ns bs).take i):Nat) (n:Nat))),some (V.int (n:Int))]=_;rw [Cl]
 ·rintro σ H2 ⟨⟨v3,rfl⟩,rfl⟩;rw [Am,take_length];exact ⟨_,rfl,p,dx,_,rfl,s1 _ _ hp,R.no _ (by decide +kernel),_,rfl,p,k,due,ns,bs,_,rfl,RA.same s1,nd,h8,fun l H3 s3 h3=>q l H3 (s1.trans s3) h3⟩
def Jq (K:FG) (RC cN:Addr):Sp:=fun vs H Q E=>∃ (p k:Addr) (due:Aa) (ns bs:List (Str × Str)) (v:V),vs=[.ref p,v]/\RuAt RC H p k due ns bs/\OneAt K (kM due) H v false/\Uq H E cN
theorem Rm (F:Fun K "always" "Rule.always" CI f fd) (RT:HX K RC) (EN:NA P w K mg base "BadName" cN) (GO:Fn P w K mg base "is_one_of" 1 ["thing", "names"] (Kz K)):Aj P w K mg base (CXr P w) 3 f fd ["self", "name"] (Jq K RC cN):=by
 obtain ⟨fO,dO,GO,mO,kO,bO⟩:=GO.ex;obtain ⟨fX,dX,MX,GX,bX⟩:=EN.make;have mX:=EN.cls;refine F.n scAl fun vs H Q E h=>?_;obtain ⟨p,k,due,ns,bs,v,rfl,⟨dx,fs,d,ln,lb,ob,ll,hp,R,hd,hln,hlb,hll,hl⟩,hv,hU⟩:=h;refine ⟨rfl,fun ad A outer s hr=>?_⟩;have hr1:Room 1 _:=hr.mono (by decide);have rz:=Mw (P:=P) (w:=w) (K:=K) (mg:=mg) (base:=base) (N:=NAl) (qual := "Rule.always") (scope:=defScope CI) (f:=f) (cd:=ad) (A:=A) (outer:=outer) (s:=s) (H:=H) (E:=E)
 refine ⟨_,AD (Au (BN (BK (AQ GO hr1 rfl mO kO bO .nil AZ (AA (pv 1) (AA (BD (pv 0) rfl) AC))))) (AF (G3 rz rfl MX.cls (G2 MX GX hr rfl mX bX .nil AZ (AA AY AC)))) Ab)
  (AD Ad (AD Ad (AF Ad))),?_⟩
 exact ⟨_,rfl,_,rfl,p,RC,dx,_,_,rfl,hp,RT.cl,RT.nM,R.om,v,d,kM due,false,rfl,.inr ⟨ob,hd⟩,hv,_,rfl,Bd (Ee (te:=fun _=>tC (.str "")) MX.cls (Same.refl _) hU)⟩
end
noncomputable def NJ (due:Aa) (ns bs:List (Str × Str)) (n:Nat):Option (List Str):=if n &&& Av (AG due)=n then (A5 due ns bs n).map (fun t=>[t.1,t.2.1,t.2.2]) else some ["rest"]
def QR (H:Hp) (v:V):Option (List Str)->Prop
 | none=>v=.non
 | some ts=>∃ q,v=.ref q/\H q=some (.tup (ts.map V.str))
theorem Rn {x:V} {o:Option (List Str)} (h:QR H x o):decide (x=.non)=o.isNone:=by
 cases o with
 | none=>exact decide_eq_true h
 | some t =>
  obtain ⟨q,rfl,_⟩:=h;exact decide_eq_false fun z=>nomatch z
theorem MC {u:Nat} (h:u ∈ uns (AG due)):u &&& Av (AG due)=u:=OK fun k hk=>by
 obtain ⟨m,hm,hb⟩:=Rc h hk;rw [CY];exact any_eq_true.mpr ⟨m,hm,hb⟩
theorem Bk {ms:List Addr} {i:Nat} {v:V} (h:TupsAt H ms (C7 due)) (e:(ms.map V.ref)[i]?=some v):∃ b n,v=.ref b/\(AG due)[i]?=some n/\H b=some (.tup [.str (Az (AN due) n),.int (n:Int)]):=by
 rw [getElem?_map] at e;obtain ⟨b,hb,rfl⟩:=Option.map_eq_some_iff.mp e;obtain ⟨p,hp,ht⟩:=B2 h hb;unfold C7 at hp;rw [getElem?_map] at hp;obtain ⟨n,hn,rfl⟩:=Option.map_eq_some_iff.mp hp;exact ⟨b,n,rfl,hn,ht⟩
structure LTab (H:Hp) (t e m:Addr) (ms:List Addr) (due:Aa):Prop where
 ht:H t=some (.dK (QA due e m))
 hm:H m=some (.lst (ms.map V.ref))
 hms:TupsAt H ms (C7 due)
theorem LTab.same {t e m:Addr} {ms:List Addr} (s:Same H H') (h:LTab H t e m ms due):LTab H' t e m ms due:=⟨s _ _ h.ht,s _ _ h.hm,TupsAt.sameT (fun b xs e=>s _ _ e) h.hms⟩
theorem LTab.len {t e m:Addr} {ms:List Addr} (h:LTab H t e m ms due):(ms.map V.ref).length=(AG due).length:=by
 have h1:=h.hms.length;rw [Im] at h1;rw [AI,h1]
noncomputable def Bu (due:Aa) (n:Nat) (l:List Nat):List Str:=(l.filter fun m=>decide (n &&& m ≠ 0)).map (Az (AN due))
theorem FL (nd:(due.map (·.1)).Nodup) {n:Nat} {x:Str} (h:x ∈ AL due):inV (.str x) ((Bu due n (AG due)).map V.str)=CV due n x:=by
 rw [GE];obtain ⟨m,hm,rfl⟩:=mem_map.mp h;unfold CV;rw [C8 nd (BU hm)];refine Bool.eq_iff_iff.mpr ?_;rw [any_eq_true,decide_eq_true_eq];unfold Bu;constructor
 ·rintro ⟨y,hy,e⟩;obtain ⟨m',hm',rfl⟩:=mem_map.mp hy;obtain ⟨h1,h2⟩:=mem_filter.mp hm';have ee:=eq_of_beq e;have:m'=m:=QH nd (BU h1) (ee ▸ BU hm);subst this;exact of_decide_eq_true h2
 ·intro hb;exact ⟨_,mem_map.mpr ⟨m,mem_filter.mpr ⟨hm,decide_eq_true hb⟩,rfl⟩,by simp⟩
theorem HY {ns bs:List (Str × Str)} {n:Nat} (h:n &&& Av (AG due)=n):NJ due ns bs n=(A5 due ns bs n).map (fun t=>[t.1,t.2.1,t.2.2]):=by
 unfold NJ;rw [if_pos h]
section
variable {RC:Addr}
def MD:Sp:=fun vs H Q _=>∃ (t e m lw lf:Addr) (ms:List Addr) (due:Aa) (ns bs:List (Str × Str)) (n:Nat),vs=[.ref t,.ref lw,.ref lf,.int (n:Int)]/\LTab H t e m ms due/\PrsL H lw ns/\PrsL H lf bs/\(due.map (·.1)).Nodup/\due.length <= 10/\Dy due ns/\Dy due bs/\∀ x H',Same H H'->QR H' x (NJ due ns bs n)->Q x H'
noncomputable abbrev NBr:List Str:=["_law_table", "_law_wants", "_law_fences", "_law_number", "_law_names", "_law_name", "_law_other"]
theorem scBr:AR NBr ["_law_table", "_law_wants", "_law_fences", "_law_number"] (defScope EY):=fsc
theorem Ro (F:Fun K "_law_broken" "_law_broken" EY f fd):Aj P w K mg base CX0 1 f fd ["_law_table", "_law_wants", "_law_fences", "_law_number"] MD:=by
 refine F.m scBr fun vs H Q E h=>?_;obtain ⟨t,e,m,lw,lf,ms,due,ns,bs,n,rfl,LT,PLw,PF,nd,h10,PN,PB,q⟩:=h;refine ⟨rfl,fun ad A outer s hr=>?_⟩;have hu:=Cj hr
 refine ⟨_,AD (Au (AX CZ (AU Bx (pv 3) (BM hu (pv 0) AY (fun _ _=>rfl))) (pv 3) (Ak _)) (AF (AV (A4 (AA AY AC)))) Ab)
  (AD (Ot (i:=4) scBr.nd rfl (by kernel_rfl) ["_law_number"] [some 3] (by kernel_rfl) (by decide +kernel) (by kernel_rfl) (by kernel_rfl) rfl (Ac (BM hu (pv 0) AY (fun _ _=>rfl))) (fun _ _ _ _ _ _=>Ba (AX CZ (AU Bx (pv 2) (pv 1)) AJ (Ak _))) (fun _ _ _ _ _ _=>pv 0))
  (AD (Bg PassesOwn.never rfl (Ac (pv 1)) (BO rfl (AO (AM (i:=5) scBr.nd rfl (Or.inl rfl)) (AO (AM (i:=6) scBr.nd rfl (Or.inl rfl)) A2)))
   (AF (Au (PW.pt (FP (AX C0 (pv 5) (pv 4) rfl) (Ds (AX Er (pv 6) (pv 4) rfl)))) (AF (AV (A4 (AA AY (AA (pv 5) (AA (pv 6) AC)))))) Ab)))
  (AD (Bg PassesOwn.never rfl (Ac (pv 2)) (BO rfl (AO (AM (i:=5) scBr.nd rfl (Or.inl rfl)) (AO (AM (i:=6) scBr.nd rfl (Or.inl rfl)) A2)))
   (AF (Au (PW.pt (FP (AX C0 (pv 5) (pv 4) rfl) (Ds (AX C0 (pv 6) (pv 4) rfl)))) (AF (AV (A4 (AA AY (AA (pv 5) (AA (pv 6) AC)))))) Ab)))
  (AF (AV Ga))))),?_⟩
 refine ⟨_,rfl,_,rfl,t,_,rfl,.inl ⟨_,Sum.inr "bits", .inl LT.ht,rfl,(QB _ _ _).symm⟩,_,_,rfl,rfl,_,rfl,rfl,_,rfl,?_⟩;rw [show decide (V.int (Builtin.bitAnd (n:Int) ((Av (AG due):Nat):Int))=V.int (n:Int))=decide (n &&& Av (AG due)=n) by rw [Cl]; exact decide_eq_decide.mpr ⟨fun z=>by have:=V.int.inj z; omega,fun z=>by rw [z]⟩];by_cases hb:n &&& Av (AG due)=n
 ·rw [decide_eq_true hb];refine A1 ?_;rw [HY hb] at q;have aq:=LT.len;have hmk:=BG due;refine ⟨_,rfl,t,_,rfl,.inl ⟨_,Sum.inr "marks", .inl LT.ht,rfl,(B4 _ _ _).symm⟩,m,rfl,⟨_,SqL.of LT.hm⟩,Ag (K:=K) (a:=m) (xs:=ms.map V.ref) (fun i ys H1=>ys=(Bu due n ((AG due).take i)).map V.str/\H1=H) ⟨rfl,rfl⟩ (fun i ys H1 _ ⟨_,e⟩=>e ▸ SqL.of LT.hm) (fun i ys H1 ⟨e,_⟩=>?_) ?_ ?_⟩
  ·have:=length_filter_le (fun m=>decide (n &&& m ≠ 0)) ((AG due).take i);rw [length_take] at this;unfold Bu at e;rw [e,AI,AI];omega
  ·rintro i v ys H1 hi ⟨rfl,rfl⟩;obtain ⟨b,mk,rfl,hmk',ai⟩:=Bk LT.hms hi;refine ⟨b,_,rfl,SqT.of ai,rfl,_,_,rfl,_,_,rfl,rfl,?_⟩;refine ⟨_,rfl,_,rfl,_,_,rfl,rfl,rfl,_,rfl,?_⟩;rw [CW]
   have ht:Bu due n ((AG due).take (i + 1))=Bu due n ((AG due).take i)++(([mk].filter fun m=>decide (n &&& m ≠ 0)).map (Az (AN due))):=by
    unfold Bu;rw [take_add_one,hmk',filter_append,map_append];rfl
   by_cases h0:n &&& mk=0
   ·rw [decide_eq_true h0];refine A1 ⟨?_,rfl⟩;rw [ht,List.filter_cons_of_neg (by simpa using h0),filter_nil,map_nil,append_nil]
   ·rw [decide_eq_false h0];refine Bd ⟨_,rfl,?_,rfl⟩;rw [ht,List.filter_cons_of_pos (by simpa using h0),filter_nil,map_append];rfl
  rintro ys H1 ⟨rfl,rfl⟩ nl hnl;rw [aq,take_length];have s1:=AB (Same.refl _) hnl (o:=HO.lst ((Bu due n (AG due)).map V.str));have ba:=upd_same (H:=H1) (a:=nl) (o:=HO.lst ((Bu due n (AG due)).map V.str));generalize upd H1 nl (HO.lst ((Bu due n (AG due)).map V.str))=H2 at s1 ba ⊢;obtain ⟨as,hlw,has⟩:=PLw.same s1;obtain ⟨cs,hlf,ax⟩:=PF.same s1;have ar:as.length=ns.length:=by have:=has.length; unfold prV at this; rw [AI] at this; exact this
  have af:cs.length=bs.length:=by have:=ax.length; unfold prV at this; rw [AI] at this; exact this
  refine ⟨_,rfl,lw,rfl,⟨_,SqL.of hlw⟩,BC (K:=K) (a:=lw) (xs:=as.map V.ref) (fun i σ H3=>(∃ v5 v6:Option V,σ=[some (.ref t),some (.ref lw),some (.ref lf),some (.int (n:Int)),some (.ref nl),v5,v6])/\H3=H2/\(ns.take i).find? (DQ due n)=none) ⟨⟨none,none,rfl⟩,rfl,rfl⟩ (fun i σ H3 _ ⟨_,e,_⟩=>e ▸ SqL.of hlw) ?_ ?_⟩
  ·rintro i v σ H3 hi ⟨⟨v5,v6,rfl⟩,rfl,hf⟩;obtain ⟨b,pr,rfl,hpr,ai⟩:=FI has hi;obtain ⟨m1,m2,_⟩:=PN.2 pr (mem_of_getElem? hpr);refine ⟨b,_,rfl,SqT.of ai,rfl,_,_,rfl,_,_,rfl,rfl,?_⟩;refine ⟨_,rfl,_,rfl,nl,_,rfl,.inl (SqL.of ba),rfl,B1 _,_,rfl,?_⟩;have hnb:DQ due n pr=(CV due n pr.1 && !CV due n pr.2):=rfl;show if inV (.str pr.1) ((Bu due n (AG due)).map V.str)=true then _ else _
   rw [FL nd m1];cases h1:CV due n pr.1 with
   | false =>
    rw [h1] at hnb;exact A1 (A1 ⟨⟨_,_,rfl⟩,rfl,Bo hf hpr hnb⟩)
   | true =>
    rw [h1] at hnb;refine Bd ⟨_,rfl,_,rfl,nl,_,rfl,.inl (SqL.of ba),rfl,B1 _,_,rfl,?_⟩;show if (!inV (.str pr.2) ((Bu due n (AG due)).map V.str))=true then _ else _
    rw [FL nd m2];cases h2:CV due n pr.2 with
    | true =>
     rw [h2] at hnb;exact A1 ⟨⟨_,_,rfl⟩,rfl,Bo hf hpr hnb⟩
    | false =>
     rw [h2] at hnb;refine Bd ⟨_,rfl,_,rfl,sl3,fun q' hq'=>?_⟩;refine q (.ref q') _ (AB s1 hq') ?_;unfold A5;rw [GK hf hpr hnb];exact ⟨q',rfl,upd_same⟩
  ·rintro σ H3 ⟨⟨v5,v6,rfl⟩,rfl,hf⟩;rw [AI,ar,take_length] at hf;refine ⟨_,rfl,lf,rfl,⟨_,SqL.of hlf⟩,BC (K:=K) (a:=lf) (xs:=cs.map V.ref) (fun i σ H4=>(∃ v5 v6:Option V,σ=[some (.ref t),some (.ref lw),some (.ref lf),some (.int (n:Int)),some (.ref nl),v5,v6])/\H4=H3/\(bs.take i).find? (Fo due n)=none) ⟨⟨_,_,rfl⟩,rfl,rfl⟩ (fun i σ H4 _ ⟨_,e,_⟩=>e ▸ SqL.of hlf) ?_ ?_⟩
   ·rintro i v σ H4 hi ⟨⟨v5,v6,rfl⟩,rfl,hf2⟩;obtain ⟨b,pr,rfl,hpr,ai⟩:=FI ax hi;obtain ⟨m1,m2,_⟩:=PB.2 pr (mem_of_getElem? hpr);refine ⟨b,_,rfl,SqT.of ai,rfl,_,_,rfl,_,_,rfl,rfl,?_⟩;refine ⟨_,rfl,_,rfl,nl,_,rfl,.inl (SqL.of ba),rfl,B1 _,_,rfl,?_⟩;have hnb:Fo due n pr=(CV due n pr.1 && CV due n pr.2):=rfl;show if inV (.str pr.1) ((Bu due n (AG due)).map V.str)=true then _ else _
    rw [FL nd m1];cases h1:CV due n pr.1 with
    | false =>
     rw [h1] at hnb;exact A1 (A1 ⟨⟨_,_,rfl⟩,rfl,Bo hf2 hpr hnb⟩)
    | true =>
     rw [h1] at hnb;refine Bd ⟨_,rfl,_,rfl,nl,_,rfl,.inl (SqL.of ba),rfl,B1 _,_,rfl,?_⟩;show if inV (.str pr.2) ((Bu due n (AG due)).map V.str)=true then _ else _
     rw [FL nd m2];cases h2:CV due n pr.2 with
     | false =>
      rw [h2] at hnb;exact A1 ⟨⟨_,_,rfl⟩,rfl,Bo hf2 hpr hnb⟩
     | true =>
      rw [h2] at hnb;refine Bd ⟨_,rfl,_,rfl,sl3,fun q' hq'=>?_⟩;refine q (.ref q') _ (AB s1 hq') ?_;unfold A5;rw [hf,GK hf2 hpr hnb];exact ⟨q',rfl,upd_same⟩
   ·rintro σ H4 ⟨⟨v5,v6,rfl⟩,rfl,hf2⟩;rw [AI,af,take_length] at hf2;refine q .non _ s1 ?_;unfold A5;rw [hf,hf2];rfl
 ·rw [decide_eq_false hb];refine Bd ⟨sl1,fun q' hq'=>q (.ref q') _ (AB (Same.refl _) hq') ?_⟩;unfold NJ;rw [if_neg hb];exact ⟨q',rfl,upd_same⟩
def Jr:Sp:=fun vs H Q _=>∃ (t e m lw lf:Addr) (ms:List Addr) (due:Aa) (ns bs:List (Str × Str)),vs=[.ref t,.ref lw,.ref lf]/\LTab H t e m ms due/\PrsL H lw ns/\PrsL H lf bs/\(due.map (·.1)).Nodup/\due.length <= 8/\Dy due ns/\Dy due bs/\∀ l H',Same H H'->H l=none->H' l=some (.lst (AW (An due ns bs)))->Q (.ref l) H'
noncomputable abbrev NLB:List Str:=["_law_table", "_law_wants", "_law_fences", "_law_numbers", "_law_name", "_law_bit"]
theorem scLB:AR NLB ["_law_table", "_law_wants", "_law_fences"] (defScope Fe):=fsc
theorem QS (F:Fun K "_law_let_by" "_law_let_by" Fe f fd) (B:Bl mg) (GB:Fn P w K mg base "_law_broken" 1 ["_law_table", "_law_wants", "_law_fences", "_law_number"] MD):Aj P w K mg base CX0 2 f fd ["_law_table", "_law_wants", "_law_fences"] Jr:=by
 obtain ⟨fB,dB,GB,mB,kB,bB⟩:=GB.ex;refine F.m scLB fun vs H Q E h=>?_;obtain ⟨t,e,m,lw,lf,ms,due,ns,bs,rfl,LT,PLw,PF,nd,h8,PN,PB,q⟩:=h;refine ⟨rfl,fun ad A outer s hr=>?_⟩;have hu:=Cj hr
 refine ⟨_,AD (Ae (i:=3) scLB.nd rfl (Or.inl rfl) (Ay (AA AJ AC)))
  (AD (Bg PassesOwn.never rfl (Ac (BM hu (pv 0) AY (fun _ _=>rfl))) (BO rfl (AO (AM (i:=4) scLB.nd rfl (Or.inl rfl)) (AO (AM (i:=5) scLB.nd rfl (Or.inr rfl)) A2)))
   (AF (Ae (i:=3) scLB.nd rfl (Or.inl rfl) (AU CK (pv 3) (As ["_law_bit"] [some 5] (by kernel_rfl) (by decide +kernel) (by kernel_rfl) rfl (Ac (pv 3)) (fun _ _ _ _ _ _=>BH) (fun _ _ _ _ _ _=>AU MU (pv 0) (pv 1)))))))
  (AF (AV (As ["_law_table", "_law_wants", "_law_fences"] [some 0,some 1,some 2] (by kernel_rfl) (by decide +kernel) (by kernel_rfl) rfl (Ac (AS (JV (K:=K) rfl) rfl B.sorted Fg (AA (pv 3) AC)))
   (fun _ _ _ _ _ _=>Ba (D9 (Gb (AQ GB hr rfl mB kB bB .nil AZ (AA (pv 1) (AA (pv 2) (AA (pv 3) (AA (pv 0) AC)))))))) (fun _ _ _ _ _ _=>pv 0))))),?_⟩
 refine ⟨sl1,fun nl hnl=>?_⟩;have s1:=AB (Same.refl _) hnl (o:=HO.lst [V.int 0]);have ba:=upd_same (H:=H) (a:=nl) (o:=HO.lst [V.int 0]);generalize upd H nl (HO.lst [V.int 0])=H1 at s1 ba ⊢;have LT1:=LT.same s1;have aq:=LT.len;have hmk:=BG due
 have htk:∀ i,(uns ((AG due).take i)).length <= 256:=fun i=>by
  rw [FH];exact Rf (by rw [length_take]; omega)
 refine ⟨_,rfl,t,_,rfl,.inl ⟨_,Sum.inr "marks", .inl LT1.ht,rfl,(B4 _ _ _).symm⟩,m,rfl,⟨_,SqL.of LT1.hm⟩,BC (K:=K) (a:=m) (xs:=ms.map V.ref) (fun i σ H2=>(∃ (nl:Addr) (v4 v5:Option V),σ=[some (.ref t),some (.ref lw),some (.ref lf),some (.ref nl),v4,v5]/\H2 nl=some (.lst (AW (uns ((AG due).take i)))))/\Same H1 H2) ⟨⟨nl,none,none,rfl,ba⟩,Same.refl _⟩ (fun i σ H2 _ ⟨_,s2⟩=>SqL.of (s2 _ _ LT1.hm)) ?_ ?_⟩
 ·rintro i v σ H2 hi ⟨⟨nl,v4,v5,rfl,br⟩,s2⟩;obtain ⟨bb,n,rfl,hn,ai⟩:=Bk (LT1.same s2).hms hi;refine ⟨bb,_,rfl,SqT.of ai,rfl,_,_,rfl,_,_,rfl,rfl,?_⟩;have ay:=htk i;refine ⟨_,rfl,_,rfl,nl,rfl,⟨_,SqL.of br⟩,Ag (K:=K) (a:=nl) (xs:=AW (uns ((AG due).take i))) (fun j ys H4=>ys=AW (((uns ((AG due).take i)).take j).map (· ||| n))/\H4=H2) ⟨rfl,rfl⟩ (fun j ys H4 _ ⟨_,e⟩=>e ▸ SqL.of br) (fun j ys H4 ⟨e,_⟩=>by rw [e,Am,AI,length_take]; omega) ?_ ?_⟩
  ·rintro j v ys H4 hj ⟨rfl,rfl⟩;unfold AW at hj;rw [getElem?_map] at hj;obtain ⟨z,hz,rfl⟩:=Option.map_eq_some_iff.mp hj;refine ⟨_,rfl,_,rfl,_,_,rfl,rfl,?_,rfl⟩;rw [take_add_one,hz];unfold AW;rw [map_append,map_append];show _++[V.int (Builtin.bitOr _ _)]=_++[V.int _];rw [EL]
  ·rintro ys H4 ⟨rfl,rfl⟩ c hc;have sc:=AB (Same.refl _) hc (o:=HO.lst (AW (((uns ((AG due).take i)).take (AW (uns ((AG due).take i))).length).map (· ||| n))));have hcn:=upd_same (H:=H4) (a:=c) (o:=HO.lst (AW (((uns ((AG due).take i)).take (AW (uns ((AG due).take i))).length).map (· ||| n))));rw [Am,take_length] at sc hcn ⊢;refine ⟨nl,c,_,_,rfl,rfl,sc _ _ br,hcn,Nat.le_of_lt (AT (by rw [Am,Am,AI]; omega)),fun q hq=>?_⟩;refine ⟨⟨q,_,_,rfl,?_⟩,s2.trans (AB sc hq)⟩;rw [upd_same,take_add_one,hn];show _=some (HO.lst (AW (uns ((AG due).take i++[n]))));rw [Kw];unfold AW;rw [map_append]
 ·rintro σ H2 ⟨⟨nl,v4,v5,rfl,br⟩,s2⟩;rw [aq,take_length] at br;have hul:=htk (AG due).length;rw [take_length] at hul
  have hle:((uns (AG due)).map fun n:Nat=>(n:Int)).Pairwise (· <= ·):=by
   rw [pairwise_map];exact (QF (fun m h=>(DP h).2) (Ip due)).imp fun h=>by omega
  refine ⟨_,rfl,nl,(uns (AG due)).map fun n:Nat=>(n:Int),rfl,SqL.of (by rw [← DL]; exact br),hle,by rw [AI]; omega,fun ls hls=>?_⟩;rw [← DL];have s3:=AB (s1.trans s2) hls (o:=HO.lst (AW (uns (AG due))));have cz:=upd_same (H:=H2) (a:=ls) (o:=HO.lst (AW (uns (AG due))));generalize upd H2 ls (HO.lst (AW (uns (AG due))))=H3 at s3 cz ⊢;refine ⟨ls,rfl,⟨_,SqL.of cz⟩,Ag (K:=K) (a:=ls) (xs:=AW (uns (AG due))) (fun i ys H4=>ys=AW (((uns (AG due)).take i).filter fun n=>(A5 due ns bs n).isNone)/\Same H3 H4) ⟨rfl,Same.refl _⟩ (fun i ys H4 _ ⟨_,e⟩=>SqL.of (e _ _ cz)) (fun i ys H4 ⟨e,_⟩=>?_) ?_ ?_⟩
  ·have:=length_filter_le (fun n=>(A5 due ns bs n).isNone) ((uns (AG due)).take i);rw [length_take] at this;rw [e,Am];omega
  ·rintro i v ys H4 hi ⟨rfl,s4⟩;unfold AW at hi;rw [getElem?_map] at hi;obtain ⟨u,hu',rfl⟩:=Option.map_eq_some_iff.mp hi;have s04:=s3.trans s4;have ht:((uns (AG due)).take (i + 1)).filter (fun n=>(A5 due ns bs n).isNone)=((uns (AG due)).take i).filter (fun n=>(A5 due ns bs n).isNone)++[u].filter (fun n=>(A5 due ns bs n).isNone):=by rw [take_add_one,hu',filter_append]; rfl
   refine ⟨_,rfl,_,rfl,_,rfl,_,rfl,t,e,m,lw,lf,ms,due,ns,bs,u,rfl,LT.same s04,PLw.same s04,PF.same s04,nd,by omega,PN,PB,fun x H5 s5 hx=>⟨_,rfl,?_⟩⟩;rw [Rn hx,HY (MC (mem_of_getElem? hu')),Option.isNone_map];cases hf:(A5 due ns bs u).isNone with
   | true =>
    refine Bd ⟨_,rfl,?_,s4.trans s5⟩;rw [ht,List.filter_cons_of_pos (p:=fun n=>(A5 due ns bs n).isNone) hf,filter_nil];unfold AW;rw [map_append];rfl
   | false =>
    refine A1 ⟨?_,s4.trans s5⟩;rw [ht,List.filter_cons_of_neg (by rw [hf]; simp),filter_nil,append_nil]
  ·rintro ys H4 ⟨rfl,s4⟩ p hp;rw [Am,take_length];exact q p _ (s3.trans (AB s4 hp)) (none_of (s3.trans s4) hp) upd_same
end
noncomputable def gV3 (vs zs:List V):List V:=match vs,zs with | [a,b],[c]=>[a,b,c] | _,_=>[]
noncomputable def gU3 (us ws:List Value):List Value:=match us,ws with | [a,b],[c]=>[a,b,c] | _,_=>[]
structure QT (P:Program) (w:World) (K:FG) (mg:SV) (base:Heap) (C:Addr):Prop where
 T:Lv K C
 cls:mg "Kind" = some (.ref C)
 make:∃ f fd,Mk K C f/\Aj P w K mg base CX0 6 f fd ["self", "rows", "rest"] (Pu C) /\
  (∃ g,DZ K fd ["self", "rows", "rest"] ["rest"] g gV3)/\∃ ds,Binds K fd ["self", "rows", "rest"] ds/\Vals [.str "bar"] ds
noncomputable def gV4 (vs zs:List V):List V:=match vs,zs with | [a,b],[c,d]=>[a,b,c,d] | _,_=>[]
noncomputable def gU4 (us ws:List Value):List Value:=match us,ws with | [a,b],[c,d]=>[a,b,c,d] | _,_=>[]
structure ME (P:Program) (w:World) (K:FG) (mg:SV) (base:Heap) (C RC cP:Addr):Prop where
 RT:HX K RC
 cls:mg "Rule" = some (.ref RC)
 make:∃ f fd,Mk K RC f/\Aj P w K mg base CX0 4 f fd ["self", "kind", "needs", "bars"] (NI K C RC)/\Aj P w K mg base (CXr P w) 4 f fd ["self", "kind", "needs", "bars"] (DC K C RC cP)/\(∃ g,DZ K fd ["self", "kind", "needs", "bars"] ["needs", "bars"] g gV4)/\∃ t1 t2,Binds K fd ["self", "kind", "needs", "bars"] [.ref t1,.ref t2]/\(∀ H,SqT K H t1 [])/\∀ H,SqT K H t2 []
section
variable {RC:Addr}
def KeepL (H H':Hp):Prop:=∀ b o,H b=some o->(∀ xs,o ≠ .lst xs)->H' b=some o
theorem KindAt.keepL {p:Addr} {r:Str} (s:KeepL H H') (h:KindAt C H p due r):KindAt C H' p due r:=by
 obtain ⟨dx,d1,o1,d2,o2,a,b,c⟩:=h.ex;exact ⟨⟨dx,d1,o1,d2,o2,s _ _ a (fun _ z=>nomatch z),s _ _ b (fun _ z=>nomatch z),s _ _ c (fun _ z=>nomatch z)⟩⟩
theorem KeepL.sameX {d:Addr} {xs:List V} (hd:H d=some (.lst xs)) (s:HL d H H'):KeepL H H':=fun b o e h=>s.old b o e fun z=>by subst z; rw [hd] at e; cases e; exact h _ rfl
def DueL (H:Hp) (u:Addr) (due:Aa):Prop:=∃ bs:List Addr,H u=some (.lst (bs.map V.ref))/\TupsAt H bs (FA due)
theorem DueL.sameX {d u:Addr} {xs:List V} (hd:H d=some (.lst xs)) (hu:u ≠ d) (s:HL d H H') (h:DueL H u due):DueL H' u due:=by
 obtain ⟨bs,h1,h2⟩:=h;exact ⟨bs,s.old _ _ h1 hu,TupsAt.sameT (fun b xs e=>KeepL.sameX hd s _ _ e (fun _ z=>nomatch z)) h2⟩
theorem DueL.same {u:Addr} (s:Same H H') (h:DueL H u due):DueL H' u due:=by
 obtain ⟨bs,h1,h2⟩:=h;exact ⟨bs,s _ _ h1,TupsAt.same s h2⟩
def St3 (d lw lf:Addr) (H H':Hp):Prop:=∀ b o,H b=some o->b ≠ d->b ≠ lw->b ≠ lf->H' b=some o
theorem I0 {i:Nat} {x:Str} (h:(AL due)[i]?=some x):x ∈ AL due:=mem_of_getElem? h
theorem Ei {α β:Type} {F:α->β->Prop}:∀ {xs xs':List α} {ys ys':List β},Paired F xs ys->Paired F xs' ys'->Paired F (xs++xs') (ys++ys')
 | _,_,_,_,.nil,h=>h
 | _,_,_,_,.cons a r,h=>.cons a (Ei r h)
theorem QU {l:List Str} (h:l.Nodup) {i j:Nat} {x y:Str} (hi:l[i]?=some x) (hj:l[j]?=some y) (hij:i ≠ j):x ≠ y:=fun z=>by
 subst z;obtain ⟨h1,g1⟩:=List.getElem?_eq_some_iff.mp hi;obtain ⟨h2,g2⟩:=List.getElem?_eq_some_iff.mp hj;rcases Nat.lt_or_gt_of_ne hij with q | q
 ·exact List.pairwise_iff_getElem.mp h i j h1 h2 q (by rw [g1,g2])
 ·exact List.pairwise_iff_getElem.mp h j i h2 h1 q (by rw [g1,g2])
theorem S1 {i j L:Nat} (h1:i < L) (h2:j < L - 1):(i + 1 + j) % L ≠ i:=by
 by_cases h:i + 1 + j < L
 ·rw [Nat.mod_eq_of_lt h];omega
 ·rw [Nat.mod_eq_sub_mod (by omega),Nat.mod_eq_of_lt (by omega)];omega
theorem PrsL.snoc {l b:Addr} {ps:List (Str × Str)} {as:List Addr} {x y:Str} (h:TupsAt H as (prV ps)) (hb:H b=some (.tup [.str x,.str y])) (hl:∀ c xs,H c=some (.tup xs)->c ≠ l):PrsL (upd H l (.lst ((as.map V.ref)++[V.ref b]))) l (ps++[(x,y)]):=by
 refine ⟨as++[b],by rw [upd_same,map_append]; rfl,?_⟩;unfold prV;rw [map_append];refine Ei (TupsAt.sameT (fun c xs e=>by rw [AE (hl c xs e)]; exact e) h) (.cons ?_ .nil);show upd H l _ b=some (.tup [.str x,.str y]);rw [AE (hl b _ hb)];exact hb
def S2 (C RC:Addr):Sp:=fun vs H Q _=>∃ (d k t e m:Addr) (a b:Int) (ms:List Addr) (due:Aa) (r:Str),vs=[.ref d,.ref k,.ref t]/\H d=some (.lst [.int a,.int b])/\KindAt C H k due r/\LTab H t e m ms due/\m ≠ d/\due.length <= 8/\(due.map (·.1)).Nodup /\
 ∀ (q p lw lf:Addr) (ns bs:List (Str × Str)) H',HL d H H'->H lw=none->H lf=none->H' q=some (.tup [.ref p,.ref lw,.ref lf])->RuAt RC H' p k due ns bs->PrsL H' lw ns->PrsL H' lf bs->Dy due ns->Dy due bs->ns.length <= 6->(∀ ll,T5 RC H' p ll->H ll=none)->Q (.ref q) H'
noncomputable abbrev NRW:List Str:=["_law_dice", "_law_kind", "_law_table", "_law_names", "_law_wants", "_law_fences", "_law_turn", "_law_at", "_law_pair"]
theorem scRW:AR NRW ["_law_dice", "_law_kind", "_law_table"] (defScope DJ):=fsc
theorem UB (F:Fun K "_law_rule_with" "_law_rule_with" DJ f fd) (B:Bl mg) {cP:Addr} (RO:ME P w K mg base C RC cP) (GR:Fn P w K mg base "_law_roll" 2 ["_law_dice", "_law_many"] HM):Aj P w K mg base CX0 6 f fd ["_law_dice", "_law_kind", "_law_table"] (S2 C RC):=by
 obtain ⟨fR,dR,GR,mR,kR,bR⟩:=GR.ex;obtain ⟨fI,dI,MI,GI,_,⟨gI,kbI⟩,_⟩:=RO.make;have mC:=RO.cls;refine F.m scRW fun vs H Q E h=>?_;obtain ⟨d,k,t,e,m,a,b,ms,due,r,rfl,hd,KA,LT,hmd,h8,ndn,q⟩:=h;refine ⟨rfl,fun ad A outer s hr=>?_⟩;have hu:=Cj hr;have hr2:Room 2 _:=hr.mono (by decide);have nd:=scRW.nd
 refine ⟨_,AD (RI (i:=3) (j:=4) (k:=5) rfl nd rfl rfl rfl rfl rfl rfl (AA (Cc [] [] (by kernel_rfl) (by decide +kernel) (by kernel_rfl) (by kernel_rfl) rfl (Ac (BM hu (pv 2) AY (fun _ _=>rfl))) (fun _ _ _ _ _ _=>BH) (fun _ _ _ _ _ _=>pv 0)) (AA (Ay AC) (AA (Ay AC) AC))) (by kernel_rfl))
  (AD (Bg PassesOwn.never rfl (Cz rfl B.range (AA (AQ GR hr2 rfl mR kR bR .nil AZ (AA (pv 0) (AA AJ AC))) AC)) (AM (i:=6) nd rfl (Or.inl rfl))
   (AF (Au (AX MZ (AS (Ax K rfl) rfl B.len PySem.boot_len (AA (pv 3) AC)) AJ (Ak _))
    (AD (Ae (i:=7) nd rfl (Or.inl rfl) (AQ GR hr2 rfl mR kR bR .nil AZ (AA (pv 0) (AA (AS (Ax K rfl) rfl B.len PySem.boot_len (AA (pv 3) AC)) AC))))
    (AD (Ae (i:=8) nd rfl (Or.inl rfl) (A4 (AA (Bq (BF K rfl) (pv 3) (pv 7) (fun _ _=>rfl)) (AA (Bq (BF K rfl) (pv 3) (AU DY (AU Cr (AU Cr (pv 7) AJ) (AQ GR hr2 rfl mR kR bR .nil AZ (AA (pv 0) (AA (AU Od (AS (Ax K rfl) rfl B.len PySem.boot_len (AA (pv 3) AC)) AJ) AC)))) (AS (Ax K rfl) rfl B.len PySem.boot_len (AA (pv 3) AC))) (fun _ _=>rfl)) AC))))
    (AF (Au (AX Te (AQ GR hr2 rfl mR kR bR .nil AZ (AA (pv 0) (AA AJ AC))) AJ (Ak _)) (AF (DE (Gm PySem.F.plainAttrs_list PySem.F.slot_list_append PySem.F.type_list_append C1 (pv 4) (AA (pv 8) AC)))) (AF (DE (Gm PySem.F.plainAttrs_list PySem.F.slot_list_append PySem.F.type_list_append C1 (pv 5) (AA (pv 8) AC))))))))
    Ab)))
  (AF (AV (A4 (AA (Gz MI GI hr rfl mC kbI (AA (pv 1) AC) (B9 (pv 4) (B9 (pv 5) FS))) (AA (pv 4) (AA (pv 5) AC))))))),?_⟩
 have aq:=LT.len;have hmk:=BG due;refine ⟨_,rfl,t,_,rfl,.inl ⟨_,Sum.inr "marks", .inl LT.ht,rfl,(B4 _ _ _).symm⟩,m,rfl,⟨_,SqL.of LT.hm⟩,Ag (K:=K) (a:=m) (xs:=ms.map V.ref) (fun i ys H1=>ys=(((AG due).take i).map (Az (AN due))).map V.str/\H1=H) ⟨rfl,rfl⟩ (fun i ys H1 _ ⟨_,e⟩=>e ▸ SqL.of LT.hm) (fun i ys H1 ⟨e,_⟩=>by rw [e,AI,AI,length_take]; omega) ?_ ?_⟩
 ·rintro i v ys H1 hi ⟨rfl,rfl⟩;obtain ⟨bb,n,rfl,hn,ai⟩:=Bk LT.hms hi;refine ⟨bb,_,rfl,SqT.of ai,rfl,_,_,rfl,_,_,rfl,rfl,_,rfl,?_,rfl⟩;rw [take_add_one,hn,Option.toList_some,map_append,map_append];rfl
 rintro ys H1 ⟨rfl,rfl⟩ nl hnl;rw [aq,take_length];have s1:=AB (Same.refl _) hnl (o:=HO.lst ((AL due).map V.str));have ba:=upd_same (H:=H1) (a:=nl) (o:=HO.lst ((AL due).map V.str));show _/\_;have hmn:(((AG due).map (Az (AN due))).map V.str)=(AL due).map V.str:=rfl;rw [hmn];generalize upd H1 nl (HO.lst ((AL due).map V.str))=H2 at s1 ba ⊢;refine ⟨Nat.zero_le _,fun lw hlw=>⟨Nat.zero_le _,fun lf hlf=>⟨_,_,_,rfl,?_⟩⟩⟩;have s2:=AB (Same.refl _) hlw (o:=HO.lst []);have s3:=AB (Same.refl _) hlf (o:=HO.lst []);have hw2:=upd_same (H:=H2) (a:=lw) (o:=HO.lst []);have nwf:lw ≠ lf:=AH hw2 hlf;have nlw:nl ≠ lw:=AH ba hlw;have nlf:nl ≠ lf:=AH (s2 _ _ ba) hlf;have ndw:d ≠ lw:=AH (s1 _ _ hd) hlw;have ndf:d ≠ lf:=AH (s2 _ _ (s1 _ _ hd)) hlf;have nld:nl ≠ d:=Ne.symm (AH hd hnl);have cb:H1 lw=none:=none_of s1 hlw;have cc:H1 lf=none:=none_of (s1.trans s2) hlf;have sA:=(s1.trans s2).trans s3;have hnl3:=s3 _ _ (s2 _ _ ba);have hlw3:=s3 _ _ hw2;have hlf3:=upd_same (H:=upd H2 lw (.lst [])) (a:=lf) (o:=HO.lst []);generalize upd (upd H2 lw (HO.lst [])) lf (HO.lst [])=H3 at sA hnl3 hlw3 hlf3 s3 ⊢;clear s1 s2 s3 hlw hlf hnl ba hw2 hmn;have hL10:((AL due).map V.str).length <= 8:=by rw [AI]; unfold AL; rw [AI]; omega
 refine ⟨_,rfl,d,a,b,6,rfl,sA _ _ hd,by decide,by decide,fun r0 a' b' hr0 hr6=>?_⟩;obtain ⟨mm,rfl⟩:=Int.eq_ofNat_of_zero_le hr0
 refine ⟨_,rfl,by omega,by omega,IA (lo:=0) (n:=((mm:Nat):Int).toNat) (fun i σ H4=>∃ (ns bs:List (Str × Str)) (v6 v7 v8:Option V),σ=[some (.ref d),some (.ref k),some (.ref t),some (.ref nl),some (.ref lw),some (.ref lf),v6,v7,v8]/\ns.length <= i/\bs.length <= i/\i <= 6/\Dy due ns/\Dy due bs/\St3 d lw lf H3 H4/\(∃ x y:Int,H4 d=some (.lst [.int x,.int y]))/\PrsL H4 lw ns/\PrsL H4 lf bs)
  ⟨[],[],none,none,none,rfl,Nat.le_refl _,Nat.le_refl _,by decide,⟨by decide,fun q hq=>by cases hq⟩,⟨by decide,fun q hq=>by cases hq⟩,fun b o e h _ _=>by rw [AE h]; exact e,⟨_,_,upd_same⟩,⟨[],by rw [AE (Ne.symm ndw)]; exact hlw3,.nil⟩,⟨[],by rw [AE (Ne.symm ndf)]; exact hlf3,.nil⟩⟩ ?_ ?_⟩
 ·rintro i σ H4 hi ⟨ns,bs,v6,v7,v8,rfl,l1,l2,hi6,PN,PB,S4,⟨x,y,hd4⟩,PW4,PF4⟩;have hi6':i + 1 <= 6:=by omega
  have ce:=S4 _ _ hnl3 nld nlw nlf;refine ⟨_,rfl,nl,_,rfl,.inl (SqL.of ce),_,_,rfl,rfl,_,rfl,?_⟩;refine CL (fun hc=>?_) (fun _=>⟨ns,bs,_,_,_,rfl,by omega,by omega,hi6',PN,PB,S4,⟨x,y,hd4⟩,PW4,PF4⟩);have hL:1 < (((AL due).map V.str).length:Int):=of_decide_eq_true hc;refine ⟨_,rfl,_,rfl,nl,_,rfl,.inl (SqL.of ce),d,x,y,(((AL due).map V.str).length:Int),rfl,hd4,by omega,by omega,fun r1 a1 b1 r10 r11=>?_⟩;obtain ⟨i1,rfl⟩:=Int.eq_ofNat_of_zero_le r10;have hi1:i1 < (AL due).length:=by rw [AI] at r11; omega
  have hx1:(AL due)[i1]?=some (AL due)[i1]:=List.getElem?_eq_getElem hi1;have hd5:=upd_same (H:=H4) (a:=d) (o:=HO.lst [V.int a1,V.int b1]);have hnl5:(upd H4 d (HO.lst [V.int a1,V.int b1])) nl=some (.lst ((AL due).map V.str)):=by rw [AE nld]; exact ce
  refine ⟨_,rfl,_,rfl,nl,_,(i1:Int),.str (AL due)[i1],rfl,rfl,SqL.of hnl5,CS (by rw [getElem?_map,hx1]; rfl),_,rfl,_,rfl,_,_,rfl,rfl,_,rfl,_,rfl,nl,_,rfl,.inl (SqL.of hnl5),_,_,rfl,rfl,d,a1,b1,(((AL due).map V.str).length:Int) - 1,rfl,hd5,by omega,by omega,fun r2 a2 b2 r20 r21=>?_⟩;obtain ⟨i2,rfl⟩:=Int.eq_ofNat_of_zero_le r20;rw [JF];have hnl6:(upd H4 d (HO.lst [V.int a2,V.int b2])) nl=some (.lst ((AL due).map V.str)):=by rw [AE nld]; exact ce
  have hi2:i2 < (AL due).length - 1:=by rw [AI] at r21; omega
  have hm2:(i1 + 1 + i2) % (AL due).length < (AL due).length:=Nat.mod_lt _ (by omega);have hx2:(AL due)[(i1 + 1 + i2) % (AL due).length]?=some (AL due)[(i1 + 1 + i2) % (AL due).length]:=List.getElem?_eq_getElem hm2;have e2:((i1:Int) + 1 + (i2:Int)) % ((((AL due).map V.str).length:Nat):Int)=(((i1 + 1 + i2) % (AL due).length:Nat):Int):=by rw [AI]; push_cast; rfl
  refine ⟨_,_,rfl,rfl,_,rfl,nl,_,rfl,.inl (SqL.of hnl6),_,_,rfl,rfl,by omega,nl,_,_,.str (AL due)[(i1 + 1 + i2) % (AL due).length],rfl,rfl,SqL.of hnl6,by rw [e2]; exact CS (by rw [getElem?_map,hx2]; rfl),sl2,fun tp htp=>?_⟩;have av:=QU (Ix ndn) hx1 hx2 (Ne.symm (S1 hi1 hi2));have m1:=I0 hx1;have m2:=I0 hx2;generalize (AL due)[i1]=x1 at av m1 htp ⊢;generalize (AL due)[(i1 + 1 + i2) % (AL due).length]=x2 at av m2 htp ⊢;have st:=AB (Same.refl _) htp (o:=HO.tup [V.str x1,V.str x2]);have cg:=upd_same (H:=upd H4 d (HO.lst [V.int a2,V.int b2])) (a:=tp) (o:=HO.tup [V.str x1,V.str x2]);have hd7:=st _ _ (upd_same (H:=H4) (a:=d) (o:=HO.lst [V.int a2,V.int b2]));have S7:∀ b o,H4 b=some o->b ≠ d->(upd (upd H4 d (HO.lst [V.int a2,V.int b2])) tp (HO.tup [V.str x1,V.str x2])) b=some o:=fun b o e h=>st _ _ (by rw [AE h]; exact e);generalize upd (upd H4 d (HO.lst [V.int a2,V.int b2])) tp (HO.tup [V.str x1,V.str x2])=H7 at st cg hd7 S7 ⊢;refine ⟨_,rfl,d,a2,b2,5,rfl,hd7,by decide,by decide,fun r3 a3 b3 r30 r31=>⟨_,_,rfl,rfl,_,rfl,?_⟩⟩;have S8:∀ b o,H4 b=some o->b ≠ d->(upd H7 d (HO.lst [V.int a3,V.int b3])) b=some o:=fun b o e h=>by rw [AE h]; exact S7 b o e h
  have ntd:tp ≠ d:=fun z=>by rw [z,hd7] at cg; cases cg
  have c8:(upd H7 d (HO.lst [V.int a3,V.int b3])) tp=some (.tup [.str x1,.str x2]):=by rw [AE ntd]; exact cg
  have hd8:=upd_same (H:=H7) (a:=d) (o:=HO.lst [V.int a3,V.int b3]);generalize upd H7 d (HO.lst [V.int a3,V.int b3])=H8 at S8 c8 hd8 ⊢;have tupd:∀ b xs,H4 b=some (.tup xs)->H8 b=some (.tup xs):=fun b xs e=>S8 b _ e fun z=>by rw [z,hd4] at e; cases e
  obtain ⟨as,hlw4,has4⟩:=id PW4;obtain ⟨cs,hlf4,hcs4⟩:=id PF4;have bv:=S8 _ _ hlw4 (Ne.symm ndw);have bw:=S8 _ _ hlf4 (Ne.symm ndf);have ar:as.length=ns.length:=by have:=has4.length; unfold prV at this; rw [AI] at this; exact this
  have af:cs.length=bs.length:=by have:=hcs4.length; unfold prV at this; rw [AI] at this; exact this
  have has8:TupsAt H8 as (prV ns):=TupsAt.sameT tupd has4;have hcs8:TupsAt H8 cs (prV bs):=TupsAt.sameT tupd hcs4
  have pok:∀ ps:List (Str × Str),ps.length <= i->Dy due ps->Dy due (ps++[(x1,x2)]):=fun ps hl h=>⟨by rw [length_append]; show ps.length + 1 <= _; omega,fun q hq=>by
   rcases mem_append.mp hq with z | z
   ·exact h.2 q z
   ·rw [mem_singleton.mp z]
    exact ⟨m1,m2,av⟩⟩
  refine CL (fun _=>?_) (fun _=>?_)
  ·refine ⟨_,rfl,.inl ⟨rfl,_,SqL.of bv⟩,_,rfl,lw,_,_,rfl,rfl,bv,AT (by rw [AI]; omega),?_⟩;refine ⟨ns++[(x1,x2)],bs,_,_,_,rfl,by rw [length_append]; show ns.length + 1 <= _; omega,by omega,hi6',pok ns l1 PN,PB,fun b o e h1 h2 h3=>by rw [AE h2]; exact S8 b o (S4 b o e h1 h2 h3) h1,⟨_,_,by rw [AE ndw]; exact hd8⟩,PrsL.snoc has8 c8 (fun c xs e z=>by rw [z,bv] at e; cases e),⟨cs,by rw [AE (Ne.symm nwf)]; exact bw,TupsAt.sameT (fun c xs e=>by rw [AE (fun z=>by rw [z,bv] at e; cases e)]; exact e) hcs8⟩⟩
  ·refine ⟨_,rfl,.inl ⟨rfl,_,SqL.of bw⟩,_,rfl,lf,_,_,rfl,rfl,bw,AT (by rw [AI]; omega),?_⟩;refine ⟨ns,bs++[(x1,x2)],_,_,_,rfl,by omega,by rw [length_append]; show bs.length + 1 <= _; omega,hi6',PN,pok bs l2 PB,fun b o e h1 h2 h3=>by rw [AE h3]; exact S8 b o (S4 b o e h1 h2 h3) h1,⟨_,_,by rw [AE ndf]; exact hd8⟩,⟨as,by rw [AE nwf]; exact bv,TupsAt.sameT (fun c xs e=>by rw [AE (fun z=>by rw [z,bw] at e; cases e)]; exact e) has8⟩,PrsL.snoc hcs8 c8 (fun c xs e z=>by rw [z,bw] at e; cases e)⟩
 ·rintro σ H4 ⟨ns,bs,v6,v7,v8,rfl,l1,l2,hi6,PN,PB,S4,⟨x,y,hd4⟩,PW4,PF4⟩;have old:∀ b o,H1 b=some o->b ≠ d->H4 b=some o:=fun b o e h=>S4 b o (sA _ _ e) h (AH e cb) (AH e cc);have kl:KeepL H1 H4:=fun b o e hn=>old b o e fun z=>by subst z; rw [hd] at e; cases e; exact hn _ rfl
  refine ⟨_,rfl,_,rfl,_,rfl,?_⟩;intro p dx hp aw av;have sN:=DB (D:=RC) hp aw av;refine ⟨p,dx,k,lw,lf,due,r,ns,bs,rfl,upd_same,(KA.keepL kl).same sN,h8,ndn,(PW4.same sN).s,(PF4.same sN).s,PN,PB,fun H5 s5 RU hLL=>⟨rfl,?_⟩⟩;have sE:=B5 sN hp s5;refine ⟨_,rfl,_,rfl,sl3,fun qq hqq=>?_⟩;have sQ:=AB (Same.refl _) hqq (o:=HO.tup [V.ref p,V.ref lw,V.ref lf])
  exact q qq p lw lf ns bs _ ⟨fun b o e h=>sQ _ _ (sE _ _ (old b o e h)),⟨x,y,sQ _ _ (sE _ _ hd4)⟩⟩ cb cc upd_same (RU.same sQ) ((PW4.same sE).same sQ) ((PF4.same sE).same sQ) PN PB (by omega) fun ll ⟨dx1,fs1,e1,e2⟩=>by
   obtain ⟨dx2,fs2,_,_,_,_,_,h1,_⟩:=id RU;have h2:=sQ _ _ h1;rw [e1] at h2;have h3:H4 ll=none:=none_of sN (hLL ll ⟨dx2,fs2,h1,by cases h2; exact e2⟩);cases e6:H1 ll with
   | none=>rfl
   | some o =>
    by_cases z:ll=d
    ·rw [z,hd4] at h3;cases h3
    ·rw [old ll o e6 z] at h3;cases h3
end
structure FunC (K:FG) (x qual:Str) (st:Stmt) (f:Addr) (fd:FuncData) (c:Addr):Prop where
 ex:∃ (oc:Value) (od:Option Addr) (kV doc pm:Value) (an:Option Addr) (ct:Value) (osl:Array (Option Value)),
  fd=W.fnOf x qual (defArgs st) (defBody st) (defScope st) .none kV doc pm an (.ref c) ct/\K.lookup f=some ⟨oc,od,.func fd,osl⟩/\W.codeIn K (.ref c) qual=true
theorem FunC.ok {x qual:Str} {st:Stmt} {c:Addr} {N ps:List Str} {k:Nat} {sp:Sp} (F:FunC K x qual st f fd c) (S:AR N ps (defScope st)) (len:∀ vs H Q E,sp vs H Q E->vs.length=ps.length)
  (bc:∀ (A:Around) (outer:List Env) (s:Shared) (H:Hp) (vs:List V) (Q:VK) (E:XK),Room k (A.deeper (PyProof.Rows.envOfC qual (defScope st) s.heap.objs.size f (.ref c)))->sp vs H Q E ->
   ∃ t,PSs (BI CX0 P w K mg base N qual (defScope st) f (.ref c) A outer s H E).nox (defBody st) t/\t { nx:=fun _ H'=>Q .non H',rt:=Q } (Bm N vs) H):Aj P w K mg base CX0 (k + 1) f fd ps sp:=by
 obtain ⟨oc,od,kV,doc,pm,an,ct,osl,rfl,lk,hcd⟩:=F.ex;refine Mb lk hcd S len fun A outer s H vs Q E hr hsp=>?_;obtain ⟨t,h,q⟩:=bc A outer s H vs Q E hr hsp;exact ⟨t,h.nox,q⟩
noncomputable def GV:Stmt->List Stmt | .For _ _ b _ _=>b | _=>[]
noncomputable def S3:Stmt->Expr | .Assign _ v _=>v | _=>.Name "" ⟨0,0,0,0⟩
noncomputable def CQ (i:Nat):Expr->Expr | .Call _ es _ _=>es.getD i (.Name "" ⟨0,0,0,0⟩) | e=>e
noncomputable def Ui:Stmt->Expr | .If (.Compare l _ _ _) _ _ _=>l | _=>.Name "" ⟨0,0,0,0⟩
noncomputable def MF (l:List Stmt) (i:Nat):Stmt:=l.getD i (.Pass ⟨0,0,0,0⟩)
noncomputable def UC (i:Nat):Expr->Expr | .List es _=>es.getD i (.Name "" ⟨0,0,0,0⟩) | e=>e
noncomputable def S5:Stmt->Expr | .Expr e _=>e | _=>.Name "" ⟨0,0,0,0⟩
noncomputable def QV:List Stmt:=GV (MF (defBody Ci) 0)
noncomputable def JA:Expr:=Ui (MF (GV (MF QV 9)) 0)
noncomputable def JB:Expr:=UC 0 (S3 (MF (GV (MF QV 12)) 0))
noncomputable def JC:Expr:=CQ 0 (S5 (MF (GV (MF QV 12)) 1))
noncomputable def Js:Expr->Expr | .Lambda _ b _ _=>b | e=>e
noncomputable def MH:Expr->Arguments | .Lambda a _ _ _=>a | _=>defArgs Ci
noncomputable def HZ:Expr->Scope | .Lambda _ _ sc _=>sc | _=>defScope Ci
noncomputable def Fq:Expr->Pos | .Lambda _ _ _ p=>p | _=>⟨0,0,0,0⟩
noncomputable def LS:List Pos:=[Fq (CQ 0 JA),Fq (CQ 0 JB),Fq (CQ 0 JC)]
theorem QW (j:Nat):∀ l,LS[j]?=some l->∀ q ∈ LS,q=l\/(q.line == l.line && q.col == l.col)=false:=by
 have key:(LS.all fun l=>LS.all fun q=>decide (q=l) || !(q.line == l.line && q.col == l.col))=true:=by decide +kernel
 intro l hl q hq;have h1:=List.all_eq_true.mp (List.all_eq_true.mp key l (mem_of_getElem? hl)) q hq;rw [Bool.or_eq_true] at h1;rcases h1 with z | z
 ·exact .inl (of_decide_eq_true z)
 ·exact .inr (by rw [Bool.not_eq_true'] at z; exact z)
theorem Fs {α β:Type} [BEq α] [LawfulBEq α] {x:α} {v:β}:∀ {l:List (α × β)},l.lookup x=some v->(x,v) ∈ l
  | [],h=>by cases h
  | (y,u) :: r,h=>by
    rw [lookup_cons] at h;cases e:x == y with
    | true =>
      rw [e] at h;cases h;rw [eq_of_beq e];exact mem_cons_self ..
    | false =>
      rw [e] at h;exact mem_cons_of_mem _ (Fs h)
theorem Rp {scope:Scope} {clos:List (Str × Addr)} (h:scope.names.all (fun p=>!(p.2 == .cell || p.2 == .free) || (clos.lookup p.1).isSome)=true):∀ x,(scope.names.lookup x=some .cell\/scope.names.lookup x=some .free)->∃ c,clos.lookup x=some c:=fun x hx=>by
 have g:∀ k,scope.names.lookup x=some k->(k == .cell || k == .free)=true->∃ c,clos.lookup x=some c:=fun k e hk=>by
  have:=List.all_eq_true.mp h _ (Fs e);simp only [hk,Bool.not_true,Bool.false_or] at this;exact Option.isSome_iff_exists.mp this
 rcases hx with z | z
 ·exact g _ z rfl
 ·exact g _ z rfl
noncomputable def qL:Str := "law.<locals>." ++ "<lambda>"
theorem Rq {ms:List Addr} {x y:Int}:HO.lst (ms.map V.ref) ≠ .lst [.int x,.int y]:=fun z=>by
 injection z with z
 cases ms with
 | nil=>cases z
 | cons a r=>cases z
theorem TabOk.same {P0:Addr} {q:Str} {ls:List Pos} (s:Same H H') (h:TabOk H P0 q ls):TabOk H' P0 q ls:=by
 obtain ⟨ps,h1,h2,h3⟩:=h;refine ⟨ps,s _ _ h1,h2,fun x hx=>?_⟩;rcases h3 x hx with z | ⟨c,z1,z2⟩
 ·exact .inl z
 ·exact .inr ⟨c,z1,s _ _ z2⟩
theorem TabOk.sameX {d:Addr} {P0:Addr} {q:Str} {ls:List Pos} {x y:Int} (hd:H d=some (.lst [.int x,.int y])) (s:HL d H H') (h:TabOk H P0 q ls):TabOk H' P0 q ls:=by
 obtain ⟨ps,h1,h2,h3⟩:=h;refine ⟨ps,s.old _ _ h1 (fun z=>by subst z; rw [hd] at h1; cases h1),h2,fun x hx=>?_⟩;rcases h3 x hx with z | ⟨c,z1,z2⟩
 ·exact .inl z
 ·exact .inr ⟨c,z1,s.old _ _ z2 (fun z=>by subst z; rw [hd] at z2; cases z2)⟩
theorem TabOk.ne {d:Addr} {P0:Addr} {q:Str} {ls:List Pos} {xs:List V} (hd:H d=some (.lst xs)) (h:TabOk H P0 q ls):d ≠ P0:=fun z=>by
 obtain ⟨ps,h1,_⟩:=h;subst z;rw [hd] at h1;cases h1
def Rl (d P0:Addr) (H H':Hp):Prop:=∀ b o,H b=some o->b ≠ d->b ≠ P0->(∀ g,o ≠ .ext g)->H' b=some o
theorem Rl.trans {d P0:Addr} {H1 H2:Hp} (a:Rl d P0 H H1) (b:Rl d P0 H1 H2):Rl d P0 H H2:=fun c o e h1 h2 h3=>b c o (a c o e h1 h2 h3) h1 h2 h3
theorem Rl.same {d P0:Addr} (s:Same H H'):Rl d P0 H H':=fun b o e _ _ _=>s b o e
theorem Rl.sameX {d P0:Addr} (s:HL d H H'):Rl d P0 H H':=fun b o e h _ _=>s.old b o e h
theorem K5 {c':Addr} {q:Str} {dx:Option Addr}:E4 c' q ≠ FY c' C dx:=fun z=>by
 have h:({ objs:=Array.replicate (c' + 1) ⟨.ref C,dx,.fields (Array.replicate 6 .none),#[]⟩ }:Heap).get? c'=some ⟨.ref C,dx,.fields (Array.replicate 6 .none),#[]⟩:=by
  unfold Heap.get?;rw [Array.getElem?_replicate,if_pos (Nat.lt_succ_self _)]
 have hz:=congrFun (HO.ext.inj z) { objs:=Array.replicate (c' + 1) ⟨.ref C,dx,.fields (Array.replicate 6 .none),#[]⟩ };have hy:=hz.mpr ⟨_,_,h,rfl,rfl,rfl,by decide,by decide⟩;obtain ⟨c1,oc,vs,t,e,ho,hd,hq⟩:=hy;cases e;rw [h] at ho;cases ho;cases hd;rw [Array.getElem?_replicate] at hq;split at hq <;> cases hq
def K0 (H H':Hp):Prop:=∀ b o,H b=some o->(∀ ps,o ≠ .tbl ps)->(∀ g,o ≠ .ext g)->H' b=some o
theorem K0.refl (H:Hp):K0 H H:=fun _ _ e _ _=>e
theorem K0.trans {H1 H2:Hp} (a:K0 H H1) (b:K0 H1 H2):K0 H H2:=fun c o e h1 h2=>b c o (a c o e h1 h2) h1 h2
theorem K0.of (s:Same H H'):K0 H H':=fun b o e _ _=>s b o e
theorem K0.sameB {P0:Addr} (h:TabOk H P0 qL LS) (s:M6 P0 H H'):K0 H H':=fun b o e h1 _=>s b o (fun z=>by
 obtain ⟨ps,hp,_⟩:=h;rw [z,hp] at e;cases e
 exact h1 _ rfl) e
theorem K0.l (s:K0 H H'):SameL H H':=fun b o e ⟨xs,h⟩=>s b o e (fun _ z=>by rcases h with rfl | rfl <;> cases z) (fun _ z=>by rcases h with rfl | rfl <;> cases z)
theorem K0.exc {P0:Addr} {H1 H2:Hp} {e' C':Addr} {dx:Option Addr} (s1:Same H H1) (he:H1 e'=some (FY e' C' dx)) (s2:Same (del H1 e') H2) (h:TabOk H P0 qL LS):TabOk H2 P0 qL LS/\K0 H H2:=by
 have old:∀ b o,H b=some o->o ≠ FY b C' dx->H2 b=some o:=fun b o eb hn=>by
  have eb1:=s1 _ _ eb;refine s2 _ _ ?_;have hbe:b ≠ e':=fun z=>by subst z; rw [he] at eb1; cases eb1; exact hn rfl
  unfold del;rw [if_neg hbe];exact eb1
 refine ⟨?_,fun b o eb _ hx=>old b o eb (hx _)⟩;obtain ⟨ps,h1,h2,h3⟩:=h;refine ⟨ps,old _ _ h1 (fun z=>nomatch z),h2,fun x hx=>?_⟩;rcases h3 x hx with z | ⟨c,z1,z2⟩
 ·exact .inl z
 ·exact .inr ⟨c,z1,old _ _ z2 K5⟩
theorem KindAt.k0 {p:Addr} {r:Str} (s:K0 H H') (h:KindAt C H p due r):KindAt C H' p due r:=by
 obtain ⟨dx,d1,o1,d2,o2,a,b,c⟩:=h.ex;exact ⟨⟨dx,d1,o1,d2,o2,s _ _ a (fun _ z=>nomatch z) (fun _ z=>nomatch z),s _ _ b (fun _ z=>nomatch z) (fun _ z=>nomatch z),s _ _ c (fun _ z=>nomatch z) (fun _ z=>nomatch z)⟩⟩
theorem DueL.k0 {u:Addr} (s:K0 H H') (h:DueL H u due):DueL H' u due:=by
 obtain ⟨bs,h1,h2⟩:=h;exact ⟨bs,s.l.lst h1,TupsAt.sameT (fun b xs e=>s.l.tup e) h2⟩
theorem Jt {ec:Nat->Addr} {cM cU P0:Addr} {j:Nat} {Q:VK} {H1:Hp} {e:Addr} (EP:Ir K ec cM cU j) (W:TabOk H P0 qL LS) (s1:Same H H1)
  (h:∀ p H',TabOk H' P0 qL LS->K0 H H'->H' p=some (.tup [.str "refused", .str (wd j)])->Q (.ref p) H'):Kt K ec cM Q (.ref cU) none H1:=⟨cU,rfl,fun e' he'=>.inl ⟨j,EP,rfl,fun p H2 s2 hp=>by
 obtain ⟨W2,R2⟩:=K0.exc s1 he' s2 W
 exact h p H2 W2 R2 hp⟩⟩
theorem Hm {x y:Str} (h1:x.cps.all (· < 128)=true:=by decide +kernel) (h2:y.cps.all (· < 128)=true:=by decide +kernel):SeqAt.shaped (.tuple [.str x,.str y])=true:=by
 unfold SeqAt.shaped;simp only [Bool.and_eq_true,decide_eq_true_eq];refine ⟨?_,?_⟩
 ·rw [PyData.canLay0];refine Lx fun d hd=>?_;simp only [mem_cons,not_mem_nil,or_false] at hd;rcases hd with rfl | rfl
  ·rw [PyData.canLay0]; exact FF h1
  ·rw [PyData.canLay0]; exact FF h2
 ·simp only [PyData.depth,PyData.depthAll];omega
theorem NK (x y:Str):PyData.eqv (.tuple [.str x,.str y]) (.tuple [.str x,.str y])=true:=Ji fun d hd=>by
 simp only [mem_cons,not_mem_nil,or_false] at hd;rcases hd with rfl | rfl
 ·exact DN _
 ·exact DN _
def NL (K:FG) (P0:Addr):Sp:=fun vs H Q _=>∃ (a:Addr) (ns:List Int),vs=[.ref a]/\SqL K H a (ns.map V.int)/\ns.length <= 63/\TabOk H P0 qL LS/\∀ H',Q (.bl true) H'
noncomputable abbrev FM:List Str:=["_law_script", "_law_dice", "_law_rows", "_law_due", "_law_way", "_law_table", "_law_kind", "_law_rule", "_law_wants", "_law_fences", "_law_good", "_law_name", "_law_bit", "_law_some", "_law_due_names", "_law_marks", "_law_strange", "_law_bad", "_law_thing", "_law_found"]
theorem scLaw:AR FM ["_law_script"] (defScope Ci):=fsc
section
variable {RC cM cP cN c P0:Addr} {ec:Nat->Addr}
theorem Ju {X:Cx} {Nl:List Str} {ix:List Nat} {scope:Scope} {clos:List (Str × Addr)} (h1:ix.length=Nl.length)
  (h2:(List.range Nl.length).all (fun i=>match Nl[i]?,ix[i]? with | some x,some j=>decide (X.N[j]?=some x) && decide (X.env.scope.names.lookup x=some .cell) && decide (scope.names.lookup x=some .free) | _,_=>false)=true)
  (h3:∀ p ∈ clos,X.env.cells.lookup p.1=some p.2) (h4:scope.names.all (fun p=>!(p.2 == .cell || p.2 == .free) || (clos.lookup p.1).isSome)=true) (h5:∀ x,X.fn x=true):LamN X Nl ix scope clos:=by
 refine ⟨h1,fun i x h=>?_,fun x c h=>h3 _ (Fs h),Rp h4,h5⟩;have hi:i < Nl.length:=(List.getElem?_eq_some_iff.mp h).1;have:=List.all_eq_true.mp h2 i (mem_range.mpr hi);rw [h] at this;cases e:ix[i]? with
 | none=>rw [e] at this; cases this
 | some j =>
  rw [e] at this;simp only [Bool.and_eq_true,decide_eq_true_eq] at this;exact ⟨j,rfl,this.1.1,this.1.2,this.2⟩
def QX (K:FG):List V->Hp->VK->Prop:=fun xs H Q=>∃ p ys,xs=[.ref p]/\((SqL K H p ys/\∀ l,H l=none->Q (.ref l) (upd H l (.tup ys)))\/(SqT K H p ys/\Q (.ref p) H))
theorem F1 {X:Cx} (K:FG) (hK:X.K=K):Bb X (.type "tuple") (QX K):=hK ▸ Dz
theorem S6 {f0 fT0:Addr} {dT0:FuncData} {A:Around} {outer:List Env} {s:Shared} {E:XK} (FT:Fun K "_law_told" "_law_told" Al fT0 dT0) (mT0:mg "_law_told" = some (.ref fT0)) (bT0:Binds K dT0 ["_law_deed"] []) (M:Ks mg ec) (EX:MA K mg ec cM) (GW:FnS P w K mg base "_law_word" 1 ["_law_e"] (Cg K ec))
  (LC:Ny (BI CX0 P w K mg base FM "law" (defScope Ci) f0 (.ref c) A outer s H E).nox c P0) (hr:Room 9 (BI CX0 P w K mg base FM "law" (defScope Ci) f0 (.ref c) A outer s H E).nox.A) {fX:Addr} {dX:FuncData} (RT:HX K RC) (mX:NX K RC "always" fX) (GX:Aj P w K mg base (CXr P w) 3 fX dX ["self", "name"] (Jq K RC cN)) (bX:Binds K dX ["self", "name"] []) :
  PE (BI CX0 P w K mg base FM "law" (defScope Ci) f0 (.ref c) A outer s H E).nox JA (ND K ec cM P0 qL LS [7,17] (fun E=>Ol RC "always" (Jq K RC cN) [] E (CD 0) (Ah (CD 1) By))) :=
   Jk (X:=(BI CX0 P w K mg base FM "law" (defScope Ci) f0 (.ref c) A outer s H E).nox) (params:=MH (CQ 0 JA)) (body:=Js (CQ 0 JA)) (scope:=HZ (CQ 0 JA)) (Nl:=["_law_rule", "_law_bad"]) (k:=7) (lpos:=Fq (CQ 0 JA)) FT M EX GW hr rfl mT0 FT.kp bT0 LC (mem_of_getElem? (i:=0) rfl) (QW 0 _ rfl) rfl rfl (Ju rfl (by kernel_rfl) (by intro p hp; simp only [mem_cons,not_mem_nil,or_false] at hp; rcases hp with rfl | rfl <;> kernel_rfl) (by kernel_rfl) (fun _=>rfl)) (fun _ _ _=>rfl) rfl rfl rfl (by decide +kernel)
    (fun lf c' A' outer' s' H' E hr=>En (pv 0) RT.cl mX GX (hr.mono (by decide)) bX .nil PU (AA (pv 1) AC))
theorem S9 {f0 fT0:Addr} {dT0:FuncData} {A:Around} {outer:List Env} {s:Shared} {E:XK} (FT:Fun K "_law_told" "_law_told" Al fT0 dT0) (mT0:mg "_law_told" = some (.ref fT0)) (bT0:Binds K dT0 ["_law_deed"] []) (M:Ks mg ec) (EX:MA K mg ec cM) (GW:FnS P w K mg base "_law_word" 1 ["_law_e"] (Cg K ec))
  (LC:Ny (BI CX0 P w K mg base FM "law" (defScope Ci) f0 (.ref c) A outer s H E).nox c P0) (hr:Room 9 (BI CX0 P w K mg base FM "law" (defScope Ci) f0 (.ref c) A outer s H E).nox.A) {fI:Addr} {dI:FuncData} {g:List Value->List Value->List Value} (MI:Mk K RC fI) (GI:Aj P w K mg base (CXr P w) 4 fI dI ["self", "kind", "needs", "bars"] (DC K C RC cP)) (kb:DZ K dI ["self", "kind", "needs", "bars"] ["needs", "bars"] g gV4) (mC:mg "Rule" = some (.ref RC)) :
  PE (BI CX0 P w K mg base FM "law" (defScope Ci) f0 (.ref c) A outer s H E).nox JB (ND K ec cM P0 qL LS [6,18,8] (fun E=>JQ RC (DC K C RC cP) gV4 E (Ah (CD 0) By) (Ah (CD 1) (Ah (CD 2) By)))) :=
   Jk (X:=(BI CX0 P w K mg base FM "law" (defScope Ci) f0 (.ref c) A outer s H E).nox) (params:=MH (CQ 0 JB)) (body:=Js (CQ 0 JB)) (scope:=HZ (CQ 0 JB)) (Nl:=["_law_kind", "_law_thing", "_law_wants"]) (k:=7) (lpos:=Fq (CQ 0 JB)) FT M EX GW hr rfl mT0 FT.kp bT0 LC (mem_of_getElem? (i:=1) rfl) (QW 1 _ rfl) rfl rfl (Ju rfl (by kernel_rfl) (by intro p hp; simp only [mem_cons,not_mem_nil,or_false] at hp; rcases hp with rfl | rfl | rfl <;> kernel_rfl) (by kernel_rfl) (fun _=>rfl)) (fun _ _ _=>rfl) rfl rfl rfl (by decide +kernel)
    (fun lf c' A' outer' s' H' E hr=>Ie MI GI (hr.mono (by decide)) rfl mC kb PU (AA (pv 0) AC) (B9 (pv 1) (B9 (pv 2) FS)))
theorem TB {f0 fT0:Addr} {dT0:FuncData} {A:Around} {outer:List Env} {s:Shared} {E:XK} (FT:Fun K "_law_told" "_law_told" Al fT0 dT0) (mT0:mg "_law_told" = some (.ref fT0)) (bT0:Binds K dT0 ["_law_deed"] []) (M:Ks mg ec) (EX:MA K mg ec cM) (GW:FnS P w K mg base "_law_word" 1 ["_law_e"] (Cg K ec))
  (LC:Ny (BI CX0 P w K mg base FM "law" (defScope Ci) f0 (.ref c) A outer s H E).nox c P0) (hr:Room 9 (BI CX0 P w K mg base FM "law" (defScope Ci) f0 (.ref c) A outer s H E).nox.A) (B:Bl mg) {fI:Addr} {dI:FuncData} {g:List Value->List Value->List Value} (MI:Mk K RC fI) (GI:Aj P w K mg base (CXr P w) 4 fI dI ["self", "kind", "needs", "bars"] (DC K C RC cP)) (kb:DZ K dI ["self", "kind", "needs", "bars"] ["needs", "bars"] g gV4) (mC:mg "Rule" = some (.ref RC)) :
  PE (BI CX0 P w K mg base FM "law" (defScope Ci) f0 (.ref c) A outer s H E).nox JC (ND K ec cM P0 qL LS [6,18,8] (fun E=>JQ RC (DC K C RC cP) gV4 E (Ah (CD 0) By) (Ah (tCB (QX K) (Ah (CD 2) By)) (Ah (CD 1) By)))) :=
   Jk (X:=(BI CX0 P w K mg base FM "law" (defScope Ci) f0 (.ref c) A outer s H E).nox) (params:=MH (CQ 0 JC)) (body:=Js (CQ 0 JC)) (scope:=HZ (CQ 0 JC)) (Nl:=["_law_kind", "_law_thing", "_law_wants"]) (k:=7) (lpos:=Fq (CQ 0 JC)) FT M EX GW hr rfl mT0 FT.kp bT0 LC (mem_of_getElem? (i:=2) rfl) (QW 2 _ rfl) rfl rfl (Ju rfl (by kernel_rfl) (by intro p hp; simp only [mem_cons,not_mem_nil,or_false] at hp; rcases hp with rfl | rfl | rfl <;> kernel_rfl) (by kernel_rfl) (fun _=>rfl)) (fun _ _ _=>rfl) rfl rfl rfl (by decide +kernel)
    (fun lf c' A' outer' s' H' E hr=>Ie MI GI (hr.mono (by decide)) rfl mC kb PU (AA (pv 0) AC) (B9 (BP (F1 K rfl) rfl B.tuple Be (AA (pv 2) AC)) (B9 (pv 1) FS)))
end
end Mk
end
section
namespace L2
open PySem
theorem BR {p:Addr} {o:HO} (hp:H p=none):Same H (upd H p o):=fun b u e=>by
 rw [AE (AH e hp)];exact e
section
variable {te:TE} {t:TA} {σ:St} {H0:Hp} {v:V} {n:Nat} {Pv Pw:Hp->V->Prop} {Ps:Hp->List V->Prop}
def QY (Pv:Hp->V->Prop):Prop:=∀ H H' v,Same H H'->Pv H v->Pv H' v
structure Gv (Pv:Hp->V->Prop) (te:TE) (σ:St) (H0:Hp):Prop where
 m:QY Pv
 g:∀ H (Q:VK),Same H0 H->(∀ v H',Same H H'->Pv H' v->Q v H')->te σ H Q
structure GvL (Ps:Hp->List V->Prop) (t:TA) (σ:St) (H0:Hp) (n:Nat):Prop where
 m:∀ H H' vs,Same H H'->Ps H vs->Ps H' vs
 g:∀ H (Q:List V->Hp->Prop),Same H0 H->(∀ vs H',Same H H'->vs.length=n->Ps H' vs->Q vs H')->t σ H Q
theorem Gv.c:Gv (fun _ w=>w=v) (tC v) σ H0:=⟨fun _ _ _ _ h=>h,fun H Q _ q=>q v H (Same.refl _) rfl⟩
theorem Gv.is (h:∀ H (Q:VK),Same H0 H->Q v H->te σ H Q):Gv (fun _ w=>w=v) te σ H0:=⟨fun _ _ _ _ h=>h,fun H Q s q=>h H Q s (q v H (Same.refl _) rfl)⟩
theorem GvL.nil:GvL (fun _ vs=>vs=[]) By σ H0 0:=⟨fun _ _ _ _ h=>h,fun H Q _ q=>q [] H (Same.refl _) rfl rfl⟩
theorem GvL.cons (a:Gv Pv te σ H0) (b:GvL Ps t σ H0 n):GvL (fun H vs=>∃ v ws,vs=v :: ws/\Pv H v/\Ps H ws) (Ah te t) σ H0 (n + 1) :=
 ⟨fun _ _ _ s ⟨v,ws,e,h1,h2⟩=>⟨v,ws,e,a.m _ _ _ s h1,b.m _ _ _ s h2⟩,fun H Q s q=>a.g H _ s fun v H1 s1 hv=>b.g H1 _ (s.trans s1) fun vs H2 s2 hn hvs=>q (v :: vs) H2 (s1.trans s2) (by rw [length_cons,hn]) ⟨v,vs,rfl,a.m _ _ _ s2 hv,hvs⟩⟩
theorem Gv.tup (g:GvL Ps t σ H0 n) (hn:n <= 1000:=by decide):Gv (fun H v=>∃ p vs,v=.ref p/\H p=some (.tup vs)/\Ps H vs) (Oj t) σ H0 :=
 ⟨fun _ _ _ s ⟨p,vs,e,h1,h2⟩=>⟨p,vs,e,s _ _ h1,g.m _ _ _ s h2⟩,fun H Q s q=>g.g H _ s fun vs H1 s1 hl hv=>⟨Nat.le_of_lt (AT (by omega)),fun p hp=>q _ _ (s1.trans (BR hp)) ⟨p,vs,rfl,upd_same,g.m _ _ _ (BR hp) hv⟩⟩⟩
theorem Gv.lst (g:GvL Ps t σ H0 n) (hn:n <= 1000:=by decide):Gv (fun H v=>∃ p vs,v=.ref p/\H p=some (.lst vs)/\Ps H vs) (JI t) σ H0 :=
 ⟨fun _ _ _ s ⟨p,vs,e,h1,h2⟩=>⟨p,vs,e,s _ _ h1,g.m _ _ _ s h2⟩,fun H Q s q=>g.g H _ s fun vs H1 s1 hl hv=>⟨Nat.le_of_lt (AT (by omega)),fun p hp=>q _ _ (s1.trans (BR hp)) ⟨p,vs,rfl,upd_same,g.m _ _ _ (BR hp) hv⟩⟩⟩
theorem Gv.imp (g:Gv Pv te σ H0) (m:QY Pw) (h:∀ H v,Pv H v->Pw H v):Gv Pw te σ H0:=⟨m,fun H Q s q=>g.g H Q s fun v H1 s1 hv=>q v H1 s1 (h _ _ hv)⟩
def All (Pv:Hp->V->Prop):Hp->List V->Prop:=fun H vs=>∀ v ∈ vs,Pv H v
theorem GvL.nilA (m:QY Pv):GvL (All Pv) By σ H0 0:=⟨fun _ _ vs s h v hv=>m _ _ _ s (h v hv),fun H Q _ q=>q [] H (Same.refl _) rfl (fun v hv=>by cases hv)⟩
theorem GvL.consA (a:Gv Pv te σ H0) (b:GvL (All Pv) t σ H0 n):GvL (All Pv) (Ah te t) σ H0 (n + 1) :=
 ⟨b.m,fun H Q s q=>a.g H _ s fun v H1 s1 hv=>b.g H1 _ (s.trans s1) fun vs H2 s2 hn hvs=>q (v :: vs) H2 (s1.trans s2) (by rw [length_cons,hn]) fun w hw=>by
  rcases mem_cons.mp hw with z | z
  ·exact z ▸ a.m _ _ _ s2 hv
  ·exact hvs w z⟩
end
theorem Rr {n m k:Nat} (h:n <= m):HT.sIx m k (some (n:Int))=n:=by
 show (if (n:Int) < 0 then ((n:Int) + (m:Int)).toNat else min ((n:Int)).toNat m)=n;rw [if_neg (by omega)];omega
theorem K6 (xs:List V) {n:Nat} (h:n <= xs.length):Ho xs none (some (n:Int))=xs.take n:=by
 unfold Ho;rw [Rr h];rfl
end L2
namespace Mk
open PySem L2 MK
theorem JD (xs:List V) (n:Nat):Ho xs none (some (n:Int))=xs.take n:=by
 rcases Nat.le_total n xs.length with h | h
 ·exact K6 xs h
 ·have e:∀ k,HT.sIx xs.length k (some (n:Int))=HT.sIx xs.length k (some ((xs.length:Nat):Int)):=fun k=>by
   show (if (n:Int) < 0 then ((n:Int) + (xs.length:Int)).toNat else min ((n:Int)).toNat xs.length)=(if ((xs.length:Nat):Int) < 0 then (((xs.length:Nat):Int) + (xs.length:Int)).toNat else min (((xs.length:Nat):Int)).toNat xs.length);rw [if_neg (by omega),if_neg (by omega)];omega
  rw [List.take_of_length_le h];have:=K6 xs (Nat.le_refl xs.length);rw [take_length] at this;refine Eq.trans ?_ this;unfold Ho;rw [e]
theorem QZ {Ps:Hp->List V->Prop} {t:TA} {σ:St} {H0:Hp} {n:Nat} (g:GvL Ps t σ H0 n) (hn:n <= 1000) (H:Hp) (Q:VK) (s:Same H0 H) (q:∀ p vs H',Same H H'->H' p=some (.lst vs)->vs.length=n->Ps H' vs->Q (.ref p) H'):JI t σ H Q :=
 g.g H _ s fun vs H1 s1 hl hv=>⟨Nat.le_of_lt (AT (by omega)),fun p hp=>q p vs _ (s1.trans (BR hp)) upd_same hl (g.m _ _ _ (BR hp) hv)⟩
theorem NM {Pv:Hp->V->Prop} {t:TA} {σ:St} {lb:Addr} {xs:List V} {n ix:Nat} {Q:VK} (hσ:σ[ix]?=some (some (.ref lb))) (hlb:H lb=some (.lst xs)) (hx:All Pv H xs) (m:QY Pv) (hl:xs.length + n <= 1000) (g:GvL (All Pv) t σ H n)
  (q:∀ p ys H',Same H H'->H' p=some (.lst ys)->ys.length=xs.length + n->All Pv H' ys->Q (.ref p) H'):tOp To (CD ix) (JI t) σ H Q:=by
 refine ⟨_,hσ,QZ g (by omega) _ _ (Same.refl _) fun b vs H1 s1 hb hn hv=>⟨lb,b,xs,vs,rfl,rfl,s1 _ _ hlb,hb,Nat.le_of_lt (AT (by omega)),fun p hp=>?_⟩⟩;refine q p _ _ (s1.trans (BR hp)) upd_same (by rw [length_append,hn]) fun v h=>?_;rcases mem_append.mp h with z | z
 ·exact m _ _ _ (s1.trans (BR hp)) (hx v z)
 ·exact m _ _ _ (BR hp) (hv v z)
theorem UD (nd:(due.map (·.1)).Nodup) {x:Str} (h:x ∉ AL due):A7 (kM due) (Sum.inr x:Key)=none:=by
 cases e:A7 (kM due) (Sum.inr x:Key) with
 | none=>rfl
 | some v =>
  have h1:=Mm e;rw [NE nd] at h1;unfold Bf at h1;rw [map_map] at h1;obtain ⟨n,hn,e1⟩:=mem_map.mp h1;exact absurd (mem_map.mpr ⟨n,hn,Sum.inr.inj e1⟩) h
theorem Dw (j n:Nat):2 ^ j &&& n ≠ 0 ↔ n.testBit j=true:=by
 constructor
 ·intro h;cases e:n.testBit j with
  | true=>rfl
  | false =>
   refine absurd (Nat.eq_of_testBit_eq fun k=>?_) h;rw [Nat.testBit_and,Nat.testBit_two_pow,Nat.zero_testBit];by_cases hk:j=k
   ·rw [← hk,e,Bool.and_false]
   ·rw [decide_eq_false hk,Bool.false_and]
 ·intro h z;have:=congrArg (fun n=>n.testBit j) z;simp only [Nat.testBit_and,Nat.testBit_two_pow_self,h,Nat.zero_testBit] at this;cases this
theorem NN (j n:Nat):2 ^ j - (2 ^ j &&& n) ≠ 0 ↔ n.testBit j=false:=by
 constructor
 ·intro h;cases e:n.testBit j with
  | false=>rfl
  | true =>
   refine absurd ?_ h
   have:2 ^ j &&& n=2 ^ j:=Nat.eq_of_testBit_eq fun k=>by
    rw [Nat.testBit_and,Nat.testBit_two_pow];by_cases hk:j=k
    ·rw [← hk,e,Bool.and_true]
    ·rw [decide_eq_false hk,Bool.false_and]
   omega
 ·intro h;have:¬ (2 ^ j &&& n ≠ 0):=fun z=>by rw [(Dw j n).mp z] at h; cases h
  have h0:2 ^ j &&& n=0:=Classical.not_not.mp this;have:=Nat.two_pow_pos j;omega
noncomputable def TC (due:Aa) (ls:List Nat):List Str:=((AG due).filter fun m=>(ls.filter fun o=>decide (o &&& m ≠ 0)).isEmpty).map (Az (AN due))
noncomputable def TD (due:Aa) (x:Nat) (ls:List Nat):List Str:=((AG due).filter fun m=>((ls.filter fun o=>decide (o &&& x ≠ 0)).filter fun o=>decide (o &&& m=0)).isEmpty).map (Az (AN due))
theorem JE {α:Type} {f:α->Bool} {l:List α}:(l.filter f).isEmpty=true ↔ ∀ a ∈ l,f a=false:=by
 rw [List.isEmpty_iff,List.filter_eq_nil_iff];exact ⟨fun h a ha=>by cases e:f a with | false=>rfl | true=>exact absurd e (h a ha),fun h a ha=>by rw [h a ha]; exact Bool.false_ne_true⟩
theorem Qa (due:Aa) (ls:List Nat):DR due (Builtin.bitNot (Av ls:Nat))=TC due ls:=by
 unfold DR TC;refine congrArg _ (List.filter_congr fun m hm=>?_);obtain ⟨j,rfl⟩:=BB (DP hm).2;rw [Ll,Bool.eq_iff_iff,decide_eq_true_eq,JE];constructor
 ·intro h o ho;have h1:=(NN j _).mp fun z=>h (by rw [z]; rfl);rw [CY,List.any_eq_false] at h1;refine decide_eq_false fun z=>?_;rw [Nat.and_comm] at z;exact h1 o ho ((Dw j o).mp z)
 ·intro h z;refine (NN j (Av ls)).mpr ?_ (by omega);rw [CY,List.any_eq_false];intro o ho e;have h1:=of_decide_eq_false (h o ho);rw [Nat.and_comm] at h1;exact h1 ((Dw j o).mpr e)
theorem K9 (due:Aa) (x:Str) (j:Nat):∀ (ls:List Nat) (c:Nat),(ls.foldl (fun c n=>if CV due n x then c &&& n else c) c).testBit j=(c.testBit j && ls.all fun o=>!CV due o x || o.testBit j)
 | [],c=>by simp
 | o :: r,c=>by
  rw [foldl_cons,K9 due x j r,all_cons];cases h:CV due o x with
  | true=>rw [if_pos rfl,Nat.testBit_and,Bool.not_true,Bool.false_or,Bool.and_assoc]
  | false=>rw [if_neg Bool.false_ne_true,Bool.not_false,Bool.true_or,Bool.true_and]
theorem OQ (due:Aa) (x:Str) (ls:List Nat):DR due (Fp due x ls:Nat)=TD due (look due x) ls:=by
 unfold DR TD;refine congrArg _ (List.filter_congr fun m hm=>?_);have hm0:=hm;obtain ⟨j,rfl⟩:=BB (DP hm).2;rw [Cl,Bool.eq_iff_iff,decide_eq_true_eq,JE]
 have hin:(Av (AG due)).testBit j=true:=by
  rw [CY,any_eq_true];exact ⟨_,hm0,Nat.testBit_two_pow_self⟩
 have key:(2 ^ j &&& Fp due x ls ≠ 0) ↔ ∀ o ∈ ls,CV due o x=true->o.testBit j=true:=by
  rw [Dw];unfold Fp;rw [K9,hin,Bool.true_and,List.all_eq_true];refine ⟨fun h o ho hb=>?_,fun h o ho=>?_⟩
  ·have:=h o ho;rw [hb] at this;simpa using this
  ·cases hb:CV due o x with
   | false=>rfl
   | true=>rw [h o ho hb]; rfl
 constructor
 ·intro h o ho;obtain ⟨h1,h2⟩:=mem_filter.mp ho;refine decide_eq_false fun z=>?_;rw [Nat.and_comm] at z;exact (Dw j o).mpr (key.mp (fun q=>h (by rw [q]; rfl)) o h1 h2) z
 ·intro h;refine fun z=>key.mpr (fun o ho hb=>?_) (by omega);have h1:=of_decide_eq_false (h o (mem_filter.mpr ⟨ho,hb⟩));rw [Nat.and_comm] at h1;exact (Dw j o).mp h1
theorem ML (due:Aa) (ns bs:List (Str × Str)):An due (ns++ns) bs=An due ns bs:=by
 unfold An;refine List.filter_congr fun n _=>?_;unfold A5;rw [List.find?_append];cases h:ns.find? (DQ due n) with
 | some p=>rfl
 | none=>rfl
theorem OR (due:Aa):An due [] []=uns (AG due):=by
 unfold An;exact List.filter_eq_self.mpr fun n _=>rfl
structure Wl (C RC P0 k t e m p lw lf gl u:Addr) (ms:List Addr) (due:Aa) (r:Str) (ns bs:List (Str × Str)) (H:Hp):Prop where
 tb:TabOk H P0 qL LS
 ka:KindAt C H k due r
 lt:LTab H t e m ms due
 ru:RuAt RC H p k due ns bs
 hgl:H gl=some (.lst (AW (An due ns bs)))
 pw:PrsL H lw ns
 pf:PrsL H lf bs
 du:DueL H u due
section
variable {RC P0 k t e m p lw lf gl u:Addr} {ms:List Addr} {r:Str} {ns bs:List (Str × Str)}
theorem PrsL.k0 {l:Addr} {ps:List (Str × Str)} (s:K0 H H') (h:PrsL H l ps):PrsL H' l ps:=by
 obtain ⟨as,h1,h2⟩:=h;exact ⟨as,s.l.lst h1,TupsAt.sameT (fun b xs e=>s.l.tup e) h2⟩
theorem Wl.go (s:K0 H H') (tb:TabOk H' P0 qL LS) (h:Wl C RC P0 k t e m p lw lf gl u ms due r ns bs H):Wl C RC P0 k t e m p lw lf gl u ms due r ns bs H':=by
 obtain ⟨dx,fs,d,ln,lb,ob,ll,h1,h2,h3,h4,h5,h6,h7⟩:=h.ru;exact ⟨tb,h.ka.k0 s,⟨s _ _ h.lt.ht (fun _ z=>nomatch z) (fun _ z=>nomatch z),s.l.lst h.lt.hm,TupsAt.sameT (fun b xs e=>s.l.tup e) h.lt.hms⟩,⟨dx,fs,d,ln,lb,ob,ll,s _ _ h1 (fun _ z=>nomatch z) (fun _ z=>nomatch z),h2,s _ _ h3 (fun _ z=>nomatch z) (fun _ z=>nomatch z),h4.k0 s,h5.k0 s,h6,s.l.lst h7⟩,s.l.lst h.hgl,h.pw.k0 s,h.pf.k0 s,h.du.k0 s⟩
theorem Wl.same (s:Same H H') (h:Wl C RC P0 k t e m p lw lf gl u ms due r ns bs H):Wl C RC P0 k t e m p lw lf gl u ms due r ns bs H':=h.go (K0.of s) (TabOk.same s h.tb)
end
section
variable {v z u:V} {p a c:Addr} {x:Str}
structure UE (K:FG):Prop where
 nt:W.kitOne K (.type "NoneType") (.type "tuple")=some false
 lt:W.kitOne K (.type "list") (.type "tuple")=some false
 st:W.kitOne K (.type "str") (.type "tuple")=some false
 is:W.kitOne K (.type "int") (.type "str")=some false
 ns:W.kitOne K (.type "NoneType") (.type "str")=some false
theorem MM {T:Value} (h:W.kitOne K (.type "NoneType") T=some false):NoIs K T H .non:=.inl ⟨_,fun _=>.non,h⟩
theorem MO {T:Value} {i:Int} (h:W.kitOne K (.type "int") T=some false):NoIs K T H (.int i):=.inl ⟨_,fun _=>.int i,h⟩
theorem TF {T:Value} {x:Str} (h:W.kitOne K (.type "str") T=some false):NoIs K T H (.str x):=.inl ⟨_,fun _=>.str x,h⟩
theorem TH {T:Value} {xs:List V} (h:W.kitOne K (.type "list") T=some false) (hp:H p=some (.lst xs)):NoIs K T H (.ref p):=.inr (.inr ⟨p,xs,rfl,hp,h⟩)
abbrev PvB (K:FG) (due:Aa) (H:Hp) (v:V):Prop:=BadThing K (kM due) H v
theorem PvB.mono:QY (PvB K due):=fun _ _ _ s h=>BadThing.same (Jn s) h
theorem CN (h:H p=some (.lst [z])) (hz:PairAt K (kM due) H z false):PvB K due H (.ref p):=.inr ⟨p,z,rfl,h,hz⟩
theorem Qb (h:NoIs K (.type "tuple") H z):PairAt K (kM due) H z false:=.inl ⟨h,rfl⟩
theorem MP {xs:List V} (h:H a=some (.tup xs)) (hl:xs.length ≠ 2):PairAt K (kM due) H (.ref a) false:=.inr ⟨a,xs,rfl,h,.inl ⟨hl,rfl⟩⟩
theorem Ft {w:V} {b1 b2:Bool} (h:H a=some (.tup [u,w])) (h1:OneAt K (kM due) H u b1) (h2:OneAt K (kM due) H w b2) (hb:(b1 && b2 && !decide (u=w))=false):PairAt K (kM due) H (.ref a) false:=.inr ⟨a,_,rfl,h,.inr ⟨u,w,b1,b2,rfl,h1,h2,hb.symm⟩⟩
theorem Ej (nd:(due.map (·.1)).Nodup) (hx:x ∉ AL due):OneAt K (kM due) H (.str x) false:=.inl ⟨x,rfl,by rw [UD nd hx]; rfl⟩
theorem FN (nd:(due.map (·.1)).Nodup) (hx:x ∈ AL due):OneAt K (kM due) H (.str x) true:=.inl ⟨x,rfl,by rw [Eg nd hx]; rfl⟩
end
theorem TabOk.put {P0 l:Addr} {q:Str} {ls:List Pos} {xs ys:List V} (e:H l=some (.lst xs)) (h:TabOk H P0 q ls):TabOk (upd H l (.lst ys)) P0 q ls:=by
 have old:∀ b o,H b=some o->(∀ zs,o ≠ .lst zs)->upd H l (.lst ys) b=some o:=fun b o eb hn=>by
  rw [AE (fun z=>by subst z; rw [e] at eb; cases eb; exact hn _ rfl)];exact eb
 obtain ⟨ps,h1,h2,h3⟩:=h;refine ⟨ps,old _ _ h1 (fun _ z=>nomatch z),h2,fun x hx=>?_⟩;rcases h3 x hx with z | ⟨c,z1,z2⟩
 ·exact .inl z
 ·exact .inr ⟨c,z1,old _ _ z2 (fun _ z=>nomatch z)⟩
structure Uj (K:FG) (due:Aa) (xs:List V):Prop where
 no:∀ H v,v ∈ xs->OneAt K (kM due) H v false
 two:∀ v ∈ xs.take 2,∃ x,v=.str x/\x ∉ AL due
 len:xs.length <= 13
theorem NO {a b:Addr} {x y:Str} (h1:H a=some (.tup [.str x,.str y])) (h2:H b=some (.tup [.str x,.str y])):A6 K H [.tuple [.str x,.str y],.tuple [.str x,.str y]] [.ref a,.ref b]:=by
 rw [A6];refine ⟨_,_,rfl,GG h1,?_⟩;rw [A6];exact ⟨_,_,rfl,GG h2,F9⟩
theorem Hn:SeqAt.shaped (.list [.tuple [.str "refused", .str "BadPairs"],.tuple [.str "refused", .str "BadPairs"]])=true:=by decide +kernel
def UF (K:FG):R2:=fun x y H Q=>∃ dx dy,Bz K H dx x/\Bz K H dy y/\SeqAt.shaped dx=true/\SeqAt.shaped dy=true/\Q (.bl (PyData.eqv dx dy)) H
def UG (K:FG):TT:=Gg (tOp (UF K) (fun σ H Q=>Bc (MS K (CD 2)) (CO 0) (Gg (tOp rNe (tOp (rI0 fun i j=>.int (Builtin.bitAnd i j)) (CD 0) (CD 1)) (tC (.int 0)))) (CD 0) [none,some 1] (fun ys H'=>∀ p,H' p=none->Q (.ref p) (upd H' p (.lst ys))) σ H) (JI By))
def Uk (K:FG):TT:=Gg (tOp (rIn K true) (CD 0) (CD 2))
def UH (K:FG):TT:=Gg (tOp (UF K) (fun σ H Q=>Bc (MS K (CD 2)) (CO 0) (Gg (tOp rEq (tOp (rI0 fun i j=>.int (Builtin.bitAnd i j)) (CD 0) (CD 1)) (tC (.int 0)))) (CD 0) [none,some 1] (fun ys H'=>∀ p,H' p=none->Q (.ref p) (upd H' p (.lst ys))) σ H) (JI By))
section
theorem TJ {σ:St} {v0:Option V} {gl:Addr} {gs:List Nat} {n:Nat} {Q:Bool->Hp->Prop} (hσ:σ=[v0,some (.int (n:Int)),some (.ref gl)]) (hgl:H gl=some (.lst (AW gs))) (hg:gs.length <= 256)
  (q:∀ H',Same H H'->Q (gs.filter fun o=>decide (o &&& n ≠ 0)).isEmpty H'):UG K σ H Q:=by
 subst hσ;refine ⟨_,rfl,gl,rfl,⟨_,SqL.of hgl⟩,Ag (K:=K) (a:=gl) (xs:=AW gs) (fun j zs H5=>zs=AW ((gs.take j).filter fun o=>decide (o &&& n ≠ 0))/\H5=H) ⟨rfl,rfl⟩ (fun j zs H5 _ ⟨_,e⟩=>e ▸ SqL.of hgl) (fun j zs H5 ⟨e,_⟩=>?_) ?_ ?_⟩
 ·have:=length_filter_le (fun o=>decide (o &&& n ≠ 0)) (gs.take j);rw [length_take] at this;rw [e,Am];omega
 ·rintro j x zs H5 hj ⟨rfl,rfl⟩;obtain ⟨o,ho,rfl⟩:=DK hj;have et:=PySem.take_succ_filter (fun o=>decide (o &&& n ≠ 0)) _ j o ho;refine ⟨_,rfl,_,rfl,_,_,rfl,rfl,rfl,_,rfl,?_⟩;rw [CW];by_cases h1:o &&& n=0
  ·rw [decide_eq_true h1];rw [decide_eq_false (fun z=>z h1),if_neg Bool.false_ne_true,append_nil] at et;exact A1 ⟨by rw [et],rfl⟩
  ·rw [decide_eq_false h1];rw [decide_eq_true h1,if_pos rfl] at et;refine Bd ⟨_,rfl,?_,rfl⟩;rw [et];unfold AW;rw [map_append];rfl
 ·rintro zs H5 ⟨rfl,rfl⟩ z hz;rw [Am,take_length] at *;have sz:=AB (Same.refl _) hz (o:=HO.lst (AW (gs.filter fun o=>decide (o &&& n ≠ 0))));refine ⟨Nat.zero_le _,fun y hy=>?_⟩;have sy:=AB (Same.refl _) hy (o:=HO.lst []);refine ⟨_,_,BQ (sy _ _ upd_same) (HS _),BQ upd_same F9,Cp _,Cp [],_,rfl,?_⟩;rw [Jf,List.isEmpty_map];exact q _ (sz.trans sy)
theorem TK {σ:St} {v0:Option V} {gl:Addr} {gs:List Nat} {n:Nat} {Q:Bool->Hp->Prop} (hσ:σ=[v0,some (.int (n:Int)),some (.ref gl)]) (hgl:H gl=some (.lst (AW gs))) (hg:gs.length <= 256)
  (q:∀ H',Same H H'->Q (gs.filter fun o=>decide (o &&& n=0)).isEmpty H'):UH K σ H Q:=by
 subst hσ;refine ⟨_,rfl,gl,rfl,⟨_,SqL.of hgl⟩,Ag (K:=K) (a:=gl) (xs:=AW gs) (fun j zs H5=>zs=AW ((gs.take j).filter fun o=>decide (o &&& n=0))/\H5=H) ⟨rfl,rfl⟩ (fun j zs H5 _ ⟨_,e⟩=>e ▸ SqL.of hgl) (fun j zs H5 ⟨e,_⟩=>?_) ?_ ?_⟩
 ·have:=length_filter_le (fun o=>decide (o &&& n=0)) (gs.take j);rw [length_take] at this;rw [e,Am];omega
 ·rintro j x zs H5 hj ⟨rfl,rfl⟩;obtain ⟨o,ho,rfl⟩:=DK hj;have et:=PySem.take_succ_filter (fun o=>decide (o &&& n=0)) _ j o ho;refine ⟨_,rfl,_,rfl,_,_,rfl,rfl,rfl,_,rfl,?_⟩;rw [CW];by_cases h1:o &&& n=0
  ·rw [decide_eq_true h1];rw [decide_eq_true h1,if_pos rfl] at et;refine Bd ⟨_,rfl,?_,rfl⟩;rw [et];unfold AW;rw [map_append];rfl
  ·rw [decide_eq_false h1];rw [decide_eq_false h1,if_neg Bool.false_ne_true,append_nil] at et;exact A1 ⟨by rw [et],rfl⟩
 ·rintro zs H5 ⟨rfl,rfl⟩ z hz;rw [Am,take_length] at *;have sz:=AB (Same.refl _) hz (o:=HO.lst (AW (gs.filter fun o=>decide (o &&& n=0))));refine ⟨Nat.zero_le _,fun y hy=>?_⟩;have sy:=AB (Same.refl _) hy (o:=HO.lst []);refine ⟨_,_,BQ (sy _ _ upd_same) (HS _),BQ upd_same F9,Cp _,Cp [],_,rfl,?_⟩;rw [Jf,List.isEmpty_map];exact q _ (sz.trans sy)
end
end Mk
end
section
namespace L2
open PySem
section
variable {X:Cx} {te ta tb:TE} {a b:Expr} {pos:Pos}
theorem Qc {i:Nat} {x:Str} {e:Expr} {pos':Pos} (hN:X.N.Nodup) (hi:X.N[i]?=some x) (hx:Loc X.env.scope x) (he:PEw X e te) (hs:swapsWith e (some (.Name x pos')) pos.line X.env=pure false:=by rfl) (hf:X.fn x=true\/X.env.scope.names.lookup x=some .local:=by first | exact .inl rfl | exact .inr rfl) :
  PSw X (.Assign [.Name x pos'] e pos) (SH te (CO i)):=⟨Ae hN hi hx he.h hs hf⟩
theorem UI {op:Operator} {r:R2} (ho:OpR X (binaryOp op) r) (ha:PEw X a ta) (hb:PEw X b tb):PEw X (.BinOp a op b pos) (tOp r ta tb):=⟨AU ho ha.h hb.h⟩
theorem DS {es:List Expr} {t:TA} {x:Str} {p:Pos} (he:PEw X (.Name x p) te) (h:PAw X es t):PAw X (.Name x p :: es) (Ah te t):=⟨AA he.h h.h⟩
theorem DD {st:Stmt} {rest:List Stmt} {t u:TS} (h1:PSw X st t) (h2:PSsw X rest u):PSsw X (st :: rest) (T4 t u):=⟨FE h1.h h2.h⟩
end
end L2
namespace Mk
open PySem L2 MK
section
variable {RC cM cP cN c P0:Addr} {ec:Nat->Addr}
theorem TL {f0 fT0:Addr} {dT0:FuncData} (F:FunC K "law" "law" Ci f0 fd c) (FT:Fun K "_law_told" "_law_told" Al fT0 dT0) (mT0:mg "_law_told" = some (.ref fT0)) (bT0:Binds K dT0 ["_law_deed"] [])
  (hC:W.CodeHd base c P0) (hBu:base.BuiltinsAt mg P0) (B:Bl mg) (KO:QT P w K mg base C) (RO:ME P w K mg base C RC cP) (NT:UE K) (M:Ks mg ec) (EX:MA K mg ec cM) (GW:FnS P w K mg base "_law_word" 1 ["_law_e"] (Cg K ec))
  (EPN:Ir K ec cM cN 5) (EPP:Ir K ec cM cP 8)
  (GRd:Fn P w K mg base "_law_rounds" 2 ["_law_script", "_law_most"] (HQ K)) (GL:Fn P w K mg base "_law_lines" 3 ["_law_dice", "_law_most"] Jg) (GRu:Fn P w K mg base "_law_rule_of" 3 ["_law_dice"] HN) (GT:Fn P w K mg base "_law_table_of" 2 ["_law_due"] Jh)
  (GRW:Fn P w K mg base "_law_rule_with" 6 ["_law_dice", "_law_kind", "_law_table"] (S2 C RC)) (GLB:Fn P w K mg base "_law_let_by" 2 ["_law_table", "_law_wants", "_law_fences"] Jr)
  (GCt:Mt P w K mg base RC "count" 1 ["self"] (Jo RC)) (GNv:Mt P w K mg base RC "never" 2 ["self"] (Jp RC)) (GA:∃ f fd,Aj P w K mg base CX0 4 f fd ["self", "name"] (R8 C RC)/\Aj P w K mg base (CXr P w) 3 f fd ["self", "name"] (Jq K RC cN)/\NX K RC "always" f/\Binds K fd ["self", "name"] []) :
  Aj P w K mg base CX0 10 f0 fd ["_law_script"] (NL K P0):=by
 obtain ⟨fRd,dRd,GRd,mRd,kRd,bRd⟩:=GRd.ex;obtain ⟨fL,dL,GL,mL,kL,bL⟩:=GL.ex;obtain ⟨fRu,dRu,GRu,mRu,kRu,bRu⟩:=GRu.ex;obtain ⟨fT,dT,GT,mT,kT,bT⟩:=GT.ex;obtain ⟨fRW,dRW,GRW,mRW,kRW,bRW⟩:=GRW.ex;obtain ⟨fLB,dLB,GLB,mLB,kLB,bLB⟩:=GLB.ex;obtain ⟨fCt,dCt,GCt,mCt,bCt⟩:=GCt.ex;obtain ⟨fNv,dNv,GNv,mNv,bNv⟩:=GNv.ex;obtain ⟨fA,dA,GA,GAB,mA,bA⟩:=GA;obtain ⟨fI,dI,MI,GI,⟨gI,kbI⟩,ds,bI,vI⟩:=KO.make;obtain ⟨fJ,dJ,MJ,GJ,GJB,⟨gJ,kbJ⟩,e1,e2,bJ,sJ1,sJ2⟩:=RO.make;have mC:=KO.cls;have mJ:=RO.cls;have T:=KO.T;have RT:=RO.RT;clear RO KO;refine F.ok scLaw (fun vs H Q E h=>?_) (fun A outer s H vs Q E hr h=>?_)
 ·obtain ⟨a,ns,rfl,_⟩:=h;rfl
 ·obtain ⟨a,ns0,rfl,hS,h63,hTab,kend⟩:=h;have hu:=Cj hr;have hu64:=hr.units;have hr1:Room 1 _:=hr.mono (by decide);have hr2:Room 2 _:=hr.mono (by decide);have hr3:Room 3 _:=hr.mono (by decide);have hr4:Room 4 _:=hr.mono (by decide);have hr5:Room 5 _:=hr.mono (by decide);have hr6:Room 6 _:=hr.mono (by decide);have hr7:Room 7 _:=hr.mono (by decide);have nd:=scLaw.nd;have LC:Ny (BI CX0 P w K mg base FM "law" (defScope Ci) f0 (.ref c) A outer s H E).nox c P0:=⟨rfl,hC,hBu⟩;have t1:=S6 (H:=H) (E:=E) FT mT0 bT0 M EX GW LC hr RT mA GAB bA;have t2:=S9 (H:=H) (E:=E) FT mT0 bT0 M EX GW LC hr MJ GJB kbJ mJ;have t3:=TB (H:=H) (E:=E) FT mT0 bT0 M EX GW LC hr B MJ GJB kbJ mJ
  refine ⟨_,PSsw.h (Df (KQ PassesOwn.never rfl (.mk (Ac (AQ GRd hr2 rfl mRd kRd bRd .nil AZ (AA (pv 0) (AA AJ AC))))) (AM (i:=1) nd rfl (Or.inl rfl))
    (Df (.mk (DX (AQ GL hr3 rfl mL kL bL .nil AZ (AA (pv 1) (AA AJ AC))) (BO rfl (AO (AM (i:=2) nd rfl (Or.inl rfl)) (AO (AM (i:=3) nd rfl (Or.inl rfl)) A2)))))
    (Df (.mk (SI (i:=4) (j:=5) rfl nd rfl rfl (by decide) rfl rfl (AA (AQ GRu hr3 rfl mRu kRu bRu .nil AZ (AA (pv 1) AC)) (AA (AQ GT hr2 rfl mT kT bT .nil AZ (AA (pv 3) AC)) AC)) (by kernel_rfl)))
    (Df (.mk (Ae (i:=6) nd rfl (Or.inr rfl) (Gz MI GI hr7 rfl mC kbI (AA (pv 2) AC) (B9 (pv 4) FS))))
    (Df (.mk (DX (AQ GRW hr6 rfl mRW kRW bRW .nil AZ (AA (pv 1) (AA (pv 6) (AA (pv 5) AC)))) (BO rfl (AO (AM (i:=7) nd rfl (Or.inr rfl)) (AO (AM (i:=8) nd rfl (Or.inr rfl)) (AO (AM (i:=9) nd rfl (Or.inl rfl)) A2))))))
    (Df (.mk (Ae (i:=10) nd rfl (Or.inr rfl) (AQ GLB hr2 rfl mLB kLB bLB .nil AZ (AA (pv 5) (AA (pv 8) (AA (pv 9) AC))))))
    (DD (.mk (Au (AX (Gy K rfl hu64) (Ca (pv 7) RT.cl mNv GNv hr2 bNv .nil AZ) (N3 (tt:=UG K) ["_law_good"] [some 10] (by kernel_rfl) (fun _ _=>rfl) (fun _=>rfl) (by decide +kernel) (by kernel_rfl) (by kernel_rfl) rfl (Ac (BM hu (pv 5) AY (fun _ _=>rfl))) ?nev (fun _ _ _ _ _ _=>pv 0)) (Ak _)) (AF Ad) Ab))
    (DD (KQ PassesOwn.never rfl (.mk (Ac (BM hu (pv 5) AY (fun _ _=>rfl)))) (BO rfl (AO (AM (i:=11) nd rfl (Or.inr rfl)) (AO (AM (i:=12) nd rfl (Or.inr rfl)) A2)))
     (Df (.mk (Ae (i:=13) nd rfl (Or.inr rfl) (As ["_law_bit"] [some 12] (by kernel_rfl) (by decide +kernel) (by kernel_rfl) rfl (Ac (pv 10)) (fun _ _ _ _ _ _=>Ba (AX CZ (AU Bx (pv 0) (pv 1)) AJ (Ak _))) (fun _ _ _ _ _ _=>pv 0))))
     (Df (.mk (N4 (tt:=UH K) (i:=14) nd rfl (by kernel_rfl) ["_law_some"] [some 13] (by kernel_rfl) (fun _ _=>rfl) (fun _=>rfl) (by decide +kernel) (by kernel_rfl) (by kernel_rfl) rfl (Ac (BM hu (pv 5) AY (fun _ _=>rfl))) ?alw (fun _ _ _ _ _ _=>pv 0)))
     (IZ (.mk (Au (AX (Gy K rfl hu64) (En (pv 7) RT.cl mA GA hr4 bA .nil AZ (AA (pv 11) AC)) (pv 14) (Ak _)) (AF Ad) Ab))))))
    (DD (.mk (Ae (i:=15) nd rfl (Or.inr rfl) (Cc [] [] (by kernel_rfl) (by decide +kernel) (by kernel_rfl) (by kernel_rfl) rfl (Ac (BM hu (pv 5) AY (fun _ _=>rfl))) (fun _ _ _ _ _ _=>BH) (fun _ _ _ _ _ _=>pv 0))))
    (DD (.mk (Ae (i:=16) nd rfl (Or.inl rfl) (AU CK (Cc (tt:=Uk K) ["_law_marks"] [some 15] (by kernel_rfl) (by decide +kernel) (by kernel_rfl) (by kernel_rfl) rfl (Ac (pv 3)) ?str (fun _ _ _ _ _ _=>pv 0)) (Ay (AA AY (AA AY (AA Ga (AA AJ (AA AY AC)))))))))
    (DD (KQ PassesOwn.never rfl (.mk (Ac (pv 16))) (AM (i:=17) nd rfl (Or.inr rfl))
     (IZ (.mk (Au (AX (Gy K rfl hu64) t1 (A4 (AA AY (AA AY AC))) (Ak _)) (AF Ad) Ab))))
    (DD (Qc (i:=17) nd rfl (Or.inr rfl) (Bj (Pa (Pb (IY (DV (Bj (Pa BX)) (DV (Bj (Fx (Ck BX) BX)) (DV (Bj (Fx (Ck (IY BX)) BX)) (DV (Bj (IY BX)) (DV (Bj (Fx (Ck (Pb (Pb BX))) BX)) (DV (Bj (Fx (Ck (IY (IY BX))) BX)) BX)))))))))))
    (DD (KQ PassesOwn.never rfl (.mk (Ac (J0 Mh (pv 15) Mc (Md AJ)))) (AM (i:=11) nd rfl (Or.inr rfl))
     (DD (Qc (i:=17) nd rfl (Or.inr rfl) (UI CK (.mk (pv 17)) (Bj (DV (Bj (Fx (Ck (DS (.mk (pv 11)) (DS (.mk (pv 11)) BX))) BX)) (DV (Bj (Fx (Ck (DS (.mk (pv 11)) (IY BX))) BX)) (DV (Bj (DV (Bj (DS (.mk (pv 11)) (DS (.mk (pv 11)) BX))) BX)) (DV (Bj (Fx (Ck (DS (.mk (pv 11)) (DS (.mk (pv 11)) (DS (.mk (pv 11)) BX)))) BX)) BX)))))))
     (DD (Qc (i:=17) nd rfl (Or.inr rfl) (UI CK (.mk (pv 17)) (Bj (DV (Bj (Fx (Ck (DS (.mk (pv 11)) (Pa BX))) BX)) BX))))
     (IZ (.mk (Ae (i:=17) nd rfl (Or.inr rfl) (AU CK (pv 17) (As ["_law_name"] [some 11] (by kernel_rfl) (by decide +kernel) (by kernel_rfl) rfl (Ac (J0 Mh (pv 16) Mc (Md AJ))) (fun _ _ _ _ _ _=>BH) (fun _ _ _ _ _ _=>Ay (AA (A4 (AA (pv 1) (AA (pv 0) AC))) AC))))))))))
    (DD (KQ PassesOwn.never rfl (.mk (Ac (pv 17))) (AM (i:=18) nd rfl (Or.inr rfl))
     (DD (.mk (Ae (i:=19) nd rfl (Or.inl rfl) (Ay (AA t2 AC))))
     (DD (.mk (DE (Gm PySem.F.plainAttrs_list PySem.F.slot_list_append PySem.F.type_list_append C1 (pv 19) (AA t3 AC))))
     (IZ (.mk (Au (AX (Gy K rfl hu64) (pv 19) (AU SS (Ay (AA (A4 (AA AY (AA AY AC))) AC)) AJ) (Ak _)) (AF Ad) Ab))))))
    (DD (.mk (Au (AX CZ (Ca (Gz MJ GJ hr5 rfl mJ kbJ (AA (pv 6) AC) (B9 (AU CK (pv 8) (pv 8)) (B9 (BP (F1 K rfl) rfl B.tuple Be (AA (pv 9) AC)) FS))) RT.cl mCt GCt hr1 bCt .nil AZ) (AS (Ax K rfl) rfl B.len PySem.boot_len (AA (pv 10) AC)) (Ak _)) (AF Ad) Ab))
    (IZ (.mk (Au (AX CZ (Ca (Ql MJ GJ hr5 rfl mJ bJ (show Vals [V.ref e1,V.ref e2] [Value.ref e1,Value.ref e2] from .cons rfl (.cons rfl .nil)) AZ (AA (pv 6) AC)) RT.cl mCt GCt hr1 bCt .nil AZ) (AU Ge AJ (AS (Ax K rfl) rfl B.len PySem.boot_len (AA (pv 15) AC))) (Ak _)) (AF Ad) Ab))))))))))))))))))
   (IZ (.mk (AV MQ)))),?_⟩
  case nev =>
   intro cl s' H' C' fp pn;exact Ba (AX (O2 K rfl hu64) (As ["_law_bit"] [some 1] (by kernel_rfl) (by decide +kernel) (by kernel_rfl) rfl (Ac (pv 2)) (fun _ _ _ _ _ _=>Ba (AX CZ (AU Bx (pv 0) (pv 1)) AJ (Ak _))) (fun _ _ _ _ _ _=>pv 0)) (Ay AC) (Ak _))
  case str =>
   intro cl s' H' C' fp pn;exact Ba (AX Er (pv 0) (pv 2) rfl)
  case alw =>
   intro cl s' H' C' fp pn;exact Ba (AX (O2 K rfl hu64) (As ["_law_more"] [some 1] (by kernel_rfl) (by decide +kernel) (by kernel_rfl) rfl (Ac (pv 2)) (fun _ _ _ _ _ _=>Ba (AX IB (AU Bx (pv 0) (pv 1)) AJ (Ak _))) (fun _ _ _ _ _ _=>pv 0)) (Ay AC) (Ak _))
  refine ⟨_,rfl,a,ns0,rfl,hS,h63,fun l as H1 s1 hl nd' hla h5 bh=>?_⟩
  refine ⟨l,rfl,⟨_,SqL.of hl⟩,BC (K:=K) (a:=l) (xs:=as.map V.ref) (fun i σ H2=>(∃ v1 v2 v3 v4 v5 v6 v7 v8 v9 v10 v11 v12 v13 v14 v15 v16 v17 v18 v19:Option V,σ=[some (.ref a),v1,v2,v3,v4,v5,v6,v7,v8,v9,v10,v11,v12,v13,v14,v15,v16,v17,v18,v19])/\H2 l=some (.lst (as.map V.ref))/\TabOk H2 P0 qL LS/\∀ (j:Nat) b,i <= j->as[j]?=some b->∃ x y:Int,H2 b=some (.lst [.int x,.int y]))
   ⟨⟨none,none,none,none,none,none,none,none,none,none,none,none,none,none,none,none,none,none,none,rfl⟩,hl,TabOk.same s1 hTab,fun j b _ e=>(bh b (mem_of_getElem? e)).2⟩ (fun i σ H2 _ ⟨_,e,_⟩=>SqL.of e) ?_ (fun σ H2 ⟨⟨v1,v2,v3,v4,v5,v6,v7,v8,v9,v10,v11,v12,v13,v14,v15,v16,v17,v18,v19,e⟩,_⟩=>by subst e; exact kend _)⟩
  rintro i v σ H2 hi ⟨⟨v1,v2,v3,v4,v5,v6,v7,v8,v9,v10,v11,v12,v13,v14,v15,v16,v17,v18,v19,rfl⟩,hl2,hT2,hds⟩;rw [getElem?_map] at hi;obtain ⟨d,hdi,rfl⟩:=Option.map_eq_some_iff.mp hi;obtain ⟨x,y,hd⟩:=hds i d (Nat.le_refl _) hdi;have hld:l ≠ d:=fun z=>hla (z ▸ mem_of_getElem? hdi);have hlP:l ≠ P0:=TabOk.ne hl2 hT2
  have fin:∀ v1 v2 v3 v4 v5 v6 v7 v8 v9 v10 v11 v12 v13 v14 v15 v16 v17 v18 v19:Option V,∀ H3 H',Rl d P0 H2 H3->K0 H3 H'->TabOk H' P0 qL LS->(∃ w1 w2 w3 w4 w5 w6 w7 w8 w9 w10 w11 w12 w13 w14 w15 w16 w17 w18 w19:Option V,[some (.ref a),v1,v2,v3,v4,v5,v6,v7,v8,v9,v10,v11,v12,v13,v14,v15,v16,v17,v18,v19]=[some (.ref a),w1,w2,w3,w4,w5,w6,w7,w8,w9,w10,w11,w12,w13,w14,w15,w16,w17,w18,w19])/\H' l=some (.lst (as.map V.ref))/\TabOk H' P0 qL LS/\∀ (j:Nat) b,i + 1 <= j->as[j]?=some b->∃ x y:Int,H' b=some (.lst [.int x,.int y]):=fun v1 v2 v3 v4 v5 v6 v7 v8 v9 v10 v11 v12 v13 v14 v15 v16 v17 v18 v19 H3 H' R K3 hT=>by
   refine ⟨⟨v1,v2,v3,v4,v5,v6,v7,v8,v9,v10,v11,v12,v13,v14,v15,v16,v17,v18,v19,rfl⟩,K3.l.lst (R _ _ hl2 hld hlP (fun _ z=>nomatch z)),hT,fun j b hj e=>?_⟩
   have hbd:b ≠ d:=fun z=>by
    subst z;obtain ⟨hj2,ej⟩:=List.getElem?_eq_some_iff.mp e;obtain ⟨hi2,ei⟩:=List.getElem?_eq_some_iff.mp hdi;exact (List.pairwise_iff_getElem.mp nd') i j hi2 hj2 (by omega) (by rw [ei,ej])
   obtain ⟨x5,y5,e5⟩:=hds j b (by omega) e;exact ⟨x5,y5,K3.l.lst (R _ _ e5 hbd (TabOk.ne e5 hT2) (fun _ z=>nomatch z))⟩
  refine ⟨_,rfl,d,x,y,8,rfl,by decide,by decide,hd,fun q f u fs bs0 rows Ha sXa hq hfn hun hf hP hu0 am r0 r8 RO ap=>?_⟩;refine ⟨q,_,rfl,SqT.of hq,rfl,_,_,rfl,_,_,rfl,rfl,?_⟩;obtain ⟨xa,ya,hda⟩:=sXa.dice;have fd_:f ≠ d:=fun z=>by rw [z,hd] at hfn; cases hfn
  have ud:u ≠ d:=fun z=>by rw [z,hd] at hun; cases hun
  have r8':rows.length <= 8:=by omega
  have DO:=Kp RO (by omega);have h8:(Ai rows).length <= 8:=by rw [Bs]; exact r8'
  have asc:Asc (Ai rows):=fun p hp=>(DO.nm p hp).2.1;refine ⟨_,rfl,d,xa,ya,rfl,hda,fun r Hb ao sXb=>?_⟩;obtain ⟨xb,yb,hdb⟩:=sXb.dice;have D1b:DueL Hb u (Ai rows):=DueL.sameX hda ud sXb ⟨bs0,hu0,am⟩;obtain ⟨bs1,al,hbsb⟩:=id D1b;refine ⟨_,rfl,u,bs1,Ai rows,rfl,al,hbsb,DO.len,DO.lt,fun t e m ms Hc sc ht he hm hms=>⟨_,_,rfl,?_⟩⟩;have hPb:Paired (RowAt Hb) fs rows:=BZ (fun b xs e=>KeepL.sameX hda sXb _ _ e (fun _ z=>nomatch z)) hP;have hfb:=sXb.old _ _ hf fd_
  have hmd:m ≠ d:=fun z=>by
   rw [z,sc _ _ hdb] at hm;exact Rq (Option.some.inj hm).symm
  refine ⟨_,rfl,_,rfl,?_⟩;intro k dk hk hdk av;have sN:=DB (D:=C) hk hdk av;refine ⟨k,dk,f,rows,r,rfl,upd_same,⟨fs,sN _ _ (sc _ _ hfb),BZ (SameT.of sN) (BZ (SameT.of sc) hPb)⟩,r0,by omega,RO,ao,fun Hd sd KA=>⟨rfl,?_⟩⟩;have sbd:=sc.trans (B5 sN hk sd);have LT:LTab Hd t e m ms (Ai rows):=(⟨ht,hm,hms⟩:LTab Hc t e m ms (Ai rows)).same (B5 sN hk sd);have hdd:=sbd _ _ hdb;have R0:Rl d P0 H2 Hd:=((Rl.sameX sXa).trans (Rl.sameX sXb)).trans (Rl.same sbd);have hT0:TabOk Hd P0 qL LS:=TabOk.same sbd (TabOk.sameX hda sXb (TabOk.sameX hd sXa hT2));have hfd:=sbd _ _ hfb;have hPd:Paired (RowAt Hd) fs rows:=BZ (SameT.of sbd) hPb;clear sN hk hdk av sd ht hm hms he sc al hbsb hPb hfb sXb hdb hda sXa hu0 am hf hP hq hfn hun;refine ⟨_,rfl,_,rfl,_,rfl,d,k,t,e,m,xb,yb,ms,Ai rows,r,rfl,hdd,KA,LT,hmd,h8,DO.nd,fun q2 p lw lf ns bs He sXe cb cc hq2 RU PWe PFe PN PB n6 hLL=>?_⟩;refine ⟨q2,_,rfl,SqT.of hq2,rfl,_,_,rfl,_,_,rfl,_,_,rfl,rfl,?_⟩;have kl:=KeepL.sameX hdd sXe;have KAe:=KA.keepL kl;have LTe:LTab He t e m ms (Ai rows):=⟨kl _ _ LT.ht (fun _ z=>nomatch z),sXe.old _ _ LT.hm hmd,TupsAt.sameT (fun b xs e=>kl _ _ e (fun _ z=>nomatch z)) LT.hms⟩;refine ⟨_,rfl,_,rfl,_,rfl,t,e,m,lw,lf,ms,Ai rows,ns,bs,rfl,LTe,PWe,PFe,DO.nd,h8,PN,PB,fun gl Hf sf hgl0 hgl=>?_⟩;obtain ⟨xe,ye,hde⟩:=sXe.dice;obtain ⟨xe,ye,hde⟩:=sXe.dice;have D0:DueL Hf u (Ai rows):=((DueL.sameX hdd ud sXe (D1b.same sbd)).same sf);have W0:Wl C RC P0 k t e m p lw lf gl u ms (Ai rows) r ns bs Hf:=⟨TabOk.same sf (TabOk.sameX hdd sXe hT0),KAe.same sf,LTe.same sf,RU.same sf,hgl,PWe.same sf,PFe.same sf,D0⟩;have R1:Rl d P0 H2 Hf:=(R0.trans (Rl.sameX sXe)).trans (Rl.same sf);clear hgl hgl0 sf LTe KAe kl hLL PFe PWe RU hq2 cb cc sXe hPd hfd hT0 R0 hdd LT KA hde D0;have mwd:∀ z ∈ AL (Ai rows),z ∈ wordsL:=fun z hz=>ap z (Kq rows ▸ Iy hz)
  have asn:∀ z ∈ AL (Ai rows),z.cps.all (· < 128)=true:=fun y hy=>by
   obtain ⟨p,hp,rfl⟩:=mem_map.mp (Iy hy);exact asc p hp
  have av:(An (Ai rows) ns bs).length <= 256:=by
   have h1:=length_filter_le (fun n=>(A5 (Ai rows) ns bs n).isNone) (uns (AG (Ai rows)));have h2:(uns (AG (Ai rows))).length <= 256:=by rw [FH]; exact Rf (Nat.le_trans (BG _) h8)
   exact Nat.le_trans h1 h2
  have ndn:=DO.nd;have nZ:("ZZ" : Str) ∉ AL (Ai rows):=fun z=>absurd (mwd _ z) (by decide +kernel);have nE:("" : Str) ∉ AL (Ai rows):=fun z=>absurd (mwd _ z) (by decide +kernel);have nA:("a" : Str) ∉ AL (Ai rows):=fun z=>absurd (mwd _ z) (by decide +kernel);clear mwd;generalize Ai rows=due at *;have hmk:=BG due;have hmnl:(AL due).length=(AG due).length:=AI _;have aq:ms.length=(AG due).length:=(AI _).symm.trans W0.lt.len;have hmr:(ms.map V.ref).length=(AG due).length:=W0.lt.len
  have asF:∀ g:Nat->Bool,∀ z ∈ ((AG due).filter g).map (Az (AN due)),z.cps.all (· < 128)=true:=fun g z hz=>by
   obtain ⟨n,hn,rfl⟩:=mem_map.mp hz;exact asn _ (mem_map.mpr ⟨n,(mem_filter.mp hn).1,rfl⟩)
  have lenF:∀ (g:Nat->Bool) (i:Nat),(((((AG due).take i).filter g).map (Az (AN due))).map V.str).length <= 1000:=fun g i=>by
   have:=length_filter_le g ((AG due).take i);rw [length_take] at this;rw [AI,AI];omega
  refine ⟨fun σ H'=>σ=[some (.ref a),some (.ref d),some (.ref f),some (.ref u),some (.str r),some (.ref t),some (.ref k),some (.ref p),some (.ref lw),some (.ref lf),some (.ref gl),v11,v12,v13,v14,v15,v16,v17,v18,v19]/\Same Hf H',fun R hR=>?_,?_⟩
  ·obtain ⟨dx,fs',d',ln,lb,ob,ll,hp,RFp,_⟩:=id W0.ru;refine ⟨_,rfl,p,dx,_,rfl,hp,RFp.no _ (by decide +kernel),p,k,due,ns,bs,rfl,W0.ru,ndn,h8,fun l2 H3 s3 hl2'=>?_⟩;rw [Qa] at hl2';have W3:=W0.same s3;refine ⟨_,rfl,t,_,rfl,.inl ⟨_,Sum.inr "marks", .inl (W3).lt.ht,rfl,(B4 _ _ _).symm⟩,m,rfl,⟨_,SqL.of W3.lt.hm⟩,Ag (K:=K) (a:=m) (xs:=ms.map V.ref) (fun i ys H4=>ys=((((AG due).take i).filter fun mm=>((An due ns bs).filter fun o=>decide (o &&& mm ≠ 0)).isEmpty).map (Az (AN due))).map V.str/\Same H3 H4) ⟨rfl,Same.refl _⟩ (fun i ys H4 _ ⟨_,s4⟩=>SqL.of (s4 _ _ W3.lt.hm)) (fun i ys H4 ⟨e,_⟩=>e ▸ lenF _ i) ?_ ?_⟩
   ·rintro i v ys H4 hi' ⟨rfl,s4⟩;have W4:=W3.same s4;obtain ⟨bb,n,rfl,hn,ai⟩:=Bk W4.lt.hms hi';have et:=PySem.take_succ_filter (fun mm=>((An due ns bs).filter fun o=>decide (o &&& mm ≠ 0)).isEmpty) _ i n hn;refine ⟨bb,_,rfl,SqT.of ai,rfl,_,_,rfl,_,_,rfl,rfl,?_⟩;refine TJ (gs:=An due ns bs) (n:=n) rfl W4.hgl av fun H5 s5=>?_;cases hb:((An due ns bs).filter fun o=>decide (o &&& n ≠ 0)).isEmpty with
    | true =>
     rw [hb,if_pos rfl] at et;refine Bd ⟨_,rfl,?_,s4.trans s5⟩;rw [et,map_append,map_append];rfl
    | false =>
     rw [hb,if_neg Bool.false_ne_true,append_nil] at et;exact A1 ⟨by rw [et],s4.trans s5⟩
   ·rintro ys H4 ⟨rfl,s4⟩ z hz;rw [hmr,take_length] at *;have sz:=AB s4 hz (o:=HO.lst ((((AG due).filter fun mm=>((An due ns bs).filter fun o=>decide (o &&& mm ≠ 0)).isEmpty).map (Az (AN due))).map V.str));refine ⟨_,_,BQ (sz _ _ hl2') (Dp _),BQ upd_same (Dp _),Co (asF _),Co (asF _),_,rfl,?_⟩;unfold TC;rw [D5];exact A1 (hR _ _ ⟨rfl,s3.trans sz⟩)
  rintro σ Hg ⟨rfl,sg⟩;refine ⟨fun σ H'=>(∃ y11 y12 y13 y14:Option V,σ=[some (.ref a),some (.ref d),some (.ref f),some (.ref u),some (.str r),some (.ref t),some (.ref k),some (.ref p),some (.ref lw),some (.ref lf),some (.ref gl),y11,y12,y13,y14,v15,v16,v17,v18,v19])/\Same Hf H',fun R hR=>?_,?_⟩
  ·have Wg:=W0.same sg;refine ⟨_,rfl,t,_,rfl,.inl ⟨_,Sum.inr "marks", .inl (Wg).lt.ht,rfl,(B4 _ _ _).symm⟩,m,rfl,⟨_,SqL.of Wg.lt.hm⟩,BC (K:=K) (a:=m) (xs:=ms.map V.ref) (fun i σ H'=>(∃ y11 y12 y13 y14:Option V,σ=[some (.ref a),some (.ref d),some (.ref f),some (.ref u),some (.str r),some (.ref t),some (.ref k),some (.ref p),some (.ref lw),some (.ref lf),some (.ref gl),y11,y12,y13,y14,v15,v16,v17,v18,v19])/\Same Hf H') ⟨⟨_,_,_,_,rfl⟩,sg⟩ (fun i σ H' _ ⟨_,s'⟩=>SqL.of (s' _ _ W0.lt.hm)) ?_ (fun σ H' h=>hR _ _ h)⟩;rintro i v σ H3 hi' ⟨⟨y11,y12,y13,y14,rfl⟩,s3⟩;have W3:=W0.same s3;obtain ⟨bb,n,rfl,hn,ai⟩:=Bk W3.lt.hms hi';have hnm:n ∈ AG due:=mem_of_getElem? hn;have hx:Az (AN due) n ∈ AL due:=mem_map.mpr ⟨n,hnm,rfl⟩;have hlk:look due (Az (AN due) n)=n:=C8 ndn (BU hnm);refine ⟨bb,_,rfl,SqT.of ai,rfl,_,_,rfl,_,_,rfl,rfl,?_⟩;refine ⟨_,rfl,gl,rfl,⟨_,SqL.of W3.hgl⟩,Ag (K:=K) (a:=gl) (xs:=AW (An due ns bs)) (fun j zs H5=>zs=AW (((An due ns bs).take j).filter fun o=>decide (o &&& n ≠ 0))/\H5=H3) ⟨rfl,rfl⟩ (fun j zs H5 _ ⟨_,e⟩=>e ▸ SqL.of W3.hgl) (fun j zs H5 ⟨e,_⟩=>?_) ?_ ?_⟩
   ·have:=length_filter_le (fun o=>decide (o &&& n ≠ 0)) ((An due ns bs).take j);rw [length_take] at this;rw [e,Am];omega
   ·rintro j x zs H5 hj ⟨rfl,rfl⟩;obtain ⟨o,ho,rfl⟩:=DK hj;have et:=PySem.take_succ_filter (fun o=>decide (o &&& n ≠ 0)) _ j o ho;refine ⟨_,rfl,_,rfl,_,_,rfl,rfl,rfl,_,rfl,?_⟩;rw [CW];by_cases h1:o &&& n=0
    ·rw [decide_eq_true h1];rw [decide_eq_false (fun z=>z h1),if_neg Bool.false_ne_true,append_nil] at et;exact A1 ⟨by rw [et],rfl⟩
    ·rw [decide_eq_false h1];rw [decide_eq_true h1,if_pos rfl] at et;refine Bd ⟨_,rfl,?_,rfl⟩;rw [et];unfold AW;rw [map_append];rfl
   rintro zs H5 ⟨rfl,rfl⟩ q5 hq5;rw [Am,take_length] at *;have s5:=AB (Same.refl _) hq5 (o:=HO.lst (AW ((An due ns bs).filter fun o=>decide (o &&& n ≠ 0))));have h5':=upd_same (H:=H5) (a:=q5) (o:=HO.lst (AW ((An due ns bs).filter fun o=>decide (o &&& n ≠ 0))));generalize upd H5 q5 (HO.lst (AW ((An due ns bs).filter fun o=>decide (o &&& n ≠ 0))))=H6 at s5 h5' ⊢;have W6:=W3.same s5;have hlS:((An due ns bs).filter fun o=>decide (o &&& n ≠ 0)).length <= 256:=Nat.le_trans (length_filter_le _ _) av;refine ⟨_,rfl,t,_,rfl,.inl ⟨_,Sum.inr "marks", .inl (W6).lt.ht,rfl,(B4 _ _ _).symm⟩,m,rfl,⟨_,SqL.of W6.lt.hm⟩,Ag (K:=K) (a:=m) (xs:=ms.map V.ref) (fun i ys H4=>ys=((((AG due).take i).filter fun mm=>(((An due ns bs).filter fun o=>decide (o &&& n ≠ 0)).filter fun o=>decide (o &&& mm=0)).isEmpty).map (Az (AN due))).map V.str/\Same H6 H4) ⟨rfl,Same.refl _⟩ (fun i ys H4 _ ⟨_,s4⟩=>SqL.of (s4 _ _ W6.lt.hm)) (fun i ys H4 ⟨e,_⟩=>e ▸ lenF _ i) ?_ ?_⟩
   ·rintro i v ys H4 hi2 ⟨rfl,s4⟩;have W4:=W6.same s4;obtain ⟨b2,n2,rfl,hn2,hbt2⟩:=Bk W4.lt.hms hi2;have et:=PySem.take_succ_filter (fun mm=>(((An due ns bs).filter fun o=>decide (o &&& n ≠ 0)).filter fun o=>decide (o &&& mm=0)).isEmpty) _ i n2 hn2;refine ⟨b2,_,rfl,SqT.of hbt2,rfl,_,_,rfl,_,_,rfl,rfl,?_⟩;refine TK (gs:=(An due ns bs).filter fun o=>decide (o &&& n ≠ 0)) (n:=n2) rfl (s4 _ _ h5') hlS fun H7 s7=>?_;cases hb:(((An due ns bs).filter fun o=>decide (o &&& n ≠ 0)).filter fun o=>decide (o &&& n2=0)).isEmpty with
    | true =>
     rw [hb,if_pos rfl] at et;refine Bd ⟨_,rfl,?_,s4.trans s7⟩;rw [et,map_append,map_append];rfl
    | false =>
     rw [hb,if_neg Bool.false_ne_true,append_nil] at et;exact A1 ⟨by rw [et],s4.trans s7⟩
   ·rintro ys H4 ⟨rfl,s4⟩ z hz;rw [hmr,take_length] at *;have sz:=AB s4 hz (o:=HO.lst ((((AG due).filter fun mm=>(((An due ns bs).filter fun o=>decide (o &&& n ≠ 0)).filter fun o=>decide (o &&& mm=0)).isEmpty).map (Az (AN due))).map V.str));have hzz:=upd_same (H:=H4) (a:=z) (o:=HO.lst ((((AG due).filter fun mm=>(((An due ns bs).filter fun o=>decide (o &&& n ≠ 0)).filter fun o=>decide (o &&& mm=0)).isEmpty).map (Az (AN due))).map V.str));generalize upd H4 z _=H8 at sz hzz ⊢;have W8:=W6.same sz;obtain ⟨dx,fs',d',ln,lb,ob,ll,hp,RFp,_⟩:=id W8.ru;refine ⟨_,rfl,p,dx,_,rfl,hp,RFp.no _ (by decide +kernel),_,rfl,p,k,due,r,ns,bs,_,rfl,W8.ru,W8.ka,ndn,h8,hx,fun l2 H9 s9 hl9=>?_⟩;rw [OQ,hlk] at hl9;refine ⟨_,rfl,_,_,BQ hl9 (Dp _),BQ (s9 _ _ hzz) (Dp _),Co (asF _),Co (asF _),_,rfl,?_⟩;unfold TD;rw [D5];exact A1 ⟨⟨_,_,_,_,rfl⟩,s3.trans (s5.trans (sz.trans s9))⟩
  clear sg;rintro σ Hg ⟨⟨y11,y12,y13,y14,rfl⟩,sg⟩;refine ⟨fun σ H'=>∃ lm:Addr,σ=[some (.ref a),some (.ref d),some (.ref f),some (.ref u),some (.str r),some (.ref t),some (.ref k),some (.ref p),some (.ref lw),some (.ref lf),some (.ref gl),y11,y12,y13,y14,some (.ref lm),v16,v17,v18,v19]/\H' lm=some (.lst ((AL due).map V.str))/\Same Hf H',fun R hR=>?_,?_⟩
  ·have Wg:=W0.same sg;refine ⟨_,rfl,t,_,rfl,.inl ⟨_,Sum.inr "marks", .inl (Wg).lt.ht,rfl,(B4 _ _ _).symm⟩,m,rfl,⟨_,SqL.of Wg.lt.hm⟩,Ag (K:=K) (a:=m) (xs:=ms.map V.ref) (fun i ys H4=>ys=((AL due).take i).map V.str/\H4=Hg) ⟨rfl,rfl⟩ (fun i ys H4 _ ⟨_,e⟩=>e ▸ SqL.of Wg.lt.hm) (fun i ys H4 ⟨e,_⟩=>by rw [e,AI,length_take]; omega) ?_ ?_⟩
   ·rintro i v ys H4 hi' ⟨rfl,rfl⟩;obtain ⟨bb,n,rfl,hn,ai⟩:=Bk Wg.lt.hms hi';refine ⟨bb,_,rfl,SqT.of ai,rfl,_,_,rfl,_,_,rfl,rfl,_,rfl,?_,rfl⟩;have e:(AL due)[i]?=some (Az (AN due) n):=by unfold AL; rw [getElem?_map,hn]; rfl
    rw [take_add_one,e,Option.toList_some,map_append];rfl
   ·rintro ys H4 ⟨rfl,rfl⟩ z hz;rw [hmr,← hmnl,take_length];exact hR _ _ ⟨z,rfl,upd_same,AB sg hz⟩
  clear sg;rintro σ Hg ⟨lm,rfl,hlm,sg⟩;refine ⟨fun σ H'=>∃ (ls:Addr) (xs:List V),σ=[some (.ref a),some (.ref d),some (.ref f),some (.ref u),some (.str r),some (.ref t),some (.ref k),some (.ref p),some (.ref lw),some (.ref lf),some (.ref gl),y11,y12,y13,y14,some (.ref lm),some (.ref ls),v17,v18,v19]/\H' ls=some (.lst xs)/\Uj K due xs/\H' lm=some (.lst ((AL due).map V.str))/\Same Hf H',fun R hR=>?_,?_⟩
  ·have Wg:=W0.same sg;obtain ⟨bs5,hu5,hbs5⟩:=Wg.du;refine ⟨_,rfl,u,rfl,⟨_,SqL.of hu5⟩,Ag (K:=K) (a:=u) (xs:=bs5.map V.ref) (fun i ys H'=>(∃ sn:List Str,ys=sn.map V.str/\sn.length <= i/\i <= 8/\∀ x ∈ sn,x ∉ AL due)/\H'=Hg) ⟨⟨[],rfl,Nat.le_refl _,by decide,fun x hx=>by cases hx⟩,rfl⟩ (fun i ys H' _ ⟨_,e⟩=>e ▸ SqL.of hu5) (fun i ys H' ⟨⟨sn,e,h1,h2,_⟩,_⟩=>by rw [e,AI]; omega) ?_ ?_⟩
   ·rintro i v ys H6 hi' ⟨⟨sn,rfl,hyl,hi6,hys⟩,rfl⟩;obtain ⟨bb,pr,rfl,hb1,aj,ai⟩:=C9 hbs5 hi';have hi8:i + 1 <= 8:=by have:=(List.getElem?_eq_some_iff.mp aj).1; omega
    refine ⟨bb,_,rfl,SqT.of ai,rfl,_,_,rfl,_,_,rfl,rfl,?_⟩;refine ⟨_,rfl,_,rfl,lm,_,rfl,.inl (SqL.of hlm),rfl,B1 _,_,rfl,?_⟩;refine CL (fun hc=>?_) (fun hc=>⟨⟨sn,rfl,by omega,hi8,hys⟩,rfl⟩)
    have hnn:pr.1 ∉ AL due:=fun z=>by
     have h1:inV (.str pr.1) ((AL due).map V.str)=true:=by
      rw [GE,any_eq_true];exact ⟨_,z,by simp⟩
     have h2:(!inV (.str pr.1) ((AL due).map V.str))=true:=hc;rw [h1] at h2;cases h2
    refine ⟨_,rfl,⟨sn++[pr.1],by rw [map_append]; rfl,by rw [length_append]; show sn.length + 1 <= i + 1; omega,hi8,fun x hx=>?_⟩,rfl⟩;rcases mem_append.mp hx with z | z
    ·exact hys x z
    ·rw [mem_singleton.mp z];exact hnn
   ·rintro ys H6 ⟨⟨sn,rfl,hyl,hi6,hys⟩,rfl⟩ p2 ak;have s7:=AB (Same.refl _) ak (o:=HO.lst (sn.map V.str));refine ⟨(by show 5 <= sizeLine; decide),fun p3 hp3=>?_⟩;have s8:=AB (Same.refl _) hp3 (o:=HO.lst [V.str "ZZ", V.str "", V.non,V.int 5,V.str "a"]);refine ⟨p2,p3,_,_,rfl,rfl,s8 _ _ upd_same,upd_same,Nat.le_of_lt (AT (by rw [AI]; show sn.length + 5 <= _; omega)),fun pb hpb=>?_⟩;have s9:=AB (Same.refl _) hpb (o:=HO.lst (sn.map V.str++[V.str "ZZ", V.str "", V.non,V.int 5,V.str "a"]));have sT:=s7.trans (s8.trans s9);refine hR _ _ ⟨pb,_,rfl,upd_same,⟨fun H v hv=>?_,fun v hv=>?_,?_⟩,sT _ _ hlm,sg.trans sT⟩
    ·rcases mem_append.mp hv with z | z
     ·obtain ⟨x,hx,rfl⟩:=mem_map.mp z;exact Ej ndn (hys x hx)
     ·simp only [mem_cons,not_mem_nil,or_false] at z;rcases z with rfl | rfl | rfl | rfl | rfl
      ·exact Ej ndn nZ
      ·exact Ej ndn nE
      ·exact .inr ⟨MM NT.ns,rfl⟩
      ·exact .inr ⟨MO NT.is,rfl⟩
      ·exact Ej ndn nA
    ·match sn,hys,hv with
     | [],_,hv =>
      have hv':v ∈ [V.str "ZZ", V.str ""]:=hv;simp only [mem_cons,not_mem_nil,or_false] at hv';rcases hv' with rfl | rfl
      ·exact ⟨_,rfl,nZ⟩
      ·exact ⟨_,rfl,nE⟩
     | [x],hys,hv =>
      have hv':v ∈ [V.str x,V.str "ZZ"]:=hv;simp only [mem_cons,not_mem_nil,or_false] at hv';rcases hv' with rfl | rfl
      ·exact ⟨_,rfl,hys x (mem_cons_self ..)⟩
      ·exact ⟨_,rfl,nZ⟩
     | x :: y :: rr,hys,hv =>
      have hv':v ∈ [V.str x,V.str y]:=hv;simp only [mem_cons,not_mem_nil,or_false] at hv';rcases hv' with rfl | rfl
      ·exact ⟨_,rfl,hys x (mem_cons_self ..)⟩
      ·exact ⟨_,rfl,hys y (mem_cons_of_mem _ (mem_cons_self ..))⟩
    ·rw [length_append,AI];show sn.length + 5 <= 13;omega
  clear sg hlm;rintro σ Hg ⟨ls,xs,rfl,hls,ST,hlm,sg⟩;have ewN:wd 5 = "BadName" := rfl;have ewP:wd 8 = "BadPairs" := rfl;refine ⟨fun σ H'=>(∃ y17:Option V,σ=[some (.ref a),some (.ref d),some (.ref f),some (.ref u),some (.str r),some (.ref t),some (.ref k),some (.ref p),some (.ref lw),some (.ref lf),some (.ref gl),y11,y12,y13,y14,some (.ref lm),some (.ref ls),y17,v18,v19])/\TabOk H' P0 qL LS/\K0 Hg H',fun R hR=>?_,?_⟩
  ·refine ⟨_,rfl,ls,rfl,⟨_,SqL.of hls⟩,BC (K:=K) (a:=ls) (xs:=xs) (fun j σ H'=>(∃ y17:Option V,σ=[some (.ref a),some (.ref d),some (.ref f),some (.ref u),some (.str r),some (.ref t),some (.ref k),some (.ref p),some (.ref lw),some (.ref lf),some (.ref gl),y11,y12,y13,y14,some (.ref lm),some (.ref ls),y17,v18,v19])/\TabOk H' P0 qL LS/\K0 Hg H') ⟨⟨_,rfl⟩,(W0.same sg).tb,K0.refl _⟩ (fun j σ H6 _ ⟨_,_,R6⟩=>SqL.of (R6.l.lst hls)) ?_ (fun σ H6 h=>hR _ _ h)⟩;rintro j v σ H6 hj ⟨⟨y17,rfl⟩,T6,R6⟩;refine ⟨T6,fun H7 sB T7=>?_⟩;have R7:=R6.trans (K0.sameB T6 sB);have W7:=(W0.same sg).go R7 T7;obtain ⟨dx,fs',d',ln,lb,ob,ll,hp,RFp,_⟩:=id W7.ru;refine ⟨_,rfl,p,dx,_,rfl,hp,RFp.no _ (by decide +kernel),_,rfl,p,k,due,ns,bs,v,rfl,W7.ru,ST.no _ v (mem_of_getElem? hj),fun e H8 s8 _ he=>?_⟩;refine Jt (e:=e) EPN T7 s8 fun p2 H10 T10 R10 ak=>?_;rw [ewN] at ak;refine ⟨sl2,fun q2 hq2=>?_⟩;have sQ:=AB (Same.refl _) hq2 (o:=HO.tup [V.str "refused", V.str "BadName"]);refine ⟨_,_,GG (sQ _ _ ak),GG upd_same,Hm,Hm,_,rfl,?_⟩;rw [NK];exact A1 ⟨⟨_,rfl⟩,TabOk.same sQ T10,(R7.trans R10).trans (K0.of sQ)⟩
  rintro σ Hh ⟨⟨y17,rfl⟩,Th,Rh⟩;have Wh:=(W0.same sg).go Rh Th;have R2:K0 Hf Hh:=(K0.of sg).trans Rh;have hls:=Rh.l.lst hls;have hlm:=Rh.l.lst hlm;clear W0 sg Rh Th
  let GB:Nat->St->Hp->Prop:=fun n σ H'=>(∃ (lb:Addr) (zs:List V) (y11:Option V),σ=[some (.ref a),some (.ref d),some (.ref f),some (.ref u),some (.str r),some (.ref t),some (.ref k),some (.ref p),some (.ref lw),some (.ref lf),some (.ref gl),y11,y12,y13,y14,some (.ref lm),some (.ref ls),some (.ref lb),v18,v19]/\H' lb=some (.lst zs)/\zs.length <= n/\All (PvB K due) H' zs)/\Same Hh H'
  refine ⟨GB 9,fun R hR=>?_,?_⟩
  ·show JI _ _ _ _;refine QZ (Ps:=All (PvB K due)) (n:=9) ?_ (by decide) _ _ (Same.refl _) (fun lb vs H4 s4 hlb hn hv=>hR _ _ ⟨⟨lb,vs,_,rfl,hlb,Nat.le_of_eq hn,hv⟩,s4⟩)
   exact (.consA (Gv.imp Gv.c PvB.mono (by rintro H v rfl; exact .inl (.inl rfl)))
     (.consA (Gv.imp Gv.c PvB.mono (by rintro H v rfl; exact .inl (.inr (.inl ⟨_,rfl⟩))))
     (.consA (Gv.imp Gv.c PvB.mono (by rintro H v rfl; exact .inl (.inr (.inr ⟨_,rfl⟩))))
     (.consA (Gv.imp (Gv.lst (.cons .c .nil)) PvB.mono (by rintro H v ⟨a1,_,rfl,h1,_,_,rfl,rfl,rfl⟩; exact CN h1 (Qb (MM NT.nt))))
     (.consA (Gv.imp (Gv.lst (.cons (.tup .nil) .nil)) PvB.mono (by rintro H v ⟨a1,_,rfl,h1,_,_,rfl,⟨a2,_,rfl,h2,rfl⟩,rfl⟩; exact CN h1 (MP h2 (by decide))))
     (.consA (Gv.imp (Gv.lst (.cons (.tup (.cons .c .nil)) .nil)) PvB.mono (by rintro H v ⟨a1,_,rfl,h1,_,_,rfl,⟨a2,_,rfl,h2,_,_,rfl,rfl,rfl⟩,rfl⟩; exact CN h1 (MP h2 (by show (1:Nat) ≠ 2; decide))))
     (.consA (Gv.imp (Gv.lst (.cons .c .nil)) PvB.mono (by rintro H v ⟨a1,_,rfl,h1,_,_,rfl,rfl,rfl⟩; exact CN h1 (Qb (TF NT.st))))
     (.consA (Gv.imp (Gv.lst (.cons (.tup (.cons .c (.cons .c .nil))) .nil)) PvB.mono (by rintro H v ⟨a1,_,rfl,h1,_,_,rfl,⟨a2,_,rfl,h2,_,_,rfl,rfl,_,_,rfl,rfl,rfl⟩,rfl⟩; exact CN h1 (Ft h2 (.inr ⟨MO NT.is,rfl⟩) (.inr ⟨MO NT.is,rfl⟩) rfl)))
     (.consA (Gv.imp (Gv.lst (.cons (.tup (.cons .c (.cons .c .nil))) .nil)) PvB.mono (by rintro H v ⟨a1,_,rfl,h1,_,_,rfl,⟨a2,_,rfl,h2,_,_,rfl,rfl,_,_,rfl,rfl,rfl⟩,rfl⟩; exact CN h1 (Ft h2 (Ej ndn nZ) (.inl ⟨_,rfl,rfl⟩) rfl)))
     (.nilA PvB.mono))))))))))
  rintro σ Hi ⟨⟨lb,zs,z11,rfl,hlb,hzl,hzv⟩,si⟩;refine ⟨GB 23,fun R hR=>?_,?_⟩
  ·refine ⟨_,rfl,_,rfl,lm,_,rfl,SqL.of (si _ _ hlm),fun ml hml2=>?_⟩;rw [show Ho ((AL due).map V.str) none (some 2)=((AL due).map V.str).take 2 from JD _ 2];have sm:=AB (Same.refl _) hml2 (o:=HO.lst (((AL due).map V.str).take 2));have hmm:=upd_same (H:=Hi) (a:=ml) (o:=HO.lst (((AL due).map V.str).take 2));generalize upd Hi ml (HO.lst (((AL due).map V.str).take 2))=Hj at sm hmm ⊢;have hl22:(((AL due).map V.str).take 2).length <= 2:=by rw [length_take]; omega
   refine ⟨ml,rfl,⟨_,SqL.of hmm⟩,BC (K:=K) (a:=ml) (xs:=((AL due).map V.str).take 2) (fun j σ H'=>(∃ (lb:Addr) (zs:List V) (y11:Option V),σ=[some (.ref a),some (.ref d),some (.ref f),some (.ref u),some (.str r),some (.ref t),some (.ref k),some (.ref p),some (.ref lw),some (.ref lf),some (.ref gl),y11,y12,y13,y14,some (.ref lm),some (.ref ls),some (.ref lb),v18,v19]/\H' lb=some (.lst zs)/\zs.length <= 9 + 7 * j/\All (PvB K due) H' zs)/\Same Hj H')
    ⟨⟨lb,zs,_,rfl,sm _ _ hlb,by omega,fun v hv=>PvB.mono _ _ _ sm (hzv v hv)⟩,Same.refl _⟩ (fun j σ H' _ ⟨_,s'⟩=>SqL.of (s' _ _ hmm)) ?_ (fun σ H' ⟨⟨lb,zs,z11,e,h1,h2,h3⟩,s'⟩=>hR _ _ ⟨⟨lb,zs,z11,e,h1,by omega,h3⟩,si.trans (sm.trans s')⟩)⟩
   clear hlb hzl hzv;rintro j v σ H6 hj ⟨⟨lb,zs,z11,rfl,hlb,hzl,hzv⟩,s6⟩;have hj2:j < 2:=by have:=(List.getElem?_eq_some_iff.mp hj).1; rw [length_take] at this; omega
   obtain ⟨nx,hx,rfl⟩:∃ nx ∈ AL due,v=V.str nx:=by
    obtain ⟨x,hx,e⟩:=mem_map.mp (List.mem_of_mem_take (mem_of_getElem? hj));exact ⟨x,hx,e.symm⟩
   let GC:Nat->St->Hp->Prop:=fun n σ H'=>(∃ (lb:Addr) (zs:List V),σ=[some (.ref a),some (.ref d),some (.ref f),some (.ref u),some (.str r),some (.ref t),some (.ref k),some (.ref p),some (.ref lw),some (.ref lf),some (.ref gl),some (.str nx),y12,y13,y14,some (.ref lm),some (.ref ls),some (.ref lb),v18,v19]/\H' lb=some (.lst zs)/\zs.length <= n/\All (PvB K due) H' zs)/\Same Hj H'
   refine ⟨GC (9 + 7 * j + 4),fun R hR2=>?_,?_⟩
   ·refine NM (ix:=17) (n:=4) rfl hlb hzv PvB.mono (by omega) ?_ (fun pb ys H7 s7 hpb hn hv=>hR2 _ _ ⟨⟨pb,ys,rfl,hpb,by omega,hv⟩,s6.trans s7⟩)
    exact (.consA (Gv.imp (Gv.lst (.cons (.tup (.cons (Gv.is fun _ _ _ q=>⟨_,rfl,q⟩) (.cons (Gv.is fun _ _ _ q=>⟨_,rfl,q⟩) .nil))) .nil)) PvB.mono (by rintro H v ⟨a1,_,rfl,h1,_,_,rfl,⟨a2,_,rfl,h2,_,_,rfl,rfl,_,_,rfl,rfl,rfl⟩,rfl⟩; exact CN h1 (Ft h2 (FN ndn hx) (FN ndn hx) (by rw [decide_eq_true rfl]; rfl))))
     (.consA (Gv.imp (Gv.lst (.cons (.tup (.cons (Gv.is fun _ _ _ q=>⟨_,rfl,q⟩) (.cons .c .nil))) .nil)) PvB.mono (by rintro H v ⟨a1,_,rfl,h1,_,_,rfl,⟨a2,_,rfl,h2,_,_,rfl,rfl,_,_,rfl,rfl,rfl⟩,rfl⟩; exact CN h1 (Ft h2 (FN ndn hx) (Ej ndn nZ) rfl)))
     (.consA (Gv.imp (Gv.lst (.cons (.lst (.cons (Gv.is fun _ _ _ q=>⟨_,rfl,q⟩) (.cons (Gv.is fun _ _ _ q=>⟨_,rfl,q⟩) .nil))) .nil)) PvB.mono (by rintro H v ⟨a1,_,rfl,h1,_,_,rfl,⟨a2,_,rfl,h2,_,_,rfl,rfl,_,_,rfl,rfl,rfl⟩,rfl⟩; exact CN h1 (Qb (TH NT.lt h2))))
     (.consA (Gv.imp (Gv.lst (.cons (.tup (.cons (Gv.is fun _ _ _ q=>⟨_,rfl,q⟩) (.cons (Gv.is fun _ _ _ q=>⟨_,rfl,q⟩) (.cons (Gv.is fun _ _ _ q=>⟨_,rfl,q⟩) .nil)))) .nil)) PvB.mono (by rintro H v ⟨a1,_,rfl,h1,_,_,rfl,⟨a2,_,rfl,h2,_,_,rfl,rfl,_,_,rfl,rfl,_,_,rfl,rfl,rfl⟩,rfl⟩; exact CN h1 (MP h2 (by show (3:Nat) ≠ 2; decide))))
     (.nilA PvB.mono)))))
   clear hlb hzl hzv s6;rintro σ H6 ⟨⟨lb,zs,rfl,hlb,hzl,hzv⟩,s6⟩;refine ⟨GC (9 + 7 * j + 5),fun R hR2=>?_,?_⟩
   ·refine NM (ix:=17) (n:=1) rfl hlb hzv PvB.mono (by omega) ?_ (fun pb ys H7 s7 hpb hn hv=>hR2 _ _ ⟨⟨pb,ys,rfl,hpb,by omega,hv⟩,s6.trans s7⟩)
    exact (.consA (Gv.imp (Gv.lst (.cons (.tup (.cons (Gv.is fun _ _ _ q=>⟨_,rfl,q⟩) (.cons .c .nil))) .nil)) PvB.mono (by rintro H v ⟨a1,_,rfl,h1,_,_,rfl,⟨a2,_,rfl,h2,_,_,rfl,rfl,_,_,rfl,rfl,rfl⟩,rfl⟩; exact CN h1 (Ft h2 (FN ndn hx) (.inr ⟨MM NT.ns,rfl⟩) rfl)))
     (.nilA PvB.mono))
   clear hlb hzl hzv s6;rintro σ H6 ⟨⟨lb,zs,rfl,hlb,hzl,hzv⟩,s6⟩;have sh6:=si.trans (sm.trans s6);refine ⟨_,rfl,_,rfl,_,rfl,ls,_,rfl,SqL.of (sh6 _ _ hls),fun sl hsl=>?_⟩;rw [show Ho xs none (some 2)=xs.take 2 from JD _ 2];have ss:=AB (Same.refl _) hsl (o:=HO.lst (xs.take 2));have hss:=upd_same (H:=H6) (a:=sl) (o:=HO.lst (xs.take 2));generalize upd H6 sl (HO.lst (xs.take 2))=H7 at ss hss ⊢;have hx2:(xs.take 2).length <= 2:=by rw [length_take]; omega
   refine ⟨sl,rfl,⟨_,SqL.of hss⟩,Ag (K:=K) (a:=sl) (xs:=xs.take 2) (fun i ys H'=>All (PvB K due) H' ys/\ys.length=i/\i <= 2/\Same H7 H') ⟨(fun v hv=>by cases hv),rfl,by decide,Same.refl _⟩ (fun i ys H' _ ⟨_,_,_,s'⟩=>SqL.of (s' _ _ hss)) (fun i ys H' ⟨_,h1,h2,_⟩=>by omega) ?_ ?_⟩
   ·rintro i v ys H8 hi' ⟨hys,hyl,hi2,s8⟩;obtain ⟨x,rfl,hnx⟩:=ST.two v (mem_of_getElem? hi');have hi3:i + 1 <= 2:=by have:=(List.getElem?_eq_some_iff.mp hi').1; omega
    refine ⟨_,rfl,_,rfl,sl2,fun ea hea=>⟨sl1,fun le hle=>?_⟩⟩;have q2:=AB (Same.refl _) hea (o:=HO.tup [.str nx,.str x]);have q3:=AB (Same.refl _) hle (o:=HO.lst [.ref ea]);have sA:=q2.trans q3;refine ⟨fun v hv=>?_,by rw [length_append]; show ys.length + 1=i + 1; omega,hi3,s8.trans sA⟩;rcases mem_append.mp hv with z | z
    ·exact PvB.mono _ _ _ sA (hys v z)
    ·rw [mem_singleton] at z;subst z;exact CN upd_same (Ft (q3 _ _ upd_same) (FN ndn hx) (Ej ndn hnx) rfl)
   ·rintro ys H8 ⟨hys,hyl,hi2,s8⟩ p2 ak;have s9:=AB (Same.refl _) ak (o:=HO.lst ys);have s69:=ss.trans (s8.trans s9);refine ⟨lb,p2,zs,ys,rfl,rfl,s69 _ _ hlb,upd_same,Nat.le_of_lt (AT (by omega)),fun pb hpb=>?_⟩;have s10:=AB (Same.refl _) hpb (o:=HO.lst (zs++ys));refine ⟨⟨pb,_,_,rfl,upd_same,by rw [length_append]; omega,fun v hv=>?_⟩,s6.trans (s69.trans s10)⟩;rcases mem_append.mp hv with z | z
    ·exact PvB.mono _ _ _ (s69.trans s10) (hzv v z)
    ·exact PvB.mono _ _ _ (s9.trans s10) (hys v z)
  clear hlb hzl hzv si;rintro σ Hi ⟨⟨lb,zs,z11,rfl,hlb,hzl,hzv⟩,si⟩;have Wi:=Wh.same si;have R3:=R2.trans (K0.of si);have hlm:=si _ _ hlm;clear Wh R2 hls si;refine ⟨fun σ H'=>(∃ y18 y19:Option V,σ=[some (.ref a),some (.ref d),some (.ref f),some (.ref u),some (.str r),some (.ref t),some (.ref k),some (.ref p),some (.ref lw),some (.ref lf),some (.ref gl),z11,y12,y13,y14,some (.ref lm),some (.ref ls),some (.ref lb),y18,y19])/\TabOk H' P0 qL LS/\K0 Hi H',fun R hR=>?_,?_⟩
  ·refine ⟨_,rfl,lb,rfl,⟨_,SqL.of hlb⟩,BC (K:=K) (a:=lb) (xs:=zs) (fun j σ H'=>(∃ y18 y19:Option V,σ=[some (.ref a),some (.ref d),some (.ref f),some (.ref u),some (.str r),some (.ref t),some (.ref k),some (.ref p),some (.ref lw),some (.ref lf),some (.ref gl),z11,y12,y13,y14,some (.ref lm),some (.ref ls),some (.ref lb),y18,y19])/\TabOk H' P0 qL LS/\K0 Hi H') ⟨⟨_,_,rfl⟩,Wi.tb,K0.refl _⟩ (fun j σ H6 _ ⟨_,_,R6⟩=>SqL.of (R6.l.lst hlb)) ?_ (fun σ H6 h=>hR _ _ h)⟩;rintro j v σ H6 hj ⟨⟨y18,y19,rfl⟩,T6,R6⟩;have hbad:=hzv v (mem_of_getElem? hj);refine ⟨fun σ H'=>∃ (fl q1:Addr),σ=[some (.ref a),some (.ref d),some (.ref f),some (.ref u),some (.str r),some (.ref t),some (.ref k),some (.ref p),some (.ref lw),some (.ref lf),some (.ref gl),z11,y12,y13,y14,some (.ref lm),some (.ref ls),some (.ref lb),some v,some (.ref fl)]/\H' fl=some (.lst [.ref q1])/\H' q1=some (.tup [.str "refused", .str "BadPairs"])/\TabOk H' P0 qL LS/\∀ b o,Hi b=some o->(∀ ps,o ≠ .tbl ps)->(∀ g,o ≠ .ext g)->b ≠ fl/\H' b=some o,fun R hR2=>?_,?_⟩
   ·refine ⟨T6,fun H7 sB T7=>?_⟩;have R7:=R6.trans (K0.sameB T6 sB);have W7:=Wi.go R7 T7;refine ⟨_,rfl,_,rfl,_,rfl,?_⟩;intro q dq hq hdq av;have sN:=DB (D:=RC) hq hdq av;refine ⟨q,dq,k,v,_,due,r,rfl,upd_same,W7.ka.same sN,h8,ndn,.inl ((hbad.same R7.l).same (Jn sN)),fun e9 H9 s9 he=>?_⟩;refine Jt (e:=e9) EPP T7 (B5 sN hq s9) fun p2 H10 T10 R10 ak=>?_;rw [ewP] at ak;refine ⟨sl1,fun fl ae=>hR2 _ _ ⟨fl,p2,rfl,upd_same,?_,TabOk.same (BR ae) T10,fun b o e1 e2 e3=>?_⟩⟩
    ·exact BR ae _ _ ak
    ·have:=(R7.trans R10) b o e1 e2 e3;exact ⟨AH this ae,BR ae _ _ this⟩
   rintro σ H7 ⟨fl,q1,rfl,ae,hq1,T7,K7⟩;refine ⟨fun σ H'=>∃ (q2:Addr),σ=[some (.ref a),some (.ref d),some (.ref f),some (.ref u),some (.str r),some (.ref t),some (.ref k),some (.ref p),some (.ref lw),some (.ref lf),some (.ref gl),z11,y12,y13,y14,some (.ref lm),some (.ref ls),some (.ref lb),some v,some (.ref fl)]/\H' fl=some (.lst [.ref q1,.ref q2])/\H' q1=some (.tup [.str "refused", .str "BadPairs"])/\H' q2=some (.tup [.str "refused", .str "BadPairs"])/\TabOk H' P0 qL LS/\K0 Hi H',fun R hR2=>?_,?_⟩
   ·refine ⟨_,rfl,.inl ⟨rfl,_,SqL.of ae⟩,T7,fun H8 sB T8=>?_⟩;have K78:=K0.sameB T7 sB;have K8:K0 Hi H8:=fun b o e1 e2 e3=>K78 b o (K7 b o e1 e2 e3).2 e2 e3;have W8:=Wi.go K8 T8;obtain ⟨as,hlw,has⟩:=id W8.pw;refine ⟨_,rfl,_,rfl,lw,_,rfl,.inl ⟨SqL.of hlw,fun tl htl=>?_⟩⟩;have st:=AB (Same.refl _) htl (o:=HO.tup (as.map V.ref));have htt:=upd_same (H:=H8) (a:=tl) (o:=HO.tup (as.map V.ref));generalize upd H8 tl (HO.tup (as.map V.ref))=H9 at st htt ⊢;refine ⟨_,rfl,?_⟩;intro q dq hq hdq av;have sN:=DB (D:=RC) hq hdq av;have s8N:=st.trans sN;refine ⟨q,dq,k,_,v,due,r,rfl,upd_same,W8.ka.same s8N,h8,ndn,.inr ⟨tl,ns,rfl,⟨as,.inr (SqT.of (sN _ _ htt)),TupsAt.same s8N has⟩,PN,(hbad.same K8.l).same (Jn s8N)⟩,fun e9 H10 s10 he=>?_⟩;refine Jt (e:=e9) EPP T8 (st.trans (B5 sN hq s10)) fun p2 H11 T11 R11 ak=>?_;rw [ewP] at ak;have hfl11:=R11.l.lst (K78.l.lst ae);have hq111:=R11.l.tup (K78.l.tup hq1);have nf:∀ b xs,H11 b=some (.tup xs)->b ≠ fl:=fun b xs e z=>by rw [z,hfl11] at e; cases e
    refine ⟨fl,_,_,rfl,rfl,hfl11,AT (by show 1 <= _; decide),hR2 _ _ ⟨p2,rfl,upd_same,?_,?_,TabOk.put hfl11 T11,fun b o e1 e2 e3=>?_⟩⟩
    ·rw [AE (nf _ _ hq111)];exact hq111
    ·rw [AE (nf _ _ ak)];exact ak
    ·rw [AE (K7 b o e1 e2 e3).1];exact R11 b o (K8 b o e1 e2 e3) e2 e3
   rintro σ H8 ⟨q2,rfl,hfl8,hq18,hq28,T8,K8⟩;refine ⟨_,rfl,sl2,fun z1 hz1=>⟨sl1,fun z2 hz2=>?_⟩⟩;have g1:=AB (Same.refl _) hz1 (o:=HO.tup [V.str "refused", V.str "BadPairs"]);have g2:=AB (Same.refl _) hz2 (o:=HO.lst [V.ref z1]);have e1:=g2 _ _ (upd_same (H:=H8) (a:=z1) (o:=HO.tup [V.str "refused", V.str "BadPairs"]));have e2:=upd_same (H:=upd H8 z1 (HO.tup [V.str "refused", V.str "BadPairs"])) (a:=z2) (o:=HO.lst [V.ref z1]);have g12:=g1.trans g2;generalize upd (upd H8 z1 (HO.tup [V.str "refused", V.str "BadPairs"])) z2 (HO.lst [V.ref z1])=H9 at g12 e1 e2 ⊢;refine ⟨z2,2,_,rfl,rfl,e2,by decide,by decide,(by show 1 * 2 <= sizeLine; decide),fun z3 hz3=>?_⟩;have g3:=AB (Same.refl _) hz3 (o:=HO.lst (List.replicate (2:Int).toNat [V.ref z1]).flatten);have e3:(upd H9 z3 (HO.lst (List.replicate (2:Int).toNat [V.ref z1]).flatten)) z3=some (.lst [.ref z1,.ref z1]):=by rw [upd_same]; rfl
   have e13:=g3 _ _ e1;have gT:=g12.trans g3;generalize upd H9 z3 (HO.lst (List.replicate (2:Int).toNat [V.ref z1]).flatten)=H10 at gT e3 e13 ⊢;refine ⟨_,_,BQ (gT _ _ hfl8) (NO (gT _ _ hq18) (gT _ _ hq28)),BQ e3 (NO e13 e13),Hn,Hn,_,rfl,?_⟩
   rw [D4 fun dd hdd=>by
    simp only [mem_cons,not_mem_nil,or_false] at hdd
    rcases hdd with rfl | rfl <;> exact NK _ _]
   exact A1 ⟨⟨_,_,rfl⟩,TabOk.same gT T8,K8.trans (K0.of gT)⟩
  rintro σ Hk ⟨⟨y18,y19,rfl⟩,Tk,Rk⟩;have Wk:=Wi.go Rk Tk;have R4:=R3.trans Rk;have hlm:=Rk.l.lst hlm;clear Wi R3 hlb hzv hzl Rk Tk;refine ⟨fun σ H'=>σ=[some (.ref a),some (.ref d),some (.ref f),some (.ref u),some (.str r),some (.ref t),some (.ref k),some (.ref p),some (.ref lw),some (.ref lf),some (.ref gl),z11,y12,y13,y14,some (.ref lm),some (.ref ls),some (.ref lb),y18,y19]/\Same Hk H',fun R hR=>?_,?_⟩
  ·obtain ⟨as,hlw,has⟩:=id Wk.pw;obtain ⟨cs,hlf,ax⟩:=id Wk.pf;have ar:as.length=ns.length:=by have:=has.length; unfold prV at this; rw [AI] at this; exact this
   refine ⟨_,rfl,_,rfl,_,rfl,lw,lw,_,_,rfl,rfl,hlw,hlw,Nat.le_of_lt (AT (by rw [AI]; omega)),fun l2 hl2=>?_⟩;have s2:=AB (Same.refl _) hl2 (o:=HO.lst (as.map V.ref++as.map V.ref));have h22:=upd_same (H:=Hk) (a:=l2) (o:=HO.lst (as.map V.ref++as.map V.ref));generalize upd Hk l2 (HO.lst (as.map V.ref++as.map V.ref))=H5 at s2 h22 ⊢;refine ⟨_,rfl,lf,_,rfl,.inl ⟨SqL.of (s2 _ _ hlf),fun tl htl=>?_⟩⟩;have s3:=AB (Same.refl _) htl (o:=HO.tup (cs.map V.ref));have h33:=upd_same (H:=H5) (a:=tl) (o:=HO.tup (cs.map V.ref));generalize upd H5 tl (HO.tup (cs.map V.ref))=H6 at s3 h33 ⊢;intro q dq hq hdq av;have sN:=DB (D:=RC) hq hdq av;have sA:=s2.trans (s3.trans sN);refine ⟨q,dq,k,l2,tl,due,r,ns++ns,bs,rfl,upd_same,Wk.ka.same sA,h8,ndn,⟨as++as,.inl (by rw [map_append]; exact sN _ _ (s3 _ _ h22)),?_⟩,⟨cs,.inr (SqT.of (sN _ _ h33)),TupsAt.same sA ax⟩,⟨by rw [length_append]; omega,fun x hx=>?_⟩,PB,fun H7 s7 RU _=>⟨rfl,?_⟩⟩
   ·unfold prV;rw [map_append];exact Ei (TupsAt.same sA has) (TupsAt.same sA has)
   ·rcases mem_append.mp hx with z | z
    ·exact PN.2 x z
    ·exact PN.2 x z
   have sE:=s2.trans (s3.trans (B5 sN hq s7));obtain ⟨dx,fs',d',ln,lb',ob,ll,hp,RFp,_⟩:=id RU;refine ⟨q,dx,_,rfl,hp,RFp.no _ (by decide +kernel),q,k,due,_,_,rfl,RU,_,rfl,gl,_,rfl,.inl (SqL.of (sE _ _ Wk.hgl)),rfl,_,rfl,?_⟩;rw [ML,Am,decide_eq_true (show V.int (((An due ns bs).length:Nat):Int)=V.int (((An due ns bs).length:Nat):Int) from rfl)];exact A1 (hR _ _ ⟨rfl,sE⟩)
  rintro σ Hl ⟨rfl,sl⟩;have Wm:=Wk.same sl;refine ⟨_,rfl,?_⟩;intro q dq hq hdq av;have sN:=DB (D:=RC) hq hdq av;refine ⟨q,dq,k,e1,e2,due,r,[],[],rfl,upd_same,Wm.ka.same sN,h8,ndn,⟨[],.inr (sJ1 _),.nil⟩,⟨[],.inr (sJ2 _),.nil⟩,⟨by decide,fun x hx=>by cases hx⟩,⟨by decide,fun x hx=>by cases hx⟩,fun H7 s7 RU _=>⟨rfl,?_⟩⟩;have sE:=B5 sN hq s7;obtain ⟨dx,fs',d',ln,lb',ob,ll,hp,RFp,_⟩:=id RU;refine ⟨q,dx,_,rfl,hp,RFp.no _ (by decide +kernel),q,k,due,_,_,rfl,RU,_,rfl,lm,_,rfl,.inl (SqL.of (sE _ _ (sl _ _ hlm))),_,_,rfl,rfl,?_⟩;have ay:((AL due).map V.str).length=(AG due).length:=by rw [AI]; exact hmnl
  have h9:(AG due).length <= 8:=Nat.le_trans hmk h8;refine ⟨⟨Int.natCast_nonneg _,by rw [ay]; omega,by decide⟩,rfl,_,rfl,?_⟩;rw [OR,FH,ay,decide_eq_true (show V.int (((2 ^ (AG due).length:Nat):Nat):Int)=V.int (1 * 2 ^ (((AG due).length:Nat):Int).toNat) by rw [Int.toNat_natCast,Int.one_mul]; push_cast; rfl)];exact A1 (fin _ _ _ _ _ _ _ _ _ _ _ _ _ _ _ _ _ _ _ Hf _ R1 (R4.trans (K0.of (sl.trans sE))) (TabOk.same sE Wm.tb))
end
theorem R9 {dt:Addr} {tk:Tok} {kV doc pm ad ct:Value} {an:Option Addr} {n:Nat} (hd:K.lookup dt=some ⟨.type "tuple", none,.seq #[.str "" tk] n,#[]⟩) :
  Binds K (W.fnOf "__init__" "MarkError.__init__" (defArgs BE) (defBody BE) (defScope BE) (.ref dt) kV doc pm an ad ct) ["self", "words"] []:=by
 intro s us hK hl
 have hl2:us.length=2:=by
  rw [append_nil] at hl;exact hl
 match us,hl2 with
 | [u1,u2],_ =>
  have ho:=hK _ _ hd;intro M A E Q hq;unfold bindArgs;simp only [W.fnOf]
  repeat (first | with_reducible refine wpAny_seqItems ho rfl ?_ | (with_reducible refine wpAny_bind (wpAny_seqItems ho rfl ?_)) | wp_step)
  exact Eq.mp (congrArg (fun z=>Q z s) (by kernel_rfl)) hq
theorem Ek {h:Heap} {N:Addr} {n:Str} {v:Value} (X:K.In h) (G:h.Ns N mg) (e:W.nsIn K N n=some (some v)):mg n=some v:=by
 obtain ⟨o,es,ep,ho,hd,_,hf⟩:=G;unfold W.nsIn at e;split at e
 ·rename_i c d es' n' sl q;have:=X _ _ q;rw [ho] at this;cases this;cases hd;split at e
  ·rename_i he;cases e;rw [← hf];unfold nsFind findBy;rw [← Array.find?_toList,he];rfl
  ·split at e <;> cases e
 ·cases e
theorem Rs {kV doc pm ad ct:Value} {an:Option Addr} :
  DZ K (W.fnOf "__init__" "Kind.__init__" (defArgs BS) (defBody BS) (defScope BS) .none kV doc pm an ad ct) ["self", "rows", "rest"] ["rest"] gU3 gV3:=by
 refine ⟨fun s us ws _ hl=>?_,fun {vs us zs ws} r rz=>?_⟩
 ·unfold gU3 at hl ⊢;split at hl
  ·exact .of_eq (by kernel_rfl)
  ·cases hl
 ·cases r with
  | nil=>exact .nil
  | cons r1 rr =>
   cases rr with
   | nil=>exact .nil
   | cons r2 rr =>
    cases rr with
    | cons _ _=>exact .nil
    | nil =>
     cases rz with
     | nil=>exact .nil
     | cons z1 zz =>
      cases zz with
      | nil=>exact .cons r1 (.cons r2 (.cons z1 .nil))
      | cons _ _=>exact .nil
theorem TM {kd:Addr} {v doc pm ad ct:Value} {an:Option Addr} (ok:W.nsOkIn K kd=true) (e:W.nsIn K kd "rest" = some (some v)) :
  Binds K (W.fnOf "__init__" "Kind.__init__" (defArgs BS) (defBody BS) (defScope BS) .none (.ref kd) doc pm an ad ct) ["self", "rows", "rest"] [v]:=by
 intro s us hK hl
 have hl2:us.length=2:=by
  rw [length_append] at hl;exact Nat.succ.inj hl
 match us,hl2 with
 | [u1,u2],_ =>
  have G:s.heap.Ns kd (s.heap.nsMap kd):=.of_isNs (W.isNs_of_in hK ok);have hm:s.heap.nsMap kd "rest" = some v:=Ek hK G e;intro M A E Q hq;unfold bindArgs;simp only [W.fnOf]
  repeat (first | (with_reducible refine wpAny_nsGet G ?_; rw [hm]) | wp_step)
  exact Eq.mp (congrArg (fun z=>Q z s) (by kernel_rfl)) hq
end Mk
end
section
namespace Mk
open PySem L2 MK PySem.W
noncomputable abbrev fO (x q:Str) (s:Stmt):=fnOf x q (defArgs s) (defBody s) (defScope s)
theorem Qd {K:Frag} {C:Addr} {T:String} (h:isClsIn K C=true) (h2:typeIn K (.ref C)=some (.type "type")) (e:subIn K (.type T) (.ref C)=some false):kitOne K (.type T) (.ref C)=some false:=by
 unfold kitOne;rw [if_neg (by simp)];unfold kitCls;show (if _ then _ else _)=_;rw [if_pos (by unfold isClsIn at h; rw [h,h2]; simp)];exact e
noncomputable def LA (K:Frag) (c P:Addr):Bool:=match K.lookup c with
 | some ⟨.type "code", _,.fields vs,_⟩=>(match (vs[11]?:Option Value),vs.getD 18 Value.none,vs.getD 7 Value.none,vs.getD 9 Value.none,vs.getD 10 Value.none with
  | some (.ref p),.str _ _,.int _ _,.bool _,.int _ _=>p == P && !(c == P)
  | _,_,_,_,_=>false)
 | _=>false
theorem codeHd_of {K:Frag} {h:Heap} {c P:Addr} (X:K.In h) (q:LA K c P=true):CodeHd h c P:=by
 unfold LA at q;split at q
 ·rename_i d vs sl ho;split at q
  ·rename_i p f tf fl tg b tx tt h11 h18 h7 h9 h10;rw [Bool.and_eq_true,beq_iff_eq] at q;obtain ⟨rfl,hn⟩:=q;refine ⟨_,vs,f,tf,fl,tg,b,tx,tt,X _ _ ho,rfl,rfl,h11,?_,h18,h7,h9,h10,fun z=>by simp [z] at hn⟩;rw [Array.getD_eq_getD_getElem?,h11];rfl
  ·cases q
 ·cases q
section
variable {P:Program} {w:World} {K:Frag} {mg:SV} {base:Heap} {x q:Str} {st:Stmt} {k:Nat} {ps:List Str} {sp:Sp} {f C:Addr} {fd:FuncData} {p1 p2 p3 p4 p5:Str}
theorem fnT (F:Fun K x x st f fd) (ok:Aj P w K mg base CX0 k f fd ps sp) (m:mg x=some (.ref f)) (b:Binds K fd ps []):Fn P w K mg base x k ps sp:=⟨⟨f,fd,ok,m,F.kp,b⟩⟩
theorem mtT (a:findIn K (.ref C) x=some (some (.ref f))) (i:isFn K (.ref f)=true) (F:Fun K x q st f fd) (ok:Aj P w K mg base CX0 k f fd ps sp) (b:Binds K fd ps []):Mt P w K mg base C x k ps sp:=⟨⟨f,fd,ok,⟨a,i,F.kp⟩,b⟩⟩
noncomputable abbrev fB (x q:Str) (st:Stmt) (kV doc pm:Value) (an:Option Addr) (ad ct:Value) (us:List Value):Sem (List (Str × Value)):=bindArgs (fO x q st .none kV doc pm an ad ct) ⟨us,[]⟩
theorem bi1 (F:Fun K x q st f fd) (h:∀ a b c d e g u1,fB x q st a b c d e g [u1]=pure [(p1,u1)]):Binds K fd [p1] []:=F.binds fun _ _ _ _ _ _ us hl=>match us,hl with | [_],_=>h ..
theorem bi2 (F:Fun K x q st f fd) (h:∀ a b c d e g u1 u2,fB x q st a b c d e g [u1,u2]=pure [(p1,u1),(p2,u2)]):Binds K fd [p1,p2] []:=F.binds fun _ _ _ _ _ _ us hl=>match us,hl with | [_,_],_=>h ..
theorem bi3 (F:Fun K x q st f fd) (h:∀ a b c d e g u1 u2 u3,fB x q st a b c d e g [u1,u2,u3]=pure [(p1,u1),(p2,u2),(p3,u3)]):Binds K fd [p1,p2,p3] []:=F.binds fun _ _ _ _ _ _ us hl=>match us,hl with | [_,_,_],_=>h ..
theorem bi4 (F:Fun K x q st f fd) (h:∀ a b c d e g u1 u2 u3 u4,fB x q st a b c d e g [u1,u2,u3,u4]=pure [(p1,u1),(p2,u2),(p3,u3),(p4,u4)]):Binds K fd [p1,p2,p3,p4] []:=F.binds fun _ _ _ _ _ _ us hl=>match us,hl with | [_,_,_,_],_=>h ..
end
def DG (K:Frag) (x:Str) (st:Stmt):Prop:=∃ f fd,nsIn K mainGlobals x=some (some (.ref f))/\Fun K x x st f fd
def DM (K:Frag) (C:Addr) (x q:Str) (st:Stmt):Prop:=∃ f fd,findIn K (.ref C) x=some (some (.ref f))/\isFn K (.ref f)=true/\(∃ o,K.lookup f=some o/\o.cls=.type "function")/\Fun K x q st f fd
structure CF (K:Frag) (C:Addr):Prop where
 pg:plainGet K C Str.empty=true
 hd:hasDictIn K C=true
 po:plainOver K C=true
 sa:findIn K (.ref C) "__setattr__" = some (some (.builtin "object.__setattr__"))
 mz:makesIn K C=true
 kc:keepIn K (.ref C)=true
 qa:findIn K (.ref C) "__class__" = some (some (.builtin "object.__class__"))
 qm:mroIn K C (.type "object")=some true
 ql:isClsIn K C=true
 qy:typeIn K (.ref C)=some (.type "type")
 qs:subIn K (.type "list") (.ref C)=some false
 qi:subIn K (.type "int") (.ref C)=some false
 qt:subIn K (.type "tuple") (.ref C)=some false
 ne:findIn K (.ref C) "__ne__" = some (some (.builtin "object.__ne__"))
structure XF (K:Frag) (ec:Nat->Addr) (C:Addr) (j:Nat):Prop where
 cx:L2.BJ K C=true
 ga:findIn K (.ref C) "__getattribute__" = some (some (.builtin "BaseException.__getattribute__"))
 gr:findIn K (.ref C) "__getattr__" = some none
 gb:mroIn K C (.type "BaseException")=some true
 kc:(clsIn K C).isSome=true
 ka:findIn K (.ref C) "__class__" = some (some (.builtin "object.__class__"))
 km:mroIn K C (.type "object")=some true
 kt:((List.range 11).all fun i=>i == j || decide (kitOne K (.ref C) (.ref (ec i))=some false))=true
 tv:kitOne K (.ref C) (.type "ValueError")=some true
 ke:keepIn K (.ref C)=true
theorem XF.at {K:Frag} {ec:Nat->Addr} {C:Addr} {j:Nat} (F:XF K ec C j) (hj:j < 11) (e:C=ec j) (qn:specialIn K (.builtin "object.__class__") "__get__" = some (some (.builtin "getset_descriptor.__get__"))) (qt:takesIn K (.builtin "object.__class__")=some true):NC K ec C j:=by
 refine ⟨hj,⟨⟨F.ga,F.gr,F.gb⟩,F.kc,F.ka,qn,qt,F.km⟩,fun i hi=>?_,F.tv⟩;have h:=List.all_eq_true.mp F.kt i (mem_range.mpr hi);rw [Bool.or_eq_true] at h;rcases h with z | z
 ·rw [eq_of_beq z,e,decide_eq_true rfl];exact Kr K _
 ·by_cases q:i=j
  ·rw [q,e,decide_eq_true rfl];exact Kr K _
  ·rw [decide_eq_false q];exact of_decide_eq_true z
structure XP (K:Frag) (ec:Nat->Addr) (cM C f:Addr) (j:Nat):Prop where
 F:XF K ec C j
 n:((List.range 4).all fun i=>!(Dx K C).contains (.ref (ec i)))=true
 m:(Dx K C).contains (.ref cM)=true
 i:findIn K (.ref C) "__init__" = some (some (.ref f))
theorem XP.pl {K:Frag} {ec:Nat->Addr} {cM C f:Addr} {j:Nat} (F:XP K ec cM C f j) (hj:j < 11) (e:C=ec j) (qn:specialIn K (.builtin "object.__class__") "__get__" = some (some (.builtin "getset_descriptor.__get__"))) (qt:takesIn K (.builtin "object.__class__")=some true):Ir K ec cM C j:=by
 have h:∀ i,i < 4->(Dx K C).contains (.ref (ec i))=false:=fun i hi=>by
  have:=List.all_eq_true.mp F.n i (mem_range.mpr hi);rw [Bool.not_eq_true'] at this;exact this
 exact ⟨F.F.at hj e qn qt,F.F.cx,h 0 (by decide),h 1 (by decide),h 2 (by decide),h 3 (by decide),F.m⟩
theorem Rt {K:Frag} {f:Addr} {fd:FuncData} (F:Fun K "__init__" "Rule.__init__" Bn f fd):DZ K fd ["self", "kind", "needs", "bars"] ["needs", "bars"] gU4 gV4:=by
 obtain ⟨oc,od,kV,doc,pm,an,ad,ct,osl,rfl,_⟩:=F.ex;refine ⟨fun s us ws _ hl=>?_,fun {vs us zs ws} r rz=>?_⟩
 ·unfold gU4 at hl ⊢;split at hl
  ·exact .of_eq (by kernel_rfl)
  ·cases hl
 ·cases r with
  | nil=>exact .nil
  | cons r1 rr =>
   cases rr with
   | nil=>exact .nil
   | cons r2 rr =>
    cases rr with
    | cons _ _=>exact .nil
    | nil =>
     cases rz with
     | nil=>exact .nil
     | cons z1 zz =>
      cases zz with
      | nil=>exact .nil
      | cons z2 zz =>
       cases zz with
       | nil=>exact .cons r1 (.cons r2 (.cons z1 (.cons z2 .nil)))
       | cons _ _=>exact .nil
theorem TN {K:Frag} {kd:Addr} {v1 v2 doc pm ad ct:Value} {an:Option Addr} (ok:nsOkIn K kd=true) (e1:nsIn K kd "needs" = some (some v1)) (e2:nsIn K kd "bars" = some (some v2)) :
  Binds K (fO "__init__" "Rule.__init__" Bn .none (.ref kd) doc pm an ad ct) ["self", "kind", "needs", "bars"] [v1,v2]:=by
 intro s us hK hl
 have hl2:us.length=2:=by
  rw [length_append] at hl;exact Nat.succ.inj (Nat.succ.inj hl)
 match us,hl2 with
 | [u1,u2],_ =>
  have G:s.heap.Ns kd (s.heap.nsMap kd):=.of_isNs (isNs_of_in hK ok);have hm1:s.heap.nsMap kd "needs" = some v1:=Ek hK G e1;have hm2:s.heap.nsMap kd "bars" = some v2:=Ek hK G e2;intro M A E Q hq;unfold bindArgs;simp only [fnOf]
  repeat (first | (with_reducible refine wpAny_nsGet G ?_; first | rw [hm1] | rw [hm2]) | wp_step)
  exact Eq.mp (congrArg (fun z=>Q z s) (by kernel_rfl)) hq
theorem all_mk {l:OpenLaw} {w:World} {K:Frag} {h:Heap} {mg:SV} {fz C RC aR kd dt cM c P0 e0 e1 e2 e3 e4 e5 e6 e7 e8 e9 e10 fin fei fla:Addr} (X:K.In h) (G:h.Ns mainGlobals mg) (hfa:mg "law" = some (.ref fz))
  {ocla kVla dcla pmla ctla ocin dcin pmin cdin ctin kVei dcei pmei cdei ctei ocK:Value} {odla anla odin anin odei anei odR odK:Option Addr} {slla slin slei slK slR:Array (Option Value)} {tG tM tL tB t1 t2 t3 t4 tE:Tok} {nRR epK nE:Nat} {esK:Array DictEntry} {fri k2 t5 t6:Addr} {ocri dcri pmri cdri ctri ocK2:Value} {odri anri odK2 odT5 odT6:Option Addr} {slri slK2 slT5 slT6:Array (Option Value)} {epK2 nT5 nT6:Nat} {esK2:Array DictEntry}
  (aC:nsIn K mainGlobals "Kind" = some (some (.ref C)))
  (aRC:nsIn K mainGlobals "Rule" = some (some (.ref RC)))
  (aM:nsIn K mainGlobals "MarkError" = some (some (.ref cM)))
  (aX0:nsIn K mainGlobals "BadRows" = some (some (.ref e0)))
  (aX1:nsIn K mainGlobals "BadRest" = some (some (.ref e1)))
  (aX2:nsIn K mainGlobals "BadText" = some (some (.ref e2)))
  (aX3:nsIn K mainGlobals "Unled" = some (some (.ref e3)))
  (aX4:nsIn K mainGlobals "BadRule" = some (some (.ref e4)))
  (aX5:nsIn K mainGlobals "BadName" = some (some (.ref e5)))
  (aX6:nsIn K mainGlobals "BadNumber" = some (some (.ref e6)))
  (aX7:nsIn K mainGlobals "Unlike" = some (some (.ref e7)))
  (aX8:nsIn K mainGlobals "BadPairs" = some (some (.ref e8)))
  (aX9:nsIn K mainGlobals "Never" = some (some (.ref e9)))
  (aX10:nsIn K mainGlobals "Nothing" = some (some (.ref e10)))
  (z_VE:nsIn K mainGlobals "ValueError" = some none)
  (hwh:DG K "is_whole" HA)
  (hnm:DG K "is_name" JX)
  (huo:DG K "union_of" HB)
  (hnx:DG K "next_mark" Fb)
  (hoo:DG K "is_one_of" Dh)
  (hno:DG K "is_names_of" EO)
  (hth:DG K "thing_number" DH)
  (hro:DG K "row_number" EQ)
  (hnb:DG K "numbered" Fc)
  (hfi:DG K "first_names" Di)
  (him:DG K "is_mark" JY)
  (hmM:DM K C "marks" "Kind.marks" ER)
  (hlc:DG K "_law_cell" HC)
  (hld:DG K "_law_drawn" Fd)
  (hlr:DG K "_law_roll" HD)
  (hls:DG K "_law_rounds" EU)
  (hll:DG K "_law_lines" B0)
  (hmb:DG K "mark_bits" Fa)
  (huq:DG K "unions_of" FZ)
  (ho1:DG K "is_one_of" Dh)
  (hlb:DG K "_law_bits_of" EV)
  (hlu:DG K "_law_rule_of" EW)
  (hlt:DG K "_law_table_of" Dl)
  (hrp:DG K "is_pair" JZ)
  (hrq:DG K "pairs_of" Dj)
  (hrf:DM K RC "first_fault" "Rule.first_fault" CM)
  (hrc:DM K RC "count" "Rule.count" ES)
  (hrn:DM K RC "names_in" "Rule.names_in" DI)
  (hrv:DM K RC "never" "Rule.never" ET)
  (hlB:DG K "_law_broken" EY)
  (hlY:DG K "_law_let_by" Fe)
  (hra:DM K RC "always" "Rule.always" CI)
  (hlW:DG K "_law_rule_with" DJ)
  (hlw:DG K "_law_word" Dk)
  (hlo:DG K "_law_told" Al)
  (ain:findIn K (.ref C) "__init__" = some (some (.ref fin)))
  (iin:isFn K (.ref fin)=true)
  (lin:K.lookup fin=some ⟨ocin,odin,.func (fO "__init__" "Kind.__init__" BS .none (.ref kd) dcin pmin anin cdin ctin),slin⟩)
  (cin:codeIn K cdin "Kind.__init__" = true)
  (kin:keepIn K (.ref fin)=true)
  (ala:nsIn K mainGlobals "law" = some (some (.ref fla)))
  (lla:K.lookup fla=some ⟨ocla,odla,.func (fO "law" "law" Ci .none kVla dcla pmla anla (.ref c) ctla),slla⟩)
  (cla:codeIn K (.ref c) "law" = true)
  (kla:keepIn K (.ref fla)=true)
  (aei:findIn K (.ref cM) "__init__" = some (some (.ref fei)))
  (iei:isFn K (.ref fei)=true)
  (lei:K.lookup fei=some ⟨(.type "function"),odei,.func (fO "__init__" "MarkError.__init__" BE (.ref dt) kVei dcei pmei anei cdei ctei),slei⟩)
  (cei:codeIn K cdei "MarkError.__init__" = true)
  (kei:keepIn K (.ref fei)=true)
  (kdl:K.lookup kd=some ⟨ocK,odK,.dict esK epK,slK⟩)
  (kde:(esK.all fun e=>match e.key with | .str _ _=>true | _=>false)=true)
  (kdr:nsIn K kd "rest" = some (some (.str "bar" tB)))
  (dtl:K.lookup dt=some ⟨.type "tuple", none,.seq #[.str "" tE] nE,#[]⟩)
  (vG:nsIn K mainGlobals "GREATEST" = some (some (.int 1048575 tG)))
  (vM:nsIn K mainGlobals "MOST_ROWS" = some (some (.int 10 tM)))
  (vL:nsIn K mainGlobals "LONGEST_NAME" = some (some (.int 6 tL)))
  (vR:nsIn K mainGlobals "RULES" = some (some (.ref aR)))
  (qn:specialIn K (.builtin "object.__class__") "__get__" = some (some (.builtin "getset_descriptor.__get__")))
  (qt:takesIn K (.builtin "object.__class__")=some true)
  (fC:CF K C)
  (fRC:CF K RC)
  (nC_numbers:findIn K (.ref C) "numbers" = some none)
  (nC_firsts:findIn K (.ref C) "firsts" = some none)
  (nC_rule:findIn K (.ref C) "rule" = some none)
  (nRC_own_kind:findIn K (.ref RC) "own_kind" = some none)
  (nRC_numbered_marks:findIn K (.ref RC) "numbered_marks" = some none)
  (nRC_needs:findIn K (.ref RC) "needs" = some none)
  (nRC_bars:findIn K (.ref RC) "bars" = some none)
  (nRC_let_numbers:findIn K (.ref RC) "let_numbers" = some none)
  (xm:L2.BJ K cM=true)
  (xc0:L2.BJ K e0=true)
  (xc1:L2.BJ K e1=true)
  (xc2:L2.BJ K e2=true)
  (xc3:L2.BJ K e3=true)
  (y5:XP K (fun i=>([e0,e1,e2,e3,e4,e5,e6,e7,e8,e9,e10]:List Addr).getD i 0) cM e5 fei 5)
  (y8:XP K (fun i=>([e0,e1,e2,e3,e4,e5,e6,e7,e8,e9,e10]:List Addr).getD i 0) cM e8 fei 8)
  (rL:K.lookup aR=some ⟨.type "tuple", odR,.seq #[.str "bar" t1,.str "drop" t2,.str "keep" t3,.str "leave" t4] nRR,slR⟩)
  (z_len:nsIn K mainGlobals "len" = some none)
  (z_isinstance:nsIn K mainGlobals "isinstance" = some none)
  (z_max:nsIn K mainGlobals "max" = some none)
  (z_min:nsIn K mainGlobals "min" = some none)
  (z_range:nsIn K mainGlobals "range" = some none)
  (z_list:nsIn K mainGlobals "list" = some none)
  (z_tuple:nsIn K mainGlobals "tuple" = some none)
  (z_sorted:nsIn K mainGlobals "sorted" = some none)
  (z_sum:nsIn K mainGlobals "sum" = some none)
  (z_all:nsIn K mainGlobals "all" = some none)
  (z_enumerate:nsIn K mainGlobals "enumerate" = some none)
  (z_int:nsIn K mainGlobals "int" = some none)
  (z_bool:nsIn K mainGlobals "bool" = some none)
  (z_str:nsIn K mainGlobals "str" = some none)
  (z_dict:nsIn K mainGlobals "dict" = some none)
  (ari:findIn K (.ref RC) "__init__" = some (some (.ref fri)))
  (iri:isFn K (.ref fri)=true)
  (lri:K.lookup fri=some ⟨ocri,odri,.func (fO "__init__" "Rule.__init__" Bn .none (.ref k2) dcri pmri anri cdri ctri),slri⟩)
  (cri:codeIn K cdri "Rule.__init__" = true)
  (kri:keepIn K (.ref fri)=true)
  (k2l:K.lookup k2=some ⟨ocK2,odK2,.dict esK2 epK2,slK2⟩)
  (k2e:(esK2.all fun e=>match e.key with | .str _ _=>true | _=>false)=true)
  (k2n:nsIn K k2 "needs" = some (some (.ref t5)))
  (k2b:nsIn K k2 "bars" = some (some (.ref t6)))
  (t5l:K.lookup t5=some ⟨.type "tuple", odT5,.seq #[] nT5,slT5⟩)
  (t6l:K.lookup t6=some ⟨.type "tuple", odT6,.seq #[] nT6,slT6⟩)
  : ∃ fd:FuncData,(∀ (s:Shared) (v:Value),BindsTo s fd ⟨[v],[]⟩ [("_law_script", v)])/\∀ base:Heap,K.In base->base.Ns mainGlobals mg->CodeHd base c P0->base.BuiltinsAt mg P0->Aj l.prog w K mg base CX0 10 fz fd ["_law_script"] (NL K P0):=by
 have MG:∀ {x:Str} {v:Value},nsIn K mainGlobals x=some (some v)->mg x=some v:=fun h=>mg_of X G h;have MN:∀ {x:Str},nsIn K mainGlobals x=some none->mg x=none:=fun h=>mg_none_of X G h;have T:Lv K C:=⟨⟨fC.pg,fC.hd,fC.po,fC.sa⟩,nC_numbers,nC_firsts,nC_rule⟩;have RT:HX K RC:=⟨⟨fRC.pg,fRC.hd,fRC.po,fRC.sa⟩,nRC_own_kind,nRC_numbered_marks,nRC_needs,nRC_bars,nRC_let_numbers⟩;have KI:Ug K C:=⟨⟨fC.pg,fC.hd,fC.po,fC.sa⟩,fC.qa,qn,qt,fC.qm,Qd fC.ql fC.qy fC.qs⟩;have mCg:=MG aC;have qm:=fC.qm;have B:Bl mg:=⟨MN z_len,MN z_isinstance,MN z_max,MN z_min,MN z_range,MN z_list,MN z_tuple,MN z_sorted,MN z_sum,MN z_all,MN z_enumerate,MN z_int,MN z_bool,MN z_str⟩;have rT:∀ H:Hp,SqT K H aR (ruleNames.map V.str):=fun H=>.inr ⟨_,_,_,rL,rfl,rfl,sl4,.cons ⟨_,rfl⟩ (.cons ⟨_,rfl⟩ (.cons ⟨_,rfl⟩ (.cons ⟨_,rfl⟩ .nil)))⟩
 have kdo:nsOkIn K kd=true:=by
  unfold nsOkIn;rw [kdl];exact kde
 have hG:=MG vG;have hM:=MG vM;have hL:=MG vL;have hR:=MG vR;have M:Ks mg (fun i=>([e0,e1,e2,e3,e4,e5,e6,e7,e8,e9,e10]:List Addr).getD i 0):=⟨MG aX0,MG aX1,MG aX2,MG aX3,MG aX4,MG aX5,MG aX6,MG aX7,MG aX8,MG aX9,MG aX10,MN z_VE⟩;have EX:MA K mg (fun i=>([e0,e1,e2,e3,e4,e5,e6,e7,e8,e9,e10]:List Addr).getD i 0) cM:=⟨MG aM,xm,xc0,xc1,xc2,xc3⟩;have EPN:=y5.pl (by decide) rfl qn qt;have EPP:=y8.pl (by decide) rfl qn qt;have Fin:=fun_mk (st:=BS) lin cin kin;have e:=hfa.symm.trans (MG ala);cases e;have Fla:FunC K "law" "law" Ci fz (fO "law" "law" Ci .none kVla dcla pmla anla (.ref c) ctla) c:=⟨⟨_,_,_,_,_,_,_,_,rfl,lla,cla⟩⟩;have Fei:FunD K "__init__" "MarkError.__init__" BE fei _:=⟨⟨_,_,_,_,_,_,_,_,_,_,rfl,lei,cei⟩⟩;obtain ⟨fwh,dwh,awh,Fwh⟩:=hwh;have bwh:=bi1 (p1 := "thing") Fwh fun _ _ _ _ _ _ _=>rfl;obtain ⟨fnm,dnm,anm,Fnm⟩:=hnm;have bnm:=bi1 (p1 := "thing") Fnm fun _ _ _ _ _ _ _=>rfl;obtain ⟨fuo,duo,auo,Fuo⟩:=huo;have buo:=bi1 (p1 := "numbers") Fuo fun _ _ _ _ _ _ _=>rfl;obtain ⟨fnx,dnx,anx,Fnx⟩:=hnx;have bnx:=bi1 (p1 := "numbers") Fnx fun _ _ _ _ _ _ _=>rfl;obtain ⟨foo,doo,aoo,Foo⟩:=hoo;have boo:=bi2 (p1 := "thing") (p2 := "names") Foo fun _ _ _ _ _ _ _ _=>rfl;obtain ⟨fno,dno,ano,Fno⟩:=hno;have bno:=bi2 (p1 := "parts") (p2 := "ahead") Fno fun _ _ _ _ _ _ _ _=>rfl;obtain ⟨fth,dth,ath,Fth⟩:=hth;have bth:=bi2 (p1 := "thing") (p2 := "ahead") Fth fun _ _ _ _ _ _ _ _=>rfl;obtain ⟨fro,dro,aro,Fro⟩:=hro;have bro:=bi2 (p1 := "row") (p2 := "ahead") Fro fun _ _ _ _ _ _ _ _=>rfl;obtain ⟨fnb,dnb,anb,Fnb⟩:=hnb;have bnb:=bi1 (p1 := "rows") Fnb fun _ _ _ _ _ _ _=>rfl;obtain ⟨ffi,dfi,afi,Ffi⟩:=hfi;have bfi:=bi1 (p1 := "numbers") Ffi fun _ _ _ _ _ _ _=>rfl;obtain ⟨fim,dim,aim,Fim⟩:=him;have bim:=bi1 (p1 := "number") Fim fun _ _ _ _ _ _ _=>rfl;obtain ⟨fmM,dmM,amM,imM,omM,FmM⟩:=hmM;have bmM:=bi1 (p1 := "self") FmM fun _ _ _ _ _ _ _=>rfl;obtain ⟨flc,dlc,alc,Flc⟩:=hlc;have blc:=bi2 (p1 := "_law_script") (p2 := "_law_k") Flc fun _ _ _ _ _ _ _ _=>rfl;obtain ⟨fld,dld,ald,Fld⟩:=hld;have bld:=bi2 (p1 := "_law_cell_here") (p2 := "_law_k") Fld fun _ _ _ _ _ _ _ _=>rfl;obtain ⟨flr,dlr,alr,Flr⟩:=hlr;have blr:=bi2 (p1 := "_law_dice") (p2 := "_law_many") Flr fun _ _ _ _ _ _ _ _=>rfl;obtain ⟨fls,dls,als,Fls⟩:=hls;have bls:=bi2 (p1 := "_law_script") (p2 := "_law_most") Fls fun _ _ _ _ _ _ _ _=>rfl;obtain ⟨fll,dll,all,Fll⟩:=hll;have bll:=bi2 (p1 := "_law_dice") (p2 := "_law_most") Fll fun _ _ _ _ _ _ _ _=>rfl;obtain ⟨fmb,dmb,amb,Fmb⟩:=hmb;have bmb:=bi1 (p1 := "kind") Fmb fun _ _ _ _ _ _ _=>rfl;obtain ⟨fuq,duq,auq,Fuq⟩:=huq;have buq:=bi1 (p1 := "marks") Fuq fun _ _ _ _ _ _ _=>rfl;obtain ⟨fo1,do1,ao1,Fo1⟩:=ho1;have bo1:=bi2 (p1 := "thing") (p2 := "names") Fo1 fun _ _ _ _ _ _ _ _=>rfl;obtain ⟨flb,dlb,alb,Flb⟩:=hlb;have blb:=bi1 (p1 := "_law_number") Flb fun _ _ _ _ _ _ _=>rfl;obtain ⟨flu,dlu,alu,Flu⟩:=hlu;have blu:=bi1 (p1 := "_law_dice") Flu fun _ _ _ _ _ _ _=>rfl;obtain ⟨flt,dlt,alt,Flt⟩:=hlt;have blt:=bi1 (p1 := "_law_due") Flt fun _ _ _ _ _ _ _=>rfl;obtain ⟨frp,drp,arp,Frp⟩:=hrp;have brp:=bi2 (p1 := "thing") (p2 := "marks") Frp fun _ _ _ _ _ _ _ _=>rfl;obtain ⟨frq,drq,arq,Frq⟩:=hrq;have brq:=bi2 (p1 := "things") (p2 := "marks") Frq fun _ _ _ _ _ _ _ _=>rfl;obtain ⟨frf,drf,arf,irf,orf,Frf⟩:=hrf;have brf:=bi2 (p1 := "self") (p2 := "number") Frf fun _ _ _ _ _ _ _ _=>rfl;obtain ⟨frc,drc,arc,irc,orc,Frc⟩:=hrc;have brc:=bi1 (p1 := "self") Frc fun _ _ _ _ _ _ _=>rfl;obtain ⟨frn,drn,arn,irn,orn,Frn⟩:=hrn;have brn:=bi2 (p1 := "self") (p2 := "bits") Frn fun _ _ _ _ _ _ _ _=>rfl;obtain ⟨frv,drv,arv,irv,orv,Frv⟩:=hrv;have brv:=bi1 (p1 := "self") Frv fun _ _ _ _ _ _ _=>rfl;obtain ⟨flB,dlB,alB,FlB⟩:=hlB;have blB:=bi4 (p1 := "_law_table") (p2 := "_law_wants") (p3 := "_law_fences") (p4 := "_law_number") FlB fun _ _ _ _ _ _ _ _ _ _=>rfl;obtain ⟨flY,dlY,alY,FlY⟩:=hlY;have blY:=bi3 (p1 := "_law_table") (p2 := "_law_wants") (p3 := "_law_fences") FlY fun _ _ _ _ _ _ _ _ _=>rfl;obtain ⟨fra,dra,ara,ira,ora,Fra⟩:=hra;have bra:=bi2 (p1 := "self") (p2 := "name") Fra fun _ _ _ _ _ _ _ _=>rfl;obtain ⟨flW,dlW,alW,FlW⟩:=hlW;have blW:=bi3 (p1 := "_law_dice") (p2 := "_law_kind") (p3 := "_law_table") FlW fun _ _ _ _ _ _ _ _ _=>rfl;obtain ⟨flw,dlw,alw,Flw⟩:=hlw;have blw:=bi1 (p1 := "_law_e") Flw fun _ _ _ _ _ _ _=>rfl;obtain ⟨flo,dlo,alo,Flo⟩:=hlo;have blo:=bi1 (p1 := "_law_deed") Flo fun _ _ _ _ _ _ _=>rfl;refine ⟨fO "law" "law" Ci .none kVla dcla pmla anla (.ref c) ctla,fun s v=>.of_eq rfl,fun base _ _ hC hBu=>?_⟩;have FT:=@fnT l.prog w K mg base;have MT:=@mtT l.prog w K mg base;have Gwh:=FT (sp:=Fh) Fwh (Ls Fwh B) (MG awh) bwh;have Gnm:=FT (sp:=HF) Fnm (N7 Fnm B hL) (MG anm) bnm;have Guo:=FT (sp:=(C6 K)) Fuo (Lo Fuo) (MG auo) buo;have Gnx:=FT (sp:=(Eb K)) Fnx (Kb Fnx B) (MG anx) bnx;have Goo:=FT (sp:=(Du K)) Foo (Lr Foo B) (MG aoo) boo;have Gno:=FT (sp:=Do) Fno (Jb Fno B Goo) (MG ano) bno;have Gth:=FT (sp:=Jc) Fth (Po Fth B Gnx Gno Guo Gwh) (MG ath) bth;have Gro:=FT (sp:=Pr) Fro (Sh Fro B hG Gnm Gth) (MG aro) bro;have Gnb:=FT (sp:=Ed) Fnb (Ke Fnb B hM Gro) (MG anb) bnb;have Gfi:=FT (sp:=HJ) Ffi (OB Ffi) (MG afi) bfi;have Gim:=FT (sp:=HE) Fim (N6 Fim) (MG aim) bim;have GmM:=MT (sp:=(FC C)) amM imM FmM (Py FmM B T Gim) bmM;have Glc:=FT (sp:=(Lw K)) Flc (RV Flc B) (MG alc) blc;have Gld:=FT (sp:=Je) Fld (P1 Fld) (MG ald) bld;have Glr:=FT (sp:=HM) Flr (RW Flr Gld) (MG alr) blr;have Gls:=FT (sp:=(HQ K)) Fls (OD Fls B Glc) (MG als) bls;have Gll:=FT (sp:=Jg) Fll (P9 Fll B Glr) (MG all) bll;have Gmb:=FT (sp:=(Ef C)) Fmb (Ku Fmb T GmM Guo) (MG amb) bmb;have Guq:=FT (sp:=(QI K)) Fuq (Sw Fuq) (MG auq) buq;have Go1:=FT (sp:=(Kz K)) Fo1 (Sx Fo1 B) (MG ao1) bo1;have Glb:=FT (sp:=HR) Flb (OE Flb B) (MG alb) blb;have Glu:=FT (sp:=HN) Flu (OC Flu Glr) (MG alu) blu;have Glt:=FT (sp:=Jh) Flt (QC Flt B Glb) (MG alt) blt;have Grp:=FT (sp:=(FK K)) Frp (OM Frp B Go1) (MG arp) brp;have Grq:=FT (sp:=(GS K)) Frq (K2 Frq B Grp) (MG arq) brq;have Grf:=MT (sp:=(Sz RC)) arf irf Frf (T9 Frf RT) brf;have Grc:=MT (sp:=(Jo RC)) arc irc Frc (QP Frc B RT) brc;have Grn:=MT (sp:=(Ri RC)) arn irn Frn (UA Frn RT) brn;have Grv:=MT (sp:=(Jp RC)) arv irv Frv (QQ Frv RT Grn Guo) brv;have GlB:=FT (sp:=MD) FlB (Ro FlB) (MG alB) blB;have GlY:=FT (sp:=Jr) FlY (QS FlY B GlB) (MG alY) blY;have GW:FnS l.prog w K mg base "_law_word" 1 ["_law_e"] (Cg K (fun i=>([e0,e1,e2,e3,e4,e5,e6,e7,e8,e9,e10]:List Addr).getD i 0)):=⟨⟨_,_,RZ Flw B M,MG alw,Flw.kp,blw⟩⟩;have KO:QT l.prog w K mg base C:=⟨T,mCg,⟨_,_,⟨fC.mz,ain,iin,fC.kc⟩,RQ Fin B T hR rT Gnb Gfi Goo,⟨_,Rs⟩,_,TM kdo kdr,.cons ⟨_,rfl⟩ .nil⟩⟩;have EO5:NA l.prog w K mg base "BadName" e5:=⟨MG aX5,⟨_,_,⟨y5.F.cx,y5.i,iei,⟨_,lei,rfl⟩,y5.F.ke⟩,HU Fei (MN z_VE),R9 dtl⟩⟩;have EO8:NA l.prog w K mg base "BadPairs" e8:=⟨MG aX8,⟨_,_,⟨y8.F.cx,y8.i,iei,⟨_,lei,rfl⟩,y8.F.ke⟩,HU Fei (MN z_VE),R9 dtl⟩⟩;have Fri:=fun_mk (st:=Bn) lri cri kri
 have k2o:nsOkIn K k2=true:=by
  unfold nsOkIn;rw [k2l];exact k2e
 have RuO:ME l.prog w K mg base C RC e8:=⟨RT,MG aRC,⟨_,_,⟨fRC.mz,ari,iri,fRC.kc⟩,QO Fri B (MN z_dict) T RT GmM Grq Guq Grf,OO Fri (MN z_dict) T RT GmM (K2 Frq B Grp) (ON Frq B EO8 Grp) (MG arq) Frq.kp brq,⟨_,Rt Fri⟩,_,_,TN k2o k2n k2b,fun _=>.inr ⟨_,_,_,t5l,rfl,rfl,Nat.zero_le _,.nil⟩,fun _=>.inr ⟨_,_,_,t6l,rfl,rfl,Nat.zero_le _,.nil⟩⟩⟩;have NT:UE K:=⟨by kernel_rfl,by kernel_rfl,by kernel_rfl,by kernel_rfl,by kernel_rfl⟩;have GlW:=FT (sp:=S2 C RC) FlW (UB FlW B RuO Glr) (MG alW) blW;exact TL Fla Flo (MG alo) blo hC hBu B KO RuO NT M EX GW EPN EPP Gls Gll Glu Glt GlW GlY Grc Grv ⟨_,_,S0 Fra RT Grn Gmb Go1,Rm Fra RT EO5 Go1,⟨ara,ira,Fra.kp⟩,bra⟩
theorem walk {l:OpenLaw} {q:Program} {loose:List Str} {XP:(Str->Option Value)->Heap->Prop} {YP:World->Heap->Prop} {d:DefRec} {K:Params->Frag} {c P0:Addr} (hn:l.most=some 63) (hdf:d.params.defaults=[])
  (hY:∀ (w:World) (h:Heap),YP w h->(K w.params).In h/\h.get? P0=some (tabObj #[])/\(K w.params).lookup P0=none/\CodeHd h c P0)
  (F:∀ (w:World) (mg:SV) (fa:Addr) (h:Heap),(K w.params).In h->h.Ns mainGlobals mg->mg d.name=some (.ref fa) ->
   ∃ fd:FuncData,(∀ (s:Shared) (u:Value),BindsTo s fd ⟨[u],[]⟩ [("_law_script", u)])/\∀ base:Heap,(K w.params).In base->base.Ns mainGlobals mg->CodeHd base c P0->base.BuiltinsAt mg P0->Aj l.prog w (K w.params) mg base CX0 10 fa fd ["_law_script"] (NL (K w.params) P0)) :
  WalkO q loose XP YP l.row.toRowW d [] (fun f vs=>PySem.call f vs) :=
 L2.PY (n:=63) (k:=10) (x := "_law_script") (CX:=fun _=>CX0) (sp:=fun w=>NL (K w.params) P0) hn (by decide) hdf ⟨rfl,by decide,by decide⟩ hY F
  (fun _ _ a ns hl _ hP hS=>⟨a,ns,rfl,hS,hl,⟨#[],hP,trivial,fun _ _=>.inl rfl⟩,fun _=>rfl⟩) fun _ _ _ _ _ z=>z
end Mk
end
section
namespace Hd
open PySem PySem.W PySem.Calls PyProof.Rows
def runT (tb : String -> Option Builtin) (p : Program) (w : World) (n₀ : Nat) (ann : Option Value) : Nat -> SharedT -> Thread -> Option SharedT
  | 0,_,_=>none
  | n + 1,s,t=>match through t with
    | true=>some s
    | false=>match stepOk n₀ ann t with
      | false=>none
      | true=>match stepT (denote tb) p w s t with
        | some (s',t')=>runT tb p w n₀ ann n s' t'
        | none=>none
theorem runT_of {tb : String -> Option Builtin} {p : Program} {w : World} {n₀ : Nat} {ann : Option Value} : ∀ {n : Nat} {s s' : SharedT} {t : Thread},runT tb p w n₀ ann n s t = some s' -> topRun tb p w n₀ ann n s.abs t = some s'.abs
  | 0,_,_,_,h=>by cases h
  | n + 1,s,s',t,h=>by
    unfold runT at h
    unfold topRun
    cases ht : through t with
    | true=>rw [ht] at h; cases h; rfl
    | false =>
      rw [ht] at h
      cases hk : stepOk n₀ ann t with
      | false=>rw [hk] at h; cases h
      | true =>
        rw [hk] at h
        cases hs : stepT (denote tb) p w s t with
        | none=>rw [hs] at h; cases h
        | some r=>obtain ⟨s₂,t₂⟩:=r; rw [hs] at h; rw [stepT_spec hs]; exact runT_of h
def looksAt (p q : Program) (loose : List Str) (Xt : Shared -> Bool) (as : List Addr) (h₀ : Heap) (s : Shared) :=
  (staticsOk (importedModules p.main.body) h₀ s.heap && namesBound p s.heap && gensDone s && laidKept h₀ s.heap,openSeen q loose (importedModules p.main.body) Xt true s,as.map s.heap.get?)
theorem left_of {p q : Program} {loose : List Str} {Xt : Shared -> Bool} {as : List Addr} {K : Params -> Frag} {N M m₀ : Nat} {ann : Option Value} {T0 : Params -> BT} {life : Life}
    (open_ : ∀ w : World,(fencedOpening treeTable p w N).map (fun s=>(s.heap,s.gens,s.drawn,s.toks)) = some (boot_heap w.params,#[],boot_drawn,boot_toks))
    (tree : ∀ P : Params,absHeap (T0 P) m₀ life = boot_heap P)
    (size : ∀ w : World,((boot_heap w.params).isNs mainGlobals,(boot_heap w.params).objs.size,(boot_heap w.params).nsMap mainGlobals "__annotations__") = (true,m₀,ann))
    (le : Nat.ble M N = true)
    (run : ∀ (w : World) (os : OsState),(runT treeTable p w m₀ ann M ⟨T0 w.params,m₀,life,#[],boot_drawn,boot_toks,os⟩ (topStub p)).map (fun s=>looksAt p q loose Xt as (boot_heap w.params) s.abs) = some (true,openGood q loose,(K w.params).map fun x=>some x.2)) :
    LeftO p q loose Xt (fun s=>as.map s.heap.get?) (fun w=>(K w.params).map fun x=>some x.2) N:=fun w=>by
  obtain ⟨⟨h,gs,d,k,os⟩,e,e'⟩:=Option.map_eq_some_iff.mp (open_ w)
  obtain ⟨rfl,rfl,rfl,rfl⟩ : h = boot_heap w.params /\ gs = #[] /\ d = boot_drawn /\ k = boot_toks:=by simpa using e'
  obtain ⟨z1,z2,z3⟩ : _ /\ _ /\ _:=by simpa only [Prod.mk.injEq] using size w
  obtain ⟨sT,r1,r2⟩:=Option.map_eq_some_iff.mp (run w os)
  have r3:=runT_of r1
  have r4 : topRun treeTable p w m₀ ann M ⟨boot_heap w.params,#[],boot_drawn,boot_toks,os⟩ (topStub p) = some sT.abs:=by
    rw [← tree w.params]
    exact r3
  have r:=topRun_mono (N - M) _ _ _ _ r4
  rw [show M + (N - M) = N by have:=Nat.le_of_ble_eq_true le; omega] at r
  unfold looksAt at r2
  obtain ⟨l1,l2,l3⟩ : _ /\ _ /\ _:=by simpa only [Prod.mk.injEq] using r2
  have t : topFrom treeTable p w N ⟨boot_heap w.params,#[],boot_drawn,boot_toks,os⟩ = some sT.abs:=by
    unfold topFrom
    dsimp only
    rw [z1,z2,z3,r]
    show (match staticsOk (importedModules p.main.body) (boot_heap w.params) sT.abs.heap && namesBound p sT.abs.heap && gensDone sT.abs && laidKept (boot_heap w.params) sT.abs.heap with | true=>_ | false=>_) = _
    rw [l1]
  unfold openEnds
  rw [e]
  show (topFrom treeTable p w N _).map _ = _
  rw [t]
  exact congrArg some (Prod.ext l2 l3)
end Hd
end
noncomputable section
open PySem PySem.W PySem.Calls PyProof.Rows
abbrev Mk.fS (x q : Str) (s : Stmt) (dV kV doc pm : Value) (an : Option Addr) (cd ct : Value) : FuncData:=fnOf x q (L2.defArgs s) (L2.defBody s) (L2.defScope s) dV kV doc pm an cd ct
abbrev Mk.cO (x : Str) (a : Nat) (q : Str) (b c : Nat) (d e f g h : Int) (i j l m n : Nat) (o p : Int) (r : Nat) : Obj:=⟨.type "code", none,.fields #[.str x a,.str q b,.str "/claim/cut.py" c,.int d 0,.int e 0,.int f 0,.int g 0,.int h 0,.ref i,.bool true,.int 181 0,.ref j,.none,.ref l,.ref m,.ref n,.int o 0,.int p 0,.str "/claim/cut.py" r],#[]⟩
abbrev Mk.dE (P : PySem.Params) (x : Str) (t : Nat) (v : Value) : DictEntry:=⟨PyData.keyHash P x,.str x t,v⟩
abbrev Mk.fN (x q : Str) (s : Stmt) (m : Str) (t c : Nat) : Obj:=⟨.type "function", none,.func (Mk.fS x q s .none .none .none (.str m t) none (.ref c) .none),#[]⟩
abbrev Mk.eC (x : Str) (a b c d e f : Nat) : Obj:=⟨.type "type", none,.cls ⟨x,[.ref a],[.ref b,.ref a,.type "ValueError", .type "Exception", .type "BaseException", .type "object"],c,x,true,[],[],false,none,false⟩,#[some (.ref d),none,some (.str x e),some (.str x f),some (.builtin "ValueError.__new__"),some (.bool true)]⟩
noncomputable def Mk.Kg (P : PySem.Params) : PySem.W.Frag :=
 (nat_lit 2,⟨.none,none,(.dict #[] 0),#[]⟩) ::
 (nat_lit 3,⟨(.type "dict"),none,(.dict #[Mk.dE P "__name__" 165 (.str "law_markworks_k42_whole_never_and_always" 810),Mk.dE P "__doc__" 166 .none,Mk.dE P "__package__" 167 .none,Mk.dE P "__loader__" 168 (.builtin "__main__.__loader__#opaque"),Mk.dE P "__spec__" 169 .none,Mk.dE P "__annotations__" 170 (.ref 6),Mk.dE P "__builtins__" 171 (.ref 4),Mk.dE P "__file__" 173 (.str "/claim/cut.py" 172),Mk.dE P "__cached__" 174 .none,Mk.dE P "_wall" 193 (.ref 21),Mk.dE P "MarkError" 222 (.ref 39),Mk.dE P "BadRows" 247 (.ref 59),Mk.dE P "BadRule" 263 (.ref 71),Mk.dE P "BadName" 279 (.ref 83),Mk.dE P "BadNumber" 295 (.ref 95),Mk.dE P "BadRest" 320 (.ref 114),Mk.dE P "Unlike" 336 (.ref 126),Mk.dE P "BadText" 361 (.ref 145),Mk.dE P "BadPairs" 377 (.ref 157),Mk.dE P "Never" 393 (.ref 169),Mk.dE P "Unled" 418 (.ref 188),Mk.dE P "Nothing" 434 (.ref 200),Mk.dE P "GREATEST" 442 (.int 1048575 441),Mk.dE P "MOST_ROWS" 444 (.int 10 443),Mk.dE P "LONGEST_NAME" 446 (.int 6 445),Mk.dE P "RULES" 451 (.ref 203),Mk.dE P "is_whole" 458 (.ref 210),Mk.dE P "is_name" 464 (.ref 215),Mk.dE P "is_mark" 471 (.ref 222),Mk.dE P "union_of" 480 (.ref 229),Mk.dE P "unions_of" 486 (.ref 234),Mk.dE P "is_one_of" 494 (.ref 241),Mk.dE P "mark_bits" 500 (.ref 246),Mk.dE P "next_mark" 507 (.ref 253),Mk.dE P "is_names_of" 513 (.ref 258),Mk.dE P "thing_number" 519 (.ref 263),Mk.dE P "row_number" 530 (.ref 270),Mk.dE P "numbered" 541 (.ref 277),Mk.dE P "first_names" 551 (.ref 284),Mk.dE P "Kind" 649 (.ref 361),Mk.dE P "is_pair" 657 (.ref 370),Mk.dE P "pairs_of" 663 (.ref 375),Mk.dE P "Rule" 809 (.ref 489),Mk.dE P "_law_cell" 819 (.ref 500),Mk.dE P "_law_drawn" 828 (.ref 507),Mk.dE P "_law_roll" 837 (.ref 514),Mk.dE P "_law_rounds" 843 (.ref 519),Mk.dE P "_law_word" 849 (.ref 524),Mk.dE P "_law_told" 857 (.ref 531),Mk.dE P "_law_bits_of" 863 (.ref 536),Mk.dE P "_law_rule_of" 870 (.ref 543),Mk.dE P "_law_lines" 876 (.ref 548),Mk.dE P "_law_table_of" 882 (.ref 553),Mk.dE P "_law_rule_with" 888 (.ref 558),Mk.dE P "_law_broken" 894 (.ref 563),Mk.dE P "_law_let_by" 900 (.ref 568),Mk.dE P "law" 906 (.ref 573)] 57),#[]⟩) ::
 (nat_lit 29,⟨(.type "tuple"),none,(.seq #[(.str "" 208)] 0),#[]⟩) ::
 (nat_lit 35,Mk.cO "__init__" 209 "MarkError.__init__" 210 211 7 2 0 0 3 30 31 32 33 34 214 7 215) ::
 (nat_lit 36,⟨(.type "function"),none,(.func (Mk.fS "__init__" "MarkError.__init__" (L2.inClass (Mk.top 2) 0) (.ref 29) .none .none (.str "markworks.errors" 194) none (.ref 35) .none)),#[]⟩) ::
 (nat_lit 38,⟨(.type "dict"),none,(.dict #[Mk.dE P "__module__" 203 (.str "markworks.errors" 194),Mk.dE P "__firstlineno__" 207 (.int 5 206),Mk.dE P "__init__" 216 (.ref 36),Mk.dE P "__static_attributes__" 217 (.ref 37),Mk.dE P "__weakref__" 219 (.ref 40),Mk.dE P "__doc__" 220 .none] 3),#[]⟩) ::
 (nat_lit 39,⟨(.type "type"),none,(.cls ⟨"MarkError", [(.type "ValueError")],[(.ref 39),(.type "ValueError"),(.type "Exception"),(.type "BaseException"),(.type "object")],38, "MarkError", true,[],[(.ref 59),(.ref 71),(.ref 83),(.ref 95),(.ref 114),(.ref 126),(.ref 145),(.ref 157),(.ref 169),(.ref 188),(.ref 200)],false,none,false⟩),#[(some (.ref 22)),none,(some (.str "MarkError" 196)),(some (.str "MarkError" 204)),(some (.builtin "ValueError.__new__")),(some (.bool true))]⟩) ::
 (nat_lit 59,Mk.eC "BadRows" 39 59 58 43 223 231) ::
 (nat_lit 71,Mk.eC "BadRule" 39 71 70 62 248 256) ::
 (nat_lit 82,⟨(.type "dict"),none,(.dict #[Mk.dE P "__module__" 271 (.str "markworks.errors" 194),Mk.dE P "__firstlineno__" 275 (.int 16 274),Mk.dE P "__static_attributes__" 276 (.ref 81),Mk.dE P "__doc__" 277 .none] 2),#[]⟩) ::
 (nat_lit 83,Mk.eC "BadName" 39 83 82 74 264 272) ::
 (nat_lit 95,Mk.eC "BadNumber" 39 95 94 86 280 288) ::
 (nat_lit 114,Mk.eC "BadRest" 39 114 113 98 296 304) ::
 (nat_lit 126,Mk.eC "Unlike" 39 126 125 117 321 329) ::
 (nat_lit 145,Mk.eC "BadText" 39 145 144 129 337 345) ::
 (nat_lit 156,⟨(.type "dict"),none,(.dict #[Mk.dE P "__module__" 369 (.str "markworks.errors" 194),Mk.dE P "__firstlineno__" 373 (.int 32 372),Mk.dE P "__static_attributes__" 374 (.ref 155),Mk.dE P "__doc__" 375 .none] 2),#[]⟩) ::
 (nat_lit 157,Mk.eC "BadPairs" 39 157 156 148 362 370) ::
 (nat_lit 169,Mk.eC "Never" 39 169 168 160 378 386) ::
 (nat_lit 188,Mk.eC "Unled" 39 188 187 172 394 402) ::
 (nat_lit 200,Mk.eC "Nothing" 39 200 199 191 419 427) ::
 (nat_lit 203,⟨(.type "tuple"),none,(.seq #[(.str "bar" 447),(.str "drop" 448),(.str "keep" 449),(.str "leave" 450)] 0),#[]⟩) ::
 (nat_lit 209,Mk.cO "is_whole" 452 "is_whole" 453 454 48 1 0 0 3 204 205 206 207 208 456 48 457) ::
 (nat_lit 210,Mk.fN "is_whole" "is_whole" (Mk.top 19) "markworks.kinds" 435 209) ::
 (nat_lit 214,⟨(.type "code"),none,(.fields #[(.str "is_name" 459),(.str "is_name" 460),(.str "/claim/cut.py" 461),(.int 50 0),(.int 1 0),(.int 0 0),(.int 0 0),(.int 3 0),(.ref 211),(.bool true),(.int 181 0),(.ref 212),.none,.none,.none,(.ref 213),(.int 462 0),(.int 50 0),(.str "/claim/cut.py" 463)]),#[]⟩) ::
 (nat_lit 215,Mk.fN "is_name" "is_name" (Mk.top 20) "markworks.kinds" 435 214) ::
 (nat_lit 221,Mk.cO "is_mark" 465 "is_mark" 466 467 54 1 0 0 3 216 217 218 219 220 469 54 470) ::
 (nat_lit 222,Mk.fN "is_mark" "is_mark" (Mk.top 21) "markworks.kinds" 435 221) ::
 (nat_lit 228,Mk.cO "union_of" 472 "union_of" 473 474 56 1 0 0 3 223 224 225 226 227 478 56 479) ::
 (nat_lit 229,Mk.fN "union_of" "union_of" (Mk.top 22) "markworks.kinds" 435 228) ::
 (nat_lit 233,⟨(.type "code"),none,(.fields #[(.str "unions_of" 481),(.str "unions_of" 482),(.str "/claim/cut.py" 483),(.int 61 0),(.int 1 0),(.int 0 0),(.int 0 0),(.int 3 0),(.ref 230),(.bool true),(.int 181 0),(.ref 231),.none,.none,.none,(.ref 232),(.int 484 0),(.int 61 0),(.str "/claim/cut.py" 485)]),#[]⟩) ::
 (nat_lit 234,Mk.fN "unions_of" "unions_of" (Mk.top 23) "markworks.kinds" 435 233) ::
 (nat_lit 240,Mk.cO "is_one_of" 487 "is_one_of" 488 489 66 2 0 0 3 235 236 237 238 239 492 66 493) ::
 (nat_lit 241,Mk.fN "is_one_of" "is_one_of" (Mk.top 24) "markworks.kinds" 435 240) ::
 (nat_lit 245,⟨(.type "code"),none,(.fields #[(.str "mark_bits" 495),(.str "mark_bits" 496),(.str "/claim/cut.py" 497),(.int 68 0),(.int 1 0),(.int 0 0),(.int 0 0),(.int 3 0),(.ref 242),(.bool true),(.int 181 0),(.ref 243),.none,.none,.none,(.ref 244),(.int 498 0),(.int 68 0),(.str "/claim/cut.py" 499)]),#[]⟩) ::
 (nat_lit 246,Mk.fN "mark_bits" "mark_bits" (Mk.top 25) "markworks.kinds" 435 245) ::
 (nat_lit 252,Mk.cO "next_mark" 501 "next_mark" 502 503 70 1 0 0 3 247 248 249 250 251 505 70 506) ::
 (nat_lit 253,Mk.fN "next_mark" "next_mark" (Mk.top 26) "markworks.kinds" 435 252) ::
 (nat_lit 257,⟨(.type "code"),none,(.fields #[(.str "is_names_of" 508),(.str "is_names_of" 509),(.str "/claim/cut.py" 510),(.int 72 0),(.int 2 0),(.int 0 0),(.int 0 0),(.int 3 0),(.ref 254),(.bool true),(.int 181 0),(.ref 255),.none,.none,.none,(.ref 256),(.int 511 0),(.int 72 0),(.str "/claim/cut.py" 512)]),#[]⟩) ::
 (nat_lit 258,Mk.fN "is_names_of" "is_names_of" (Mk.top 27) "markworks.kinds" 435 257) ::
 (nat_lit 262,⟨(.type "code"),none,(.fields #[(.str "thing_number" 514),(.str "thing_number" 515),(.str "/claim/cut.py" 516),(.int 74 0),(.int 2 0),(.int 0 0),(.int 0 0),(.int 3 0),(.ref 259),(.bool true),(.int 181 0),(.ref 260),.none,.none,.none,(.ref 261),(.int 517 0),(.int 74 0),(.str "/claim/cut.py" 518)]),#[]⟩) ::
 (nat_lit 263,Mk.fN "thing_number" "thing_number" (Mk.top 28) "markworks.kinds" 435 262) ::
 (nat_lit 269,Mk.cO "row_number" 520 "row_number" 521 522 82 2 0 0 3 264 265 266 267 268 528 82 529) ::
 (nat_lit 270,Mk.fN "row_number" "row_number" (Mk.top 29) "markworks.kinds" 435 269) ::
 (nat_lit 276,Mk.cO "numbered" 531 "numbered" 532 533 92 1 0 0 3 271 272 273 274 275 539 92 540) ::
 (nat_lit 277,Mk.fN "numbered" "numbered" (Mk.top 30) "markworks.kinds" 435 276) ::
 (nat_lit 283,Mk.cO "first_names" 542 "first_names" 543 544 102 1 0 0 3 278 279 280 281 282 549 102 550) ::
 (nat_lit 284,Mk.fN "first_names" "first_names" (Mk.top 31) "markworks.kinds" 435 283) ::
 (nat_lit 292,⟨(.type "dict"),none,(.dict #[Mk.dE P "rest" 565 (.str "bar" 564)] 1),#[]⟩) ::
 (nat_lit 298,Mk.cO "__init__" 566 "Kind.__init__" 567 568 109 2 0 1 3 293 294 295 296 297 572 109 573) ::
 (nat_lit 299,⟨(.type "function"),none,(.func (Mk.fS "__init__" "Kind.__init__" (L2.inClass (Mk.top 32) 0) .none (.ref 292) .none (.str "markworks.kinds" 435) none (.ref 298) .none)),#[]⟩) ::
 (nat_lit 329,⟨(.type "code"),none,(.fields #[(.str "marks" 603),(.str "Kind.marks" 604),(.str "/claim/cut.py" 605),(.int 131 0),(.int 1 0),(.int 0 0),(.int 0 0),(.int 3 0),(.ref 326),(.bool true),(.int 181 0),(.ref 327),.none,.none,.none,(.ref 328),(.int 606 0),(.int 131 0),(.str "/claim/cut.py" 607)]),#[]⟩) ::
 (nat_lit 330,Mk.fN "marks" "Kind.marks" (L2.inClass (Mk.top 32) 5) "markworks.kinds" 435 329) ::
 (nat_lit 360,⟨(.type "dict"),none,(.dict #[Mk.dE P "__module__" 559 (.str "markworks.kinds" 435),Mk.dE P "__firstlineno__" 563 (.int 107 562),Mk.dE P "__init__" 574 (.ref 299),Mk.dE P "rows" 581 (.ref 306),Mk.dE P "number" 589 (.ref 313),Mk.dE P "names" 596 (.ref 320),Mk.dE P "aliases" 602 (.ref 325),Mk.dE P "marks" 608 (.ref 330),Mk.dE P "known" 615 (.ref 337),Mk.dE P "rest" 622 (.ref 344),Mk.dE P "__eq__" 630 (.ref 351),Mk.dE P "__len__" 637 (.ref 358),Mk.dE P "__static_attributes__" 641 (.ref 359),Mk.dE P "__dict__" 643 (.ref 362),Mk.dE P "__weakref__" 645 (.ref 363),Mk.dE P "__doc__" 646 .none,Mk.dE P "__hash__" 647 .none] 5),#[]⟩) ::
 (nat_lit 361,⟨(.type "type"),none,(.cls ⟨"Kind", [(.type "object")],[(.ref 361),(.type "object")],360, "Kind", true,[],[],false,none,false⟩),#[none,none,(some (.str "Kind" 552)),(some (.str "Kind" 560)),(some (.builtin "object.__new__")),(some (.bool true))]⟩) ::
 (nat_lit 369,⟨(.type "code"),none,(.fields #[(.str "is_pair" 652),(.str "is_pair" 653),(.str "/claim/cut.py" 654),(.int 146 0),(.int 2 0),(.int 0 0),(.int 0 0),(.int 3 0),(.ref 366),(.bool true),(.int 181 0),(.ref 367),.none,.none,.none,(.ref 368),(.int 655 0),(.int 146 0),(.str "/claim/cut.py" 656)]),#[]⟩) ::
 (nat_lit 370,Mk.fN "is_pair" "is_pair" (Mk.top 34) "markworks.rules" 650 369) ::
 (nat_lit 374,⟨(.type "code"),none,(.fields #[(.str "pairs_of" 658),(.str "pairs_of" 659),(.str "/claim/cut.py" 660),(.int 150 0),(.int 2 0),(.int 0 0),(.int 0 0),(.int 3 0),(.ref 371),(.bool true),(.int 181 0),(.ref 372),.none,.none,.none,(.ref 373),(.int 661 0),(.int 150 0),(.str "/claim/cut.py" 662)]),#[]⟩) ::
 (nat_lit 375,Mk.fN "pairs_of" "pairs_of" (Mk.top 35) "markworks.rules" 650 374) ::
 (nat_lit 383,⟨(.type "tuple"),none,(.seq #[] 0),#[]⟩) ::
 (nat_lit 384,⟨(.type "tuple"),none,(.seq #[] 0),#[]⟩) ::
 (nat_lit 385,⟨(.type "dict"),none,(.dict #[Mk.dE P "needs" 676 (.ref 383),Mk.dE P "bars" 677 (.ref 384)] 2),#[]⟩) ::
 (nat_lit 389,⟨(.type "code"),none,(.fields #[(.str "__init__" 678),(.str "Rule.__init__" 679),(.str "/claim/cut.py" 680),(.int 156 0),(.int 2 0),(.int 0 0),(.int 2 0),(.int 3 0),(.ref 386),(.bool true),(.int 181 0),(.ref 387),.none,.none,.none,(.ref 388),(.int 681 0),(.int 156 0),(.str "/claim/cut.py" 682)]),#[]⟩) ::
 (nat_lit 390,⟨(.type "function"),none,(.func (Mk.fS "__init__" "Rule.__init__" (L2.inClass (Mk.top 36) 0) .none (.ref 385) .none (.str "markworks.rules" 650) none (.ref 389) .none)),#[]⟩) ::
 (nat_lit 403,Mk.cO "first_fault" 691 "Rule.first_fault" 692 693 167 2 0 0 3 398 399 400 401 402 699 167 700) ::
 (nat_lit 404,Mk.fN "first_fault" "Rule.first_fault" (L2.inClass (Mk.top 36) 2) "markworks.rules" 650 403) ::
 (nat_lit 452,Mk.cO "count" 751 "Rule.count" 752 753 197 1 0 0 3 447 448 449 450 451 755 197 756) ::
 (nat_lit 453,Mk.fN "count" "Rule.count" (L2.inClass (Mk.top 36) 9) "markworks.rules" 650 452) ::
 (nat_lit 471,⟨(.type "code"),none,(.fields #[(.str "names_in" 774),(.str "Rule.names_in" 775),(.str "/claim/cut.py" 776),(.int 208 0),(.int 2 0),(.int 0 0),(.int 0 0),(.int 3 0),(.ref 468),(.bool true),(.int 181 0),(.ref 469),.none,.none,.none,(.ref 470),(.int 777 0),(.int 208 0),(.str "/claim/cut.py" 778)]),#[]⟩) ::
 (nat_lit 472,Mk.fN "names_in" "Rule.names_in" (L2.inClass (Mk.top 36) 12) "markworks.rules" 650 471) ::
 (nat_lit 478,Mk.cO "never" 780 "Rule.never" 781 782 211 1 0 0 3 473 474 475 476 477 784 211 785) ::
 (nat_lit 479,Mk.fN "never" "Rule.never" (L2.inClass (Mk.top 36) 13) "markworks.rules" 650 478) ::
 (nat_lit 485,Mk.cO "always" 787 "Rule.always" 788 789 214 2 0 0 3 480 481 482 483 484 794 214 795) ::
 (nat_lit 486,Mk.fN "always" "Rule.always" (L2.inClass (Mk.top 36) 14) "markworks.rules" 650 485) ::
 (nat_lit 488,⟨(.type "dict"),none,(.dict #[Mk.dE P "__module__" 671 (.str "markworks.rules" 650),Mk.dE P "__firstlineno__" 675 (.int 154 674),Mk.dE P "__init__" 683 (.ref 390),Mk.dE P "kind" 690 (.ref 397),Mk.dE P "first_fault" 701 (.ref 404),Mk.dE P "own_number" 709 (.ref 411),Mk.dE P "lets" 717 (.ref 418),Mk.dE P "fault" 726 (.ref 425),Mk.dE P "grown" 734 (.ref 432),Mk.dE P "shrunk" 742 (.ref 439),Mk.dE P "mended" 750 (.ref 446),Mk.dE P "count" 757 (.ref 453),Mk.dE P "nth" 765 (.ref 460),Mk.dE P "place" 773 (.ref 467),Mk.dE P "names_in" 779 (.ref 472),Mk.dE P "never" 786 (.ref 479),Mk.dE P "always" 796 (.ref 486),Mk.dE P "__static_attributes__" 802 (.ref 487),Mk.dE P "__dict__" 804 (.ref 490),Mk.dE P "__weakref__" 806 (.ref 491),Mk.dE P "__doc__" 807 .none] 4),#[]⟩) ::
 (nat_lit 489,⟨(.type "type"),none,(.cls ⟨"Rule", [(.type "object")],[(.ref 489),(.type "object")],488, "Rule", true,[],[],false,none,false⟩),#[none,none,(some (.str "Rule" 664)),(some (.str "Rule" 672)),(some (.builtin "object.__new__")),(some (.bool true))]⟩) ::
 (nat_lit 499,Mk.cO "_law_cell" 812 "_law_cell" 813 814 223 2 0 0 3 494 495 496 497 498 817 223 818) ::
 (nat_lit 500,Mk.fN "_law_cell" "_law_cell" (Mk.top 38) "law_markworks_k42_whole_never_and_always" 810 499) ::
 (nat_lit 506,Mk.cO "_law_drawn" 820 "_law_drawn" 821 822 227 2 0 0 3 501 502 503 504 505 826 227 827) ::
 (nat_lit 507,Mk.fN "_law_drawn" "_law_drawn" (Mk.top 39) "law_markworks_k42_whole_never_and_always" 810 506) ::
 (nat_lit 513,Mk.cO "_law_roll" 829 "_law_roll" 830 831 232 2 0 0 3 508 509 510 511 512 835 232 836) ::
 (nat_lit 514,Mk.fN "_law_roll" "_law_roll" (Mk.top 40) "law_markworks_k42_whole_never_and_always" 810 513) ::
 (nat_lit 518,⟨(.type "code"),none,(.fields #[(.str "_law_rounds" 838),(.str "_law_rounds" 839),(.str "/claim/cut.py" 840),(.int 239 0),(.int 2 0),(.int 0 0),(.int 0 0),(.int 3 0),(.ref 515),(.bool true),(.int 181 0),(.ref 516),.none,.none,.none,(.ref 517),(.int 841 0),(.int 239 0),(.str "/claim/cut.py" 842)]),#[]⟩) ::
 (nat_lit 519,Mk.fN "_law_rounds" "_law_rounds" (Mk.top 41) "law_markworks_k42_whole_never_and_always" 810 518) ::
 (nat_lit 523,⟨(.type "code"),none,(.fields #[(.str "_law_word" 844),(.str "_law_word" 845),(.str "/claim/cut.py" 846),(.int 241 0),(.int 1 0),(.int 0 0),(.int 0 0),(.int 3 0),(.ref 520),(.bool true),(.int 181 0),(.ref 521),.none,.none,.none,(.ref 522),(.int 847 0),(.int 241 0),(.str "/claim/cut.py" 848)]),#[]⟩) ::
 (nat_lit 524,Mk.fN "_law_word" "_law_word" (Mk.top 42) "law_markworks_k42_whole_never_and_always" 810 523) ::
 (nat_lit 530,Mk.cO "_law_told" 850 "_law_told" 851 852 251 1 0 0 3 525 526 527 528 529 855 251 856) ::
 (nat_lit 531,Mk.fN "_law_told" "_law_told" (Mk.top 43) "law_markworks_k42_whole_never_and_always" 810 530) ::
 (nat_lit 535,⟨(.type "code"),none,(.fields #[(.str "_law_bits_of" 858),(.str "_law_bits_of" 859),(.str "/claim/cut.py" 860),(.int 264 0),(.int 1 0),(.int 0 0),(.int 0 0),(.int 3 0),(.ref 532),(.bool true),(.int 181 0),(.ref 533),.none,.none,.none,(.ref 534),(.int 861 0),(.int 264 0),(.str "/claim/cut.py" 862)]),#[]⟩) ::
 (nat_lit 536,Mk.fN "_law_bits_of" "_law_bits_of" (Mk.top 44) "law_markworks_k42_whole_never_and_always" 810 535) ::
 (nat_lit 542,Mk.cO "_law_rule_of" 864 "_law_rule_of" 865 866 266 1 0 0 3 537 538 539 540 541 868 266 869) ::
 (nat_lit 543,Mk.fN "_law_rule_of" "_law_rule_of" (Mk.top 45) "law_markworks_k42_whole_never_and_always" 810 542) ::
 (nat_lit 547,⟨(.type "code"),none,(.fields #[(.str "_law_lines" 871),(.str "_law_lines" 872),(.str "/claim/cut.py" 873),(.int 268 0),(.int 2 0),(.int 0 0),(.int 0 0),(.int 3 0),(.ref 544),(.bool true),(.int 181 0),(.ref 545),.none,.none,.none,(.ref 546),(.int 874 0),(.int 268 0),(.str "/claim/cut.py" 875)]),#[]⟩) ::
 (nat_lit 548,Mk.fN "_law_lines" "_law_lines" (Mk.top 46) "law_markworks_k42_whole_never_and_always" 810 547) ::
 (nat_lit 552,⟨(.type "code"),none,(.fields #[(.str "_law_table_of" 877),(.str "_law_table_of" 878),(.str "/claim/cut.py" 879),(.int 287 0),(.int 1 0),(.int 0 0),(.int 0 0),(.int 3 0),(.ref 549),(.bool true),(.int 181 0),(.ref 550),.none,.none,.none,(.ref 551),(.int 880 0),(.int 287 0),(.str "/claim/cut.py" 881)]),#[]⟩) ::
 (nat_lit 553,Mk.fN "_law_table_of" "_law_table_of" (Mk.top 47) "law_markworks_k42_whole_never_and_always" 810 552) ::
 (nat_lit 557,⟨(.type "code"),none,(.fields #[(.str "_law_rule_with" 883),(.str "_law_rule_with" 884),(.str "/claim/cut.py" 885),(.int 295 0),(.int 3 0),(.int 0 0),(.int 0 0),(.int 3 0),(.ref 554),(.bool true),(.int 181 0),(.ref 555),.none,.none,.none,(.ref 556),(.int 886 0),(.int 295 0),(.str "/claim/cut.py" 887)]),#[]⟩) ::
 (nat_lit 558,Mk.fN "_law_rule_with" "_law_rule_with" (Mk.top 48) "law_markworks_k42_whole_never_and_always" 810 557) ::
 (nat_lit 562,⟨(.type "code"),none,(.fields #[(.str "_law_broken" 889),(.str "_law_broken" 890),(.str "/claim/cut.py" 891),(.int 306 0),(.int 4 0),(.int 0 0),(.int 0 0),(.int 3 0),(.ref 559),(.bool true),(.int 181 0),(.ref 560),.none,.none,.none,(.ref 561),(.int 892 0),(.int 306 0),(.str "/claim/cut.py" 893)]),#[]⟩) ::
 (nat_lit 563,Mk.fN "_law_broken" "_law_broken" (Mk.top 49) "law_markworks_k42_whole_never_and_always" 810 562) ::
 (nat_lit 567,⟨(.type "code"),none,(.fields #[(.str "_law_let_by" 895),(.str "_law_let_by" 896),(.str "/claim/cut.py" 897),(.int 317 0),(.int 3 0),(.int 0 0),(.int 0 0),(.int 3 0),(.ref 564),(.bool true),(.int 181 0),(.ref 565),.none,.none,.none,(.ref 566),(.int 898 0),(.int 317 0),(.str "/claim/cut.py" 899)]),#[]⟩) ::
 (nat_lit 568,Mk.fN "_law_let_by" "_law_let_by" (Mk.top 50) "law_markworks_k42_whole_never_and_always" 810 567) ::
 (nat_lit 572,⟨(.type "code"),none,(.fields #[(.str "law" 901),(.str "law" 902),(.str "/claim/cut.py" 903),(.int 322 0),(.int 1 0),(.int 0 0),(.int 0 0),(.int 3 0),(.ref 569),(.bool true),(.int 181 0),(.ref 570),.none,.none,.none,(.ref 571),(.int 904 0),(.int 322 0),(.str "/claim/cut.py" 905)]),#[]⟩) ::
 (nat_lit 573,Mk.fN "law" "law" (Mk.top 51) "law_markworks_k42_whole_never_and_always" 810 572) ::
 []
noncomputable def Mk.Kf (P : PySem.Params) : PySem.W.Frag:=(nat_lit 570,⟨.none,none,(.fields #[]),#[]⟩) :: Mk.Kg P
noncomputable def Mk.Kas : List Nat:=570 :: 2 :: 3 :: 29 :: 35 :: 36 :: 38 :: 39 :: 59 :: 71 :: 82 :: 83 :: 95 :: 114 :: 126 :: 145 :: 156 :: 157 :: 169 :: 188 :: 200 :: 203 :: 209 :: 210 :: 214 :: 215 :: 221 :: 222 :: 228 :: 229 :: 233 :: 234 :: 240 :: 241 :: 245 :: 246 :: 252 :: 253 :: 257 :: 258 :: 262 :: 263 :: 269 :: 270 :: 276 :: 277 :: 283 :: 284 :: 292 :: 298 :: 299 :: 329 :: 330 :: 360 :: 361 :: 369 :: 370 :: 374 :: 375 :: 383 :: 384 :: 385 :: 389 :: 390 :: 403 :: 404 :: 452 :: 453 :: 471 :: 472 :: 478 :: 479 :: 485 :: 486 :: 488 :: 489 :: 499 :: 500 :: 506 :: 507 :: 513 :: 514 :: 518 :: 519 :: 523 :: 524 :: 530 :: 531 :: 535 :: 536 :: 542 :: 543 :: 547 :: 548 :: 552 :: 553 :: 557 :: 558 :: 562 :: 563 :: 567 :: 568 :: 572 :: 573 :: []
noncomputable def Mk.loose : List PySem.Str:=Str.ofString "_wall" :: Str.ofString "MarkError" :: Str.ofString "BadRows" :: Str.ofString "BadRule" :: Str.ofString "BadName" :: Str.ofString "BadNumber" :: Str.ofString "BadRest" :: Str.ofString "Unlike" :: Str.ofString "BadText" :: Str.ofString "BadPairs" :: Str.ofString "Never" :: Str.ofString "Unled" :: Str.ofString "Nothing" :: Str.ofString "GREATEST" :: Str.ofString "MOST_ROWS" :: Str.ofString "LONGEST_NAME" :: Str.ofString "RULES" :: Str.ofString "is_whole" :: Str.ofString "is_name" :: Str.ofString "is_mark" :: Str.ofString "union_of" :: Str.ofString "unions_of" :: Str.ofString "is_one_of" :: Str.ofString "mark_bits" :: Str.ofString "next_mark" :: Str.ofString "is_names_of" :: Str.ofString "thing_number" :: Str.ofString "row_number" :: Str.ofString "numbered" :: Str.ofString "first_names" :: Str.ofString "Kind" :: Str.ofString "is_pair" :: Str.ofString "pairs_of" :: Str.ofString "Rule" :: Str.ofString "_law_cell" :: Str.ofString "_law_drawn" :: Str.ofString "_law_roll" :: Str.ofString "_law_rounds" :: Str.ofString "_law_word" :: Str.ofString "_law_told" :: Str.ofString "_law_bits_of" :: Str.ofString "_law_rule_of" :: Str.ofString "_law_lines" :: Str.ofString "_law_table_of" :: Str.ofString "_law_rule_with" :: Str.ofString "_law_broken" :: Str.ofString "_law_let_by" :: []
def Mk.T0 (P : Params) : BT:=.node (boot_o_0 P)
  (.node (boot_o_1 P) (.node (boot_o_3 P) (.node (boot_o_7 P) .nil .nil) .nil) (.node (boot_o_5 P) (.node (boot_o_9 P) .nil .nil) .nil))
  (.node (boot_o_2 P) (.node (boot_o_4 P) (.node (boot_o_8 P) .nil .nil) .nil) (.node (boot_o_6 P) (.node (boot_o_10 P) .nil .nil) .nil))
theorem Mk.tree (P : Params) : absHeap (Mk.T0 P) (nat_lit 11) {} = boot_heap P:=by kernel_rfl
theorem Mk.size (w : World) : ((boot_heap w.params).isNs mainGlobals,(boot_heap w.params).objs.size,(boot_heap w.params).nsMap mainGlobals "__annotations__") = (true,(nat_lit 11),some (.ref (nat_lit 6))):=by kernel_rfl
theorem Mk.opens (w : World) : (fencedOpening treeTable PySem.Challenge.pw_markworks_k42_whole_never_and_always w (nat_lit 9756)).map (fun s=>(s.heap,s.gens,s.drawn,s.toks)) = some (boot_heap w.params,#[],boot_drawn,boot_toks):=boot_open (by kernel_rfl) (by decide) (fun s=>by kernel_rfl) w
theorem Mk.twin : Function.const _ true (@Hd.runT,@Hd.looksAt,PySem.Challenge.pw_markworks_k42_whole_never_and_always,Mk.Kf,Mk.loose) = true:=by k_qdec
abbrev Mk.qv : Program := view PySem.Challenge.pw_markworks_k42_whole_never_and_always [nat_lit 51]
abbrev Mk.Xt (s : Shared) : Bool := xlAt Mk.qv [] s && recOk [] s
theorem Mk.run_q (w : World) (os : OsState) : (Option.map (fun s => Fast.tw8257016192812374322 Fast.tw16573531882093114157 (view Fast.tw16573531882093114157 [nat_lit 51]) Fast.tw2924075613660010442 (fun s => xlAt (view Fast.tw16573531882093114157 [nat_lit 51]) [] s && recOk [] s) Mk.Kas (boot_heap w.params) s.abs)
      (Fast.tw16599536794577742827 Fast.tw14364793385576792824 Fast.tw16573531882093114157 w (nat_lit 11) (some (Value.ref (nat_lit 6))) (nat_lit 4830) ⟨Mk.T0 w.params,nat_lit 11,{},#[],boot_drawn,boot_toks,os⟩ (topStub Fast.tw16573531882093114157))) =
    some (true,openGood (view Fast.tw16573531882093114157 [nat_lit 51]) Fast.tw2924075613660010442,(Fast.tw12104304683883722232 w.params).map fun x=>some x.2):=by kernel_rfl
theorem Mk.left : LeftO PySem.Challenge.pw_markworks_k42_whole_never_and_always Mk.qv Mk.loose Mk.Xt (fun s=>Mk.Kas.map s.heap.get?) (fun w=>(Mk.Kf w.params).map fun x=>some x.2) (nat_lit 9756):=by
  refine Hd.left_of (M:=nat_lit 4830) (T0:=Mk.T0) Mk.opens Mk.tree Mk.size (by decide) fun w os=>?_
  have h:=Mk.run_q w os
  rw [← Fast.te8257016192812374322,← Fast.te16573531882093114157,← Fast.te2924075613660010442,← Fast.te16599536794577742827,← Fast.te14364793385576792824,← Fast.te12104304683883722232] at h
  exact h
theorem Mk.kg_in {P : Params} {h : Heap} (X : (Mk.Kf P).In h) : (Mk.Kg P).In h /\ h.get? 570 = some (tabObj #[]):=by
  have e : (Mk.Kg P).lookup 570 = none:=by kernel_rfl
  refine ⟨fun b o z=>X b o ?_,X _ _ (by unfold Mk.Kf; rw [List.lookup_cons]; rfl)⟩
  unfold Mk.Kf
  rw [List.lookup_cons]
  have nb : (b == 570) = false:=by
    cases q : (b == 570) with
    | false=>rfl
    | true=>rw [beq_iff_eq.mp q,e] at z; cases z
  rw [nb]
  exact z
def Mk.dL : DefRec:=⟨"law", L2.defArgs (Mk.top (nat_lit 51)),L2.defBody (Mk.top (nat_lit 51)),L2.defScope (Mk.top (nat_lit 51)),match Mk.top (nat_lit 51) with | .FunctionDef _ _ _ _ _ _ _ _ _ p=>p | _=>⟨0,0,0,0⟩⟩
end
open PySem PySem.W PyProof.Rows
set_option maxRecDepth 100000 in
set_option maxHeartbeats 0 in
theorem PySem.Challenge.cw_markworks_k42_whole_never_and_always_holds : PySem.Challenge.rw_markworks_k42_whole_never_and_always.Holds := by
  w_on; o_law
  refine PySem.W.holds_open (r:=PySem.Challenge.rw_markworks_k42_whole_never_and_always.row) (q:=Mk.qv) (loose:=Mk.loose) (Xt:=Mk.Xt) (XP:=XL Mk.qv []) (YP:=InK Mk.Kf) (d:=Mk.dL) (kwd:=[]) Mk.left
    (fun w s e=>InK.of (fun P=>by kernel_rfl) w s e) InK.keeps (fun s e=>xl_of s (Bool.and_eq_true_iff.mp e).1) XL.keeps (by kernel_rfl) (by kernel_rfl) (by kernel_rfl) (fun s e=>recFacts_of (Bool.and_eq_true_iff.mp e).2) (by rfl) (by assumption) (by decide +kernel) ⟨rfl,rfl,rfl,rfl,rfl,by decide +kernel⟩ ?hw ?hc
  case hw=>w_witness2
  have aux : Function.const _ True (PySem.Challenge.rw_markworks_k42_whole_never_and_always,Mk.Kg):=by k_fill; trivial
  refine Mk.walk (l:=PySem.Challenge.rw_markworks_k42_whole_never_and_always) (c:=572) (P0:=570) (K:=Mk.Kg) rfl rfl (fun w h Y=>⟨(Mk.kg_in Y).1,(Mk.kg_in Y).2,by kernel_rfl,Mk.codeHd_of (Mk.kg_in Y).1 (by kernel_rfl)⟩) ?F
  case F =>
    intro w mg fa h KX G hmg
    refine' Mk.all_mk KX G hmg ?aC ?aRC ?aM ?aX0 ?aX1 ?aX2 ?aX3 ?aX4 ?aX5 ?aX6 ?aX7 ?aX8 ?aX9 ?aX10 ?z_VE ?hwh ?hnm ?huo ?hnx ?hoo ?hno ?hth ?hro ?hnb ?hfi ?him ?hmM ?hlc ?hld ?hlr ?hls ?hll ?hmb ?huq ?ho1 ?hlb ?hlu ?hlt ?hrp ?hrq ?hrf ?hrc ?hrn ?hrv ?hlB ?hlY ?hra ?hlW ?hlw ?hlo ?ain ?iin ?lin ?cin ?kin ?ala ?lla ?cla ?kla ?aei ?iei ?lei ?cei ?kei ?kdl ?kde ?kdr ?dtl ?vG ?vM ?vL ?vR ?qn ?qt ?fC ?fRC ?nC_numbers ?nC_firsts ?nC_rule ?nRC_own_kind ?nRC_numbered_marks ?nRC_needs ?nRC_bars ?nRC_let_numbers ?xm ?xc0 ?xc1 ?xc2 ?xc3 ?y5 ?y8 ?rL ?z_len ?z_isinstance ?z_max ?z_min ?z_range ?z_list ?z_tuple ?z_sorted ?z_sum ?z_all ?z_enumerate ?z_int ?z_bool ?z_str ?z_dict ?ari ?iri ?lri ?cri ?kri ?k2l ?k2e ?k2n ?k2b ?t5l ?t6l
    case aC | aRC | aM | aX0 | aX1 | aX2 | aX3 | aX4 | aX5 | aX6 | aX7 | aX8 | aX9 | aX10 | z_VE=>k_is
    case hwh | hnm | huo | hnx | hoo | hno | hth | hro | hnb | hfi | him =>
      refine' ⟨_,_,?a,L2.fun_mk ?b ?c ?d⟩
      case a | b | c | d=>k_is
    case hmM =>
      refine' ⟨_,_,?a,?i,⟨_,?o,?q⟩,L2.fun_mk ?b ?c ?d⟩
      case a | i | b=>k_is
      case o | q=>first | rfl | k_is
      case c | d=>k_is
    case hlc | hld | hlr | hls | hll | hmb | huq | ho1 | hlb | hlu | hlt | hrp | hrq =>
      refine' ⟨_,_,?a,L2.fun_mk ?b ?c ?d⟩
      case a | b | c | d=>k_is
    case hrf | hrc | hrn | hrv =>
      refine' ⟨_,_,?a,?i,⟨_,?o,?q⟩,L2.fun_mk ?b ?c ?d⟩
      case a | i | b=>k_is
      case o | q=>first | rfl | k_is
      case c | d=>k_is
    case hlB | hlY =>
      refine' ⟨_,_,?a,L2.fun_mk ?b ?c ?d⟩
      case a | b | c | d=>k_is
    case hra =>
      refine' ⟨_,_,?a,?i,⟨_,?o,?q⟩,L2.fun_mk ?b ?c ?d⟩
      case a | i | b=>k_is
      case o | q=>first | rfl | k_is
      case c | d=>k_is
    case hlW | hlw | hlo =>
      refine' ⟨_,_,?a,L2.fun_mk ?b ?c ?d⟩
      case a | b | c | d=>k_is
    case ain | iin | lin | cin | kin | ala | lla | cla | kla | aei | iei | lei | cei | kei | kdl=>k_is
    case kde=>simp
    case kdr | dtl | vG | vM | vL | vR | qn | qt=>k_is
    case fC | fRC =>
      refine' ⟨?_,?_,?_,?_,?_,?_,?_,?_,?_,?_,?_,?_,?_,?_⟩ <;> k_is
    case nC_numbers | nC_firsts | nC_rule | nRC_own_kind | nRC_numbered_marks | nRC_needs | nRC_bars | nRC_let_numbers=>k_is
    case xm | xc0 | xc1 | xc2 | xc3=>kernel_rfl
    case y5 | y8 =>
      exact ⟨⟨by kernel_rfl,by kernel_rfl,by kernel_rfl,by kernel_rfl,by kernel_rfl,by kernel_rfl,by kernel_rfl,by kernel_rfl,by kernel_rfl,by kernel_rfl⟩,by kernel_rfl,by kernel_rfl,by kernel_rfl⟩
    case rL | z_len | z_isinstance | z_max | z_min | z_range | z_list | z_tuple | z_sorted | z_sum | z_all | z_enumerate | z_int | z_bool | z_str | z_dict | ari | iri | lri | cri | kri | k2l=>k_is
    case k2e=>simp
    case k2n | k2b | t5l | t6l=>k_is
