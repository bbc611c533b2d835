import PyProof.Rows.All
import Wide.All
import OpenK.AllK
import Wide.FinOn
import PyProof.EqAt
import PyProof.EqKinds
import PyProof.TupleCall
import Lean
import PyProof.Rows.BitMore
import PyProof.ExcBaseAll.ValueError
import PyProof.ExcArgsOwn
import KE.KLam
import PyProof.InstStoreFacts
import PyProof.FString
import PyProof.FString2
import PyProof.Rows.FStr
import PyProof.FitsInt
import PyProof.ZipIter
import PyProof.Rows.ZipGen
import PyProof.AttrMissHeap
import KE.KDictOf
import PyProof.DictCompW
import PyProof.DictWalks
import PyProof.AutoSeq1
import PyProof.Rows.SeqMore
import PySem.Challenge.RW_markworks_k52_whole_first_mixed
set_option Elab.async false
set_option linter.all false
set_option maxRecDepth 100000
set_option maxHeartbeats 4000000
abbrev LN:=List (PySem.Str × Nat)
abbrev VS:=PySem.Value->PySem.Shared->Prop
abbrev LO:=List (PySem.Addr × PySem.Obj)
abbrev SV:=PySem.Str->Option PySem.Value
open PySem in
abbrev FG:=W.Frag
open List (all_map any_cons any_eq_true any_map append_nil drop_length filterMap_cons filter_append filter_cons filter_nil find?_cons foldl_append foldl_cons getD_eq_getElem?_getD getElem?_map length_append length_cons length_filter_le length_map length_nil length_singleton length_take lookup_cons map_append map_cons map_map map_nil mem_append mem_append_left mem_append_right mem_cons mem_cons_of_mem mem_cons_self mem_filter mem_map mem_of_find?_eq_some mem_of_getElem? mem_range mem_singleton nil_append nodup_append nodup_cons nodup_nil not_mem_nil of_mem_zip size_toArray sum_append sum_cons take_add_one take_append_drop take_length take_sublist)
open PySem.Heap (get?_push_of_some get?_push_size get?_update_other lt_size size_push size_update)
section
namespace L2
open PySem
theorem sl1:1 <= sizeLine:=by decide
theorem sl2:2 <= sizeLine:=by decide
theorem sl3:3 <= sizeLine:=by decide
theorem sl4:4 <= sizeLine:=by decide
theorem sl6:6 <= sizeLine:=by decide
theorem sl7:7 <= sizeLine:=by decide
theorem sl9:9 <= sizeLine:=by decide
end L2
end
section
namespace L2
open PySem PySem.Spec PyProof.Rows
abbrev Key:=Sum Int Str
def FJ:Key->Value->Bool
 | .inl k,v=>Value.isInt k v
 | .inr x,v=>Value.isStrOf x v
def Qd (w:World):Key->Int
 | .inl k=>hashInt k
 | .inr x=>hashStr w x
theorem Au:∀ {k:Key} {v:Value},FJ k v=true->(∃ i t,k=Sum.inl i/\v=Value.int i t)\/(∃ x t,k=Sum.inr x/\v=Value.str x t)
 | .inl i,v,h=>by
  obtain ⟨t,e⟩:=Value.isInt_shape (k:=i) (v:=v) h;exact .inl ⟨i,t,rfl,e⟩
 | .inr x,v,h=>by
  obtain ⟨t,e⟩:=Value.isStrOf_shape (x:=x) (v:=v) h;exact .inr ⟨x,t,rfl,e⟩
theorem Kj (i:Int) (t:Tok):FJ (.inl i) (.int i t)=true:=by simp [FJ,Value.isInt]
theorem Kk (x:Str) (t:Tok):FJ (.inr x) (.str x t)=true:=by simp [FJ,Value.isStrOf]
theorem Oj (a b:Int):decide ((Sum.inl a:Key)=Sum.inl b)=(a == b):=by
 by_cases e:a=b
 ·subst e; simp
 ·have h:¬ (Sum.inl a:Key)=Sum.inl b:=fun q=>e (Sum.inl.inj q);rw [decide_eq_false h];exact (beq_eq_false_iff_ne.mpr e).symm
theorem Ol (a b:Str):decide ((Sum.inr a:Key)=Sum.inr b)=decide (a=b):=by
 by_cases e:a=b
 ·subst e; simp
 ·have h:¬ (Sum.inr a:Key)=Sum.inr b:=fun q=>e (Sum.inr.inj q);rw [decide_eq_false h,decide_eq_false e]
theorem Om (a:Int) (b:Str):decide ((Sum.inl a:Key)=Sum.inr b)=false:=decide_eq_false (fun q=>nomatch q)
theorem On (a:Str) (b:Int):decide ((Sum.inr a:Key)=Sum.inl b)=false:=decide_eq_false (fun q=>nomatch q)
def Ab (prog:Program) (w:World):PySem.KeyKind prog w Key where
 is:=FJ
 hash:=Qd w
 inj:=fun v a b ha hb=>by
  rcases Au ha with ⟨i,t,rfl,rfl⟩ | ⟨x,t,rfl,rfl⟩
  ·rcases Au hb with ⟨j,u,rfl,e⟩ | ⟨y,u,rfl,e⟩
   ·injection e with e1 _; rw [e1]
   ·exact nomatch e
  ·rcases Au hb with ⟨j,u,rfl,e⟩ | ⟨y,u,rfl,e⟩
   ·exact nomatch e
   ·injection e with e1 _; rw [e1]
 byValue:=fun k v h=>by
  rcases Au h with ⟨i,t,rfl,rfl⟩ | ⟨x,t,rfl,rfl⟩ <;> rfl
 pyHash:=fun hv h=>by
  rcases Au hv with ⟨i,t,rfl,rfl⟩ | ⟨x,t,rfl,rfl⟩
  ·exact wpAny_pyHash_int h
  ·exact wpAny_pyHash_str h
 eqBool:=fun hu hv h=>by
  rcases Au hu with ⟨i,t,rfl,rfl⟩ | ⟨x,t,rfl,rfl⟩
  ·rcases Au hv with ⟨j,u,rfl,rfl⟩ | ⟨y,u,rfl,rfl⟩
   ·rw [Oj] at h; exact wpAny_eqBool_int h
   ·rw [Om] at h; exact SeqAt.EqAt.int_str i t y u _ _ _ _ h
  ·rcases Au hv with ⟨j,u,rfl,rfl⟩ | ⟨y,u,rfl,rfl⟩
   ·rw [On] at h; exact SeqAt.EqAt.str_int x t j u _ _ _ _ h
   ·rw [Ol] at h; exact wpAny_eqBool_str h
 «strs»:=fun k x t v h=>by
  rcases Au h with ⟨i,u,rfl,e⟩ | ⟨y,u,rfl,e⟩
  ·exact nomatch e
  ·injection e with e1 _
   subst e1;cases v <;> rfl
theorem ID (prog:Program) (w:World) (i:Int) (t:Tok):(Ab prog w).is (.inl i) (.int i t)=true:=Kj i t
theorem IE (prog:Program) (w:World) (x:Str) (t:Tok):(Ab prog w).is (.inr x) (.str x t)=true:=Kk x t
end L2
namespace L2
open PySem PySem.Spec PyProof.Rows
inductive V where
 | non | bl (b:Bool) | int (i:Int) | str (x:Str) | byt (b:Array UInt8) | flt (b:UInt64) | ref (a:Addr) | ty (n:String)
 deriving DecidableEq
def RelV:V->Value->Prop
 | .non,u=>u=Value.none
 | .bl b,u=>u=Value.bool b
 | .int i,u=>∃ t,u=Value.int i t
 | .str x,u=>∃ t,u=Value.str x t
 | .byt b,u=>∃ t,u=Value.bytes b t
 | .flt b,u=>∃ t,u=Value.float b t
 | .ref a,u=>u=Value.ref a
 | .ty n,u=>u=Value.type n
abbrev Vals:List V->List Value->Prop:=Paired RelV
theorem Vals.length {xs:List V} {us:List Value} (r:Vals xs us):xs.length=us.length:=Paired.length r
theorem Vals.get:∀ {xs:List V} {us:List Value} {i:Nat} {x:V},Vals xs us->xs[i]?=some x->∃ u,us[i]?=some u/\RelV x u
 | _,_,_,_,.nil,e=>by simp at e
 | _,_,0,_,.cons r _,e=>by simp at e; subst e; exact ⟨_,rfl,r⟩
 | _,_,i + 1,x,.cons _ t,e=>by
  obtain ⟨u,h1,h2⟩:=Vals.get (i:=i) (x:=x) t (by simpa using e);exact ⟨u,by simpa using h1,h2⟩
theorem Vals.set {x:V} {u:Value} (r:RelV x u):∀ {xs:List V} {us:List Value} (i:Nat),Vals xs us->Vals (xs.set i x) (us.set i u)
 | _,_,_,.nil=>.nil
 | _,_,0,.cons _ t=>.cons r t
 | _,_,i + 1,.cons q t=>.cons q (Vals.set r i t)
theorem Vals.append:∀ {xs ys:List V} {us ws:List Value},Vals xs us->Vals ys ws->Vals (xs++ys) (us++ws)
 | _,_,_,_,.nil,s=>s
 | _,_,_,_,.cons r t,s=>.cons r (Vals.append t s)
theorem Vals.take:∀ {xs:List V} {us:List Value} (n:Nat),Vals xs us->Vals (xs.take n) (us.take n)
 | _,_,0,_=>.nil
 | _,_,_ + 1,.nil=>.nil
 | _,_,n + 1,.cons r t=>.cons r (Vals.take n t)
theorem Vals.drop:∀ {xs:List V} {us:List Value} (n:Nat),Vals xs us->Vals (xs.drop n) (us.drop n)
 | _,_,0,r=>r
 | _,_,_ + 1,.nil=>.nil
 | _,_,n + 1,.cons _ t=>Vals.drop n t
def RelO:Option V->Option Value->Prop
 | some v,some u=>RelV v u
 | none,none=>True
 | _,_=>False
def KV {κ:Type}:List (κ × V)->List (κ × Value)->Prop:=Paired fun (p:κ × V) (q:κ × Value)=>p.1=q.1/\RelV p.2 q.2
def kV:Key->V
 | .inl i=>.int i
 | .inr x=>.str x
abbrev LK:=List (Key × V)
inductive HO where
 | lst (xs:List V)
 | tup (xs:List V)
 | dK (kvs:LK) | dT (kvs:List (List Key × V))
 | set (S:Int->Bool) (n:Nat)
 | ins (C dx:Addr) (fs:List (Str × V))
 | own (x:Addr)
 | xd (fs:List (Str × V))
 | met (f x:Addr)
 | rng (lo hi:Int)
 | frz (o:Obj) (u:HO)
 | tbl (ps:Array Value)
 | ext (φ:Heap->Prop)
abbrev Hp:=Addr->Option HO
def upd (H:Hp) (a:Addr) (o:HO):Hp:=fun b=>if b=a then some o else H b
theorem AB {H:Hp} {a:Addr} {o:HO}:upd H a o a=some o:=by unfold upd; rw [if_pos rfl]
theorem AH {H:Hp} {a b:Addr} {o:HO} (h:b ≠ a):upd H a o b=H b:=by unfold upd; rw [if_neg h]
theorem HD {H:Hp} {a:Addr} {o u:HO}:upd (upd H a o) a u=upd H a u:=by
 funext b; unfold upd; split <;> rfl
theorem Ps {H:Hp} {a b:Addr} {o u:HO} (h:H a=some o) (h':H b=some u) (d:o ≠ u):a ≠ b:=by
 intro e; subst e; rw [h] at h'; exact d (Option.some.inj h')
theorem AG {H:Hp} {a b:Addr} {o:HO} (h:H a=some o) (h':H b=none):a ≠ b:=by
 intro e; subst e; rw [h] at h'; cases h'
section
variable (P:Program) (w:World)
def ObjOk (H:Hp) (h:Heap) (a:Addr):HO->Prop
 | .lst xs=>xs.length <= sizeLine/\∃ (its:List Value) (n:Nat),Vals xs its/\h.get? a=some { cls:=.type "list", data:=.seq its.toArray n }
 | .tup xs=>xs.length <= sizeLine/\∃ its:List Value,Vals xs its/\IsTup h a its.toArray
 | .dK kvs=>kvs.length <= sizeLine/\(a == sysModules)=false/\∃ vs,KV kvs vs/\h.DictOf (Ab P w) a vs
 | .dT kvs=>kvs.length <= sizeLine/\(a == sysModules)=false/\∃ xs:List (List Key × Addr × Value),
   Paired (fun (p:List Key × V) (q:List Key × Addr × Value)=>p.1=q.1/\H q.2.1=some (.tup (p.1.map kV))/\RelV p.2 q.2.2) kvs xs /\
   ∃ o es ep,h.get? a=some o/\o.ExactDict/\o.data=.dict es ep/\es.toList=xs.map (entryOfKey (tupleKind (Ab P w)))/\(xs.map (·.1)).Nodup
 | .set S n=>h.SetOf (intKind P w) a S n
 | .ins C dx fs=>H dx=some (.own a)/\fs.length <= 1000/\dx ≠ a/\h.get? a=some (W.instObj C dx) /\
   ∃ mA,h.Ns1 dx mA/\(∀ f,RelO (fs.lookup f) (mA f))/\PySem.Within mA (fs.map (·.1))
 | .own _=>∃ o,h.get? a=some o
 | .xd fs=>∃ mA,h.Ns1 a mA/\∀ f,RelO (fs.lookup f) (mA f)
 | .rng lo hi=>∃ t u v,h.get? a=some { cls:=.type "range", data:=.fields #[.int lo t,.int hi u,.int 1 v] }
 | .frz o u=>h.get? a=some o/\ObjOk H h a u
 | .tbl ps=>h.get? a=some { cls:=.none,data:=.fields ps }
 | .met f x=>h.get? a=some (W.methodObj (.ref f) (.ref x))
 | .ext φ=>φ h/\(∃ o,h.get? a=some o)/\∀ h1 h2:Heap,φ h1->(∀ o,h1.get? a=some o->h2.get? a=some o)->φ h2
def HOk (H:Hp) (h:Heap):Prop:=∀ a o,H a=some o->ObjOk P w H h a o
end
section
variable {P:Program} {w:World} {H H':Hp} {h h':Heap} {a:Addr} {o:HO}
theorem ObjOk.lt (x:ObjOk P w H h a o):a < h.objs.size:=by
 cases o with
 | lst xs=>obtain ⟨_,_,_,_,e⟩:=x; exact lt_size e
 | tup xs=>obtain ⟨_,_,_,p⟩:=x; exact p.lt
 | dK kvs=>obtain ⟨_,_,_,_,o,_,_,e,_⟩:=x; exact lt_size e
 | dT kvs=>obtain ⟨_,_,_,_,o,_,_,e,_⟩:=x; exact lt_size e
 | set S n=>obtain ⟨o,_,_,_,e,_⟩:=x; exact lt_size e
 | ins C dx fs=>obtain ⟨_,_,_,e,_⟩:=x; exact lt_size e
 | own y=>obtain ⟨_,e⟩:=x; exact lt_size e
 | xd fs=>obtain ⟨_,⟨_,_,_,e,_⟩,_⟩:=x; exact lt_size e
 | rng lo hi=>obtain ⟨_,_,_,e⟩:=x; exact lt_size e
 | frz ob u=>obtain ⟨e,_⟩:=x; exact lt_size e
 | tbl ps=>exact lt_size (show h.get? a=some _ from x)
 | met f y=>exact lt_size (show h.get? a=some _ from x)
 | ext φ=>obtain ⟨_,⟨_,e⟩,_⟩:=x; exact lt_size e
theorem Paired.mapP {α β:Type} {F G:α->β->Prop}:∀ {l₁:List α} {l₂:List β},Paired F l₁ l₂->(∀ a b,F a b->G a b)->Paired G l₁ l₂
 | _,_,.nil,_=>.nil
 | _,_,.cons r t,f=>.cons (f _ _ r) (Paired.mapP t f)
theorem Paired.imp' {α β:Type} {F G:α->β->Prop} (f:∀ a b,F a b->G a b) {l₁:List α} {l₂:List β} (r:Paired F l₁ l₂):Paired G l₁ l₂:=Paired.mapP r f
theorem ObjOk.stay (x:ObjOk P w H h a o) (k:∀ b u,(b=a\/H b=some (.own a))->h.get? b=some u->h'.get? b=some u)
  (ho:∀ b,H b=some (.own a)->H' b=some (.own a)) (ht:∀ b xs,H b=some (.tup xs)->H' b=some (.tup xs)):ObjOk P w H' h' a o:=by
 induction o with
 | lst xs=>obtain ⟨z,its,n,r,e⟩:=x; exact ⟨z,its,n,r,k _ _ (.inl rfl) e⟩
 | tup xs=>obtain ⟨z,its,r,ob,e,c⟩:=x; exact ⟨z,its,r,ob,k _ _ (.inl rfl) e,c⟩
 | dK kvs=>obtain ⟨z,y,vs,r,ob,es,ep,e,c⟩:=x; exact ⟨z,y,vs,r,ob,es,ep,k _ _ (.inl rfl) e,c⟩
 | dT kvs =>
  obtain ⟨z,y,xs,r,ob,es,ep,e,c⟩:=x;exact ⟨z,y,xs,Paired.mapP r fun p q z=>⟨z.1,ht _ _ z.2.1,z.2.2⟩,ob,es,ep,k _ _ (.inl rfl) e,c⟩
 | set S n=>obtain ⟨ob,es,ep,t,e,c⟩:=x; exact ⟨ob,es,ep,t,k _ _ (.inl rfl) e,c⟩
 | ins C dx fs =>
  obtain ⟨d,z,ne,e,mA,⟨od,es,ep,e2,c⟩,r⟩:=x;exact ⟨ho _ d,z,ne,k _ _ (.inl rfl) e,mA,⟨od,es,ep,k _ _ (.inr d) e2,c⟩,r⟩
 | own y=>obtain ⟨ob,e⟩:=x; exact ⟨ob,k _ _ (.inl rfl) e⟩
 | xd fs=>obtain ⟨mA,⟨od,es,ep,e,c⟩,r⟩:=x; exact ⟨mA,⟨od,es,ep,k _ _ (.inl rfl) e,c⟩,r⟩
 | rng lo hi=>obtain ⟨t,u,v,e⟩:=x; exact ⟨t,u,v,k _ _ (.inl rfl) e⟩
 | frz ob u ih=>obtain ⟨e,q⟩:=x; exact ⟨k _ _ (.inl rfl) e,ih q⟩
 | tbl ps =>
  have e:h.get? a=some { cls:=.none,data:=.fields ps }:=x;show h'.get? a=some { cls:=.none,data:=.fields ps };exact k a _ (.inl rfl) e
 | met f y =>
  have e:h.get? a=some (W.methodObj (.ref f) (.ref y)):=x;show h'.get? a=some (W.methodObj (.ref f) (.ref y));exact k a _ (.inl rfl) e
 | ext φ=>obtain ⟨p,⟨o,e⟩,st⟩:=x; exact ⟨st _ _ p fun o q=>k _ _ (.inl rfl) q,⟨o,k _ _ (.inl rfl) e⟩,st⟩
theorem HOk.lt (x:HOk P w H h) (e:H a=some o):a < h.objs.size:=(x a o e).lt
theorem HOk.fresh (x:HOk P w H h) (e:h.objs.size <= a):H a=none:=by
 cases q:H a with
 | none=>rfl
 | some u=>exact absurd (Nat.lt_of_lt_of_le (x.lt q) e) (Nat.lt_irrefl _)
theorem HOk.kept (x:HOk P w H h) (k:∀ b u,h.get? b=some u->h'.get? b=some u):HOk P w H h':=fun a o e =>
 (x a o e).stay (fun b u _ q=>k b u q) (fun _ q=>q) fun _ _ q=>q
theorem HOk.laid (x:HOk P w H h) (k:∀ b u,h.get? b=some u->h'.get? b=some u) (hp:h.objs.size <= a) (new:ObjOk P w (upd H a o) h' a o):HOk P w (upd H a o) h':=fun b u e=>by
 have hn:=x.fresh hp;by_cases hb:b=a
 ·subst hb; rw [AB] at e; cases e; exact new
 ·rw [AH hb] at e;exact (x b u e).stay (fun c v _ q=>k c v q) (fun c q=>by rw [AH (AG q hn)]; exact q) fun c xs q=>by rw [AH (AG q hn)]; exact q
end
def Rd (H:Hp) (a:Addr) (u:HO):Prop:=H a=some u\/∃ o,H a=some (.frz o u)
theorem Rd.ok {P:Program} {w:World} {H:Hp} {h:Heap} {a:Addr} {u:HO} (r:Rd H a u) (x:HOk P w H h):ObjOk P w H h a u:=by
 rcases r with r | ⟨o,r⟩
 ·exact x a u r
 ·obtain ⟨_,q⟩:=x a _ r;exact q
def Mut:Option HO->Prop
 | some (.lst _)=>True
 | some (.dK _)=>True
 | some (.dT _)=>True
 | some (.set _ _)=>True
 | some (.ins _ _ _)=>True
 | some (.ext _)=>True
 | _=>False
section
variable {P:Program} {w:World} {H:Hp} {h h':Heap} {x e:Addr} {o':HO}
theorem HOk.write (ok:HOk P w H h) (mu:Mut (H x)) (he:e=x\/H e=some (.own x)) (k:∀ b u,b ≠ e->h.get? b=some u->h'.get? b=some u) (heo:∃ u,h'.get? e=some u)
  (new:ObjOk P w (upd H x o') h' x o'):HOk P w (upd H x o') h':=fun b u q=>by
 have nown:∀ c y,H c=some (.own y)->c ≠ x:=fun c y r z=>by subst z; rw [r] at mu; exact mu
 have ntup:∀ c xs,H c=some (.tup xs)->c ≠ x:=fun c xs r z=>by subst z; rw [r] at mu; exact mu
 by_cases hb:b=x
 ·subst hb; rw [AB] at q; cases q; exact new
 ·rw [AH hb] at q;by_cases hbe:b=e
  ·have q':H b=some (.own x):=by
    rcases he with z | z
    ·exact absurd (hbe.trans z) hb
    ·rw [hbe]; exact z
   rw [q] at q'; cases q';obtain ⟨v,hv⟩:=heo;exact ⟨v,by rw [hbe]; exact hv⟩
  ·refine (ok b u q).stay (fun c v hc r=>k c v ?_ r) (fun c r=>by rw [AH (nown c b r)]; exact r) fun c xs r=>by rw [AH (ntup c xs r)]; exact r
   rcases hc with rfl | hc
   ·exact hbe
   ·rintro rfl;rcases he with z | z
    ·exact nown c b hc z
    ·rw [hc] at z; cases z; exact hb rfl
end
structure Un (fs ex:List Addr) (H H':Hp) (h h':Heap):Prop where
 keep:∀ b o,h.get? b=some o->H b=none->b ∉ fs->b ∉ ex->h'.get? b=some o
 slot:∀ b o,h.get? b=some o->H b=none->b ∈ fs->b ∉ ex->∃ sl,h'.get? b=some { o with slots:=sl }
 free:∀ b o,h.get? b=some o->H b=none->b ∉ ex->H' b=none
 there:∀ b o,h.get? b=some o->b ∉ ex->∃ o',h'.get? b=some o'
 tups:∀ b xs,H b=some (.tup xs)->H' b=some (.tup xs)
 frzs:∀ b o u,H b=some (.frz o u)->H' b=some (.frz o u)
 tbls:∀ b ps,H b=some (.tbl ps)->∃ more,H' b=some (.tbl (ps++more))
section
variable {fs fs' ex ex':List Addr} {H H1 H2:Hp} {h h1 h2 h':Heap} {a x e:Addr} {o:HO}
theorem Un.any (u:Un fs ex H H1 h h1) {b:Addr} {ob:Obj} (q:h.get? b=some ob) (n:H b=none) (hx:b ∉ ex):∃ sl,h1.get? b=some { ob with slots:=sl }:=by
 by_cases hb:b ∈ fs
 ·exact u.slot b ob q n hb hx
 ·exact ⟨ob.slots,u.keep b ob q n hb hx⟩
theorem Un.kept (k:∀ b u,h.get? b=some u->h'.get? b=some u):Un fs ex H H h h' :=
 ⟨fun b ob q _ _ _=>k b ob q,fun b ob q _ _ _=>⟨ob.slots,k b ob q⟩,fun _ _ _ n _=>n,fun b ob q _=>⟨ob,k b ob q⟩,fun _ _ q=>q,fun _ _ _ q=>q,fun _ ps q=>⟨#[],by rw [q]; simp⟩⟩
theorem Un.refl:Un fs ex H H h h:=Un.kept fun _ _ q=>q
theorem Un.laid (k:∀ b u,h.get? b=some u->h'.get? b=some u) (hp:h.objs.size <= a) (hn:H a=none):Un fs ex H (upd H a o) h h' where
 keep:=fun b u q _ _ _=>k b u q
 slot:=fun b u q _ _ _=>⟨u.slots,k b u q⟩
 free:=fun b u q n _=>by rw [AH (Nat.ne_of_lt (Nat.lt_of_lt_of_le (lt_size q) hp))]; exact n
 there:=fun b u q _=>⟨u,k b u q⟩
 tups:=fun b xs q=>by rw [AH (AG q hn)]; exact q
 frzs:=fun b u xs q=>by rw [AH (AG q hn)]; exact q
 tbls:=fun b ps q=>⟨#[],by rw [AH (AG q hn),q]; simp⟩
theorem Un.write (mu:Mut (H x)) (he:e=x\/H e=some (.own x)) (k:∀ b u,b ≠ e->h.get? b=some u->h'.get? b=some u) (heo:∃ u,h'.get? e=some u):Un fs ex H (upd H x o) h h':=by
 have hx:∀ b,H b=none->b ≠ x:=fun b n z=>by subst z; rw [n] at mu; exact mu
 have hb:∀ b,H b=none->b ≠ e:=fun b n z=>by
  subst z;rcases he with r | r
  ·exact hx b n r
  ·rw [n] at r; cases r
 have hm:∀ b u,H b=some u->¬ Mut (some u)->b ≠ x:=fun b u q nm z=>by subst z; rw [q] at mu; exact nm mu
 refine ⟨fun b u q n _ _=>k b u (hb b n) q,fun b u q n _ _=>⟨u.slots,k b u (hb b n) q⟩,fun b u q n _=>by rw [AH (hx b n)]; exact n,fun b u q _=>?_,
  fun b xs q=>by rw [AH (hm b _ q fun z=>z)]; exact q,fun b u xs q=>by rw [AH (hm b _ q fun z=>z)]; exact q,fun b ps q=>⟨#[],by rw [AH (hm b _ q fun z=>z),q]; simp⟩⟩
 by_cases hbe:b=e
 ·subst hbe; exact heo
 ·exact ⟨u,k b u hbe q⟩
end
def trk (h:Heap) (H:Hp):List Addr:=(List.range h.objs.size).filter fun a=>(H a).isSome
def HE (h:Heap) (H:Hp):Heap:=W.hideAll h (trk h H)
theorem Kl (h:Heap) (H:Hp):(HE h H).objs.size=h.objs.size:=W.hideAll_size _ _
theorem Lg {h:Heap} {H:Hp} {b:Addr} {o:Obj} (e:h.get? b=some o) (n:H b=none):(HE h H).get? b=some o :=
 W.hideAll_get _ e fun hm=>by
  have q:(H b).isSome=true:=(mem_filter.mp hm).2;rw [n] at q; simp at q
theorem Ni {h:Heap} {H:Hp} {b:Addr} {o:Obj} (e:(HE h H).get? b=some o):h.get? b=some o/\H b=none:=by
 have e':h.get? b=some o:=W.of_hideAll (trk h H) e;refine ⟨e',?_⟩;cases q:H b with
 | none=>rfl
 | some x =>
  have hm:b ∈ trk h H:=mem_filter.mpr ⟨mem_range.mpr (lt_size e'),by simp [q]⟩;have z:(HE h H).get? b=none:=W.hideAll_none (trk h H) hm;rw [z] at e; cases e
end L2
namespace L2
open PySem PySem.Spec PyProof.Rows
structure Mod (K:FG) (mg:SV) (base:Heap):Prop where
 kin:K.In base
 glob:base.Ns mainGlobals mg
 blt:∃ mb,base.Ns builtinsNs mb/\∀ x:Str,x ≠ "__name__" -> mb x=bootBuiltins x
 nolimit:base.NoLimit
structure Cx where
 prog:Program
 w:World
 K:FG
 mg:Str->Option Value
 base:Heap
 A:Around
 N:List Str
 s₀:Shared
 H₀:Hp
 env:Env
 outer:List Env
 stack:List Env
 ex:List Addr
 fn:Str->Bool
 calm:Bool
 pn:LO
 xe:Value->Shared->Prop
def frs (l:List Env):List Addr:=l.filterMap (·.frame)
abbrev Cx.fs (X:Cx):List Addr:=frs X.outer
def Vis (sc:Scope) (x:Str):Prop:=sc.names.lookup x=some .local\/sc.names.lookup x=some .cell\/sc.names.lookup x=some .free
def Loc (sc:Scope) (x:Str):Prop:=sc.names.lookup x=some .local\/sc.names.lookup x=some .cell
def Qe (env:Env) (h:Heap) (m:SV) (x:Str) (u:Value):Prop :=
 (env.kindOf x=some .local/\m x=some u)\/((env.kindOf x=some .cell\/env.kindOf x=some .free)/\∃ c,env.cells.lookup x=some c/\h.IsCell c (some u))
structure Cx.Ok (X:Cx):Prop where
 mod:Mod X.K X.mg X.base
 kind:X.env.scope.kind=.function
 glob:X.env.globals=mainGlobals
 blt:X.env.builtins=builtinsNs
 above:X.s₀.heap.objs.size <= X.env.locals
 inj:∀ x y c,X.env.cells.lookup x=some c->X.env.cells.lookup y=some c->x=y
 has:∀ x,(X.env.kindOf x=some .cell\/X.env.kindOf x=some .free)->∃ c,X.env.cells.lookup x=some c
 cab:∀ x c,X.fn x=true->X.env.cells.lookup x=some c->X.s₀.heap.objs.size <= c
 hd:X.calm=true->X.A.handled=none
 frames:X.A.frames=some X.stack
 stk:X.stack=X.outer\/(X.stack=X.env :: X.outer/\X.env.frame=some X.env.locals)
 exf:∀ b ∈ X.ex,b ≠ X.env.locals/\∀ x c,X.env.cells.lookup x=some c->c ≠ b
 bs:∀ b o,X.base.get? b=some o->X.s₀.heap.get? b=some o/\X.H₀ b=none
 bsz:X.base.objs.size <= X.s₀.heap.objs.size
 noex:∀ b o,X.base.get? b=some o->b ∉ X.ex
 exfs:∀ b ∈ X.ex,b ∉ X.fs
 funs:X.s₀.heap.FunFrames X.base X.outer
 frf:∀ b ∈ X.fs,X.H₀ b=none
structure Inv (X:Cx) (aa:LO) (σ:List (Option V)) (H:Hp) (s:Shared):Prop where
 ok:X.Ok
 os:s.os=X.s₀.os
 bare:AllBare s.gens
 base:Un X.fs X.ex X.H₀ H X.s₀.heap s.heap
 loc:∃ m,s.heap.Ns X.env.locals m/\∀ (i:Nat) (x:Str) (v:V),X.N[i]?=some x->σ[i]?=some (some v)->Vis X.env.scope x->∃ u,RelV v u/\Qe X.env s.heap m x u
 cell:∀ x c,X.env.cells.lookup x=some c->∃ v,s.heap.IsCell c v
 free:H X.env.locals=none
 freeC:∀ x c,X.env.cells.lookup x=some c->H c=none
 pin:∀ p ∈ X.pn++aa,s.heap.get? p.1=some p.2/\H p.1=none/\p.1 ≠ X.env.locals/\p.1 ∉ X.fs/\∀ v,p.2.data ≠ .cell v
 hok:HOk X.prog X.w H s.heap
 len:σ.length=X.N.length
section
variable {X:Cx} {aa:LO} {σ:List (Option V)} {H H':Hp} {s:Shared} {h':Heap}
theorem Cx.Ok.nofr (ok:X.Ok) {b:Addr} {o:Obj} (e:X.base.get? b=some o):b ∉ X.fs:=fun hb=>by
 have:=(ok.funs.mem hb).1;rw [e] at this; cases this
theorem Inv.bs (I:Inv X aa σ H s):∀ b o,X.base.get? b=some o->s.heap.get? b=some o/\H b=none:=fun b o e =>
 ⟨I.base.keep b o (I.ok.bs b o e).1 (I.ok.bs b o e).2 (I.ok.nofr e) (I.ok.noex b o e),I.base.free b o (I.ok.bs b o e).1 (I.ok.bs b o e).2 (I.ok.noex b o e)⟩
theorem Inv.bk (I:Inv X aa σ H s):∀ b o,X.base.get? b=some o->s.heap.get? b=some o:=fun b o e=>(I.bs b o e).1
theorem Inv.mod (I:Inv X aa σ H s):Mod X.K X.mg X.base:=I.ok.mod
theorem Inv.kIn (I:Inv X aa σ H s):X.K.In s.heap:=I.ok.mod.kin.keeps I.bk
theorem Inv.fr (I:Inv X aa σ H s):∃ m,Fr X.base X.env.locals s.heap m :=
 let ⟨m,hn,_⟩:=I.loc
 ⟨m,hn,I.bk,Nat.le_trans I.ok.bsz I.ok.above⟩
theorem Inv.lt (I:Inv X aa σ H s):X.env.locals < s.heap.objs.size:=let ⟨_,hn,_⟩:=I.loc; hn.lt
theorem Inv.sz (I:Inv X aa σ H s):X.s₀.heap.objs.size <= s.heap.objs.size:=Nat.le_trans I.ok.above (Nat.le_of_lt I.lt)
theorem Inv.nofs (I:Inv X aa σ H s) {a:Addr} (h:s.heap.objs.size <= a):a ∉ X.fs:=fun hb=>by
 obtain ⟨_,o,ho,_⟩:=I.ok.funs.mem hb;exact absurd (Nat.lt_of_lt_of_le (lt_size ho) (Nat.le_trans I.sz h)) (Nat.lt_irrefl _)
theorem Inv.cne (I:Inv X aa σ H s):∀ x c,X.env.cells.lookup x=some c->c ≠ X.env.locals:=fun x c e z=>by
 obtain ⟨v,o,ho,hd⟩:=I.cell x c e;obtain ⟨m,⟨o',es,ep,ho',hd',_⟩,_⟩:=I.loc;rw [z,ho'] at ho; cases ho; rw [hd'] at hd; cases hd
theorem Inv.funs (I:Inv X aa σ H s):s.heap.FunFrames X.base X.outer:=by
 have all:∀ (l:List Env),(∀ b ∈ frs l,b ∈ X.fs)->X.s₀.heap.FunFrames X.base l->s.heap.FunFrames X.base l:=by
  intro l;induction l with
  | nil=>intro _ _; trivial
  | cons env r ih =>
   intro hs hl;obtain ⟨hk,⟨L,o,hf,hn,ho,hd⟩,hr⟩:=hl;have hL:L ∈ X.fs:=hs L (by unfold frs; rw [filterMap_cons,hf]; exact mem_cons_self);obtain ⟨sl,e⟩:=I.base.slot L o ho (I.ok.frf L hL) hL fun z=>I.ok.exfs L z hL;exact ⟨hk,⟨L,_,hf,hn,e,hd⟩,ih (fun b hb=>hs b (by unfold frs; rw [filterMap_cons,hf]; exact mem_cons_of_mem _ hb)) hr⟩
 exact all X.outer (fun _ hb=>hb) I.ok.funs
theorem Inv.stack (I:Inv X aa σ H s):s.heap.FunFrames X.base X.stack:=by
 rcases I.ok.stk with e | ⟨e,hf⟩
 ·rw [e]; exact I.funs
 ·rw [e];obtain ⟨m,hn,_⟩:=I.loc;refine .cons (by rw [I.ok.kind]; decide) hf hn ?_ I.funs;exact Heap.get?_none_of_le (Nat.le_trans I.ok.bsz I.ok.above)
theorem Inv.stkSub (I:Inv X aa σ H s):∀ b ∈ frs X.stack,b ∈ X.env.locals :: X.fs:=fun b hb=>by
 rcases I.ok.stk with e | ⟨e,hf⟩
 ·rw [e] at hb; exact mem_cons_of_mem _ hb
 ·rw [e] at hb;unfold frs at hb;rw [filterMap_cons,hf] at hb;exact hb
theorem Inv.stkFree (I:Inv X aa σ H s):∀ b ∈ frs X.stack,H b=none:=fun b hb=>by
 rcases mem_cons.mp (I.stkSub b hb) with e | hb
 ·rw [e]; exact I.free
 ·obtain ⟨_,o,ho,_⟩:=I.ok.funs.mem hb;exact I.base.free b o ho (I.ok.frf b hb) fun z=>I.ok.exfs b z hb
theorem Inv.step {g':Array GenState} {t':Nat} {d':Drawn} {ch:List Addr} (I:Inv X aa σ H s)
  (hch:∀ b ∈ ch,(b ∈ X.ex\/X.s₀.heap.objs.size <= b)/\b ≠ X.env.locals/\(∀ x c,X.env.cells.lookup x=some c->c ≠ b)/\∀ p ∈ X.pn++aa,p.1 ≠ b)
  (keep:∀ b o,b ≠ X.env.locals->b ∉ X.fs->b ∉ ch->s.heap.get? b=some o->H b=none->h'.get? b=some o)
  (slot:∀ b o,b ≠ X.env.locals->b ∈ X.fs->b ∉ ch->s.heap.get? b=some o->H b=none->∃ sl,h'.get? b=some { o with slots:=sl }) (free:∀ b o,b ∉ ch->s.heap.get? b=some o->H b=none->H' b=none)
  (there:∀ b o,b ∉ ch->s.heap.get? b=some o->∃ o',h'.get? b=some o')
  (tups:∀ b xs,H b=some (.tup xs)->H' b=some (.tup xs)) (frzs:∀ b o u,H b=some (.frz o u)->H' b=some (.frz o u)) (tbls:∀ b ps,H b=some (.tbl ps)->∃ more,H' b=some (.tbl (ps++more)))
  (ns:∀ m,s.heap.Ns X.env.locals m->h'.Ns X.env.locals m) (hok:HOk X.prog X.w H' h') (hg:AllBare g') :
  Inv X aa σ H' { s with heap:=h',gens:=g',drawn:=d',toks:=t' }:=by
 have neL:∀ b o,X.s₀.heap.get? b=some o->b ≠ X.env.locals:=fun b o e=>Nat.ne_of_lt (Nat.lt_of_lt_of_le (lt_size e) I.ok.above)
 have neC:∀ b o,X.s₀.heap.get? b=some o->b ∉ X.ex->b ∉ ch:=fun b o e hx hb=>by
  rcases (hch b hb).1 with z | z
  ·exact hx z
  ·exact absurd (Nat.lt_of_lt_of_le (lt_size e) z) (Nat.lt_irrefl _)
 have cellK:∀ x c,X.env.cells.lookup x=some c->∀ v,s.heap.IsCell c v->h'.IsCell c v:=fun x c e v ⟨o,ho,hd⟩=>by
  have nch:c ∉ ch:=fun z=>(hch c z).2.2.1 x c e rfl;by_cases hc:c ∈ X.fs
  ·obtain ⟨sl,q⟩:=slot c o (I.cne x c e) hc nch ho (I.freeC x c e);exact ⟨_,q,hd⟩
  ·exact ⟨o,keep c o (I.cne x c e) hc nch ho (I.freeC x c e),hd⟩
 refine ⟨I.ok,I.os,hg,⟨fun b o e n hb hx=>?_,fun b o e n hb hx=>?_,fun b o e n hx=>?_,fun b o e hx=>?_,fun b xs e=>tups b xs (I.base.tups b xs e),fun b o xs e=>frzs b o xs (I.base.frzs b o xs e),fun b ps e=>?_⟩,?_,fun x c e=>?_,?_,fun x c e=>?_,fun p hp=>?_,hok,I.len⟩
 ·exact keep b o (neL b o e) hb (neC b o e hx) (I.base.keep b o e n hb hx) (I.base.free b o e n hx)
 ·obtain ⟨sl,e1⟩:=I.base.slot b o e n hb hx;obtain ⟨sl',e2⟩:=slot b _ (neL b o e) hb (neC b o e hx) e1 (I.base.free b o e n hx);exact ⟨sl',e2⟩
 ·obtain ⟨o',e1⟩:=I.base.there b o e hx;exact free b o' (neC b o e hx) e1 (I.base.free b o e n hx)
 ·obtain ⟨o',e1⟩:=I.base.there b o e hx;exact there b o' (neC b o e hx) e1
 ·obtain ⟨m1,e1⟩:=I.base.tbls b ps e;obtain ⟨m2,e2⟩:=tbls b _ e1;exact ⟨m1++m2,by rw [e2,Array.append_assoc]⟩
 ·obtain ⟨m,hn,hl⟩:=I.loc;refine ⟨m,ns m hn,fun i x v e1 e2 e3=>?_⟩;obtain ⟨u,r,l⟩:=hl i x v e1 e2 e3;refine ⟨u,r,?_⟩;rcases l with l | ⟨k,c,e,z⟩
  ·exact .inl l
  ·exact .inr ⟨k,c,e,cellK x c e _ z⟩
 ·obtain ⟨v,z⟩:=I.cell x c e;exact ⟨v,cellK x c e v z⟩
 ·obtain ⟨m,⟨o,_,_,ho,_⟩,_⟩:=I.loc;exact free _ o (fun z=>(hch _ z).2.1 rfl) ho I.free
 ·obtain ⟨v,o,ho,hd⟩:=I.cell x c e;exact free c o (fun z=>(hch c z).2.2.1 x c e rfl) ho (I.freeC x c e)
 ·obtain ⟨e,n,ne,nf,d⟩:=I.pin p hp;have nch:p.1 ∉ ch:=fun z=>(hch p.1 z).2.2.2 p hp rfl;exact ⟨keep p.1 p.2 ne nf nch e n,free p.1 p.2 nch e n,ne,nf,d⟩
theorem Inv.un {t':Nat} (I:Inv X aa σ H s) (u:Un X.fs [] H H' s.heap h') (hok:HOk X.prog X.w H' h'):Inv X aa σ H' { s with heap:=h',toks:=t' }:=by
 obtain ⟨m,⟨o,es,ep,ho,r⟩,_⟩:=id I.loc;obtain ⟨sl,hL⟩:=u.any ho I.free (by simp)
 exact I.step (g':=s.gens) (d':=s.drawn) (ch:=[]) (fun _ z=>nomatch z) (fun b o _ hb _ e n=>u.keep b o e n hb (by simp)) (fun b o _ hb _ e n=>u.slot b o e n hb (by simp)) (fun b o _ e n=>u.free b o e n (by simp)) (fun b o _ e=>u.there b o e (by simp)) u.tups u.frzs u.tbls (fun m' hm=>by
  obtain ⟨o',es',ep',ho',r'⟩:=hm;rw [ho] at ho'; cases ho'
  exact ⟨_,es',ep',hL,r'⟩) hok I.bare
theorem Inv.call {g':Array GenState} {t':Nat} {d':Drawn} {ch:List Addr} (I:Inv X aa σ H s) (u:Un (frs X.stack) ch H H' s.heap h') (hok:HOk X.prog X.w H' h') (hg:AllBare g')
  (hch:∀ b ∈ ch,(b ∈ X.ex\/X.s₀.heap.objs.size <= b)/\b ≠ X.env.locals/\(∀ x c,X.env.cells.lookup x=some c->c ≠ b)/\∀ p ∈ X.pn++aa,p.1 ≠ b) :
  Inv X aa σ H' { s with heap:=h',gens:=g',drawn:=d',toks:=t' }:=by
 obtain ⟨m,⟨o,es,ep,ho,r⟩,_⟩:=id I.loc;obtain ⟨sl,hL⟩:=u.any ho I.free fun z=>(hch _ z).2.1 rfl
 exact I.step (ch:=ch) hch (fun b o hL hb hc e n=>u.keep b o e n (fun z=>(mem_cons.mp (I.stkSub b z)).elim hL hb) hc) (fun b o _ _ hc e n=>u.any e n hc) (fun b o hc e n=>u.free b o e n hc) (fun b o hc e=>u.there b o e hc) u.tups u.frzs u.tbls (fun m' hm=>by
  obtain ⟨o',es',ep',ho',r'⟩:=hm;rw [ho] at ho'; cases ho'
  exact ⟨_,es',ep',hL,r'⟩) hok hg
theorem Inv.turned {t':Nat} {it:Addr} (I:Inv X aa σ H s) (k:∀ b o,b ≠ it->s.heap.get? b=some o->h'.get? b=some o) (hn:H it=none) (hL:it ≠ X.env.locals)
  (h1:it ∈ X.ex\/X.s₀.heap.objs.size <= it) (h2:∀ x c,X.env.cells.lookup x=some c->c ≠ it) (h3:∀ p ∈ X.pn++aa,p.1 ≠ it):Inv X aa σ H { s with heap:=h',toks:=t' }:=by
 have nit:∀ b u,H b=some u->b ≠ it:=fun b u e z=>by rw [z,hn] at e; cases e
 refine I.step (g':=s.gens) (d':=s.drawn) (ch:=[it]) (fun b hb=>?_) (fun b o _ _ hc e _=>k b o (fun z=>hc (by simp [z])) e) (fun b o _ _ hc e _=>⟨o.slots,k b o (fun z=>hc (by simp [z])) e⟩) (fun _ _ _ _ n=>n)
  (fun b o hc e=>⟨o,k b o (fun z=>hc (by simp [z])) e⟩) (fun _ _ e=>e) (fun _ _ _ e=>e) (fun b ps e=>⟨#[],by rw [e]; simp⟩) (fun m hm=>?_) (fun b u e=>?_) I.bare
 ·have e:b=it:=by simpa using hb
  subst e;exact ⟨h1,hL,h2,h3⟩
 ·obtain ⟨o,es,ep,ho,r⟩:=hm;exact ⟨o,es,ep,k _ o (Ne.symm hL) ho,r⟩
 ·refine (I.hok b u e).stay (fun c v hc q=>k c v ?_ q) (fun _ q=>q) fun _ _ q=>q;rcases hc with z | z
  ·rw [z]; exact nit b u e
  ·exact nit c _ z
theorem Inv.tok (I:Inv X aa σ H s) (t:Nat):Inv X aa σ H { s with toks:=t }:=I.un (h':=s.heap) (t':=t) Un.refl I.hok
theorem Inv.kept {t':Nat} (I:Inv X aa σ H s) (k:∀ b u,s.heap.get? b=some u->h'.get? b=some u):Inv X aa σ H { s with heap:=h',toks:=t' }:=I.un (Un.kept k) (I.hok.kept k)
theorem Inv.laid {a:Addr} {o:HO} {t':Nat} (I:Inv X aa σ H s) (k:∀ b u,s.heap.get? b=some u->h'.get? b=some u) (hp:s.heap.objs.size <= a) (new:ObjOk X.prog X.w (upd H a o) h' a o) :
  Inv X aa σ (upd H a o) { s with heap:=h',toks:=t' }:=I.un (Un.laid k hp (I.hok.fresh hp)) (I.hok.laid k hp new)
theorem Inv.write {x e:Addr} {o:HO} {t':Nat} (I:Inv X aa σ H s) (mu:Mut (H x)) (he:e=x\/H e=some (.own x)) (k:∀ b u,b ≠ e->s.heap.get? b=some u->h'.get? b=some u) (heo:∃ u,h'.get? e=some u)
  (new:ObjOk X.prog X.w (upd H x o) h' x o):Inv X aa σ (upd H x o) { s with heap:=h',toks:=t' }:=I.un (Un.write mu he k heo) (I.hok.write mu he k heo new)
theorem Inv.weak {σ':List (Option V)} (I:Inv X aa σ H s) (hl:σ'.length=σ.length) (w:∀ (i:Nat) v,σ'[i]?=some (some v)->σ[i]?=some (some v)):Inv X aa σ' H s :=
 ⟨I.ok,I.os,I.bare,I.base,let ⟨m,hn,hl'⟩:=I.loc; ⟨m,hn,fun i x v e1 e2 e3=>hl' i x v e1 (w i v e2) e3⟩,I.cell,I.free,I.freeC,I.pin,I.hok,hl.trans I.len⟩
theorem Inv.pins_of {pins':LO} (I:Inv X aa σ H s) (h:∀ p ∈ pins',s.heap.get? p.1=some p.2/\H p.1=none/\p.1 ≠ X.env.locals/\p.1 ∉ X.fs/\∀ v,p.2.data ≠ .cell v):Inv X pins' σ H s :=
 ⟨I.ok,I.os,I.bare,I.base,I.loc,I.cell,I.free,I.freeC,fun p hp=>(mem_append.mp hp).elim (fun z=>I.pin p (mem_append_left _ z)) (h p),I.hok,I.len⟩
theorem IF {N:List Str} (hN:N.Nodup) {i j:Nat} {x:Str} (a:N[i]?=some x) (b:N[j]?=some x):i=j:=by
 obtain ⟨h1,e1⟩:=List.getElem?_eq_some_iff.mp a;obtain ⟨h2,e2⟩:=List.getElem?_eq_some_iff.mp b;exact (List.getElem_inj hN).mp (e1.trans e2.symm)
theorem Gd {M:Model} {A:Around} {E:VS} {i:Nat} {x:Str} {v:V} {u:Value} {Q:Unit->Shared->Prop} (I:Inv X aa σ H s) (hN:X.N.Nodup) (hi:X.N[i]?=some x) (hx:Loc X.env.scope x) (r:RelV v u)
  (h:∀ s',Inv X aa (σ.set i (some v)) H s'->(∃ a,Heap.SameBut a s.heap s'.heap/\(a=X.env.locals\/X.env.cells.lookup x=some a))->Q () s') (hf:X.fn x=true\/X.env.scope.names.lookup x=some .local:=by first | exact .inl rfl | exact .inr rfl | assumption):wpAny M A (storeName X.env x u) Q E s:=by
 obtain ⟨m,hn,hl⟩:=id I.loc;have hcls:(X.env.scope.kind == .class || (X.env.scope.kind == .module && X.env.locals != X.env.globals))=false:=by rw [I.ok.kind]; rfl
 have hiσ:i < σ.length:=by rw [I.len]; exact (List.getElem?_eq_some_iff.mp hi).1
 have cne:=I.cne
 have tracked:∀ {a:Addr} {h':Heap},(∃ o,s.heap.get? a=some o/\H a=none)->Heap.SameBut a s.heap h'->HOk X.prog X.w H h':=fun {a h'} ha hs b ob e=>by
  obtain ⟨_,_,bp⟩:=ha;refine (I.hok b ob e).stay (fun c w' hc q=>(hs.2 c ?_).trans q) (fun _ q=>q) fun _ _ q=>q;rintro rfl;rcases hc with rfl | hc
  ·rw [bp] at e; cases e
  ·rw [bp] at hc; cases hc
 rcases hx with hk | hk
 ·refine wpAny_storeName_local hk hn (fun h' hn' hs=>?_) hcls;obtain ⟨oL,_,_,hoL,_⟩:=id hn;refine h _ ⟨I.ok,I.os,I.bare,⟨fun b o e n hb hx=>?_,fun b o e n hb hx=>?_,I.base.free,fun b o e hx=>?_,I.base.tups,I.base.frzs,I.base.tbls⟩,⟨_,hn',fun j y v' e1 e2 e3=>?_⟩,fun y c e=>?_,I.free,I.freeC,fun p hp=>?_,tracked ⟨oL,hoL,I.free⟩ hs,by simpa using I.len⟩ ⟨_,hs,.inl rfl⟩
  ·exact (hs.2 b (Nat.ne_of_lt (Nat.lt_of_lt_of_le (lt_size e) I.ok.above))).trans (I.base.keep b o e n hb hx)
  ·obtain ⟨sl,e1⟩:=I.base.slot b o e n hb hx;exact ⟨sl,(hs.2 b (Nat.ne_of_lt (Nat.lt_of_lt_of_le (lt_size e) I.ok.above))).trans e1⟩
  ·obtain ⟨o',e1⟩:=I.base.there b o e hx;exact ⟨o',(hs.2 b (Nat.ne_of_lt (Nat.lt_of_lt_of_le (lt_size e) I.ok.above))).trans e1⟩
  ·by_cases hj:j=i
   ·subst hj;rw [hi] at e1; cases e1;rw [List.getElem?_set_self hiσ] at e2;cases e2;exact ⟨u,r,.inl ⟨hk,by simp⟩⟩
   ·rw [List.getElem?_set_ne (Ne.symm hj)] at e2;obtain ⟨u',r',q⟩:=hl j y v' e1 e2 e3;refine ⟨u',r',?_⟩;rcases q with ⟨k,e⟩ | ⟨k,c,e,z⟩
    ·refine .inl ⟨k,?_⟩;have:y ≠ x:=fun e=>hj (IF hN e1 (e ▸ hi));simp [this,e]
    ·exact .inr ⟨k,c,e,z.sameBut hs (cne y c e)⟩
  ·obtain ⟨w',z⟩:=I.cell y c e;exact ⟨w',z.sameBut hs (cne y c e)⟩
  ·obtain ⟨e,n,ne,nf,d⟩:=I.pin p hp;exact ⟨(hs.2 p.1 ne).trans e,n,ne,nf,d⟩
 ·have hfn:X.fn x=true:=by
   rcases hf with z | z
   ·exact z
   ·rw [z] at hk; cases hk
  obtain ⟨c,hc⟩:=I.ok.has x (.inl hk);obtain ⟨w',z⟩:=I.cell x c hc;refine wpAny_storeName_cell I.ok.kind hk hc z (fun h' hc' hs=>?_);obtain ⟨oc,hoc,hocd⟩:=id z;refine h { s with heap:=h' } ⟨I.ok,I.os,I.bare,⟨fun b o e n hb hx=>?_,fun b o e n hb hx=>?_,I.base.free,fun b o e hx=>?_,I.base.tups,I.base.frzs,I.base.tbls⟩,⟨m,hn.sameBut hs (Ne.symm (cne x c hc)),fun j y v' e1 e2 e3=>?_⟩,fun y c' e=>?_,I.free,I.freeC,fun p hp=>?_,tracked ⟨oc,hoc,I.freeC x c hc⟩ hs,by simpa using I.len⟩ ⟨c,hs,.inr hc⟩
  ·exact (hs.2 b (Nat.ne_of_lt (Nat.lt_of_lt_of_le (lt_size e) (I.ok.cab x c hfn hc)))).trans (I.base.keep b o e n hb hx)
  ·obtain ⟨sl,e1⟩:=I.base.slot b o e n hb hx;exact ⟨sl,(hs.2 b (Nat.ne_of_lt (Nat.lt_of_lt_of_le (lt_size e) (I.ok.cab x c hfn hc)))).trans e1⟩
  ·obtain ⟨o',e1⟩:=I.base.there b o e hx;exact ⟨o',(hs.2 b (Nat.ne_of_lt (Nat.lt_of_lt_of_le (lt_size e) (I.ok.cab x c hfn hc)))).trans e1⟩
  ·by_cases hj:j=i
   ·subst hj;rw [hi] at e1; cases e1;rw [List.getElem?_set_self hiσ] at e2;cases e2;exact ⟨u,r,.inr ⟨.inl hk,c,hc,hc'⟩⟩
   ·rw [List.getElem?_set_ne (Ne.symm hj)] at e2;obtain ⟨u',r',q⟩:=hl j y v' e1 e2 e3;refine ⟨u',r',?_⟩;rcases q with q | ⟨k,c',e,z'⟩
    ·exact .inl q
    ·refine .inr ⟨k,c',e,z'.sameBut hs ?_⟩;rintro rfl;exact hj (IF hN e1 (I.ok.inj _ _ _ e hc ▸ hi))
  ·by_cases hcc:c'=c
   ·subst hcc; exact ⟨_,hc'⟩
   ·obtain ⟨w2,z2⟩:=I.cell y c' e;exact ⟨w2,z2.sameBut hs hcc⟩
  ·obtain ⟨e,n,ne,nf,d⟩:=I.pin p hp;refine ⟨(hs.2 p.1 ?_).trans e,n,ne,nf,d⟩;intro q;rw [q,hoc] at e;have q':oc=p.2:=Option.some.inj e;exact d w' (by rw [← q']; exact hocd)
theorem Bk {M:Model} {A:Around} {E:VS} {i:Nat} {x:Str} {v:V} {u:Value} {Q:Unit->Shared->Prop} (I:Inv X aa σ H s) (hN:X.N.Nodup) (hi:X.N[i]?=some x) (hx:Loc X.env.scope x) (r:RelV v u)
  (h:∀ s',Inv X aa (σ.set i (some v)) H s'->Q () s') (hf:X.fn x=true\/X.env.scope.names.lookup x=some .local:=by first | exact .inl rfl | exact .inr rfl | assumption):wpAny M A (storeName X.env x u) Q E s :=
 Gd I hN hi hx r (fun s' I' _=>h s' I') hf
theorem Inv.call' {s':Shared} {ch:List Addr} (I:Inv X aa σ H s) (ho:s'.os=s.os) (u:Un (frs X.stack) ch H H' s.heap s'.heap) (hok:HOk X.prog X.w H' s'.heap) (hg:AllBare s'.gens)
  (hch:∀ b ∈ ch,(b ∈ X.ex\/X.s₀.heap.objs.size <= b)/\b ≠ X.env.locals/\(∀ x c,X.env.cells.lookup x=some c->c ≠ b)/\∀ p ∈ X.pn++aa,p.1 ≠ b):Inv X aa σ H' s':=by
 obtain ⟨h',g',d',t',o'⟩:=s';have e:o'=s.os:=ho;subst e;exact I.call (g':=g') (t':=t') (d':=d') u hok hg hch
end
abbrev XK:=Value->Option Addr->Hp->Prop
abbrev St:=List (Option V)
abbrev VK:=V->Hp->Prop
abbrev TE:=St->Hp->VK->Prop
abbrev TT:=St->Hp->(Bool->Hp->Prop)->Prop
abbrev TA:=St->Hp->(List V->Hp->Prop)->Prop
structure FK where
 nx:St->Hp->Prop
 rt:VK
 bk:St->Hp->Prop:=fun _ _=>False
 ct:St->Hp->Prop:=fun _ _=>False
abbrev TS:=FK->St->Hp->Prop
def EP (X:Cx) (aa:LO) (σ:St) (Q:VK) (u:Value) (s':Shared):Prop:=∃ v H',Inv X aa σ H' s'/\RelV v u/\Q v H'
def TP (X:Cx) (aa:LO) (σ:St) (Q:Bool->Hp->Prop) (b:Bool) (s':Shared):Prop:=∃ H',Inv X aa σ H' s'/\Q b H'
def AP (X:Cx) (aa:LO) (σ:St) (Q:List V->Hp->Prop) (us:List Value) (s':Shared):Prop:=∃ vs H',Inv X aa σ H' s'/\Vals vs us/\Q vs H'
def SP (X:Cx) (aa:LO) (D:FK) (f:Flow) (s':Shared):Prop :=
 match f with
 | .next=>∃ σ' H',Inv X aa σ' H' s'/\D.nx σ' H'
 | .brk=>∃ σ' H',Inv X aa σ' H' s'/\D.bk σ' H'
 | .cont=>∃ σ' H',Inv X aa σ' H' s'/\D.ct σ' H'
 | .ret u=>∃ v σ' H',Inv X aa σ' H' s'/\RelV v u/\D.rt v H'
def PE (X:Cx) (e:Expr) (t:TE):Prop :=
 ∀ (aa:LO) (s:Shared) (σ:St) (H:Hp) (Q:VK),Inv X aa σ H s->t σ H Q->wpAny (model X.prog X.w) X.A (eval e X.env) (EP X aa σ Q) X.xe s
def PT (X:Cx) (e:Expr) (t:TT):Prop :=
 ∀ (aa:LO) (s:Shared) (σ:St) (H:Hp) (Q:Bool->Hp->Prop),Inv X aa σ H s->t σ H Q->wpAny (model X.prog X.w) X.A (isTrue e X.env (eval e X.env)) (TP X aa σ Q) X.xe s
def PW (X:Cx) (e:Expr) (t:TT):Prop :=
 ∀ (whole:Sem Value) (aa:LO) (s:Shared) (σ:St) (H:Hp) (Q:Bool->Hp->Prop),Inv X aa σ H s->t σ H Q->wpAny (model X.prog X.w) X.A (isTrue e X.env whole) (TP X aa σ Q) X.xe s
theorem PW.pt {X:Cx} {e:Expr} {t:TT} (h:PW X e t):PT X e t:=h _
def PA (X:Cx) (es:List Expr) (t:TA):Prop :=
 ∀ (pos:Pos) (aa:LO) (s:Shared) (σ:St) (H:Hp) (Q:List V->Hp->Prop),Inv X aa σ H s->t σ H Q->wpAny (model X.prog X.w) X.A (spliced (backTo pos (starEach es X.env))) (AP X aa σ Q) X.xe s
def PS (X:Cx) (st:Stmt) (t:TS):Prop :=
 ∀ (aa:LO) (s:Shared) (σ:St) (H:Hp) (D:FK),Inv X aa σ H s->t D σ H->wpAny (model X.prog X.w) X.A (exec st X.env) (SP X aa D) X.xe s
def PSs (X:Cx) (st:List Stmt) (t:TS):Prop :=
 ∀ (aa:LO) (s:Shared) (σ:St) (H:Hp) (D:FK),Inv X aa σ H s->t D σ H->wpAny (model X.prog X.w) X.A (execs st X.env) (SP X aa D) X.xe s
theorem thn {α:Type} {t:Sem α} {Q Q':α->Shared->Prop} {M:Model} {A:Around} {E:VS} {s:Shared} (h:wpAny M A t Q E s) (hQ:∀ a s,Q a s->Q' a s):wpAny M A t Q' E s:=wpAny_mono h hQ fun _ _ x=>x
end L2
variable {X:L2.Cx} {H:L2.Hp} {H':L2.Hp} {s:PySem.Shared} {pos:PySem.Pos} {σ:L2.St} {P:PySem.Program} {w:PySem.World} {A:PySem.Around} {aa:LO} {x:PySem.Str} {a:PySem.Addr} {K:FG} {C:PySem.Addr} {E:VS} {h:PySem.Heap} {us:List PySem.Value} {f:PySem.Addr} {u:PySem.Value} {xs:List L2.V} {e:PySem.Expr} {te:L2.TE} {base:PySem.Heap} {N:List PySem.Str} {mg:SV}
namespace L2
open PySem PySem.Spec PyProof.Rows
section
def Pt (i:Nat):TE:=fun σ H Q=>∃ v,σ[i]?=some (some v)/\Q v H
def tC (v:V):TE:=fun _ H Q=>Q v H
theorem Oo {i:Nat} (hN:X.N[i]?=some x) (hv:Vis X.env.scope x) (hd:(x == ("__debug__" : Str))=false:=by decide) (hcd:(x == ("__classdict__" : Str))=false:=by decide):PE X (.Name x pos) (Pt i):=by
 intro aa s σ H Q I h;obtain ⟨v,e,h⟩:=h;obtain ⟨m,hn,hl⟩:=I.loc;obtain ⟨u,r,l⟩:=hl i x v hN e hv;have fin:EP X aa σ Q u s:=⟨v,H,I,r,h⟩;rcases l with ⟨hk,hm⟩ | ⟨hk,c,hc,bv⟩
 ·exact wpAny_Name (wpAny_loadName_local I.ok.kind hk hn hm fin) hd
 ·rcases hk with hk | hk
  ·exact wpAny_Name (wpAny_loadName_cell I.ok.kind hk hc bv fin) hd
  ·exact wpAny_Name (wpAny_loadName_free I.ok.kind hk hc bv fin hcd) hd
theorem AI {i j pos}:PE X (.Constant (.int i) j pos) (tC (.int i)):=fun _ _ _ H _ I h=>wpAny_Constant_int ⟨.int i,H,I.tok _,⟨_,rfl⟩,h⟩
theorem Od {b j pos}:PE X (.Constant (.bool b) j pos) (tC (.bl b)):=fun _ _ _ H _ I h=>Constant_bool ⟨.bl b,H,I,rfl,h⟩
theorem JO {j pos}:PE X (.Constant .none j pos) (tC .non):=fun _ _ _ H _ I h=>Constant_none ⟨.non,H,I,rfl,h⟩
theorem A0 {x j pos}:PE X (.Constant (.str x) j pos) (tC (.str x)):=fun _ _ _ H _ I h=>Calls.Constant_str ⟨.str x,H,I.tok _,⟨_,rfl⟩,h⟩
def Gl (X:Cx) (x:Str):Prop:=X.env.kindOf x=some .globalImplicit
theorem FA {Q:VS} (I:Inv X aa σ H s) (hg:Gl X x) (hm:X.mg x=some u) (h:Q u s)
  (hd:(x == ("__debug__" : Str))=false:=by decide):wpAny (model X.prog X.w) X.A (eval (.Name x pos) X.env) Q E s :=
 Calls.Name_function_global I.ok.kind hg (Calls.loadGlobal_global (by rw [I.ok.glob]; exact I.mod.glob.keeps I.bk) hm h) hd
theorem Eb {Q:VS} (I:Inv X aa σ H s) (hg:Gl X x) (hm:X.mg x=none) (hv:bootBuiltins x=some u) (h:Q u s)
  (hn:x ≠ "__name__" := by decide) (hd:(x == ("__debug__" : Str))=false:=by decide):wpAny (model X.prog X.w) X.A (eval (.Name x pos) X.env) Q E s:=by
 obtain ⟨mb,h1,h2⟩:=I.mod.blt;exact Calls.Name_function_global I.ok.kind hg (Calls.loadGlobal_builtin (by rw [I.ok.glob]; exact I.mod.glob.keeps I.bk) hm (by rw [I.ok.blt]; exact h1.keeps I.bk) ((h2 x hn).trans hv) h) hd
theorem Br {v:V} (hg:Gl X x) (hm:X.mg x=some u) (r:RelV v u) (hd:(x == ("__debug__" : Str))=false:=by decide):PE X (.Name x pos) (tC v) :=
 fun _ _ _ H _ I h=>FA I hg hm ⟨v,H,I,r,h⟩ hd
theorem HF {v:V} (hg:Gl X x) (hm:X.mg x=none) (hv:bootBuiltins x=some u) (r:RelV v u) (hn:x ≠ "__name__" := by decide) (hd:(x == ("__debug__" : Str))=false:=by decide):PE X (.Name x pos) (tC v) :=
 fun _ _ _ H _ I h=>Eb I hg hm hv ⟨v,H,I,r,h⟩ hn hd
variable {a b:Expr} {ta tb:TE}
def PC (X:Cx) (op:CmpOp) (a b:Expr) (t:TE):Prop :=
 ∀ (aa:LO) (s:Shared) (σ:St) (H:Hp) (Q:VK),Inv X aa σ H s->t σ H Q ->
  wpAny (model X.prog X.w) X.A (eval a X.env) (fun v s₁=>wpAny (model X.prog X.w) X.A (eval b X.env) (fun u s₂=>wpAny (model X.prog X.w) X.A (compareOp op v u) (EP X aa σ Q) X.xe s₂) X.xe s₁) X.xe s
theorem IG (b:Expr) {op:CmpOp} (h:op ≠ .In) (h2:op ≠ .NotIn):behindInMarks op b=false:=by
 have e1:(op == CmpOp.In)=false:=by cases op <;> first | rfl | exact absurd rfl h
 have e2:(op == CmpOp.NotIn)=false:=by cases op <;> first | rfl | exact absurd rfl h2
 cases b <;> simp [behindInMarks,e1,e2]
def Qf (ta:TE):TE:=fun σ H Q=>ta σ H fun x H1=>Q (.bl (decide (x=.non))) H1
def Pu (ta:TE):TE:=fun σ H Q=>ta σ H fun x H1=>Q (.bl (!decide (x=.non))) H1
theorem RelV.none_iff {x:V} {v:Value} (r:RelV x v):(v == Value.none)=decide (x=.non):=by
 cases x with
 | non=>cases r; rfl
 | bl _=>cases r; rfl
 | int _=>obtain ⟨t,rfl⟩:=r; rfl
 | str _=>obtain ⟨t,rfl⟩:=r; rfl
 | byt _=>obtain ⟨t,rfl⟩:=r; rfl
 | flt _=>obtain ⟨t,rfl⟩:=r; rfl
 | ref _=>cases r; rfl
 | ty _=>cases r; rfl
theorem Ec {j pos'} (ha:PE X a ta):PC X .Is a (.Constant .none j pos') (Qf ta):=by
 intro aa s σ H Q I h;refine thn (ha aa s σ H _ I h) fun v s1 ⟨x,H1,I1,r1,q1⟩=>?_;exact Constant_none (is_none_gen ⟨.bl _,H1,I1,by rw [r1.none_iff]; rfl,q1⟩)
theorem Nj {j pos'} (ha:PE X a ta):PC X .IsNot a (.Constant .none j pos') (Pu ta):=by
 intro aa s σ H Q I h;refine thn (ha aa s σ H _ I h) fun v s1 ⟨x,H1,I1,r1,q1⟩=>?_;exact Constant_none (isnot_none_gen ⟨.bl _,H1,I1,by rw [r1.none_iff]; rfl,q1⟩)
def tB (t:TE):TT:=fun σ H Q=>t σ H fun x H1=>∃ c,x=.bl c/\Q c H1
theorem Op {op:CmpOp} {t:TE} (h:PC X op a b t) (h1:behindInMarks op b=false:=by first | exact IG _ (by decide) (by decide) | rfl):PE X (.Compare a [op] [b] pos) t:=fun aa s σ H Q I hw=>wpAny_Compare1 (h aa s σ H Q I hw) h1
theorem BO {op:CmpOp} {t:TE} (h:PC X op a b t) (h1:behindInMarks op b=false:=by first | exact IG _ (by decide) (by decide) | rfl):PT X (.Compare a [op] [b] pos) (tB t):=by
 intro aa s σ H Q I hw;refine wpAny_isTrue_Compare1 (thn (h aa s σ H _ I hw) fun v s1 h1=>thn h1 fun u s2 h2=>thn h2 fun c s3 ⟨x,H1,I1,r1,q1⟩=>?_) h1;obtain ⟨d,rfl,q⟩:=q1;cases r1;exact wpAny_truthy_bool ⟨H1,I1,q⟩
theorem BH {t:TE} (h:PE X e t) (he:∀ whole,isTrue e X.env whole=(do let v ← whole; standAt e.pos; holding [v] (truthy v)):=by intro _; rfl):PT X e (tB t):=by
 intro aa s σ H Q I hw;refine isTrue_plain (thn (h aa s σ H _ I hw) fun v s1 ⟨x,H1,I1,r1,q1⟩=>?_) (he _);obtain ⟨d,rfl,q⟩:=q1;cases r1;exact wpAny_truthy_bool ⟨H1,I1,q⟩
variable {tA tB':TT} {rest:List Expr}
def Pw (t u:TT):TT:=fun σ H Q=>t σ H fun c H1=>if c=true then u σ H1 Q else Q false H1
def tOr (t u:TT):TT:=fun σ H Q=>t σ H fun c H1=>if c=true then Q true H1 else u σ H1 Q
def Qg (t:TT):TT:=fun σ H Q=>t σ H fun c H1=>Q (!c) H1
theorem C9 (ha:PT X a tA):PW X (.BoolOp .And [a] pos) tA:=by
 intro wh aa s σ H Q I h;refine isTrue_and (thn (ha aa s σ H Q I h) fun c s1 e=>?_);cases c with
 | true=>exact isTrue_and_nil e
 | false=>exact e
theorem Bz (ha:PT X a tA):PW X (.BoolOp .Or [a] pos) tA:=by
 intro wh aa s σ H Q I h;refine isTrue_or (thn (ha aa s σ H Q I h) fun c s1 e=>?_);cases c with
 | false=>exact isTrue_or_nil e
 | true=>exact e
theorem Ed (ha:PT X a tA) (hb:PW X (.BoolOp .And (b :: rest) pos) tB'):PW X (.BoolOp .And (a :: b :: rest) pos) (Pw tA tB'):=by
 intro wh aa s σ H Q I h;refine isTrue_and (thn (ha aa s σ H _ I h) fun c s1 ⟨H1,I1,q1⟩=>?_);cases c with
 | true=>exact hb wh aa s1 σ H1 Q I1 q1
 | false=>exact ⟨H1,I1,q1⟩
theorem CN (ha:PT X a tA) (hb:PW X (.BoolOp .Or (b :: rest) pos) tB'):PW X (.BoolOp .Or (a :: b :: rest) pos) (tOr tA tB'):=by
 intro wh aa s σ H Q I h;refine isTrue_or (thn (ha aa s σ H _ I h) fun c s1 ⟨H1,I1,q1⟩=>?_);cases c with
 | true=>exact ⟨H1,I1,q1⟩
 | false=>exact hb wh aa s1 σ H1 Q I1 q1
theorem BI (ha:PT X a tA):PT X (.UnaryOp .Not a pos) (Qg tA):=by
 intro aa s σ H Q I h;exact isTrue_not (ha aa s σ H (fun c H1=>Q (!c) H1) I h)
def Px (ta tb:TE):TE:=fun σ H Q=>ta σ H fun x H1=>∃ c,x=.bl c/\if c=true then tb σ H1 Q else Q (.bl false) H1
def Py (ta:TE):TE:=fun σ H Q=>ta σ H fun x H1=>∃ c,x=.bl c/\Q (.bl (!c)) H1
theorem CZ {op} {t:TE} (h:PE X a t):PE X (.BoolOp op [a] pos) t:=fun aa s σ H Q I hw=>BoolOp_one (h aa s σ H Q I hw)
theorem B0 (ha:PE X a ta) (hb:PE X (.BoolOp .And (b :: rest) pos) tb):PE X (.BoolOp .And (a :: b :: rest) pos) (Px ta tb):=by
 intro aa s σ H Q I h;refine BoolOp_and (thn (ha aa s σ H _ I h) fun v s1 ⟨x,H1,I1,r1,q1⟩=>?_);obtain ⟨c,rfl,q1⟩:=q1;cases r1;refine wpAny_truthy_bool ?_;cases c with
 | true=>exact hb aa s1 σ H1 Q I1 q1
 | false=>exact ⟨.bl false,H1,I1,rfl,q1⟩
theorem Oq (ha:PE X a ta):PE X (.UnaryOp .Not a pos) (Py ta):=by
 intro aa s σ H Q I h;refine UnaryOp_ (thn (ha aa s σ H _ I h) fun v s1 ⟨x,H1,I1,r1,q1⟩=>?_);obtain ⟨c,rfl,q1⟩:=q1;cases r1;exact not_of (wpAny_truthy_bool ⟨.bl (!c),H1,I1,rfl,q1⟩)
def tIf (t:TT) (ta tb:TE):TE:=fun σ H Q=>t σ H fun c H1=>if c=true then ta σ H1 Q else tb σ H1 Q
theorem FL {c:Expr} (hc:PT X c tA) (ha:PE X a ta) (hb:PE X b tb):PE X (.IfExp c a b pos) (tIf tA ta tb):=by
 intro aa s σ H Q I h;refine wpAny_IfExp (thn (hc aa s σ H _ I h) fun d s1 ⟨H1,I1,q1⟩=>?_);cases d with
 | true=>exact ha aa s1 σ H1 Q I1 q1
 | false=>exact hb aa s1 σ H1 Q I1 q1
end
end L2
namespace L2
open PySem PySem.Spec PyProof.Rows
def SqL (K:FG) (H:Hp) (a:Addr) (xs:List V):Prop :=
 Rd H a (.lst xs) \/
  ∃ (o:Obj) (its:Array Value) (n:Nat),K.lookup a=some o/\o.cls=.type "list" /\ o.dict=none/\o.data=.seq its n/\its.size <= sizeLine/\Vals xs its.toList
def SqT (K:FG) (H:Hp) (a:Addr) (xs:List V):Prop :=
 Rd H a (.tup xs) \/
  ∃ (o:Obj) (its:Array Value) (n:Nat),K.lookup a=some o/\o.cls=.type "tuple" /\ o.data=.seq its n/\its.size <= sizeLine/\Vals xs its.toList
def Qh:Value->Option V
 | .none=>some .non
 | .bool b=>some (.bl b)
 | .int i _=>some (.int i)
 | .str x _=>some (.str x)
 | .bytes b _=>some (.byt b)
 | .float b _=>some (.flt b)
 | .ref a=>some (.ref a)
 | .type n=>some (.ty n)
 | _=>none
theorem RelV.abs {x:V} (r:RelV x u):Qh u=some x:=by
 cases x with
 | non=>cases r; rfl
 | bl _=>cases r; rfl
 | int _=>obtain ⟨t,rfl⟩:=r; rfl
 | str _=>obtain ⟨t,rfl⟩:=r; rfl
 | byt _=>obtain ⟨t,rfl⟩:=r; rfl
 | flt _=>obtain ⟨t,rfl⟩:=r; rfl
 | ref _=>cases r; rfl
 | ty _=>cases r; rfl
theorem RelV.inj {x y:V} {u:Value} (r:RelV x u) (q:RelV y u):x=y:=Option.some.inj (r.abs.symm.trans q.abs)
theorem Vals.inj:∀ {xs ys:List V} {us:List Value},Vals xs us->Vals ys us->xs=ys
 | _,_,_,.nil,.nil=>rfl
 | _,_,_,.cons r t,.cons r' t'=>by rw [r.inj r',Vals.inj t t']
section
variable {ys:List V}
theorem SqL.of (h:H a=some (.lst xs)):SqL K H a xs:=.inl (.inl h)
theorem SqT.of (h:H a=some (.tup xs)):SqT K H a xs:=.inl (.inl h)
theorem Inv.list (I:Inv X aa σ H s) (h:SqL X.K H a xs):∃ its:List Value,Vals xs its/\PlainL s.heap a its.toArray/\xs.length <= sizeLine:=by
 rcases h with h | ⟨o,its,n,hk,hc,hd,hs,hz,r⟩
 ·obtain ⟨z,its,n,r,e⟩:=h.ok I.hok;exact ⟨its,r,⟨_,n,e,rfl,rfl,rfl⟩,z⟩
 ·refine ⟨its.toList,r,⟨o,n,I.kIn a o hk,hc,hd,by simpa using hs⟩,?_⟩;have e:=r.length;simp only [Array.length_toList] at e;omega
theorem Inv.tuple (I:Inv X aa σ H s) (h:SqT X.K H a xs):∃ its:List Value,Vals xs its/\IsTup s.heap a its.toArray/\xs.length <= sizeLine:=by
 rcases h with h | ⟨o,its,n,hk,hc,hs,hz,r⟩
 ·obtain ⟨z,its,r,p⟩:=h.ok I.hok;exact ⟨its,r,p,z⟩
 ·refine ⟨its.toList,r,⟨o,I.kIn a o hk,hc,n,by simpa using hs⟩,?_⟩;have e:=r.length;simp only [Array.length_toList] at e;omega
theorem Inv.list_inj (I:Inv X aa σ H s) (h:SqL X.K H a xs) (h':SqL X.K H a ys):xs=ys:=by
 obtain ⟨its,r,⟨o,n,e,_,_,d⟩,_⟩:=I.list h;obtain ⟨its',r',⟨o',n',e',_,_,d'⟩,_⟩:=I.list h';rw [e] at e'; cases e';rw [d] at d';injection d' with d1 _
 have:its=its':=by simpa using congrArg Array.toList d1
 subst this;exact r.inj r'
theorem Inv.tuple_inj (I:Inv X aa σ H s) (h:SqT X.K H a xs) (h':SqT X.K H a ys):xs=ys:=by
 obtain ⟨its,r,⟨o,e,_,n,d⟩,_⟩:=I.tuple h;obtain ⟨its',r',⟨o',e',_,n',d'⟩,_⟩:=I.tuple h';rw [e] at e'; cases e';rw [d] at d';injection d' with d1 _
 have:its=its':=by simpa using congrArg Array.toList d1
 subst this;exact r.inj r'
end
abbrev Cx.wish (X:Cx) (E:VS):Cx:={ X with xe:=E }
abbrev Cx.nox (X:Cx):Cx:=X.wish fun _ _=>False
theorem Cx.Ok.wish {X:Cx} (ok:X.Ok) (E:VS):(X.wish E).Ok :=
 ⟨ok.mod,ok.kind,ok.glob,ok.blt,ok.above,ok.inj,ok.has,ok.cab,ok.hd,ok.frames,ok.stk,ok.exf,ok.bs,ok.bsz,ok.noex,ok.exfs,ok.funs,ok.frf⟩
theorem Cx.Ok.unwish (ok:(X.wish E).Ok):X.Ok :=
 ⟨ok.mod,ok.kind,ok.glob,ok.blt,ok.above,ok.inj,ok.has,ok.cab,ok.hd,ok.frames,ok.stk,ok.exf,ok.bs,ok.bsz,ok.noex,ok.exfs,ok.funs,ok.frf⟩
section
theorem Inv.wish (I:Inv X aa σ H s) (E:VS):Inv (X.wish E) aa σ H s:=⟨I.ok.wish E,I.os,I.bare,I.base,I.loc,I.cell,I.free,I.freeC,I.pin,I.hok,I.len⟩
theorem Inv.unwish (I:Inv (X.wish E) aa σ H s):Inv X aa σ H s:=⟨I.ok.unwish,I.os,I.bare,I.base,I.loc,I.cell,I.free,I.freeC,I.pin,I.hok,I.len⟩
theorem SP.unwish {D:FK} {f:Flow} {s':Shared} (h:SP (X.wish E) aa D f s'):SP X aa D f s':=by
 cases f with
 | next=>obtain ⟨σ',H',I,q⟩:=h; exact ⟨σ',H',I.unwish,q⟩
 | brk=>obtain ⟨σ',H',I,q⟩:=h; exact ⟨σ',H',I.unwish,q⟩
 | cont=>obtain ⟨σ',H',I,q⟩:=h; exact ⟨σ',H',I.unwish,q⟩
 | ret u=>obtain ⟨v,σ',H',I,r,q⟩:=h; exact ⟨v,σ',H',I.unwish,r,q⟩
theorem PSs.nox {st:List Stmt} {t:TS} (h:PSs X.nox st t):PSs X st t:=fun aa s σ H D I hw =>
 wpAny_mono (h aa s σ H D (I.wish _) hw) (fun _ _ q=>q.unwish) fun _ _ z=>False.elim z
end
section
variable {st:Stmt} {rest:List Stmt} {t u:TS}
def Pz:TS:=fun D σ H=>D.nx σ H
def Qi (t u:TS):TS:=fun D σ H=>t { D with nx:=u D } σ H
theorem AT:PSs X [] Pz:=fun _ _ σ H _ I h=>wpAny_execs_nil ⟨σ,H,I,h⟩
theorem AD (h1:PS X st t) (h2:PSs X rest u):PSs X (st :: rest) (Qi t u):=by
 intro aa s σ H D I h;refine wpAny_execs_cons (thn (h1 aa s σ H { D with nx:=u D } I h) fun f s1 q=>?_);cases f with
 | next =>
  obtain ⟨σ',H',I',q⟩:=q;exact h2 aa s1 σ' H' D I' q
 | ret v=>exact q
 | brk=>exact q
 | cont=>exact q
theorem AE (h1:PS X st t):PSs X [st] t:=by
 intro aa s σ H D I h;refine wpAny_execs_cons (thn (h1 aa s σ H D I h) fun f s1 q=>?_);cases f with
 | next=>exact wpAny_execs_nil q
 | ret v=>exact q
 | brk=>exact q
 | cont=>exact q
theorem Inv.quiet (I:Inv X aa σ H s):interactive X.env=false:=by simp [interactive,I.ok.kind]
def P1 (te:TE):TS:=fun D σ H=>te σ H fun _ H1=>D.nx σ H1
theorem Dp (he:PE X e te) (hs:swapsWith e none pos.line X.env=pure false:=by rfl):PS X (.Expr e pos) (P1 te):=by
 intro aa s σ H D I h;exact wpAny_Expr_any (thn (he aa s σ H _ I h) fun v s1 ⟨x,H1,I1,r1,q1⟩=>⟨σ,H1,I1,q1⟩) I.quiet hs
def Qj (te:TE):TS:=fun D σ H=>te σ H D.rt
theorem AS (he:PE X e te):PS X (.Return (some e) pos) (Qj te):=by
 intro aa s σ H D I h;exact wpAny_Return_some (thn (he aa s σ H _ I h) fun v s1 ⟨x,H1,I1,r1,q1⟩=>⟨x,σ,H1,I1,r1,q1⟩)
def Qk (c:TT) (t u:TS):TS:=fun D σ H=>c σ H fun b H1=>if b=true then t D σ H1 else u D σ H1
theorem Ak {c:Expr} {a b:List Stmt} {tc:TT} (hc:PT X c tc) (ha:PSs X a t) (hb:PSs X b u):PS X (.If c a b pos) (Qk tc t u):=by
 intro aa s σ H D I h;refine wpAny_If (thn (hc aa s σ H _ I h) fun d s1 ⟨H1,I1,q1⟩=>?_);cases d with
 | true=>exact ha aa s1 σ H1 D I1 q1
 | false=>exact hb aa s1 σ H1 D I1 q1
def Os:TS:=fun _ _ _=>False
theorem Ag:PS X st Os:=fun _ _ _ _ _ _ h=>h.elim
end
abbrev TG:=V->St->Hp->(St->Hp->Prop)->Prop
abbrev TGs:=List V->St->Hp->(St->Hp->Prop)->Prop
def PG (X:Cx) (target:Expr) (t:TG):Prop :=
 ∀ (aa:LO) (s:Shared) (σ:St) (H:Hp) (v:V) (u:Value) (Q:St->Hp->Prop),Inv X aa σ H s->RelV v u->t v σ H Q ->
  wpAny (model X.prog X.w) X.A (assign target X.env u) (fun _ s'=>∃ σ' H',Inv X aa σ' H' s'/\Q σ' H') X.xe s
def PGs (X:Cx) (ts:List Expr) (t:TGs):Prop :=
 ∀ (aa:LO) (s:Shared) (σ:St) (H:Hp) (vs:List V) (us:List Value) (Q:St->Hp->Prop),Inv X aa σ H s->Vals vs us->t vs σ H Q ->
  wpAny (model X.prog X.w) X.A (assignInOrder ((assignEach ts X.env).map (·.2)) us) (fun _ s'=>∃ σ' H',Inv X aa σ' H' s'/\Q σ' H') X.xe s
abbrev Ot:=V->V->V->Hp->(Hp->Prop)->Prop
def P2 (X:Cx) (t:Ot):Prop :=
 ∀ (aa:LO) (s:Shared) (σ:St) (H:Hp) (o i v:V) (ov iv u:Value) (Q:Hp->Prop),Inv X aa σ H s->RelV o ov->RelV i iv->RelV v u->t o i v H Q ->
  wpAny (model X.prog X.w) X.A (setItem ov iv u) (fun _ s'=>∃ H',Inv X aa σ H' s'/\Q H') X.xe s
abbrev TIp:=V->V->Hp->VK->Prop
def PIp (X:Cx) (op:Operator) (t:TIp):Prop :=
 ∀ (aa:LO) (s:Shared) (σ:St) (H:Hp) (x y:V) (v u:Value) (Q:VK),Inv X aa σ H s->RelV x v->RelV y u->t x y H Q ->
  wpAny (model X.prog X.w) X.A (inplaceOp op v u) (EP X aa σ Q) X.xe s
section
def CO (i:Nat):TG:=fun v σ H Q=>Q (σ.set i (some v)) H
theorem AO {i:Nat} (hN:X.N.Nodup) (hi:X.N[i]?=some x) (hx:Loc X.env.scope x) (hf:X.fn x=true\/X.env.scope.names.lookup x=some .local:=by first | exact .inl rfl | exact .inr rfl | assumption):PG X (.Name x pos) (CO i):=by
 intro aa s σ H v u Q I r h;exact wpAny_assign_Name (Bk I hN hi hx r (fun s' I'=>⟨_,H,I',h⟩) hf)
def Nk:TGs:=fun vs σ H Q=>vs=[]/\Q σ H
def FM (t:TG) (u:TGs):TGs:=fun vs σ H Q=>∃ v r,vs=v :: r/\t v σ H fun σ' H'=>u r σ' H' Q
theorem Ay:PGs X [] Nk:=by
 intro aa s σ H vs us Q I r h;obtain ⟨e,h⟩:=h;subst e;cases r;exact assignInOrder_nil ⟨σ,H,I,h⟩
theorem AR {es:List Expr} {t:TG} {u:TGs} (h1:PG X e t) (h2:PGs X es u)
  (hs:(assignEach (e :: es) X.env).map (·.2)=assign e X.env :: (assignEach es X.env).map (·.2):=by rfl):PGs X (e :: es) (FM t u):=by
 intro aa s σ H vs us Q I r h;obtain ⟨v,vr,e1,h⟩:=h;subst e1;cases r with
 | cons r rr =>
  rw [hs];refine assignInOrder_cons (thn (h1 aa s σ H _ _ _ I r h) fun _ s1 ⟨σ1,H1,I1,q1⟩=>?_);exact h2 aa s1 σ1 H1 _ _ Q I1 rr q1
def Nl (K:FG) (n:Nat) (t:TGs):TG:=fun v σ H Q=>∃ a xs,v=.ref a/\SqT K H a xs/\xs.length=n/\t xs σ H Q
theorem BJ {es:List Expr} {k:Nat} {t:TGs} {n:Nat} (hc:X.calm=true) (h:PGs X es t)
  (hn:(assignEach es X.env).length=n:=by rfl) (hst:(assignEach es X.env).findIdx? (·.1)=none:=by rfl):PG X (.Tuple es k pos) (Nl X.K n t):=by
 intro aa s σ H v u Q I r hw;obtain ⟨a,xs,e1,hq,hl,hw⟩:=hw;subst e1;cases r;obtain ⟨its,rv,ht,hz⟩:=I.tuple hq;refine assign_Tuple_tuple (I.ok.hd hc) ht (by simp [hn,← hl,rv.length]) hst fun h' hx=>?_;have I1:Inv X aa σ H { s with heap:=h' }:=I.kept (t':=s.toks) fun b o e=>hx b o (Nat.ne_of_lt (lt_size e)) e;exact h aa _ σ H xs _ Q I1 (by simpa using rv) hw
def Ql (to ti:TE) (t:Ot):TG:=fun v σ H Q=>to σ H fun o H1=>ti σ H1 fun i H2=>t o i v H2 fun H3=>Q σ H3
theorem Lh {o i:Expr} {to ti:TE} {t:Ot} (ho:PE X o to) (hi:PE X i ti) (hs:P2 X t)
  (ha:∀ v,assign (.Subscript o i pos) X.env v=(do
   let ov ← holding [v] (eval o X.env)
   let iv ← holding [v,ov] (eval i X.env)
   standAt pos
   holding [v,ov,iv] (setItem ov iv v)
   release [v,ov,iv] []):=by intro _; rfl):PG X (.Subscript o i pos) (Ql to ti t):=by
 intro aa s σ H v u Q I r h;rw [ha];refine wpAny_bind (wpAny_holding (thn (ho aa s σ H _ I h) fun ov s1 ⟨x,H1,I1,r1,q1⟩=>?_));refine wpAny_bind (wpAny_holding (thn (hi aa s1 σ H1 _ I1 q1) fun iv s2 ⟨y,H2,I2,r2,q2⟩=>?_));refine wpAny_bind (wpAny_standAt (wpAny_bind (wpAny_holding (thn (hs aa s2 σ H2 x y v ov iv u _ I2 r1 r2 r q2) fun _ s3 ⟨H3,I3,q3⟩=>?_))));exact wpAny_release ⟨σ,H3,I3,q3⟩
def P3 (te:TE) (g:TG):TS:=fun D σ H=>te σ H fun x H1=>g x σ H1 D.nx
theorem CK {tg:Expr} {g:TG} (he:PE X e te) (hg:PG X tg g) (hs:swapsWithSole [tg] e pos.line X.env=pure false:=by rfl) (hw:swappedStores [tg] e X.env=pure none:=by rfl)
  (h1:(assignEach [tg] X.env).map (·.2)=[assign tg X.env]:=by rfl):PS X (.Assign [tg] e pos) (P3 te g):=by
 intro aa s σ H D I h;refine wpAny_Assign_stores (thn (he aa s σ H _ I h) fun v s1 ⟨x,H1,I1,r1,q1⟩=>?_) hs hw;rw [h1];exact thn (hg aa s1 σ H1 x v _ I1 r1 q1) fun _ s2 q=>q
theorem Ad {i:Nat} {pos':Pos} (hN:X.N.Nodup) (hi:X.N[i]?=some x) (hx:Loc X.env.scope x) (he:PE X e te) (hs:swapsWith e (some (.Name x pos')) pos.line X.env=pure false:=by rfl) (hf:X.fn x=true\/X.env.scope.names.lookup x=some .local:=by first | exact .inl rfl | exact .inr rfl | assumption) :
  PS X (.Assign [.Name x pos'] e pos) (P3 te (CO i)):=by
 intro aa s σ H D I h;refine wpAny_Assign_Name (thn (he aa s σ H _ I h) fun v s1 ⟨y,H1,I1,r1,q1⟩=>?_) hs;exact Bk I1 hN hi hx r1 (fun s2 I2=>⟨_,H1,I2,q1⟩) hf
def Qm (i j:Nat) (ta:TA):TS:=fun D σ H=>ta σ H fun vs H1=>∃ v w,vs=[v,w]/\D.nx ((σ.set i (some v)).set j (some w)) H1
theorem Li {i j:Nat} {y:Str} {a b:Expr} {ta:TA} {px py pt:Pos} {kt k2 pt2} (hc:X.calm=true) (hN:X.N.Nodup) (hi:X.N[i]?=some x) (hj:X.N[j]?=some y) (hij:i ≠ j)
  (hx:X.env.scope.names.lookup x=some .local) (hy:X.env.scope.names.lookup y=some .local) (ha:PA X [a,b] ta)
  (hw:swappedStores [.Tuple [.Name x px,.Name y py] kt pt] (.Tuple [a,b] k2 pt2) X.env=pure (some [x,y]))
  (hs:swapsWithSole [.Tuple [.Name x px,.Name y py] kt pt] (.Tuple [a,b] k2 pt2) pos.line X.env=pure false:=by rfl) :
  PS X (.Assign [.Tuple [.Name x px,.Name y py] kt pt] (.Tuple [a,b] k2 pt2) pos) (Qm i j ta):=by
 intro aa s σ H D I h;rw [exec_Assign_arm];refine wpAny_bind (wpAny_standAt ?_);rw [hs];refine wpAny_bind (wpAny_pure ?_);rw [if_neg (by decide)];refine wpAny_bind (Tuple_ (thn (ha _ aa s σ H _ I h) fun us s1 ⟨vs,H1,I1,r1,q1⟩=>?_));obtain ⟨v,w,e1,q1⟩:=q1;subst e1
 obtain ⟨u1,u2,rfl,rv,rw'⟩:∃ u1 u2,us=[u1,u2]/\RelV v u1/\RelV w u2:=by
  cases r1 with
  | cons p q =>
   cases q with
   | cons p' q' =>
    cases q';exact ⟨_,_,rfl,p,p'⟩
 refine wpAny_newObj_type ?_ sl2;have I2:Inv X aa σ H1 { s1 with heap:=s1.heap.push { cls:=.type "tuple", data:=.seq [u1,u2].toArray } }:=I1.kept (t':=s1.toks) fun b o e=>get?_push_of_some _ e;rw [hw];refine wpAny_bind (wpAny_pure ?_);show wpAny (model X.prog X.w) X.A (do rule "assign.swapped-stores"; let items ← unpackItems (.ref s1.heap.objs.size) 2 none; assignInOrder [fun v=>bindName X.env y v,fun v=>bindName X.env x v] items.reverse; pure Flow.next) _ _ _;refine wpAny_bind (wpAny_rule (wpAny_bind (unpackItems_tuple (items:=#[u1,u2]) (I.ok.hd hc) (IsTup.new s1.heap _) fun h' hx'=>?_)));have I3:=I2.kept (h':=h') (t':=s1.toks) fun b o e=>hx' b o (Nat.ne_of_lt (lt_size e)) e;show wpAny _ _ (assignInOrder [fun v=>bindName X.env y v,fun v=>bindName X.env x v] [u2,u1] >>= fun _=>pure Flow.next) _ _ _;refine wpAny_bind (assignInOrder_cons (wpAny_bindName (Bk I3 hN hj (.inl hy) rw' (fun s2 I4=>?_) (.inr hy))));refine assignInOrder_cons (wpAny_bindName (Bk I4 hN hi (.inl hx) rv (fun s3 I5=>assignInOrder_nil (wpAny_pure ?_)) (.inr hx)));rw [List.set_comm _ _ (Ne.symm hij)] at I5;exact ⟨_,H1,I5,q1⟩
def Qn (i:Nat) (te:TE) (ti:TIp):TS:=fun D σ H=>∃ x,σ[i]?=some (some x)/\te σ H fun y H1=>ti x y H1 fun z H2=>D.nx (σ.set i (some z)) H2
theorem Ou {i:Nat} {op:Operator} {ti:TIp} {pos':Pos} (hN:X.N.Nodup) (hi:X.N[i]?=some x) (hx:Loc X.env.scope x) (he:PE X e te) (ho:PIp X op ti) (hf:X.fn x=true\/X.env.scope.names.lookup x=some .local:=by first | exact .inl rfl | exact .inr rfl | assumption) :
  PS X (.AugAssign (.Name x pos') op e pos) (Qn i te ti):=by
 intro aa s σ H D I h;obtain ⟨v,e1,h⟩:=h;obtain ⟨m,hn,hl⟩:=I.loc;have vis:Vis X.env.scope x:=by rcases hx with k | k; exact .inl k; exact .inr (.inl k)
 obtain ⟨u,r,l⟩:=hl i x v hi e1 vis;refine wpAny_AugAssign_Name ?_
 have go:wpAny (model X.prog X.w) X.A (eval e X.env) (fun w s₂=>wpAny (model X.prog X.w) X.A (inplaceOp op u w) (fun r s₃=>wpAny (model X.prog X.w) X.A (storeName X.env x r) (fun _=>SP X aa D .next) X.xe s₃) X.xe s₂) X.xe s:=by
  refine thn (he aa s σ H _ I h) fun w s1 ⟨y,H1,I1,r1,q1⟩=>?_;refine thn (ho aa s1 σ H1 v y u w _ I1 r r1 q1) fun z s2 ⟨zv,H2,I2,r2,q2⟩=>?_;exact Bk I2 hN hi hx r2 (fun s3 I3=>⟨_,H2,I3,q2⟩) hf
 rcases l with ⟨hk,hm⟩ | ⟨hk,c,hc,bv⟩
 ·exact wpAny_loadName_local I.ok.kind hk hn hm go
 ·rcases hk with hk | hk
  ·exact wpAny_loadName_cell I.ok.kind hk hc bv go
  ·rcases hx with k | k
   ·have:X.env.scope.names.lookup x=some .free:=hk;rw [k] at this; cases this
   ·have:X.env.scope.names.lookup x=some .free:=hk;rw [k] at this; cases this
end
section
def Lj (c:TT) (tb:TS):TS:=fun D σ H=>∃ W:Nat->St->Hp->Prop,(∃ m,W m σ H)/\∀ m σ H,W m σ H ->
 c σ H fun b H1=>if b=true then ∃ N:St->Hp->Prop,(∀ σ' H',N σ' H'->∃ m',m' < m/\W m' σ' H')/\tb { D with nx:=N,ct:=N,bk:=D.nx } σ H1 else D.nx σ H1
theorem Lk {c:Expr} {body:List Stmt} {tc:TT} {tb:TS} (hp:PassesOwn (model X.prog X.w) X.A X.env X.xe) (hc:PT X c tc) (hb:PSs X body tb):PS X (.While c body [] pos) (Lj tc tb):=by
 intro aa s σ H D I h;obtain ⟨W,⟨m0,w0⟩,turn⟩:=h;refine wpAny_While (codeAny_whileLoop (fun n s'=>∃ σ' H',Inv X aa σ' H' s'/\W n σ' H') ?_ m0 ⟨σ,H,I,w0⟩);rintro n s1 ⟨σ1,H1,I1,w1⟩;refine wpAny_passesOwn hp (thn (hc aa s1 σ1 H1 _ I1 (turn n σ1 H1 w1)) fun b s2 ⟨H2,I2,q2⟩=>?_);cases b with
 | true =>
  obtain ⟨N,hN,q2⟩:=q2;rw [if_pos rfl];refine wpAny_passesOwn hp (thn (hb aa s2 σ1 H2 _ I2 q2) fun f s3 q3=>?_);cases f with
  | next =>
   obtain ⟨σ3,H3,I3,n3⟩:=q3;obtain ⟨m',hm,w3⟩:=hN σ3 H3 n3;exact ⟨m',hm,σ3,H3,I3,w3⟩
  | cont =>
   obtain ⟨σ3,H3,I3,n3⟩:=q3;obtain ⟨m',hm,w3⟩:=hN σ3 H3 n3;exact ⟨m',hm,σ3,H3,I3,w3⟩
  | brk=>exact q3
  | ret v=>exact q3
 | false =>
  rw [if_neg Bool.false_ne_true];exact wpAny_execs_nil ⟨σ1,H2,I2,q2⟩
end
structure It where
 go:Nat->Hp->Prop
 yld:Nat->Hp->V->Hp->Prop
 stop:Nat->Hp->Prop
def Dq (X:Cx) (aa:LO) (H:Hp) (b:Addr):Prop :=
 H b=none/\b ≠ X.env.locals/\b ∉ X.fs/\(b ∈ X.ex\/X.s₀.heap.objs.size <= b)/\(∀ x c,X.env.cells.lookup x=some c->c ≠ b)/\∀ p ∈ X.pn++aa,p.1 ≠ b
theorem Inv.fpOk {b:Addr} (I:Inv X aa σ H s) (hb:s.heap.objs.size <= b) (hn:H' b=none):Dq X aa H' b:=by
 refine ⟨hn,Nat.ne_of_gt (Nat.lt_of_lt_of_le I.lt hb),I.nofs hb,.inr (Nat.le_trans I.sz hb),fun x c e z=>?_,fun p hp z=>?_⟩
 ·obtain ⟨v,q⟩:=I.cell x c e;exact absurd (Nat.lt_of_lt_of_le q.lt (by rw [z]; exact hb)) (Nat.lt_irrefl _)
 ·exact absurd (Nat.lt_of_lt_of_le (lt_size (I.pin p hp).1) (by rw [z]; exact hb)) (Nat.lt_irrefl _)
structure IH (P:Program) (w:World) (K:FG) (tg:Expr) (J:It) (fp:List Addr) (it:Addr) (tn:Nat->Heap->Prop):Prop where
 mem:it ∈ fp
 obj:∀ i h,tn i h->∀ b ∈ fp,∃ o,h.get? b=some o/\∀ v,o.data ≠ .cell v
 keep:∀ i h h',tn i h->(∀ b ∈ fp,∀ o,h.get? b=some o->h'.get? b=some o)->tn i h'
 item:∀ (X:Cx),X.prog=P->X.w=w->X.K=K->X.calm=true->∀ (i:Nat) (aa:LO) (s:Shared) (σ:St) (H:Hp) (E:VS),Inv X aa σ H s->(∀ b ∈ fp,Dq X aa H b)->tn i s.heap->J.go i H ->
  wpAny (model P w) X.A (pyNext (.ref it)) (fun r s1=>∃ u,r=some u /\
   wpAny (model P w) X.A (letOwnedTupleGo tg (.ref it) u) (fun _ s2=>∃ x H',Inv X aa σ H' s2/\RelV x u/\J.yld i H x H'/\tn (i + 1) s2.heap/\∀ b ∈ fp,H' b=none) E s1) E s
 done:∀ (X:Cx),X.prog=P->X.w=w->X.K=K->X.calm=true->∀ (i:Nat) (aa:LO) (s:Shared) (σ:St) (H:Hp) (E:VS),Inv X aa σ H s->(∀ b ∈ fp,Dq X aa H b)->tn i s.heap->J.stop i H ->
  wpAny (model P w) X.A (pyNext (.ref it)) (fun r s1=>r=none/\Inv X aa σ H s1) E s
 self:∀ (A:Around) (i:Nat) (s:Shared) (Q:VS) (E:VS),tn i s.heap->Q (.ref it) s->wpAny (model P w) A (pyIter (.ref it)) Q E s
abbrev TI:=St->Hp->(It->Hp->Prop)->Prop
def PIE (X:Cx) (aa:LO) (σ:St) (tg:Expr) (R:It->Hp->Prop) (itv:Value) (s2:Shared):Prop :=
 ∃ (it:Addr) (fp:List Addr) (tn:Nat->Heap->Prop) (J:It) (H':Hp),itv=.ref it/\Inv X aa σ H' s2/\IH X.prog X.w X.K tg J fp it tn/\tn 0 s2.heap/\(∀ b ∈ fp,Dq X aa H' b)/\R J H'
def PI (X:Cx) (tg iter:Expr) (wi:TI):Prop :=
 ∀ (aa:LO) (s:Shared) (σ:St) (H:Hp) (R:It->Hp->Prop),Inv X aa σ H s->wi σ H R ->
  wpAny (model X.prog X.w) X.A (eval iter X.env) (fun v s1=>wpAny (model X.prog X.w) X.A (pyIter v) (PIE X aa σ tg R) X.xe s1) X.xe s
theorem KC {M:Model} {tg:Expr} {it:Addr} {o:Obj} {n:String} {vs:Array Value} {Q:Unit->Shared->Prop} (ho:s.heap.get? it=some o) (hc:o.cls=.type n) (hd:o.data=.fields vs)
    (hn:["enumerate", "zip", "dict_itemiterator", "dict_reverseitemiterator", "odict_iterator", "itertools.zip_longest", "itertools.pairwise"].contains n=false) (hQ:Q () s):wpAny M A (letOwnedTupleGo tg (.ref it) u) Q E s:=by
  unfold letOwnedTupleGo
  cases tg <;> first
    | exact wpAny_pure hQ
    | (cases u <;> first
        | exact wpAny_pure hQ
        | (refine wpAny_bind (wpAny_load ho ?_)
           rw [hc,hd];show wpAny M A (if (["enumerate", "zip", "dict_itemiterator", "dict_reverseitemiterator", "odict_iterator", "itertools.zip_longest", "itertools.pairwise"].contains n && vs[0]? == some (rawInt _))=true then _ else _) Q E s;rw [if_neg (by intro h; rw [hn,Bool.false_and] at h; cases h)]
           exact wpAny_pure hQ))
def Itl (K:FG) (a:Addr):It :=
 ⟨fun i H=>∃ xs x,SqL K H a xs/\xs[i]?=some x,fun i H x H'=>H'=H/\∀ xs,SqL K H a xs->xs[i]?=some x,fun i H=>∃ xs,SqL K H a xs/\xs.length <= i⟩
def Itt (K:FG) (a:Addr):It :=
 ⟨fun i H=>∃ xs x,SqT K H a xs/\xs[i]?=some x,fun i H x H'=>H'=H/\∀ xs,SqT K H a xs->xs[i]?=some x,fun i H=>∃ xs,SqT K H a xs/\xs.length <= i⟩
def Itr (lo:Int) (n:Nat):It:=⟨fun i _=>i < n,fun i H x H'=>H'=H/\x=.int (lo + i),fun i _=>n <= i⟩
theorem Km {tg:Expr} (a it:Addr):IH P w K tg (Itl K a) [it] it (fun i h=>h.IsListIter it a i) where
 mem:=by simp
 obj:=fun i h st b hb=>by
  have e:b=it:=by simpa using hb
  subst e;obtain ⟨o,e,c,d⟩:=st;exact ⟨o,e,fun v z=>by rw [d] at z; cases z⟩
 keep:=fun i h h' st k=>st.at fun o e=>k it (by simp) o e
 item:=by
  intro X hP hw hK hc i aa s σ H E I hf st hg;subst hP hw hK;obtain ⟨xs,x,hq,hx⟩:=hg;obtain ⟨its,rv,p,hz⟩:=I.list hq;obtain ⟨u,hu,ru⟩:=rv.get hx;obtain ⟨f0,f1,f2,f3,f4,f5⟩:=hf it (by simp);refine wpAny_pyNext_list_item st p.isList (x:=u) (by simpa using hu) fun h' st' sb=>?_;have I1:Inv X aa σ H { s with heap:=h' }:=I.turned (t':=s.toks) (fun b o hb e=>(sb.2 b hb).trans e) f0 f1 f3 f4 f5;obtain ⟨o,e,c,d⟩:=id st';exact ⟨u,rfl,KC (s:={ s with heap:=h' }) e c d (by decide) ⟨x,H,I1,ru,⟨rfl,fun ys hy=>by rw [I.list_inj hy hq]; exact hx⟩,st',fun b hb=>(hf b hb).1⟩⟩
 done:=by
  intro X hP hw hK hc i aa s σ H E I hf st hg;subst hP hw hK;obtain ⟨xs,hq,hx⟩:=hg;obtain ⟨its,rv,p,hz⟩:=I.list hq;obtain ⟨f0,f1,f2,f3,f4,f5⟩:=hf it (by simp);have hl:=rv.length;exact wpAny_pyNext_list_end (I.ok.hd hc) st p.isList (by simp; omega) fun h' eb=>⟨rfl,I.turned (t':=s.toks) (fun b o hb e=>eb b o hb e) f0 f1 f3 f4 f5⟩
 self:=fun _ _ _ _ _ st h=>wpAny_pyIter_listiter st h
theorem JP {tg:Expr} (a it:Addr):IH P w K tg (Itt K a) [it] it (fun i h=>h.IsTupleIter it a i) where
 mem:=by simp
 obj:=fun i h st b hb=>by
  have e:b=it:=by simpa using hb
  subst e;obtain ⟨o,e,c,d⟩:=st;exact ⟨o,e,fun v z=>by rw [d] at z; cases z⟩
 keep:=fun i h h' st k=>st.at fun o e=>k it (by simp) o e
 item:=by
  intro X hP hw hK hc i aa s σ H E I hf st hg;subst hP hw hK;obtain ⟨xs,x,hq,hx⟩:=hg;obtain ⟨its,rv,p,hz⟩:=I.tuple hq;obtain ⟨u,hu,ru⟩:=rv.get hx;obtain ⟨f0,f1,f2,f3,f4,f5⟩:=hf it (by simp);refine wpAny_pyNext_tuple_item st (show s.heap.IsTuple a its.toArray from p) (x:=u) (by simpa using hu) fun h' st' sb=>?_;have I1:Inv X aa σ H { s with heap:=h' }:=I.turned (t':=s.toks) (fun b o hb e=>(sb.2 b hb).trans e) f0 f1 f3 f4 f5;obtain ⟨o,e,c,d⟩:=id st';exact ⟨u,rfl,KC (s:={ s with heap:=h' }) e c d (by decide) ⟨x,H,I1,ru,⟨rfl,fun ys hy=>by rw [I.tuple_inj hy hq]; exact hx⟩,st',fun b hb=>(hf b hb).1⟩⟩
 done:=by
  intro X hP hw hK hc i aa s σ H E I hf st hg;subst hP hw hK;obtain ⟨xs,hq,hx⟩:=hg;obtain ⟨its,rv,p,hz⟩:=I.tuple hq;obtain ⟨f0,f1,f2,f3,f4,f5⟩:=hf it (by simp);have hl:=rv.length;exact wpAny_pyNext_tuple_end (I.ok.hd hc) st (show s.heap.IsTuple a its.toArray from p) (by simp; omega) fun h' eb=>⟨rfl,I.turned (t':=s.toks) (fun b o hb e=>eb b o hb e) f0 f1 f3 f4 f5⟩
 self:=fun _ _ _ _ _ st h=>wpAny_pyIter_tupleiter st h
theorem JQ {tg:Expr} (it:Addr) (lo:Int) (n:Nat):IH P w K tg (Itr lo n) [it] it (fun i h=>IsRangeIter h it (lo + (i:Nat) * 1) ((n:Int) - (i:Nat)) 1) where
 mem:=by simp
 obj:=fun i h st b hb=>by
  have e:b=it:=by simpa using hb
  subst e
  exact ⟨_,st,fun v z=>by
   have z':Data.fields _=Data.cell v:=z
   cases z'⟩
 keep:=fun i h h' st k=>k it (by simp) _ st
 item:=by
  intro X hP hw hK hc i aa s σ H E I hf st hg;subst hP hw hK;obtain ⟨f0,f1,f2,f3,f4,f5⟩:=hf it (by simp);have W:=Walks.range (prog:=X.prog) (w:=X.w) (I.ok.hd hc) it lo 1 n;refine W.item i s _ _ hg st fun v h' tk hv st' kk=>?_;obtain ⟨t,rfl⟩:=hv;have I1:Inv X aa σ H { s with heap:=h',toks:=tk }:=I.turned (fun b o hb e=>kk b o (by simpa using hb) e) f0 f1 f3 f4 f5;refine ⟨_,rfl,KC (s:={ s with heap:=h',toks:=tk }) (n := "range_iterator") st' rfl rfl (by decide) ⟨.int (lo + i),H,I1,⟨t,?_⟩,⟨rfl,rfl⟩,st',fun b hb=>(hf b hb).1⟩⟩;rw [Int.mul_one]
 done:=by
  intro X hP hw hK hc i aa s σ H E I hf st hg;subst hP hw hK;obtain ⟨f0,f1,f2,f3,f4,f5⟩:=hf it (by simp);exact wpAny_pyNext_range_end (I.ok.hd hc) st (by have:n <= i:=hg; omega) fun h' eb=>⟨rfl,I.turned (t':=s.toks) (fun b o hb e=>eb b o hb e) f0 f1 f3 f4 f5⟩
 self:=fun _ _ _ _ _ st h=>wpAny_pyIter_rangeiter st h
end L2
namespace L2
open PySem PySem.Spec PyProof.Rows
section
variable {tg:Expr}
def P4 (K:FG) (tl:TE):TI:=fun σ H R=>tl σ H fun x H1=>∃ a,x=.ref a/\(∃ xs,SqL K H1 a xs)/\R (Itl K a) H1
def Qo (K:FG) (tl:TE):TI:=fun σ H R=>tl σ H fun x H1=>∃ a,x=.ref a/\(∃ xs,SqT K H1 a xs)/\R (Itt K a) H1
theorem Al {l:Expr} {tl:TE} (hl:PE X l tl):PI X tg l (P4 X.K tl):=by
 intro aa s σ H R I h;refine thn (hl aa s σ H _ I h) fun v s1 ⟨x,H1,I1,r1,q1⟩=>?_;obtain ⟨a,e,⟨xs,hq⟩,q⟩:=q1;subst e;cases r1;obtain ⟨its,rv,p,hz⟩:=I1.list hq;refine wpAny_pyIter_list p.isList ?_;refine ⟨s1.heap.objs.size,[s1.heap.objs.size],_,_,H1,rfl,I1.kept (t':=s1.toks) fun b o e=>get?_push_of_some _ e,Km a _,⟨_,get?_push_size _ rfl,rfl,rfl⟩,fun b hb=>?_,q⟩;have e:b=s1.heap.objs.size:=by simpa using hb
 subst e;exact I1.fpOk (Nat.le_refl _) (I1.hok.fresh (Nat.le_refl _))
theorem HG {l:Expr} {tl:TE} (hl:PE X l tl):PI X tg l (Qo X.K tl):=by
 intro aa s σ H R I h;refine thn (hl aa s σ H _ I h) fun v s1 ⟨x,H1,I1,r1,q1⟩=>?_;obtain ⟨a,e,⟨xs,hq⟩,q⟩:=q1;subst e;cases r1;obtain ⟨its,rv,p,hz⟩:=I1.tuple hq;refine wpAny_pyIter_tuple (show s1.heap.IsTuple a its.toArray from p) ?_;refine ⟨s1.heap.objs.size,[s1.heap.objs.size],_,_,H1,rfl,I1.kept (t':=s1.toks) fun b o e=>get?_push_of_some _ e,JP a _,⟨_,get?_push_size _ rfl,rfl,rfl⟩,fun b hb=>?_,q⟩;have e:b=s1.heap.objs.size:=by simpa using hb
 subst e;exact I1.fpOk (Nat.le_refl _) (I1.hok.fresh (Nat.le_refl _))
theorem Ll {R:It->Hp->Prop} {lo hi:Int} {t u v:Tok} {tk:Nat} (I:Inv X aa σ H s) (h1:-(2 ^ 62) <= lo) (h2:lo < 2 ^ 62) (h3:-(2 ^ 62) <= hi) (h4:hi < 2 ^ 62)
  (q:R (Itr lo (hi - lo).toNat) H):wpAny (model X.prog X.w) X.A (pyIter (.ref s.heap.objs.size)) (PIE X aa σ tg R) E { s with heap:=s.heap.push { cls:=.type "range", data:=.fields #[.int lo t,.int hi u,.int 1 v] },toks:=tk }:=by
 refine wpAny_pyIter_range (IsRange.new ..) (small_one h1 h2 h3 h4) ?_;have I1:Inv X aa σ H { s with heap:=s.heap.push { cls:=.type "range", data:=.fields #[.int lo t,.int hi u,.int 1 v] },toks:=tk }:=I.kept fun b o e=>get?_push_of_some _ e
 refine ⟨(s.heap.push { cls:=.type "range", data:=.fields #[.int lo t,.int hi u,.int 1 v] }).objs.size,[(s.heap.push { cls:=.type "range", data:=.fields #[.int lo t,.int hi u,.int 1 v] }).objs.size],_,_,H,rfl,
  I1.kept (t':=tk) fun b o e=>get?_push_of_some _ e,JQ _ lo (hi - lo).toNat,?_,fun b hb=>?_,q⟩
 ·have e1:lo + ((0:Nat):Int) * 1=lo:=by simp
  have e2:(((hi - lo).toNat:Nat):Int) - ((0:Nat):Int)=Builtin.Range.rangeSize lo hi 1:=by rw [rangeSize_one]; split <;> omega
  show IsRangeIter _ _ (lo + ((0:Nat):Int) * 1) ((((hi - lo).toNat:Nat):Int) - ((0:Nat):Int)) 1;rw [e1,e2];exact get?_push_size _ rfl
 ·have e:b=(s.heap.push { cls:=.type "range", data:=.fields #[.int lo t,.int hi u,.int 1 v] }).objs.size:=by simpa using hb
  subst e;exact I1.fpOk (Nat.le_refl _) (I1.hok.fresh (Nat.le_refl _))
def P5 (ta:TA):TI:=fun σ H R=>ta σ H fun vs H1=>∃ j:Int,vs=[.int j]/\-(2 ^ 62) <= j/\j < 2 ^ 62/\R (Itr 0 j.toNat) H1
theorem CP {a:Expr} {ta:TA} {p:Pos} (hg:Gl X "range") (hm:X.mg "range" = none) (ha:PA X [a] ta) (hs:starEach [a] X.env=[(false,eval a X.env)]:=by rfl):PI X tg (.Call (.Name "range" p) [a] [] pos) (P5 ta):=by
 intro aa s σ H R I h;refine Call_ (Eb I hg hm boot_range (PyProof.Rows.callWith_type1 (thn (ha pos aa s σ H _ I h) fun us s1 ⟨vs,H1,I1,r1,q1⟩=>?_) hs rfl));obtain ⟨j,e,q1,q2,q⟩:=q1;subst e;cases r1 with
 | cons r rr =>
  cases rr;obtain ⟨t,rfl⟩:=r;exact call_range_1 (Ll I1 (by omega) (by omega) q1 q2 (by simpa using q))
def Qp (wi:TI) (g:TG) (tb:TS):TS:=fun D σ H=>wi σ H fun J H1=>∃ W:Nat->Nat->St->Hp->Prop,(∃ m,W 0 m σ H1)/\∀ i m σ H,W i m σ H ->
 (J.stop i H/\D.nx σ H)\/(J.go i H/\∃ N:St->Hp->Prop,(∀ σ' H',N σ' H'->∃ m',m' < m/\W (i + 1) m' σ' H')/\∀ x H',J.yld i H x H'->g x σ H' fun σ2 H2=>tb { D with nx:=N,ct:=N,bk:=D.nx } σ2 H2)
def B1 (fp:List Addr) (h:Heap):LO:=fp.filterMap fun b=>(h.get? b).map fun o=>(b,o)
theorem Bf {fp:List Addr} {b:Addr} {o:Obj} (hb:b ∈ fp) (e:h.get? b=some o):(b,o) ∈ B1 fp h:=List.mem_filterMap.mpr ⟨b,hb,by rw [e]; rfl⟩
theorem Ee {fp:List Addr} {p:Addr × Obj} (hp:p ∈ B1 fp h):p.1 ∈ fp/\h.get? p.1=some p.2:=by
 obtain ⟨b,hb,e⟩:=List.mem_filterMap.mp hp;cases q:h.get? b with
 | none=>rw [q] at e; cases e
 | some o =>
  rw [q] at e;have e':(b,o)=p:=Option.some.inj e;subst e';exact ⟨hb,q⟩
theorem Inv.pinned {fp:List Addr} (I:Inv X aa σ H s) (hf:∀ b ∈ fp,Dq X aa H b) (ho:∀ b ∈ fp,∃ o,s.heap.get? b=some o/\∀ v,o.data ≠ .cell v):Inv X (aa++B1 fp s.heap) σ H s :=
 I.pins_of fun p hp=>(mem_append.mp hp).elim (fun z=>I.pin p (mem_append_right _ z)) fun z=>by
  obtain ⟨hb,e⟩:=Ee z;obtain ⟨f0,f1,f2,_⟩:=hf p.1 hb;obtain ⟨o,e',d⟩:=ho p.1 hb;rw [e] at e'; cases e';exact ⟨e,f0,f1,f2,d⟩
theorem Inv.unpinned {pl:LO} (I:Inv X (aa++pl) σ H s):Inv X aa σ H s:=I.pins_of fun p hp=>I.pin p (mem_append_right _ (mem_append_left _ hp))
theorem BP {iter:Expr} {body:List Stmt} {wi:TI} {g:TG} {tb:TS} (hp:PassesOwn (model X.prog X.w) X.A X.env X.xe) (hc:X.calm=true) (hi:PI X tg iter wi) (hg:PG X tg g) (hb:PSs X body tb)
  (hs:∀ x,foldedSetIterable iter X.env x=pure x:=by intro _; rfl):PS X (.For tg iter body [] pos) (Qp wi g tb):=by
 intro aa s σ H D I h;refine wpAny_For (thn (hi aa s σ H _ I h) fun v s1 h1=>thn h1 fun itv s2 h2=>?_) hs;obtain ⟨it,fp,tn,J,H2,e,I2,T,st2,f2,W,⟨m0,w0⟩,turn⟩:=h2;subst e;have stat:∀ {H':Hp},(∀ b ∈ fp,H' b=none)->∀ b ∈ fp,Dq X aa H' b:=fun hn b hb=>⟨hn b hb,(f2 b hb).2⟩;refine codeAny_forLoop_any (fun n s'=>∃ i σ' H',Inv X aa σ' H' s'/\tn i s'.heap/\(∀ b ∈ fp,H' b=none)/\W i n σ' H') ?_ m0 ⟨0,σ,H2,I2,st2,fun b hb=>(f2 b hb).1,w0⟩;rintro n s3 ⟨i,σ3,H3,I3,st3,fr3,w3⟩;rcases turn i n σ3 H3 w3 with ⟨stop,qn⟩ | ⟨go,N,hN,step⟩
 ·refine wpAny_passesOwn hp (thn (T.done X rfl rfl rfl hc i aa s3 σ3 H3 X.xe I3 (stat fr3) st3 stop) fun r s4 ⟨hr,I4⟩=>?_);subst hr;exact wpAny_execs_nil ⟨σ3,H3,I4,qn⟩
 ·refine wpAny_passesOwn hp (thn (T.item X rfl rfl rfl hc i aa s3 σ3 H3 X.xe I3 (stat fr3) st3 go) fun r s4 ⟨u,hr,h4⟩=>?_);subst hr;refine wpAny_passesOwn hp (thn h4 fun _ s5 ⟨x,H5,I5,r5,y5,st5,fr5⟩=>?_);have I5':=I5.pinned (stat fr5) (T.obj _ _ st5);refine wpAny_passesOwn hp (thn (hg _ s5 σ3 H5 x u _ I5' r5 (step x H5 y5)) fun _ s6 ⟨σ6,H6,I6,q6⟩=>?_);refine wpAny_passesOwn hp (thn (hb _ s6 σ6 H6 _ I6 q6) fun f s7 q7=>?_)
  have again:∀ {σ7:St} {H7:Hp},Inv X (aa++B1 fp s5.heap) σ7 H7 s7->N σ7 H7->∃ m,m < n/\∃ i σ' H',Inv X aa σ' H' s7/\tn i s7.heap/\(∀ b ∈ fp,H' b=none)/\W i m σ' H':=fun {σ7 H7} I7 n7=>by
   obtain ⟨m',hm,w7⟩:=hN σ7 H7 n7;refine ⟨m',hm,i + 1,σ7,H7,I7.unpinned,T.keep _ _ _ st5 fun b hb o e=>(I7.pin (b,o) (mem_append_right _ (mem_append_right _ (Bf hb e)))).1,fun b hb=>?_,w7⟩;obtain ⟨o,e,d⟩:=T.obj _ _ st5 b hb;exact (I7.pin (b,o) (mem_append_right _ (mem_append_right _ (Bf hb e)))).2.1
  cases f with
  | next=>obtain ⟨σ7,H7,I7,n7⟩:=q7; exact again I7 n7
  | cont=>obtain ⟨σ7,H7,I7,n7⟩:=q7; exact again I7 n7
  | brk=>obtain ⟨σ7,H7,I7,q7⟩:=q7; exact ⟨σ7,H7,I7.unpinned,q7⟩
  | ret v=>obtain ⟨x7,σ7,H7,I7,r7,q7⟩:=q7; exact ⟨x7,σ7,H7,I7.unpinned,r7,q7⟩
end
theorem BD {g:TG} {tb:TS} {D:FK} (Pv:Nat->St->Hp->Prop) (h0:Pv 0 σ H) (hl:∀ i σ H,i <= xs.length->Pv i σ H->SqL K H a xs)
  (hs:∀ i x σ H,xs[i]?=some x->Pv i σ H->g x σ H fun σ2 H2=>tb { D with nx:=Pv (i + 1),ct:=Pv (i + 1),bk:=D.nx } σ2 H2) (hd:∀ σ H,Pv xs.length σ H->D.nx σ H) :
  ∃ W:Nat->Nat->St->Hp->Prop,(∃ m,W 0 m σ H)/\∀ i m σ H,W i m σ H ->
   ((Itl K a).stop i H/\D.nx σ H)\/((Itl K a).go i H/\∃ N:St->Hp->Prop,(∀ σ' H',N σ' H'->∃ m',m' < m/\W (i + 1) m' σ' H')/\∀ x H',(Itl K a).yld i H x H'->g x σ H' fun σ2 H2=>tb { D with nx:=N,ct:=N,bk:=D.nx } σ2 H2):=by
 refine ⟨fun i m σ H=>m=xs.length - i/\i <= xs.length/\Pv i σ H,⟨xs.length,by simp,Nat.zero_le _,h0⟩,?_⟩;rintro i m σ H ⟨rfl,hi,p⟩;have q:=hl i σ H hi p;by_cases hlt:i < xs.length
 ·refine .inr ⟨⟨xs,xs[i],q,by simp [hlt]⟩,Pv (i + 1),fun σ' H' p'=>⟨xs.length - (i + 1),by omega,rfl,hlt,p'⟩,fun x H' y=>?_⟩;obtain ⟨e,y⟩:=y;subst e;exact hs i x σ _ (y xs q) p
 ·have e:i=xs.length:=by omega
  subst e;exact .inl ⟨⟨xs,q,Nat.le_refl _⟩,hd σ H p⟩
theorem Nm {g:TG} {tb:TS} {D:FK} (Pv:Nat->St->Hp->Prop) (h0:Pv 0 σ H) (hl:∀ i σ H,i <= xs.length->Pv i σ H->SqT K H a xs)
  (hs:∀ i x σ H,xs[i]?=some x->Pv i σ H->g x σ H fun σ2 H2=>tb { D with nx:=Pv (i + 1),ct:=Pv (i + 1),bk:=D.nx } σ2 H2) (hd:∀ σ H,Pv xs.length σ H->D.nx σ H) :
  ∃ W:Nat->Nat->St->Hp->Prop,(∃ m,W 0 m σ H)/\∀ i m σ H,W i m σ H ->
   ((Itt K a).stop i H/\D.nx σ H)\/((Itt K a).go i H/\∃ N:St->Hp->Prop,(∀ σ' H',N σ' H'->∃ m',m' < m/\W (i + 1) m' σ' H')/\∀ x H',(Itt K a).yld i H x H'->g x σ H' fun σ2 H2=>tb { D with nx:=N,ct:=N,bk:=D.nx } σ2 H2):=by
 refine ⟨fun i m σ H=>m=xs.length - i/\i <= xs.length/\Pv i σ H,⟨xs.length,by simp,Nat.zero_le _,h0⟩,?_⟩;rintro i m σ H ⟨rfl,hi,p⟩;have q:=hl i σ H hi p;by_cases hlt:i < xs.length
 ·refine .inr ⟨⟨xs,xs[i],q,by simp [hlt]⟩,Pv (i + 1),fun σ' H' p'=>⟨xs.length - (i + 1),by omega,rfl,hlt,p'⟩,fun x H' y=>?_⟩;obtain ⟨e,y⟩:=y;subst e;exact hs i x σ _ (y xs q) p
 ·have e:i=xs.length:=by omega
  subst e;exact .inl ⟨⟨xs,q,Nat.le_refl _⟩,hd σ H p⟩
theorem Kn {lo:Int} {n:Nat} {g:TG} {tb:TS} {D:FK} (Pv:Nat->St->Hp->Prop) (h0:Pv 0 σ H)
  (hs:∀ i σ H,i < n->Pv i σ H->g (.int (lo + i)) σ H fun σ2 H2=>tb { D with nx:=Pv (i + 1),ct:=Pv (i + 1),bk:=D.nx } σ2 H2) (hd:∀ σ H,Pv n σ H->D.nx σ H) :
  ∃ W:Nat->Nat->St->Hp->Prop,(∃ m,W 0 m σ H)/\∀ i m σ H,W i m σ H ->
   ((Itr lo n).stop i H/\D.nx σ H)\/((Itr lo n).go i H/\∃ N:St->Hp->Prop,(∀ σ' H',N σ' H'->∃ m',m' < m/\W (i + 1) m' σ' H')/\∀ x H',(Itr lo n).yld i H x H'->g x σ H' fun σ2 H2=>tb { D with nx:=N,ct:=N,bk:=D.nx } σ2 H2):=by
 refine ⟨fun i m σ H=>m=n - i/\i <= n/\Pv i σ H,⟨n,by simp,Nat.zero_le _,h0⟩,?_⟩;rintro i m σ H ⟨rfl,hi,p⟩;by_cases hlt:i < n
 ·refine .inr ⟨hlt,Pv (i + 1),fun σ' H' p'=>⟨n - (i + 1),by omega,rfl,hlt,p'⟩,fun x H' y=>?_⟩;obtain ⟨e,y⟩:=y;subst e y;exact hs i σ _ hlt p
 ·have e:i=n:=by omega
  subst e;exact .inl ⟨Nat.le_refl _,hd σ H p⟩
theorem Lm {c:TT} {tb:TS} {D:FK} (Pv:St->Hp->Prop) (μ:St->Hp->Nat) (h0:Pv σ H)
  (hs:∀ σ H,Pv σ H->c σ H fun b H1=>if b=true then tb { D with nx:=fun σ' H'=>Pv σ' H'/\μ σ' H' < μ σ H,ct:=fun σ' H'=>Pv σ' H'/\μ σ' H' < μ σ H,bk:=D.nx } σ H1 else D.nx σ H1)
  (mono:∀ σ H Q Q',(∀ b H1,Q b H1->Q' b H1)->c σ H Q->c σ H Q'):Lj c tb D σ H:=by
 refine ⟨fun m σ H=>m=μ σ H/\Pv σ H,⟨_,rfl,h0⟩,?_⟩;rintro m σ H ⟨rfl,p⟩;refine mono σ H _ _ (fun b H1 q=>?_) (hs σ H p);cases b with
 | true=>exact ⟨_,fun σ' H' ⟨p',l⟩=>⟨_,l,rfl,p'⟩,q⟩
 | false=>exact q
end L2
namespace L2
open PySem PySem.Spec PyProof.Rows
abbrev R2:=V->V->Hp->VK->Prop
def OpR (X:Cx) (f:Value->Value->Sem Value) (r:R2):Prop :=
 ∀ (aa:LO) (s:Shared) (σ:St) (H:Hp) (x y:V) (v u:Value) (Q:VK),Inv X aa σ H s->RelV x v->RelV y u->r x y H Q ->
  wpAny (model X.prog X.w) X.A (f v u) (EP X aa σ Q) X.xe s
def UnR (X:Cx) (f:Value->Sem Value) (r:V->Hp->VK->Prop):Prop :=
 ∀ (aa:LO) (s:Shared) (σ:St) (H:Hp) (x:V) (v:Value) (Q:VK),Inv X aa σ H s->RelV x v->r x H Q ->
  wpAny (model X.prog X.w) X.A (f v) (EP X aa σ Q) X.xe s
def BR (X:Cx) (f:Value) (r:List V->Hp->VK->Prop):Prop :=
 ∀ (aa:LO) (s:Shared) (σ:St) (H:Hp) (xs:List V) (us:List Value) (Q:VK),Inv X aa σ H s->Vals xs us->r xs H Q ->
  wpAny (model X.prog X.w) X.A (call f us) (EP X aa σ Q) X.xe s
def tOp (r:R2) (ta tb:TE):TE:=fun σ H Q=>ta σ H fun x H1=>tb σ H1 fun y H2=>r x y H2 Q
def tUn (r:V->Hp->VK->Prop) (ta:TE):TE:=fun σ H Q=>ta σ H fun x H1=>r x H1 Q
def rI (C:Int->Int->Prop) (g:Int->Int->V):R2:=fun x y H Q=>∃ i j,x=.int i/\y=.int j/\C i j/\Q (g i j) H
def rI0 (g:Int->Int->V):R2:=fun x y H Q=>∃ i j,x=.int i/\y=.int j/\Q (g i j) H
def rU (g:Int->V):V->Hp->VK->Prop:=fun x H Q=>∃ i,x=.int i/\Q (g i) H
section
variable {a b c:Expr} {ta tb tc:TE}
theorem Ov (ha:PE X a ta) (hb:PE X b tb) {R:V->V->Hp->Prop} (I:Inv X aa σ H s)
  (h:ta σ H fun x H1=>tb σ H1 fun y H2=>R x y H2) {Q:VS} {f:Value->Value->Sem Value}
  (hf:∀ v u s2 x y H2,Inv X aa σ H2 s2->RelV x v->RelV y u->R x y H2->wpAny (model X.prog X.w) X.A (f v u) Q X.xe s2) :
  wpAny (model X.prog X.w) X.A (eval a X.env) (fun v s₁=>wpAny (model X.prog X.w) X.A (eval b X.env) (fun u s₂=>wpAny (model X.prog X.w) X.A (f v u) Q X.xe s₂) X.xe s₁) X.xe s:=by
 refine thn (ha aa s σ H _ I h) fun v s1 ⟨x,H1,I1,r1,q1⟩=>?_;refine thn (hb aa s1 σ H1 _ I1 q1) fun u s2 ⟨y,H2,I2,r2,q2⟩=>?_;exact hf v u s2 x y H2 I2 r1 r2 q2
theorem AY {op:Operator} {r:R2} (ho:OpR X (binaryOp op) r) (ha:PE X a ta) (hb:PE X b tb):PE X (.BinOp a op b pos) (tOp r ta tb):=by
 intro aa s σ H Q I h;exact wpAny_BinOp (Ov ha hb I h fun v u s2 x y H2 I2 rx ry q=>ho aa s2 σ H2 x y v u Q I2 rx ry q)
theorem Ln {op:UnaryOp} {r:V->Hp->VK->Prop} (ho:UnR X (unaryOp op) r) (ha:PE X a ta):PE X (.UnaryOp op a pos) (tUn r ta):=by
 intro aa s σ H Q I h;exact UnaryOp_ (thn (ha aa s σ H _ I h) fun v s1 ⟨x,H1,I1,r1,q1⟩=>ho aa s1 σ H1 x v Q I1 r1 q1)
theorem opI {f:Value->Value->Sem Value} {C:Int->Int->Prop} {g:Int->Int->Int}
  (rule:∀ (i j:Int) (t u:Tok) (s:Shared) (Q:VS) (E:VS),C i j->Q (.int (g i j) s.toks) { s with toks:=s.toks + 1 }->wpAny (model X.prog X.w) X.A (f (.int i t) (.int j u)) Q E s) :
  OpR X f (rI C fun i j=>.int (g i j)):=by
 intro aa s σ H x y v u Q I rx ry h;obtain ⟨i,j,rfl,rfl,hc,q⟩:=h;obtain ⟨t,rfl⟩:=rx;obtain ⟨t',rfl⟩:=ry;exact rule i j t t' s _ _ hc ⟨.int (g i j),H,I.tok _,⟨_,rfl⟩,q⟩
theorem Lo {f:Value->Value->Sem Value} {g:Int->Int->Int}
  (rule:∀ (i j:Int) (t u:Tok) (s:Shared) (Q:VS) (E:VS),Q (.int (g i j) s.toks) { s with toks:=s.toks + 1 }->wpAny (model X.prog X.w) X.A (f (.int i t) (.int j u)) Q E s) :
  OpR X f (rI0 fun i j=>.int (g i j)):=by
 intro aa s σ H x y v u Q I rx ry h;obtain ⟨i,j,rfl,rfl,q⟩:=h;obtain ⟨t,rfl⟩:=rx;obtain ⟨t',rfl⟩:=ry;exact rule i j t t' s _ _ ⟨.int (g i j),H,I.tok _,⟨_,rfl⟩,q⟩
theorem Nn {f:Value->Value->Sem Value} {g:Int->Int->Bool}
  (rule:∀ (i j:Int) (t u:Tok) (s:Shared) (Q:VS) (E:VS),Q (.bool (g i j)) s->wpAny (model X.prog X.w) X.A (f (.int i t) (.int j u)) Q E s) :
  OpR X f (rI0 fun i j=>.bl (g i j)):=by
 intro aa s σ H x y v u Q I rx ry h;obtain ⟨i,j,rfl,rfl,q⟩:=h;obtain ⟨t,rfl⟩:=rx;obtain ⟨t',rfl⟩:=ry;exact rule i j t t' s _ _ ⟨.bl (g i j),H,I,rfl,q⟩
def Qq (i j:Int):Prop:=0 < j/\j < 1073741824
def Ow (i j:Int):Prop:=0 <= j/\j <= 1000000/\i.natAbs < 2 ^ 64
def CMul (i j:Int):Prop:=(-(2 ^ 64) < i/\i < 2 ^ 64)\/(-(2 ^ 64) < j/\j < 2 ^ 64)
theorem CMul.ok {i j:Int} (h:CMul i j):IntMulOk i j:=by
 rcases h with ⟨h1,h2⟩ | ⟨h1,h2⟩
 ·exact .of_left (intBits_le_64 h1 h2)
 ·exact .of_right (intBits_le_64 h1 h2)
theorem JR (k:Nat):(0:Int) <= 2 ^ k:=by
 rw [two_pow_cast];exact Int.natCast_nonneg _
theorem Ca:OpR X (binaryOp .Add) (rI0 fun i j=>.int (i + j)):=Lo fun _ _ _ _ _ _ _ q=>add_int q
theorem JS:OpR X (binaryOp .Sub) (rI0 fun i j=>.int (i - j)):=Lo fun _ _ _ _ _ _ _ q=>sub_int q
theorem FN:OpR X (binaryOp .Mult) (rI CMul fun i j=>.int (i * j)):=opI fun _ _ _ _ _ _ _ hc q=>mul_int q hc.ok
theorem HH:OpR X (binaryOp .FloorDiv) (rI Qq fun i j=>.int (i / j)):=opI fun i j _ _ _ _ _ hc q=>by
 have h1:(0:Int) < j:=hc.1;have h2:j < 1073741824:=hc.2;exact floordiv_int (by omega) (by rw [Int.fdiv_eq_ediv_of_nonneg i (by omega)]; exact q) (.inl (PyProof.noPylong_small (by omega)))
theorem DP:OpR X (binaryOp .Mod) (rI (fun _ j=>0 < j) fun i j=>.int (i % j)):=opI fun i j _ _ _ _ _ hc q=>by
 have h1:(0:Int) < j:=hc;exact mod_int' (by omega) (by rw [Int.fmod_eq_emod_of_nonneg i (by omega)]; exact q)
theorem Lp:OpR X (binaryOp .Pow) (rI Ow fun i j=>.int (i ^ j.toNat)):=opI fun _ _ _ _ _ _ _ hc q=>pow_int_small hc.1 hc.2.1 hc.2.2 q
theorem HI:OpR X (binaryOp .LShift) (rI Ow fun i j=>.int (i * 2 ^ j.toNat)):=opI fun _ _ _ _ _ _ _ hc q=>lshift_int_small hc.1 hc.2.1 hc.2.2 q
theorem Ox:OpR X (binaryOp .RShift) (rI (fun _ j=>0 <= j) fun i j=>.int (i / 2 ^ j.toNat)):=opI fun i j _ _ _ _ _ hc q =>
 rshift_int hc (by rw [Int.fdiv_eq_ediv_of_nonneg i (JR _)]; exact q)
theorem DQ:OpR X (binaryOp .BitAnd) (rI0 fun i j=>.int (Builtin.bitAnd i j)):=Lo fun _ _ _ _ _ _ _ q=>and_int q
theorem FO:OpR X (binaryOp .BitOr) (rI0 fun i j=>.int (Builtin.bitOr i j)):=Lo fun _ _ _ _ _ _ _ q=>or_int q
theorem Oy:OpR X (inplaceOp .BitOr) (rI0 fun i j=>.int (Builtin.bitOr i j)):=Lo fun _ _ _ _ _ _ _ q=>ior_int q
theorem unI {f:Value->Sem Value} {g:Int->Int}
  (rule:∀ (i:Int) (t:Tok) (s:Shared) (Q:VS) (E:VS),Q (.int (g i) s.toks) { s with toks:=s.toks + 1 }->wpAny (model X.prog X.w) X.A (f (.int i t)) Q E s) :
  UnR X f (rU fun i=>.int (g i)):=by
 intro aa s σ H x v Q I rx h;obtain ⟨i,rfl,q⟩:=h;obtain ⟨t,rfl⟩:=rx;exact rule i t s _ _ ⟨.int (g i),H,I.tok _,⟨_,rfl⟩,q⟩
theorem Oz:UnR X (unaryOp .USub) (rU fun i=>.int (-i)):=unI fun _ _ _ _ _ q=>neg_int q
theorem Lq:UnR X (unaryOp .Invert) (rU fun i=>.int (Builtin.bitNot i)):=unI fun _ _ _ _ _ q=>invert_int q
end
def P6:V->V->Bool
 | .non,.non=>true | .non,.int _=>true | .int _,.non=>true | .non,.bl _=>true | .bl _,.non=>true | .non,.str _=>true | .str _,.non=>true
 | .int _,.int _=>true | .bl _,.bl _=>true | .str _,.str _=>true | .byt _,.byt _=>true
 | .int _,.str _=>true | .str _,.int _=>true | .bl _,.str _=>true | .str _,.bl _=>true
 | _,_=>false
def rEq:R2:=fun x y H Q=>P6 x y=true/\Q (.bl (decide (x=y))) H
def rNe:R2:=fun x y H Q=>P6 x y=true/\Q (.bl (!decide (x=y))) H
theorem KD {i j:Int}:decide (V.int i=V.int j)=(i == j):=by
 rw [Bool.eq_iff_iff];simp
theorem Lr {i j:Bool}:decide (V.bl i=V.bl j)=(i == j):=by
 rw [Bool.eq_iff_iff];simp
theorem KF {i j:Str}:decide (V.str i=V.str j)=(i == j):=by
 rw [Bool.eq_iff_iff];simp
theorem KG {i j:Array UInt8}:decide (V.byt i=V.byt j)=(i.toList == j.toList):=by
 rw [Bool.eq_iff_iff];cases i;cases j;simp
section
variable {a b c:Expr} {ta tb tc:TE}
theorem Aj {Q:VK} {k k':Bool} (I:Inv X aa σ H s) (q:Q (.bl k) H) (e:k=k'):EP X aa σ Q (.bool k') s:=by
 subst e;exact ⟨.bl k,H,I,rfl,q⟩
theorem Dr:OpR X (compareOp .Eq) rEq:=by
 intro aa s σ H x y v u Q I rx ry h;obtain ⟨hs,q⟩:=h;cases x with
 | non =>
  cases rx;cases y with
  | non=>cases ry; exact PySem.EqNone.eq_none_none (Aj I q (by simp))
  | bl j=>cases ry; exact PySem.EqNone.eq_none_bool (Aj I q (by simp))
  | int j=>obtain ⟨t',rfl⟩:=ry; exact PySem.EqNone.eq_none_int (Aj I q (by simp))
  | str j=>obtain ⟨t',rfl⟩:=ry; exact PySem.EqNone.eq_none_str (Aj I q (by simp))
  | _=>exact absurd (show false=true from hs) Bool.false_ne_true
 | bl i =>
  cases rx;cases y with
  | non=>cases ry; exact PySem.EqNone.eq_bool_none (Aj I q (by simp))
  | bl j=>cases ry; exact eq_bool (Aj I q Lr)
  | str j=>obtain ⟨t',rfl⟩:=ry; exact PySem.EqMixed.eq_bool_str (Aj I q (by simp))
  | _=>exact absurd (show false=true from hs) Bool.false_ne_true
 | int i =>
  obtain ⟨t,rfl⟩:=rx;cases y with
  | non=>cases ry; exact PySem.EqNone.eq_int_none (Aj I q (by simp))
  | int j=>obtain ⟨t',rfl⟩:=ry; exact eq_int (Aj I q KD)
  | str j=>obtain ⟨t',rfl⟩:=ry; exact PySem.EqMixed.eq_int_str (Aj I q (by simp))
  | _=>exact absurd (show false=true from hs) Bool.false_ne_true
 | str i =>
  obtain ⟨t,rfl⟩:=rx;cases y with
  | non=>cases ry; exact PySem.EqNone.eq_str_none (Aj I q (by simp))
  | bl j=>cases ry; exact PySem.EqMixed.eq_str_bool (Aj I q (by simp))
  | int j=>obtain ⟨t',rfl⟩:=ry; exact PySem.EqMixed.eq_str_int (Aj I q (by simp))
  | str j=>obtain ⟨t',rfl⟩:=ry; exact eq_str (Aj I q KF)
  | _=>exact absurd (show false=true from hs) Bool.false_ne_true
 | byt i =>
  obtain ⟨t,rfl⟩:=rx;cases y with
  | byt j=>obtain ⟨t',rfl⟩:=ry; exact W.eq_bytes (Aj I q KG)
  | _=>exact absurd (show false=true from hs) Bool.false_ne_true
 | _=>cases y <;> exact absurd (show false=true from hs) Bool.false_ne_true
theorem Ds:OpR X (compareOp .NotEq) rNe:=by
 intro aa s σ H x y v u Q I rx ry h;obtain ⟨hs,q⟩:=h;cases x with
 | non =>
  cases rx;cases y with
  | non=>cases ry; exact PySem.EqNone.ne_none_none (Aj I q (by simp))
  | bl j=>cases ry; exact PySem.EqNone.ne_none_bool (Aj I q (by simp))
  | int j=>obtain ⟨t',rfl⟩:=ry; exact PySem.EqNone.ne_none_int (Aj I q (by simp))
  | str j=>obtain ⟨t',rfl⟩:=ry; exact PySem.EqNone.ne_none_str (Aj I q (by simp))
  | _=>exact absurd (show false=true from hs) Bool.false_ne_true
 | bl i =>
  cases rx;cases y with
  | non=>cases ry; exact PySem.EqNone.ne_bool_none (Aj I q (by simp))
  | bl j=>cases ry; exact ne_bool (Aj I q (congrArg not Lr))
  | str j=>obtain ⟨t',rfl⟩:=ry; exact PySem.EqMixed.ne_bool_str (Aj I q (by simp))
  | _=>exact absurd (show false=true from hs) Bool.false_ne_true
 | int i =>
  obtain ⟨t,rfl⟩:=rx;cases y with
  | non=>cases ry; exact PySem.EqNone.ne_int_none (Aj I q (by simp))
  | int j=>obtain ⟨t',rfl⟩:=ry; exact ne_int (Aj I q (congrArg not KD))
  | str j=>obtain ⟨t',rfl⟩:=ry; exact PySem.EqMixed.ne_int_str (Aj I q (by simp))
  | _=>exact absurd (show false=true from hs) Bool.false_ne_true
 | str i =>
  obtain ⟨t,rfl⟩:=rx;cases y with
  | non=>cases ry; exact PySem.EqNone.ne_str_none (Aj I q (by simp))
  | bl j=>cases ry; exact PySem.EqMixed.ne_str_bool (Aj I q (by simp))
  | int j=>obtain ⟨t',rfl⟩:=ry; exact PySem.EqMixed.ne_str_int (Aj I q (by simp))
  | str j=>obtain ⟨t',rfl⟩:=ry; exact ne_str (Aj I q (congrArg not KF))
  | _=>exact absurd (show false=true from hs) Bool.false_ne_true
 | byt i =>
  obtain ⟨t,rfl⟩:=rx;cases y with
  | byt j=>obtain ⟨t',rfl⟩:=ry; exact W.ne_bytes (Aj I q (congrArg not KG))
  | _=>exact absurd (show false=true from hs) Bool.false_ne_true
 | _=>cases y <;> exact absurd (show false=true from hs) Bool.false_ne_true
theorem KH:OpR X (compareOp .Lt) (rI0 fun i j=>.bl (decide (i < j))):=Nn fun _ _ _ _ _ _ _ q=>lt_int q
theorem Dt:OpR X (compareOp .LtE) (rI0 fun i j=>.bl (decide (i <= j))):=Nn fun _ _ _ _ _ _ _ q=>le_int q
theorem KJ:OpR X (compareOp .Gt) (rI0 fun i j=>.bl (decide (j < i))):=Nn fun _ _ _ _ _ _ _ q=>gt_int q
theorem Ls:OpR X (compareOp .GtE) (rI0 fun i j=>.bl (decide (j <= i))):=Nn fun _ _ _ _ _ _ _ q=>ge_int q
theorem Ae (b:Expr) {op:CmpOp} (h:op ≠ .In:=by decide) (h2:op ≠ .NotIn:=by decide):behindInMarks op b=false:=by
 have e1:(op == CmpOp.In)=false:=by cases op <;> first | rfl | exact absurd rfl h
 have e2:(op == CmpOp.NotIn)=false:=by cases op <;> first | rfl | exact absurd rfl h2
 cases b <;> simp [behindInMarks,e1,e2]
theorem CB {op:CmpOp} {r:R2} (ho:OpR X (compareOp op) r) (ha:PE X a ta) (hb:PE X b tb) (hm:behindInMarks op b=false):PE X (.Compare a [op] [b] pos) (tOp r ta tb):=by
 intro aa s σ H Q I h;exact wpAny_Compare1 (Ov ha hb I h fun v u s2 x y H2 I2 rx ry q=>ho aa s2 σ H2 x y v u Q I2 rx ry q) hm
def Oe (t:TE):TT:=fun σ H Q=>t σ H fun x H'=>∃ k,x=.bl k/\Q k H'
theorem Ac {op:CmpOp} {r:R2} (ho:OpR X (compareOp op) r) (ha:PE X a ta) (hb:PE X b tb) (hm:behindInMarks op b=false):PT X (.Compare a [op] [b] pos) (Oe (tOp r ta tb)):=by
 intro aa s σ H Q I h
 refine wpAny_isTrue_Compare1 (thn (ha aa s σ H _ I h) fun v s1 ⟨x,H1,I1,r1,q1⟩=>thn (hb aa s1 σ H1 _ I1 q1) fun u s2 ⟨y,H2,I2,r2,q2⟩ =>
  thn (ho aa s2 σ H2 x y v u _ I2 r1 r2 q2) fun c s3 ⟨z,H3,I3,r3,k,e,q3⟩=>?_) hm
 subst e;cases r3;exact wpAny_truthy_bool ⟨H3,I3,q3⟩
def Lu (r r':R2) (ta tb tc:TE):TE:=fun σ H Q=>ta σ H fun x H1=>tb σ H1 fun y H2=>r x y H2 fun z H3=>∃ k,z=.bl k /\
 (if k=true then tc σ H3 fun w' H4=>r' y w' H4 Q else Q (.bl false) H3)
theorem II {op op':CmpOp} {r r':R2} (ho:OpR X (compareOp op) r) (ho':OpR X (compareOp op') r') (ha:PE X a ta) (hb:PE X b tb) (hc:PE X c tc)
  (hm:lastMarks [op,op'] [b,c]=false:=by with_unfolding_all rfl):PE X (.Compare a [op,op'] [b,c] pos) (Lu r r' ta tb tc):=by
 intro aa s σ H Q I h
 refine Compare_chain (thn (ha aa s σ H _ I h) fun v s1 ⟨x,H1,I1,r1,q1⟩=>chain_link (thn (hb aa s1 σ H1 _ I1 q1) fun u s2 ⟨y,H2,I2,r2,q2⟩ =>
  thn (ho aa s2 σ H2 x y v u _ I2 r1 r2 q2) fun d s3 ⟨z,H3,I3,r3,k,e,q3⟩=>?_)) hm
 subst e;cases r3;refine wpAny_truthy_bool ?_;cases k with
 | false=>exact ite_ff ⟨.bl false,H3,I3,rfl,q3⟩
 | true=>exact ite_tt (chain_last (thn (hc aa s3 σ H3 _ I3 q3) fun w' s4 ⟨z',H4,I4,r4,q4⟩=>ho' aa s4 σ H4 y z' u w' Q I4 r2 r4 q4))
theorem Du {op op':CmpOp} {r r':R2} (ho:OpR X (compareOp op) r) (ho':OpR X (compareOp op') r') (ha:PE X a ta) (hb:PE X b tb) (hc:PE X c tc)
  (hm:lastMarks [op,op'] [b,c]=false:=by with_unfolding_all rfl):PT X (.Compare a [op,op'] [b,c] pos) (Oe (Lu r r' ta tb tc)):=by
 intro aa s σ H Q I h
 refine isTrue_chain (thn (ha aa s σ H _ I h) fun v s1 ⟨x,H1,I1,r1,q1⟩=>test_link (thn (hb aa s1 σ H1 _ I1 q1) fun u s2 ⟨y,H2,I2,r2,q2⟩ =>
  thn (ho aa s2 σ H2 x y v u _ I2 r1 r2 q2) fun d s3 ⟨z,H3,I3,r3,k,e,q3⟩=>?_)) hm
 subst e;cases r3;refine wpAny_truthy_bool ?_;cases k with
 | false =>
  obtain ⟨k',e',q'⟩:=q3;cases e';exact ite_ff ⟨H3,I3,q'⟩
 | true =>
  refine ite_tt (test_last (thn (hc aa s3 σ H3 _ I3 q3) fun w' s4 ⟨z',H4,I4,r4,q4⟩=>thn (ho' aa s4 σ H4 y z' u w' _ I4 r2 r4 q4) fun d' s5 ⟨z2,H5,I5,r5,k2,e2,q5⟩=>?_));subst e2;cases r5;exact wpAny_truthy_bool ⟨H5,I5,q5⟩
theorem FP:(sizeLine:Nat) < 2 ^ 63:=by rw [sizeLine_eq]; decide
theorem B2 {x:V} (r:Vals [x] us):∃ u,us=[u]/\RelV x u:=by
 cases r with
 | cons r1 r2=>cases r2; exact ⟨_,rfl,r1⟩
theorem E2 {x y:V} (r:Vals [x,y] us):∃ u w',us=[u,w']/\RelV x u/\RelV y w':=by
 cases r with
 | cons r1 r2 =>
  cases r2 with
  | cons r3 r4=>cases r4; exact ⟨_,_,rfl,r1,r3⟩
theorem Ko (hc:X.calm=true):BR X (.builtin "max") (fun xs H Q=>∃ i j,xs=[.int i,.int j]/\Q (.int (if j > i then j else i)) H):=by
 intro aa s σ H xs us Q I r h;obtain ⟨i,j,rfl,q⟩:=h;obtain ⟨u,w',rfl,⟨t,rfl⟩,⟨t',rfl⟩⟩:=E2 r;refine max_two_ints (I.ok.hd hc) fun h' tk k=>⟨_,H,I.kept k,?_,q⟩;by_cases hj:j > i
 ·rw [if_pos hj,if_pos hj]; exact ⟨_,rfl⟩
 ·rw [if_neg hj,if_neg hj]; exact ⟨_,rfl⟩
theorem Kp (hc:X.calm=true):BR X (.builtin "min") (fun xs H Q=>∃ i j,xs=[.int i,.int j]/\Q (.int (if j < i then j else i)) H):=by
 intro aa s σ H xs us Q I r h;obtain ⟨i,j,rfl,q⟩:=h;obtain ⟨u,w',rfl,⟨t,rfl⟩,⟨t',rfl⟩⟩:=E2 r;refine min_two_ints (I.ok.hd hc) fun h' tk k=>⟨_,H,I.kept k,?_,q⟩;by_cases hj:j < i
 ·rw [if_pos hj,if_pos hj]; exact ⟨_,rfl⟩
 ·rw [if_neg hj,if_neg hj]; exact ⟨_,rfl⟩
end
end L2
namespace L2
open PySem PySem.Spec PyProof.Rows
structure ObjM (h:Heap) (x dx C:Addr) (mA:SV):Prop where
 obj:h.get? x=some (W.instObj C dx)
 ns:h.Ns1 dx mA
 ne:dx ≠ x
theorem Kq {dx:Addr} {mA:SV} (n:h.Ns1 dx mA):∃ od,h.get? dx=some od/\∀ name,W.lookIn name od=some (mA name):=by
 obtain ⟨o,es,ep,ho,hd,hk,_,hm⟩:=n;refine ⟨o,ho,fun name=>?_⟩;have e:=hm name;unfold nsFind findBy at e;rw [← Array.find?_toList] at e;unfold W.lookIn;rw [hd]
 dsimp only
 split
 ·rename_i y q;rw [q] at e;exact congrArg some e
 ·rename_i q;rw [q] at e
  have a:es.toList.any (·.refKey)=false:=by
   rw [List.any_eq_false];intro y hy;obtain ⟨z,t,bq⟩:=hk y (Array.mem_toList_iff.mp hy);simp [DictEntry.refKey,bq]
  have a':¬ es.toList.any (·.refKey)=true:=by rw [a]; exact Bool.false_ne_true
  rw [if_neg a'];exact congrArg some e
theorem ObjM.look {x dx:Addr} {mA:SV} (I:ObjM h x dx C mA):∃ od,W.InstAt h x (W.instObj C dx) C (some od)/\∀ name,W.lookIn name od=some (mA name) :=
 let ⟨od,ho,hl⟩:=Kq I.ns
 ⟨od,⟨I.obj,rfl,rfl,ho⟩,hl⟩
section
variable {prog:Program} {x dx:Addr} {mA:SV} {name:Str} {v:Value}
theorem No {expr:Bool} {Q:VS} (X:K.In s.heap) (I:ObjM s.heap x dx C mA) (hg:W.plainGet K C name=true) (hh:W.hasDictIn K C=true)
  (ha:W.findIn K (.ref C) name=some none) (hv:mA name=some v) (hv':W.handedIn v=true) (h:Q v { s with toks:=s.toks + 1 }) :
  wpAny (model prog w) A (getAttr (.ref x) name expr) Q E s:=by
 obtain ⟨od,J,hl⟩:=I.look;exact W.get_value X J (W.plainGet_of hg).1 (W.findObj_own hh ha rfl (by rw [hl,hv])) hv' h
theorem Lv {pl:Sem Bool} {Q:Value × List Value->Shared->Prop} (X:K.In s.heap) (I:ObjM s.heap x dx C mA) (hg:W.plainGet K C name=true)
  (hf:W.findIn K (.ref C) name=some (some (.ref f))) (ht:W.isFn K (.ref f)=true) (hv:mA name=none) (h:Q (.ref f,[.ref x]) s) :
  wpAny (model prog w) A (getMethod (.ref x) name pl) Q E s:=by
 obtain ⟨od,J,hl⟩:=I.look;exact W.method_fn X J (W.plainGet_of hg).1 (W.plainGet_of hg).2 hf (beq_iff_eq.mp ht) (by show (W.lookIn name od).map (·.isSome)=some false; rw [hl,hv]; rfl) h
theorem Np {ns:List Str} {Q:Unit->Shared->Prop} (X:K.In s.heap) (I:ObjM s.heap x dx C mA)
  (hs:W.findIn K (.ref C) "__setattr__" = some (some (.builtin "object.__setattr__"))) (hp:W.plainOver K C=true) (ht:W.takerIn K C name=some none) (hh:W.hasDictIn K C=true)
  (hw:PySem.Within mA ns) (hsz:ns.length <= sizeLine)
  (h:∀ h',ObjM h' x dx C (fun y=>if y=name then some v else mA y)->Heap.SameBut dx s.heap h'->Q () { s with heap:=h',toks:=s.toks + 2 }) :
  wpAny (model prog w) A (setAttr (.ref x) name v) Q E s:=by
 obtain ⟨od,J,hl⟩:=I.look;refine W.set_plain X J hs (W.osa_open (s:={ s with toks:=s.toks + 1 }) (r:=none) X J hp ht fun b=>?_);obtain ⟨cd,hc,hd'⟩:=W.any_some hh;have hx:s.heap.get? x=some ⟨.ref C,some dx,.plain,#[]⟩:=I.obj;refine wpAny_bind (wpAny_pure (wpAny_bind (wpAny_bind (wpAny_loadPart hx (wpAny_bind (W.Looks.here (s:={ s with toks:=s.toks + 1 }) (W.looks_clsIn X hc) ?_))))));rw [hd'];refine wpAny_pure (a:=some dx) (wpAny_bind (wpAny_pure (wpAny_bind ?_)));refine wpAny_nsSet1 (s:={ s with toks:=s.toks + 1 }) I.ns fun h' hn2 hs2=>?_;obtain ⟨oD,esD,epD,hoD,hdD,hcD⟩:=hn2.count (PySem.Within.cons name v hw);refine wpAny_bind (wpAny_lookBehind hoD (by rw [hdD]; exact pastItsLine_dict (Nat.le_trans hcD (by rw [length_cons]; omega))) ?_);exact wpAny_pure (h _ ⟨(hs2.2 _ (Ne.symm I.ne)).trans I.obj,hn2,I.ne⟩ hs2)
theorem IJ {R:Result->Shared->Prop} {vs:List Value} {kw:List (Str × Value)} (X:K.In s.heap) (hm:W.makesIn K C=true)
  (hi:W.findIn K (.ref C) "__init__" = some (some (.ref f))) (hf:W.typeIn K (.ref f)=some (.type "function"))
  (h:codeAny (model prog w) (A.under (.builtin "type.__call__" ⟨.ref C :: vs,kw⟩)) (.call (.ref f) ⟨.ref (s.heap.objs.size + 1) :: vs,kw⟩) (W.InitBack (s.heap.objs.size + 1) R)
   { s with heap:=(s.heap.push W.emptyDict).push (W.instObj C s.heap.objs.size) }) :
  codeAny (model prog w) A (.call (.ref C) ⟨vs,kw⟩) R s:=by
 obtain ⟨hh,g,d,t,os⟩:=s;exact W.make_core (W.makes_of X hm) (W.looks_findIn X hi) (fun self=>W.bind_fn X self hf) (.inl rfl) h
end
def A4 (f:Str) (v:V):List (Str × V)->List (Str × V)
  | []=>[(f,v)]
  | (g,x) :: r=>if g=f then (g,v) :: r else (g,x) :: A4 f v r
theorem AQ (f g:Str) (v:V):∀ fs:List (Str × V),(A4 f v fs).lookup g=if g=f then some v else fs.lookup g
  | []=>by
    show List.lookup g [(f,v)]=_;by_cases h:g=f
    · have hb:(g == f)=true:=beq_iff_eq.mpr h
      simp only [List.lookup,hb,if_pos h]
    · have hb:(g == f)=false:=beq_eq_false_iff_ne.mpr h
      simp only [List.lookup,hb,if_neg h]
  | (k,x) :: r=>by
    have ih:=AQ f g v r;rw [show A4 f v ((k,x) :: r)=(if k=f then (k,v) :: r else (k,x) :: A4 f v r) from rfl];by_cases hk:k=f
    · rw [if_pos hk]
      by_cases h:g=k
      · have hb:(g == k)=true:=beq_iff_eq.mpr h
        simp only [List.lookup,hb,if_pos (h.trans hk)]
      · have hb:(g == k)=false:=beq_eq_false_iff_ne.mpr h
        simp only [List.lookup,hb,if_neg (fun e:g=f=>h (e.trans hk.symm))]
    · rw [if_neg hk]
      by_cases h:g=k
      · have hb:(g == k)=true:=beq_iff_eq.mpr h
        simp only [List.lookup,hb,if_neg (fun e:g=f=>hk (h.symm.trans e))]
      · have hb:(g == k)=false:=beq_eq_false_iff_ne.mpr h
        simp only [List.lookup,hb];exact ih
theorem Ef (f:Str) (v:V):∀ fs:List (Str × V),f ∈ (A4 f v fs).map (·.1)/\∀ g,g ∈ fs.map (·.1)->g ∈ (A4 f v fs).map (·.1)
  | []=>⟨by simp [A4],fun g h=>by simp at h⟩
  | (k,x) :: r=>by
    obtain ⟨i1,i2⟩:=Ef f v r;rw [show A4 f v ((k,x) :: r)=(if k=f then (k,v) :: r else (k,x) :: A4 f v r) from rfl];by_cases hk:k=f
    · rw [if_pos hk]
      subst hk;exact ⟨by simp,fun g h=>by simpa using h⟩
    · rw [if_neg hk]
      refine ⟨?_,fun g h=>?_⟩
      · rw [map_cons]
        exact mem_cons_of_mem _ i1
      · rw [map_cons] at h ⊢
        rcases mem_cons.mp h with e | e
        · exact mem_cons.mpr (.inl e)
        · exact mem_cons_of_mem _ (i2 g e)
theorem Bm (f:Str) (v:V):∀ fs:List (Str × V),(A4 f v fs).length <= fs.length + 1
  | []=>by simp [A4]
  | (k,x) :: r=>by
    have ih:=Bm f v r;rw [show A4 f v ((k,x) :: r)=(if k=f then (k,v) :: r else (k,x) :: A4 f v r) from rfl];by_cases hk:k=f
    · rw [if_pos hk,length_cons,length_cons]; omega
    · rw [if_neg hk,length_cons,length_cons]; omega
theorem RelO.some_of {v:V} {o:Option Value} (r:RelO (some v) o):∃ u,o=some u/\RelV v u:=by
 cases o with
 | none=>exact (show False from r).elim
 | some u=>exact ⟨u,rfl,r⟩
theorem RelO.none_of {o:Option Value} (r:RelO none o):o=none:=by
 cases o with
 | none=>rfl
 | some u=>exact (show False from r).elim
theorem Kr {v:V} (r:RelV v u):W.handedIn u=true:=by
 cases v with
 | non=>cases (show u=Value.none from r); rfl
 | bl b=>cases (show u=Value.bool b from r); rfl
 | int i=>obtain ⟨t,e⟩:=(show ∃ t,u=Value.int i t from r); cases e; rfl
 | str x=>obtain ⟨t,e⟩:=(show ∃ t,u=Value.str x t from r); cases e; rfl
 | byt b=>obtain ⟨t,e⟩:=(show ∃ t,u=Value.bytes b t from r); cases e; rfl
 | flt b=>obtain ⟨t,e⟩:=(show ∃ t,u=Value.float b t from r); cases e; rfl
 | ref a=>cases (show u=Value.ref a from r); rfl
 | ty n=>cases (show u=Value.type n from r); rfl
section
variable {h':Heap} {dx:Addr} {fs fs':List (Str × V)}
theorem CC (hok:HOk P w H h) (e:H a=some (.ins C dx fs)):∃ mA,ObjM h a dx C mA/\(∀ f,RelO (fs.lookup f) (mA f))/\PySem.Within mA (fs.map (·.1))/\fs.length <= 1000/\H dx=some (.own a):=by
 obtain ⟨d,z,ne,ob,mA,n,r,q⟩:=(show ObjOk P w H h a (.ins C dx fs) from hok a _ e);exact ⟨mA,⟨ob,n,ne⟩,r,q,z,d⟩
end
structure Cls (K:FG) (C:Addr):Prop where
 pg:W.plainGet K C Str.empty=true
 hd:W.hasDictIn K C=true
 po:W.plainOver K C=true
 sa:W.findIn K (.ref C) "__setattr__" = some (some (.builtin "object.__setattr__"))
theorem Cls.get (c:Cls K C) (f:Str):W.plainGet K C f=true:=c.pg
def NoAttr (K:FG) (C:Addr) (f:Str):Prop:=W.findIn K (.ref C) f=some none
theorem NoAttr.taker {f:Str} (n:NoAttr K C f):W.takerIn K C f=some none:=by
 unfold W.takerIn;rw [show W.findIn K (.ref C) f=some none from n];rfl
structure JT (K:FG) (C:Addr) (m:Str) (f:Addr):Prop where
 at_:W.findIn K (.ref C) m=some (some (.ref f))
 fn:W.isFn K (.ref f)=true
 kp:W.keepIn K (.ref f)=true
section
variable {dx:Addr} {fs:List (Str × V)} {f:Str} {v:V}
theorem JU {b:Bool} {Q:VS} (I:Inv X aa σ H s) (e:H a=some (.ins C dx fs)) (c:Cls X.K C) (n:NoAttr X.K C f) (l:fs.lookup f=some v)
  (h:∀ u s',Inv X aa σ H s'->RelV v u->Q u s'):wpAny (model X.prog X.w) A (getAttr (.ref a) f b) Q E s:=by
 obtain ⟨mA,O,r,_,_,_⟩:=CC I.hok e;obtain ⟨u,hu,ru⟩:=RelO.some_of (v:=v) (o:=mA f) (by rw [← l]; exact r f);exact No I.kIn O (c.get f) c.hd n hu (Kr ru) (h u _ (I.tok _) ru)
theorem FQ {m:Str} {g:Addr} {pl:Sem Bool} {Q:Value × List Value->Shared->Prop} (I:Inv X aa σ H s) (e:H a=some (.ins C dx fs)) (c:Cls X.K C) (k:JT X.K C m g) (l:fs.lookup m=none)
  (h:Q (.ref g,[.ref a]) s):wpAny (model X.prog X.w) A (getMethod (.ref a) m pl) Q E s:=by
 obtain ⟨mA,O,r,_,_,_⟩:=CC I.hok e;have hn:mA m=none:=RelO.none_of (by rw [← l]; exact r m);exact Lv I.kIn O (c.get m) k.at_ k.fn hn h
theorem JV {y:V} {Q:Unit->Shared->Prop} (I:Inv X aa σ H s) (e:H a=some (.ins C dx fs)) (c:Cls X.K C) (n:NoAttr X.K C f) (hl:fs.length < 1000) (ry:RelV y u)
  (h:∀ s',Inv X aa σ (upd H a (.ins C dx (A4 f y fs))) s'->Q () s'):wpAny (model X.prog X.w) A (setAttr (.ref a) f u) Q E s:=by
 obtain ⟨mA,O,r,wi,_,ho⟩:=CC I.hok e;have hz:(fs.map (·.1)).length <= sizeLine:=by rw [length_map,sizeLine_eq]; omega
 refine Np I.kIn O c.sa c.po n.taker c.hd wi hz fun h' O' sb=>h _ ?_;have hd:∃ o,h'.get? dx=some o:=let ⟨o,_,_,e',_⟩:=O'.ns; ⟨o,e'⟩
 refine I.write (x:=a) (e:=dx) (by rw [e]; exact True.intro) (.inr ho) (fun b q hb z=>(sb.2 b hb).trans z) hd ?_;refine ⟨by rw [AH O.ne]; exact ho,?_,O.ne,O'.obj,_,O'.ns,fun g=>?_,fun g hg=>?_⟩
 ·have:=Bm f y fs; omega
 ·show RelO ((A4 f y fs).lookup g) (if g=f then some u else mA g);rw [AQ];by_cases q:g=f
  ·rw [if_pos q,if_pos q]; exact ry
  ·rw [if_neg q,if_neg q]; exact r g
 ·by_cases q:g=f
  ·rw [q]; exact (Ef f y fs).1
  ·refine (Ef f y fs).2 g (wi g fun z=>hg ?_);show (if g=f then some u else mA g)=none;rw [if_neg q]; exact z
theorem Inv.made (I:Inv X aa σ H s):Inv X aa σ (upd (upd H s.heap.objs.size (.own (s.heap.objs.size + 1))) (s.heap.objs.size + 1) (.ins C s.heap.objs.size []))
  { s with heap:=(s.heap.push W.emptyDict).push (W.instObj C s.heap.objs.size) }:=by
 have e1:(s.heap.push W.emptyDict).get? s.heap.objs.size=some W.emptyDict:=get?_push_size s.heap rfl
 have e2:((s.heap.push W.emptyDict).push (W.instObj C s.heap.objs.size)).get? (s.heap.objs.size + 1)=some (W.instObj C s.heap.objs.size):=by
  have:=get?_push_size (s.heap.push W.emptyDict) (o:=W.instObj C s.heap.objs.size) rfl
  rwa [size_push] at this
 have e3:(s.heap.push W.emptyDict).Ns s.heap.objs.size (fun _=>none):=⟨W.emptyDict,#[],_,e1,rfl,(fun e he=>absurd he (by simp)),fun _=>rfl⟩;have I1:=I.laid (a:=s.heap.objs.size) (o:=.own (s.heap.objs.size + 1)) (h':=s.heap.push W.emptyDict) (t':=s.toks) (fun b u q=>get?_push_of_some _ q) (Nat.le_refl _) ⟨_,e1⟩;refine I1.laid (a:=s.heap.objs.size + 1) (o:=.ins C s.heap.objs.size []) (t':=s.toks) (fun b u q=>get?_push_of_some _ q) (Nat.le_of_eq (size_push _ _)) ?_;have ne:s.heap.objs.size ≠ s.heap.objs.size + 1:=Nat.ne_of_lt (Nat.lt_succ_self _);refine ⟨by rw [AH ne,AB],Nat.zero_le _,ne,e2,fun _=>none,(Heap.Ns1.of_empty e3).at fun o q=>get?_push_of_some _ q,fun _=>True.intro,fun y hy=>absurd rfl hy⟩
theorem Nq {prog:Program} {env:Env} {f:Str} {Q:VS} (hb:attributeBase e f env (eval e env)=eval e env)
  (h:wpAny (model prog w) A (eval e env) (fun o s₁=>wpAny (model prog w) A (getAttr o f true) Q E s₁) E s):wpAny (model prog w) A (eval (.Attribute e f pos) env) Q E s :=
 Attribute_any_ h (by rw [arm_eval_Attribute,hb])
end
def P7 (K:FG) (ta:TE) (f:Str):TE:=fun σ H Q=>ta σ H fun x H1=>∃ a C dx fs v,x=.ref a/\H1 a=some (.ins C dx fs)/\Cls K C/\NoAttr K C f/\fs.lookup f=some v/\Q v H1
def Qr (K:FG) (ta tv:TE) (f:Str):TS:=fun D σ H=>tv σ H fun y H1=>ta σ H1 fun x H2=>∃ a C dx fs,x=.ref a/\H2 a=some (.ins C dx fs)/\Cls K C/\NoAttr K C f/\fs.length < 1000 /\
 D.nx σ (upd H2 a (.ins C dx (A4 f y fs)))
section
variable {o value:Expr} {f:Str} {pos' tpos:Pos} {ta tv:TE}
theorem Aq (he:PE X e ta) (hb:attributeBase e f X.env (eval e X.env)=eval e X.env):PE X (.Attribute e f pos) (P7 X.K ta f):=by
 intro aa s σ H Q I h;refine Nq hb (thn (he aa s σ H _ I h) fun u s1 ⟨x,H1,I1,rx,a,C,dx,fs,v,ex,ea,c,n,l,q⟩=>?_);subst ex;obtain rfl:u=Value.ref a:=rx;exact JU I1 ea c n l fun u' s2 I2 ru=>⟨v,H1,I2,ru,q⟩
theorem Cr (ha:PE X o ta) (hv:PE X value tv) (hs:swapsWith value (some (.Attribute o f pos')) pos.line X.env=pure false):PS X (.Assign [.Attribute o f pos'] value pos) (Qr X.K ta tv f):=by
 intro aa s σ H D I h;refine plainObj_wpAny_Assign_Attribute (thn (hv aa s σ H _ I h) fun u s1 ⟨y,H1,I1,ry,q⟩=>thn (ha aa s1 σ H1 _ I1 q) fun ov s2 ⟨x,H2,I2,rx,a,C,dx,fs,ex,ea,c,n,l,q2⟩=>?_) hs;subst ex;obtain rfl:ov=Value.ref a:=rx;exact JV I2 ea c n l ry fun s3 I3=>⟨σ,_,I3,q2⟩
end
section
variable {Q:VS} {c:Value} {b:Bool}
inductive TyOf (K:FG) (H:Hp):V->Value->Prop where
 | non:TyOf K H .non (.type "NoneType")
 | bl (x:Bool):TyOf K H (.bl x) (.type "bool")
 | int (i:Int):TyOf K H (.int i) (.type "int")
 | str (x:Str):TyOf K H (.str x) (.type "str")
 | flt (x:UInt64):TyOf K H (.flt x) (.type "float")
 | lst {a:Addr} {xs:List V} (e:H a=some (.lst xs)):TyOf K H (.ref a) (.type "list")
 | frz {a:Addr} {o:Obj} {xs:List V} (e:H a=some (.frz o (.lst xs))):TyOf K H (.ref a) (.type "list")
 | tup {a:Addr} {xs:List V} (e:H a=some (.tup xs)):TyOf K H (.ref a) (.type "tuple")
 | dK {a:Addr} {kvs:LK} (e:H a=some (.dK kvs)):TyOf K H (.ref a) (.type "dict")
 | dT {a:Addr} {kvs:List (List Key × V)} (e:H a=some (.dT kvs)):TyOf K H (.ref a) (.type "dict")
 | ins {a C dx:Addr} {fs:List (Str × V)} (e:H a=some (.ins C dx fs)) (cl:Cls K C) (ha:W.findIn K (.ref C) "__class__" = some (some (.builtin "object.__class__")))
   (hn:W.specialIn K (.builtin "object.__class__") "__get__" = some (some (.builtin "getset_descriptor.__get__"))) (htk:W.takesIn K (.builtin "object.__class__")=some true)
   (hm:W.mroIn K C (.type "object")=some true):TyOf K H (.ref a) (.ref C)
theorem Ge {x:V} {t:Value} (I:Inv X aa σ H s) (rx:RelV x u) (ty:TyOf X.K H x t) (e:W.kitOne X.K t c=some b) (h:∀ tk,Q (.bool b) { s with toks:=tk }) :
  wpAny (model X.prog X.w) A (call (.builtin "isinstance") [u,c]) Q E s:=by
 cases ty with
 | non=>cases (show u=Value.none from rx); exact W.kia_one W.kitx_none I.kIn True.intro e (fun z=>nomatch z) h
 | bl y=>cases (show u=Value.bool y from rx); exact W.kia_one W.kitx_bool I.kIn True.intro e (fun z=>nomatch z) h
 | int i=>obtain ⟨t,q⟩:=(show ∃ t,u=Value.int i t from rx); cases q; exact W.kia_one W.kitx_int I.kIn True.intro e (fun z=>nomatch z) h
 | str y=>obtain ⟨t,q⟩:=(show ∃ t,u=Value.str y t from rx); cases q; exact W.kia_one W.kitx_str I.kIn True.intro e (fun z=>nomatch z) h
 | flt y=>obtain ⟨t,q⟩:=(show ∃ t,u=Value.float y t from rx); cases q; exact W.kia_one W.kitx_float I.kIn True.intro e (fun z=>nomatch z) h
 | @lst a xs ea =>
  cases (show u=Value.ref a from rx);obtain ⟨_,_,n,_,h1⟩:=(show ObjOk X.prog X.w H s.heap a (.lst xs) from I.hok a _ ea);exact W.kia_one W.kitx_list I.kIn ⟨_,h1,rfl⟩ e (fun z=>nomatch z) h
 | @frz a ob xs ea =>
  cases (show u=Value.ref a from rx);obtain ⟨_,_,_,n,_,h1⟩:=(show ObjOk X.prog X.w H s.heap a (.frz ob (.lst xs)) from I.hok a _ ea);exact W.kia_one W.kitx_list I.kIn ⟨_,h1,rfl⟩ e (fun z=>nomatch z) h
 | @tup a xs ea =>
  cases (show u=Value.ref a from rx);obtain ⟨_,_,_,p⟩:=(show ObjOk X.prog X.w H s.heap a (.tup xs) from I.hok a _ ea);obtain ⟨o,h1,h2,_⟩:=p;exact W.kia_one W.kitx_tuple I.kIn ⟨o,h1,h2⟩ e (fun z=>nomatch z) h
 | @dK a kvs ea =>
  cases (show u=Value.ref a from rx);obtain ⟨_,_,vs,_,p⟩:=(show ObjOk X.prog X.w H s.heap a (.dK kvs) from I.hok a _ ea);obtain ⟨o,es,ep,h1,h2,_⟩:=p;exact W.kia_one W.kitx_dict I.kIn ⟨o,h1,h2.1⟩ e (fun z=>nomatch z) h
 | @dT a kvs ea =>
  cases (show u=Value.ref a from rx);obtain ⟨_,_,xs,_,o,es,ep,h1,h2,_⟩:=(show ObjOk X.prog X.w H s.heap a (.dT kvs) from I.hok a _ ea);exact W.kia_one W.kitx_dict I.kIn ⟨o,h1,h2.1⟩ e (fun z=>nomatch z) h
 | @ins a C dx fs ea cl ha hn htk hm =>
  cases (show u=Value.ref a from rx);obtain ⟨mA,O,_⟩:=CC I.hok ea;obtain ⟨od,J,_⟩:=O.look;exact W.kia_one (W.kitx_own (cl.get _) cl.hd ha hn htk hm) I.kIn J e (fun z=>nomatch z) h
end
end L2
namespace L2
open PySem PySem.Spec PyProof.Rows
structure Room (k:Nat) (A:Around):Prop where
 hd:A.handled=none
 dp:A.depth + 3 * k + 5 < recursionLimit
 un:A.units + 16 * k + 200 < cLine
theorem Room.mono {j k:Nat} (r:Room k A) (h:j <= k):Room j A:=⟨r.hd,by have:=r.dp; omega,by have:=r.un; omega⟩
theorem Room.deeper {k:Nat} {A:Around} (r:Room (k + 1) A) (env:Env):Room k (A.deeper env) :=
 ⟨r.hd,by have:=r.dp; show A.depth + 1 + 3 * k + 5 < _; omega,by have:=r.un; show A.units + 3 + 16 * k + 200 < _; omega⟩
theorem Room.in1 {k:Nat} {A:Around} (r:Room (k + 1) A):Room k A.in1 :=
 ⟨r.hd,by have:=r.dp; show A.depth + 3 * k + 5 < _; omega,by have:=r.un; show A.units + 1 + 16 * k + 200 < _; omega⟩
theorem JW {kw:List (Str × Value)}:(A.under (.builtin "type.__call__" ⟨.ref C :: us,kw⟩)).depth=A.depth + 1:=by
 first | rfl | simp [Around.under,Code.weight,Code.isCreation,Code.isGuard,Code.isCaller,Code.frames,Code.isFrame,guardIds]
theorem JX {kw:List (Str × Value)}:(A.under (.builtin "type.__call__" ⟨.ref C :: us,kw⟩)).units=A.units + 1:=by
 first | rfl | simp [Around.under,Code.cUnits,Code.frames,Code.isFrame]
theorem Room.make {k:Nat} (r:Room (k + 1) A) (C:Addr) (us:List Value) (kw:List (Str × Value)):Room k (A.under (.builtin "type.__call__" ⟨.ref C :: us,kw⟩)) :=
 ⟨r.hd,by have:=r.dp; rw [JW]; omega,by have:=r.un; rw [JX]; omega⟩
theorem Room.depth {k:Nat} {A:Around} (r:Room k A):A.depth < recursionLimit:=by have:=r.dp; omega
theorem Room.units {k:Nat} {A:Around} (r:Room k A):A.units + 64 < cLine:=by have:=r.un; omega
def IK:TA:=fun _ H Q=>Q [] H
def A5 (ta:TE) (tr:TA):TA:=fun σ H Q=>ta σ H fun x H1=>tr σ H1 fun xs H2=>Q (x :: xs) H2
section
variable {es:List Expr} {t:TA}
theorem AC:PA X [] IK:=fun _ _ _ _ H Q I h=>Calls.spliced_nil ⟨[],H,I,.nil,h⟩
theorem AA (ha:PE X e te) (hr:PA X es t) (hs:starEach (e :: es) X.env=(false,eval e X.env) :: starEach es X.env:=by rfl):PA X (e :: es) (A5 te t):=by
 intro pos aa s σ H Q I h;rw [hs];show wpAny _ _ (spliced ((false,eval e X.env) :: backTo pos (starEach es X.env))) _ _ s;refine Calls.spliced_cons (thn (ha aa s σ H _ I h) fun u s1 ⟨x,H1,I1,r1,q1⟩=>?_);exact thn (hr pos aa s1 σ H1 _ I1 q1) fun us s2 ⟨xs,H2,I2,r2,q2⟩=>⟨x :: xs,H2,I2,.cons r1 r2,q2⟩
def Qs (t:TA):TE:=fun σ H Q=>t σ H fun xs H1=>xs.length <= sizeLine/\∀ p,H1 p=none->Q (.ref p) (upd H1 p (.tup xs))
def P8 (t:TA):TE:=fun σ H Q=>t σ H fun xs H1=>xs.length <= sizeLine/\∀ p,H1 p=none->Q (.ref p) (upd H1 p (.lst xs))
theorem BQ {x1} (h:PA X es t):PE X (.Tuple es x1 pos) (Qs t):=by
 intro aa s σ H Q I hq;refine wpAny_Tuple_spliced (thn (h pos aa s σ H _ I hq) fun us s1 ⟨xs,H1,I1,r,z,q⟩=>⟨by rw [← r.length]; exact z,?_⟩);have hf:H1 s1.heap.objs.size=none:=I1.hok.fresh (Nat.le_refl _);refine ⟨.ref s1.heap.objs.size,upd H1 s1.heap.objs.size (.tup xs),I1.laid (t':=s1.toks) (fun b u e=>get?_push_of_some _ e) (Nat.le_refl _) ?_,rfl,q _ hf⟩;exact ⟨z,us,r,⟨_,get?_push_size _ rfl,rfl,_,rfl⟩⟩
theorem Bq (h:PA X es t):PE X (.List es pos) (P8 t):=by
 intro aa s σ H Q I hq;refine wpAny_List_spliced (thn (h pos aa s σ H _ I hq) fun us s1 ⟨xs,H1,I1,r,z,q⟩=>⟨by rw [← r.length]; exact z,?_⟩);have hf:H1 s1.heap.objs.size=none:=I1.hok.fresh (Nat.le_refl _);refine ⟨.ref s1.heap.objs.size,upd H1 s1.heap.objs.size (.lst xs),I1.laid (t':=s1.toks) (fun b u e=>get?_push_of_some _ e) (Nat.le_refl _) ?_,rfl,q _ hf⟩;exact ⟨z,us,0,r,get?_push_size _ rfl⟩
end
abbrev Sp:=List V->Hp->VK->XK->Prop
abbrev CXT:=List Env->Hp->Shared->XK->Value->Shared->Prop
structure Env0 (P:Program) (w:World) (K:FG) (mg:SV) (base:Heap) (A:Around) (outer:List Env) (s:Shared) (H:Hp):Prop where
 frames:A.frames=some outer
 mod:Mod K mg base
 bs:∀ b o,base.get? b=some o->s.heap.get? b=some o/\H b=none
 bsz:base.objs.size <= s.heap.objs.size
 funs:s.heap.FunFrames base outer
 frf:∀ b ∈ frs outer,H b=none
 hok:HOk P w H s.heap
 bare:AllBare s.gens
def CE (outer:List Env) (P:Program) (w:World) (H:Hp) (s:Shared) (Q:VK) (u:Value) (s':Shared):Prop :=
 ∃ v H',s'.os=s.os/\AllBare s'.gens/\Un (frs outer) [] H H' s.heap s'.heap/\HOk P w H' s'.heap/\RelV v u/\Q v H'
def CR (CX:CXT) (outer:List Env) (P:Program) (w:World) (H:Hp) (s:Shared) (Q:VK) (E:XK) (r:Result) (s':Shared):Prop :=
 match r with
 | .ok (.ret u)=>CE outer P w H s Q u s'
 | .ok _=>False
 | .error e=>CX outer H s E e s'
structure Af (P:Program) (w:World) (K:FG) (mg:SV) (base:Heap) (CX:CXT) (k:Nat) (f:Addr) (fd:FuncData) (ps:List Str) (sp:Sp):Prop where
 len:∀ vs H Q E,sp vs H Q E->vs.length=ps.length
 run:∀ (A:Around) (outer:List Env) (s:Shared) (H:Hp) (args:Args) (us:List Value) (vs:List V) (Q:VK) (E:XK),Room k A->Env0 P w K mg base A outer s H->BindsTo s fd args (ps.zip us)->Vals vs us->sp vs H Q E ->
  codeAny (model P w) A (.call (.ref f) args) (CR CX outer P w H s Q E) s
theorem Env0.make {outer:List Env} (e:Env0 P w K mg base A outer s H) (C:Addr) (us:List Value) (kw:List (Str × Value)) :
  Env0 P w K mg base (A.under (.builtin "type.__call__" ⟨.ref C :: us,kw⟩)) outer s H:=⟨by first | exact e.frames | (simpa [Around.under,Code.envs,Code.isFrame,pushEnvs] using e.frames),e.mod,e.bs,e.bsz,e.funs,e.frf,e.hok,e.bare⟩
theorem Env0.in1 {P:Program} {w:World} {K:FG} {mg:SV} {base:Heap} {A:Around} {outer:List Env} {s:Shared} {H:Hp} (e:Env0 P w K mg base A outer s H) :
  Env0 P w K mg base A.in1 outer s H:=⟨e.frames,e.mod,e.bs,e.bsz,e.funs,e.frf,e.hok,e.bare⟩
section
variable {s':Shared}
theorem Inv.env0 (I:Inv X aa σ H s):Env0 X.prog X.w X.K X.mg X.base X.A X.stack s H :=
 ⟨I.ok.frames,I.ok.mod,I.bs,Nat.le_trans I.ok.bsz I.sz,I.stack,I.stkFree,I.hok,I.bare⟩
theorem Inv.after {Q:VK} (I:Inv X aa σ H s) (h:CE X.stack X.prog X.w H s Q u s'):EP X aa σ Q u s':=by
 obtain ⟨v,H',os,bare,un,hok,r,q⟩:=h;obtain ⟨hh,g,d,t,os'⟩:=s';obtain rfl:os'=s.os:=os;exact ⟨v,H',I.call (h':=hh) (g':=g) (d':=d) (t':=t) (ch:=[]) un hok bare (fun b z=>absurd z (by simp)),r,q⟩
end
def P9 (sp:Sp) (dvs:List V) (E:XK) (t:TA):TE:=fun σ H Q=>t σ H fun vs H1=>sp (vs++dvs) H1 Q E
def Of (C:Addr) (m:Str) (sp:Sp) (dvs:List V) (E:XK) (ta:TE) (t:TA):TE:=fun σ H Q=>ta σ H fun x H1=>∃ a dx fs,x=.ref a/\H1 a=some (.ins C dx fs)/\fs.lookup m=none /\
 t σ H1 fun vs H2=>sp (x :: (vs++dvs)) H2 Q E
def QA (C:Addr) (sp:Sp) (dvs:List V) (E:XK) (t:TA):TE:=fun σ H Q=>t σ H fun vs H1=>∀ x dx,H1 x=none->H1 dx=none->dx ≠ x ->
 sp (.ref x :: (vs++dvs)) (upd (upd H1 dx (.own x)) x (.ins C dx [])) (fun v H2=>v=.non/\Q (.ref x) H2) E
def Binds (K:FG) (fd:FuncData) (ps:List Str) (ds:List Value):Prop :=
 ∀ (s:Shared) (us:List Value),K.In s.heap->(us++ds).length=ps.length->BindsTo s fd ⟨us,[]⟩ (ps.zip (us++ds))
theorem Binds.all {fd:FuncData} {ps:List Str} (h:∀ us:List Value,us.length=ps.length->bindArgs fd ⟨us,[]⟩=pure (ps.zip us)):Binds K fd ps []:=fun s us _ hl=>by
 rw [append_nil] at hl ⊢;exact .of_eq (h us hl)
def DR (CX:CXT) (X:Cx) (E:XK):Prop:=∀ (aa:LO) (σ:St) (H:Hp) (s:Shared) (e:Value) (s':Shared),Inv X aa σ H s->CX X.stack H s E e s'->X.xe e s'
section
variable {CX:CXT} {k:Nat} {fd:FuncData} {ps:List Str} {sp:Sp} {dvs:List V} {ds:List Value} {E:XK} {m:Str} {p apos:Pos} {o:Expr} {es:List Expr} {ta:TE} {t:TA}
theorem JY {Q:VK} {vs:List V} (F:Af X.prog X.w X.K X.mg X.base CX k f fd ps sp) (hr:Room k X.A) (hb:Binds X.K fd ps ds) (hd:Vals dvs ds) (hx:DR CX X E)
  (I:Inv X aa σ H s) (r:Vals vs us) (h:sp (vs++dvs) H Q E):wpAny (model X.prog X.w) X.A (call (.ref f) us) (EP X aa σ Q) X.xe s:=by
 have r2:Vals (vs++dvs) (us++ds):=r.append hd;have hl:(us++ds).length=ps.length:=by rw [← r2.length]; exact F.len _ _ _ _ h
 refine wpAny_call (codeAny_mono (F.run X.A X.stack s H ⟨us,[]⟩ (us++ds) (vs++dvs) Q E hr I.env0 (hb s us I.kIn hl) r2 h) fun r s' hq=>?_);cases r with
 | error e=>exact hx aa σ H s e s' I hq
 | ok fl =>
  cases fl with
  | ret u=>exact I.after hq
  | next=>exact False.elim hq
  | brk=>exact False.elim hq
  | cont=>exact False.elim hq
theorem AK (F:Af X.prog X.w X.K X.mg X.base CX k f fd ps sp) (hr:Room k X.A) (hg:Gl X x) (hm:X.mg x=some (.ref f)) (hk:W.keepIn X.K (.ref f)=true) (hb:Binds X.K fd ps ds) (hd:Vals dvs ds) (hx:DR CX X E)
  (ha:PA X (e :: es) t) (hdb:(x == ("__debug__" : Str))=false:=by decide) (he:starEach (e :: es) X.env=(false,eval e X.env) :: starEach es X.env:=by rfl) (hpl:(backTo pos (starEach es X.env)).any (·.1)=false:=by rfl) :
  PE X (.Call (.Name x p) (e :: es) [] pos) (P9 sp dvs E t):=by
 intro aa s σ H Q I h;refine wpAny_Call_Name_kw (FA I hg hm ?_ hdb);refine W.callWith_K (h₀:=X.base) I.ok.mod.kin hk (thn (ha pos aa s σ H _ I h) fun us s1 ⟨vs,H1,I1,r,q⟩=>⟨I1.kIn,?_⟩) he hpl;exact JY F hr hb hd hx I1 r q
theorem DA {pl:Sem Bool} (he:PE X o ta) (c:Cls X.K C) (hm:JT X.K C m f) (F:Af X.prog X.w X.K X.mg X.base CX k f fd ps sp) (hr:Room k X.A) (hb:Binds X.K fd ps ds) (hd:Vals dvs ds) (hx:DR CX X E) (ha:PA X (e :: es) t)
  (hst:starEach (e :: es) X.env=(false,eval e X.env) :: starEach es X.env:=by rfl) (hpl:(backTo pos (starEach es X.env)).any (·.1)=false:=by rfl)
  (ht:eval (.Call (.Attribute o m apos) (e :: es) [] pos) X.env=(do
   let ov ← eval o X.env
   standAt apos.atName
   let (f,first) ← holding [ov] (getMethod ov m pl)
   callWith pos f first (backTo pos (starEach (e :: es) X.env)) (backToKw pos (keywordEach [] X.env))):=by rfl) :
  PE X (.Call (.Attribute o m apos) (e :: es) [] pos) (Of C m sp dvs E ta t):=by
 intro aa s σ H Q I h;refine W.methodCall_KW (pl:=pl) (thn (he aa s σ H _ I h) fun u s1 ⟨x,H1,I1,rx,a,dx,fs,ex,ea,l,q⟩=>?_) ht;subst ex;obtain rfl:u=Value.ref a:=rx;refine FQ I1 ea c hm l ?_;refine W.callWith_K (first:=[.ref a]) (h₀:=X.base) I.ok.mod.kin hm.kp (thn (ha pos aa s1 σ H1 _ I1 q) fun us s2 ⟨vs,H2,I2,r,q2⟩=>⟨I2.kIn,?_⟩) hst hpl;exact JY (us:=.ref a :: us) (vs:=.ref a :: vs) F hr hb hd hx I2 (.cons rfl r) q2
theorem Ai {pl:Sem Bool} (he:PE X o ta) (c:Cls X.K C) (hm:JT X.K C m f) (F:Af X.prog X.w X.K X.mg X.base CX k f fd ps sp) (hr:Room k X.A) (hb:Binds X.K fd ps ds) (hd:Vals dvs ds) (hx:DR CX X E)
  (ht:eval (.Call (.Attribute o m apos) [] [] pos) X.env=(do
   let ov ← eval o X.env
   standAt apos.atName
   let (f,first) ← holding [ov] (getMethod ov m pl)
   callWith pos f first (backTo pos (starEach [] X.env)) (backToKw pos (keywordEach [] X.env))):=by rfl) :
  PE X (.Call (.Attribute o m apos) [] [] pos) (Of C m sp dvs E ta IK):=by
 intro aa s σ H Q I h;refine W.methodCall_KW (pl:=pl) (thn (he aa s σ H _ I h) fun u s1 ⟨x,H1,I1,rx,a,dx,fs,ex,ea,l,q⟩=>?_) ht;subst ex;obtain rfl:u=Value.ref a:=rx;refine FQ I1 ea c hm l ?_;exact W.callWith_K0 (first:=[.ref a]) I1.kIn hm.kp (JY (us:=[.ref a]) (vs:=[.ref a]) F hr hb hd hx I1 (.cons rfl .nil) q)
structure Mk (K:FG) (C f:Addr):Prop where
 makes:W.makesIn K C=true
 init:W.findIn K (.ref C) "__init__" = some (some (.ref f))
 fn:W.isFn K (.ref f)=true
 kp:W.keepIn K (.ref C)=true
theorem Lw {Q:VK} {vs:List V} (M:Mk X.K C f) (F:Af X.prog X.w X.K X.mg X.base CX k f fd ps sp) (hr:Room (k + 1) X.A) (hb:Binds X.K fd ps ds) (hd:Vals dvs ds)
  (hx:DR CX X E) (I:Inv X aa σ H s) (r:Vals vs us)
  (h:∀ x dx,H x=none->H dx=none->dx ≠ x->sp (.ref x :: (vs++dvs)) (upd (upd H dx (.own x)) x (.ins C dx [])) (fun v H2=>v=.non/\Q (.ref x) H2) E) :
  wpAny (model X.prog X.w) X.A (call (.ref C) us) (EP X aa σ Q) X.xe s:=by
 have hq:=h (s.heap.objs.size + 1) s.heap.objs.size (I.hok.fresh (Nat.le_succ _)) (I.hok.fresh (Nat.le_refl _)) (Nat.ne_of_lt (Nat.lt_succ_self _));have I2:=Inv.made (C:=C) I;have r2:Vals (V.ref (s.heap.objs.size + 1) :: (vs++dvs)) (Value.ref (s.heap.objs.size + 1) :: (us++ds)):=.cons rfl (r.append hd)
 have hl:(Value.ref (s.heap.objs.size + 1) :: us++ds).length=ps.length:=by
  have e:=r2.length;rw [F.len _ _ _ _ hq] at e;exact e.symm
 refine wpAny_call (IJ (f:=f) I.kIn M.makes M.init (beq_iff_eq.mp M.fn) (codeAny_mono (F.run _ X.stack _ _ ⟨Value.ref (s.heap.objs.size + 1) :: us,[]⟩ (Value.ref (s.heap.objs.size + 1) :: (us++ds)) _ _ E (hr.make C us [])
  (I2.env0.make C us []) (hb _ (Value.ref (s.heap.objs.size + 1) :: us) I2.kIn hl) r2 hq) fun r s' hq'=>?_))
 cases r with
 | error e=>exact hx aa σ _ _ e s' I2 hq'
 | ok fl =>
  cases fl with
  | ret u =>
   obtain ⟨v,H',I3,rv,ev,q3⟩:=I2.after hq';subst ev;exact ⟨rv,⟨V.ref (s.heap.objs.size + 1),H',I3,rfl,q3⟩⟩
  | next=>exact False.elim hq'
  | brk=>exact False.elim hq'
  | cont=>exact False.elim hq'
theorem FB (M:Mk X.K C f) (F:Af X.prog X.w X.K X.mg X.base CX k f fd ps sp) (hr:Room (k + 1) X.A) (hg:Gl X x) (hm:X.mg x=some (.ref C)) (hb:Binds X.K fd ps ds) (hd:Vals dvs ds) (hx:DR CX X E)
  (ha:PA X (e :: es) t) (hdb:(x == ("__debug__" : Str))=false:=by decide) (he:starEach (e :: es) X.env=(false,eval e X.env) :: starEach es X.env:=by rfl) (hpl:(backTo pos (starEach es X.env)).any (·.1)=false:=by rfl) :
  PE X (.Call (.Name x p) (e :: es) [] pos) (QA C sp dvs E t):=by
 intro aa s σ H Q I h;refine wpAny_Call_Name_kw (FA I hg hm ?_ hdb);refine W.callWith_K (h₀:=X.base) I.ok.mod.kin M.kp (thn (ha pos aa s σ H _ I h) fun us s1 ⟨vs,H1,I1,r,q⟩=>⟨I1.kIn,?_⟩) he hpl;exact Lw M F hr hb hd hx I1 r q
end
def PK (X:Cx) (kws:List Keyword) (t:TA):Prop :=
 ∀ (pos:Pos) (aa:LO) (s:Shared) (σ:St) (H:Hp) (Q:List V->Hp->Prop),Inv X aa σ H s->t σ H Q->wpAny (model X.prog X.w) X.A (evalAll ((backToKw pos (keywordEach kws X.env)).map (·.2))) (AP X aa σ Q) X.xe s
section
variable {CX:CXT} {k:Nat} {fd:FuncData} {ps ks:List Str} {sp:Sp} {E:XK} {m:Str} {p apos kpos:Pos} {o:Expr} {es:List Expr} {kws:List Keyword} {ta:TE} {t tk:TA} {nm:Option Str}
theorem JZ:PK X [] IK:=fun _ _ _ _ H Q I h=>wpAny_evalAll_nil ⟨[],H,I,.nil,h⟩
theorem HJ (ha:PE X e te) (hr:PK X kws t):PK X (⟨nm,e,kpos⟩ :: kws) (A5 te t):=by
 intro pos aa s σ H Q I h;show wpAny _ _ (evalAll ((do let v ← eval e X.env; standAt pos; pure v) :: (backToKw pos (keywordEach kws X.env)).map (·.2))) _ _ s;refine wpAny_evalAll_cons (wpAny_bind (thn (ha aa s σ H _ I h) fun u s1 ⟨x,H1,I1,r1,q1⟩=>wpAny_bind (wpAny_standAt (wpAny_pure ?_))));exact thn (hr pos aa s1 σ H1 _ I1 q1) fun us s2 ⟨xs,H2,I2,r2,q2⟩=>⟨x :: xs,H2,I2,.cons r1 r2,q2⟩
structure Ja (K:FG) (fd:FuncData) (ps ks:List Str) (g:List Value->List Value->List Value) (gV:List V->List V->List V):Prop where
 to:∀ (s:Shared) (us ws:List Value),K.In s.heap->(g us ws).length=ps.length->BindsTo s fd ⟨us,ks.zip ws⟩ (ps.zip (g us ws))
 rel:∀ {vs:List V} {us:List Value} {zs:List V} {ws:List Value},Vals vs us->Vals zs ws->Vals (gV vs zs) (g us ws)
variable {g:List Value->List Value->List Value} {gV:List V->List V->List V}
end
structure AL (N P:List Str) (sc:Scope):Prop where
 kind:sc.kind=.function
 co:sc.isCoroutine=false
 gen:sc.isGenerator=false
 nd:N.Nodup
 pre:N.take P.length=P
 par:∀ x ∈ P,sc.names.lookup x=some .local\/sc.names.lookup x=some .cell
 nofree:∀ y ∈ sc.names,y.2 ≠ .free
theorem fsc {N P:List Str} {sc:Scope} (a:sc.kind=.function:=by exact rfl) (b:sc.isCoroutine=false:=by exact rfl) (c:sc.isGenerator=false:=by exact rfl) (d:N.Nodup:=by decide +kernel) (e:N.take P.length=P:=by exact rfl) (f:∀ x ∈ P,sc.names.lookup x=some .local\/sc.names.lookup x=some .cell:=by decide +kernel) (g:∀ y ∈ sc.names,y.2 ≠ .free:=by decide +kernel):AL N P sc:=⟨a,b,c,d,e,f,g⟩
theorem Gf {kindOf:Str->Option NameKind} {x:Str}:∀ {binds:List (Str × Value)} {m:SV},(∀ v,(x,v) ∉ binds)->bindL kindOf binds m x=m x
  | [],_,_=>rfl
  | (n,v) :: r,m,h=>by
    unfold bindL;rw [Gf fun w hw=>h w (mem_cons_of_mem _ hw)];split
    · have:x ≠ n:=by rintro rfl; exact h v mem_cons_self
      simp [this]
    · rfl
theorem Gg {kindOf:Str->Option NameKind} {x:Str}:∀ {binds:List (Str × Value)} {m:SV},(∀ v,(x,v) ∉ binds)->bindC kindOf binds m x=m x
  | [],_,_=>rfl
  | (n,v) :: r,m,h=>by
    unfold bindC;rw [Gg fun w hw=>h w (mem_cons_of_mem _ hw)];split
    · rfl
    · have:x ≠ n:=by rintro rfl; exact h v mem_cons_self
      simp [this]
theorem Gh {kindOf:Str->Option NameKind} {x:Str} {v:Value}:∀ {P:List Str} {vs:List Value} {i:Nat} {m:SV},P.Nodup->P[i]?=some x->vs[i]?=some v->kindOf x=some .local ->
  bindL kindOf (P.zip vs) m x=some v
 | [],_,_,_,_,h,_,_=>by simp at h
 | _ :: _,[],_,_,_,_,h,_=>by simp at h
 | p :: P,w :: vs,0,m,nd,h1,h2,hk=>by
  simp at h1 h2; subst h1; subst h2;show bindL kindOf ((p,w) :: P.zip vs) m p=_;unfold bindL;rw [Gf fun v hv=>(nodup_cons.mp nd).1 (of_mem_zip hv).1,if_pos hk];simp
 | p :: P,w :: vs,i + 1,m,nd,h1,h2,hk=>by
  show bindL kindOf ((p,w) :: P.zip vs) m x=_;unfold bindL;exact Gh (i:=i) (nodup_cons.mp nd).2 (by simpa using h1) (by simpa using h2) hk
theorem Gi {kindOf:Str->Option NameKind} {x:Str} {v:Value}:∀ {P:List Str} {vs:List Value} {i:Nat} {m:SV},P.Nodup->P[i]?=some x->vs[i]?=some v->kindOf x ≠ some .local ->
  bindC kindOf (P.zip vs) m x=some v
 | [],_,_,_,_,h,_,_=>by simp at h
 | _ :: _,[],_,_,_,_,h,_=>by simp at h
 | p :: P,w :: vs,0,m,nd,h1,h2,hk=>by
  simp at h1 h2; subst h1; subst h2;show bindC kindOf ((p,w) :: P.zip vs) m p=_;unfold bindC;rw [Gg fun v hv=>(nodup_cons.mp nd).1 (of_mem_zip hv).1,if_neg hk];simp
 | p :: P,w :: vs,i + 1,m,nd,h1,h2,hk=>by
  show bindC kindOf ((p,w) :: P.zip vs) m x=_;unfold bindC;exact Gi (i:=i) (nodup_cons.mp nd).2 (by simpa using h1) (by simpa using h2) hk
def E3 (N:List Str) (vs:List V):St:=vs.map some++List.replicate (N.length - vs.length) none
def Ks (CX:CXT) (P:Program) (w:World) (K:FG) (mg:SV) (base:Heap) (N:List Str) (qual:Str) (scope:Scope) (f:Addr) (cd:Value) (A:Around) (outer:List Env) (s:Shared) (H:Hp) (E:XK):Cx where
 prog:=P
 w:=w
 K:=K
 mg:=mg
 base:=base
 A:=A.deeper (envOfC qual scope s.heap.objs.size f cd)
 N:=N
 s₀:=s
 H₀:=H
 env:=envOfC qual scope s.heap.objs.size f cd
 outer:=outer
 stack:=envOfC qual scope s.heap.objs.size f cd :: outer
 ex:=[]
 calm:=true
 fn:=fun _=>true
 pn:=[]
 xe:=fun e s'=>wpAny (model P w) (A.deeper (envOfC qual scope s.heap.objs.size f cd)) (leaving (envOfC qual scope s.heap.objs.size f cd) e) (fun _ s''=>CX outer H s E e s'') (fun e' s''=>CX outer H s E e' s'') s'
theorem IL {sc:Scope} {n:Nat} (h:sc.names.lookup x=some .cell):∃ c,(cellsFrom n sc.names []).lookup x=some c:=by
 have q:=W.cellsFrom_some sc.names n [] (.inl h);exact Option.isSome_iff_exists.mp q
theorem Kt {CX:CXT} {ps:List Str} {qual:Str} {scope:Scope} {cd:Value} {outer:List Env} {s1:Shared} {E:XK} {vs:List V}
  (S:AL N ps scope) (hd:A.handled=none) (e0:Env0 P w K mg base A outer s H) (hl:vs.length=ps.length) (r:Vals vs us)
  (x:InCallC s s.heap.objs.size (bindL (envOfC qual scope s.heap.objs.size f cd).kindOf (ps.zip us) fun _=>none) (cellsFrom (s.heap.objs.size + 1) scope.names []) (bindC (envOfC qual scope s.heap.objs.size f cd).kindOf (ps.zip us) fun _=>none) s1) :
  Inv (Ks CX P w K mg base N qual scope f cd A outer s H E) [] (E3 N vs) H s1:=by
 have hpl:ps.length <= N.length:=by have:=congrArg List.length S.pre; rw [length_take] at this; omega
 obtain ⟨h1,tk,rfl,hk⟩:=x.done;have noA:∀ b:Addr,b ∉ (Ks CX P w K mg base N qual scope f cd A outer s H E).ex:=fun b z=>absurd (show b ∈ ([]:List Addr) from z) (by simp)
 refine ⟨⟨e0.mod,S.kind,rfl,rfl,Nat.le_refl _,fun y z c h1 h2=>?_,fun y hy=>?_,fun y c _ h=>?_,fun _=>hd,Around.frames_deeper e0.frames,.inr ⟨rfl,rfl⟩,fun b z=>absurd z (noA b),e0.bs,e0.bsz,fun b _ _=>noA b,fun b z=>absurd z (noA b),e0.funs,e0.frf⟩,
  rfl,e0.bare,Un.kept hk,⟨_,x.toInCall.ns,fun i y v h1 h2 h3=>?_⟩,fun y c h=>⟨_,x.cell y c h⟩,e0.hok.fresh (Nat.le_refl _),fun y c h=>?_,fun p hp=>absurd (show p ∈ ([]:LO) from hp) (by simp),e0.hok.kept hk,?_⟩
 ·exact name_of_addr x.apart (PySem.mem_of_lookup h1) (PySem.mem_of_lookup h2)
 ·have hy:scope.names.lookup y=some .cell\/scope.names.lookup y=some .free:=hy;rcases hy with hy | hy
  ·exact IL hy
  ·exact absurd rfl (S.nofree _ (PySem.mem_of_lookup hy))
 ·exact Nat.le_of_lt (x.above y c (PySem.mem_of_lookup h))
 ·have hi:i < vs.length:=by
   unfold E3 at h2;by_cases hi:i < vs.length
   ·exact hi
   ·rw [List.getElem?_append_right (by simpa using hi)] at h2;rw [List.getElem?_replicate] at h2;split at h2 <;> cases h2
  have ha:vs[i]?=some v:=by
   unfold E3 at h2;rw [List.getElem?_append_left (by simpa using hi),getElem?_map] at h2;cases e:vs[i]? with
   | none=>rw [e] at h2; cases h2
   | some a=>rw [e] at h2; cases h2; rfl
  obtain ⟨u,hu,rv⟩:=r.get ha
  have hp:ps[i]?=some y:=by
   rw [← S.pre,List.getElem?_take_of_lt (by omega)]; exact h1
  have ndP:ps.Nodup:=by rw [← S.pre]; exact S.nd.sublist (take_sublist _ _)
  refine ⟨u,rv,?_⟩;rcases S.par y (mem_of_getElem? hp) with k | k
  ·exact .inl ⟨k,Gh ndP hp hu k⟩
  ·obtain ⟨c,e⟩:=IL (n:=s.heap.objs.size + 1) k;refine .inr ⟨.inl k,c,e,?_⟩;have q:=x.cell y c e;rw [Gi ndP hp hu (by show scope.names.lookup y ≠ _; rw [k]; decide)] at q;exact q
 ·exact e0.hok.fresh (Nat.le_of_lt (x.above y c (PySem.mem_of_lookup h)))
 ·unfold E3;show _=N.length;rw [length_append,length_map,List.length_replicate];omega
theorem QB {CX:CXT} {k:Nat} {name qual:Str} {params:Arguments} {body:List Stmt} {scope:Scope} {dV kV doc pm ac ct oc:Value} {an od:Option Addr}
  {osl:Array (Option Value)} {N ps:List Str} {sp:Sp} (lk:K.lookup f=some ⟨oc,od,.func (W.fnOf name qual params body scope dV kV doc pm an ac ct),osl⟩) (hcd:W.codeIn K ac qual=true) (S:AL N ps scope)
  (len:∀ vs H Q E,sp vs H Q E->vs.length=ps.length)
  (b9:∀ (A:Around) (outer:List Env) (s:Shared) (H:Hp) (vs:List V) (Q:VK) (E:XK),Room k (A.deeper (envOfC qual scope s.heap.objs.size f ac))->sp vs H Q E ->
   ∃ t,PSs (Ks CX P w K mg base N qual scope f ac A outer s H E) body t/\t { nx:=fun _ H'=>Q .non H',rt:=Q } (E3 N vs) H) :
  Af P w K mg base CX (k + 1) f (W.fnOf name qual params body scope dV kV doc pm an ac ct) ps sp:=by
 refine ⟨len,fun A outer s H args us vs Q E hr e0 hb r hsp=>?_⟩;have hl:=len _ _ _ _ hsp;have KX:K.In s.heap:=e0.mod.kin.keeps fun b o e=>(e0.bs b o e).1;have lim:s.heap.NoLimit:=e0.mod.nolimit.keeps fun b o e=>(e0.bs b o e).1
 have hkind:∀ y ∈ ps.zip us,scope.names.lookup y.1=some .local\/(scope.names.lookup y.1=some .cell/\((cellsFrom (s.heap.objs.size + 1) scope.names []).lookup y.1).isSome=true):=fun ⟨n,v⟩ hy=>by
  rcases S.par n (of_mem_zip hy).1 with q | q
  ·exact .inl q
  ·exact .inr ⟨q,W.cellsFrom_some _ _ _ (.inl q)⟩
 refine codeAny_call_function hr.depth (KX _ _ lk) rfl S.co S.gen rfl (W.codeRec_of KX hcd) (hb _ _ _ _ ?_);refine wpAny_newFunctionEnv_cells S.kind hkind fun env he s1 x=>?_;subst he;refine ⟨lim.keeps x.toInCall.keep,codeAny_func ?_⟩;obtain ⟨t,ht,hq⟩:=b9 A outer s H vs Q E (hr.deeper _) hsp;have I:Inv (Ks CX P w K mg base N qual scope f ac A outer s H E) [] (E3 N vs) H s1:=Kt S hr.hd e0 hl r x;refine wpAny_mono (ht [] s1 (E3 N vs) H _ I hq) (fun fl s' hs=>?_) fun e s' hs=>hs
 have fin:∀ {σ':St} {H':Hp} {v:V} {u:Value},Inv (Ks CX P w K mg base N qual scope f ac A outer s H E) [] σ' H' s'->RelV v u->Q v H'->CE outer P w H s Q u s' :=
  fun {σ' H' v u} J rv q=>⟨v,H',J.os,J.bare,J.base,J.hok,rv,q⟩
 cases fl with
 | ret u =>
  obtain ⟨v,σ',H',J,rv,q⟩:=hs;exact fin J rv q
 | next =>
  obtain ⟨σ',H',J,q⟩:=hs;exact fin (v:=V.non) (u:=Value.none) J rfl q
 | brk =>
  obtain ⟨_,_,_,q⟩:=hs;exact False.elim q
 | cont =>
  obtain ⟨_,_,_,q⟩:=hs;exact False.elim q
end L2
namespace L2
open PySem PySem.Spec PyProof.Rows
section
variable {p:Pos} {es:List Expr} {t:TA} {id T:String} {r:List V->Hp->VK->Prop}
def tCB (r:List V->Hp->VK->Prop) (t:TA):TE:=fun σ H Q=>t σ H fun vs H1=>r vs H1 Q
theorem AW (hc:BR X (.builtin id) r) (hg:Gl X x) (hm:X.mg x=none) (hv:bootBuiltins x=some (.builtin id)) (ha:PA X (e :: es) t) (hn:x ≠ "__name__" := by decide) (hdb:(x == ("__debug__" : Str))=false:=by decide)
  (he:starEach (e :: es) X.env=(false,eval e X.env) :: starEach es X.env:=by rfl) (hpl:(backTo pos (starEach es X.env)).any (·.1)=false:=by rfl):PE X (.Call (.Name x p) (e :: es) [] pos) (tCB r t):=by
 intro aa s σ H Q I h;refine wpAny_Call_Name_kw (Eb I hg hm hv ?_ hn hdb);exact PyProof.Rows.callWith_builtin1 (thn (ha pos aa s σ H _ I h) fun us s1 ⟨vs,H1,I1,r1,q1⟩=>hc aa s1 σ H1 vs us Q I1 r1 q1) he hpl
theorem BU (hc:BR X (.type T) r) (hg:Gl X x) (hm:X.mg x=none) (hv:bootBuiltins x=some (.type T)) (ha:PA X (e :: es) t) (hn:x ≠ "__name__" := by decide) (hdb:(x == ("__debug__" : Str))=false:=by decide)
  (he:starEach (e :: es) X.env=(false,eval e X.env) :: starEach es X.env:=by rfl) (hpl:(backTo pos (starEach es X.env)).any (·.1)=false:=by rfl):PE X (.Call (.Name x p) (e :: es) [] pos) (tCB r t):=by
 intro aa s σ H Q I h;refine wpAny_Call_Name_kw (Eb I hg hm hv ?_ hn hdb);exact PyProof.Rows.callWith_type1 (thn (ha pos aa s σ H _ I h) fun us s1 ⟨vs,H1,I1,r1,q1⟩=>hc aa s1 σ H1 vs us Q I1 r1 q1) he hpl
end
end L2
namespace L2
open PySem PySem.Spec PyProof.Rows
theorem B3 {ns:List Int}:∀ {us:List Value},Vals (ns.map V.int) us->IntsAre us ns:=by
 induction ns with
 | nil=>intro us r; rw [map_nil] at r; cases r; exact .nil
 | cons n ns ih =>
  intro us r;rw [map_cons] at r;cases r with
  | cons r1 r2 =>
   obtain ⟨t,e⟩:=r1;subst e;exact .cons n t (ih r2)
end L2
namespace L2
open PySem PySem.Spec PyProof.Rows
def ixN (n:Nat) (i:Int):Option Nat:=if 0 <= i then (if i < n then some i.toNat else none) else if -(n:Int) <= i then some (i + n).toNat else none
def atI {α:Type} (xs:List α) (i:Int):Option α:=(ixN xs.length i).bind fun j=>xs[j]?
theorem KK {n:Nat} {i:Int} {j:Nat} (h:ixN n i=some j):seqIndex? i n=some j/\j < n/\-(n:Int) <= i/\i < n:=by
 unfold ixN at h;by_cases h0:0 <= i
 ·rw [if_pos h0] at h;by_cases h1:i < n
  ·rw [if_pos h1] at h;have e:i.toNat=j:=Option.some.inj h;exact ⟨by rw [seqIndex_of h0 h1,e],by omega,by omega,h1⟩
  ·rw [if_neg h1] at h; cases h
 ·rw [if_neg h0] at h;by_cases h1:-(n:Int) <= i
  ·rw [if_pos h1] at h;have e:(i + n).toNat=j:=Option.some.inj h;exact ⟨by rw [seqIndex_neg (by omega) h1,e],by omega,h1,by omega⟩
  ·rw [if_neg h1] at h; cases h
theorem KL {α:Type} {xs:List α} {i:Int} {v:α} (h:atI xs i=some v):∃ j,seqIndex? i xs.length=some j/\xs[j]?=some v/\j < xs.length/\-(xs.length:Int) <= i/\i < xs.length:=by
 unfold atI at h;cases e:ixN xs.length i with
 | none=>rw [e] at h; cases h
 | some j =>
  rw [e] at h;obtain ⟨h1,h2,h3,h4⟩:=KK e;exact ⟨j,h1,h,h2,h3,h4⟩
theorem Cb {α:Type} {xs:List α} {j:Nat} {v:α} (h:xs[j]?=some v):atI xs (j:Int)=some v:=by
 have hj:j < xs.length:=(List.getElem?_eq_some_iff.mp h).1
 have e:ixN xs.length (j:Int)=some j:=by
  unfold ixN;rw [if_pos (by omega),if_pos (by omega)]; simp
 unfold atI; rw [e]; exact h
def Nr (b:Expr):Prop:=∀ o i,subscripted b false o i=operate [o,i] (getItem o i)
def IxR (X:Cx) (r:R2):Prop :=
 ∀ (value slice:Expr) (aa:LO) (s:Shared) (σ:St) (H:Hp) (x y:V) (v u:Value) (Q:VK),Inv X aa σ H s->RelV x v->RelV y u->r x y H Q ->
  subscripted slice false v u=operate [v,u] (getItem v u)->wpAny (model X.prog X.w) X.A (subscriptTail value slice v u) (EP X aa σ Q) X.xe s
def MtR (X:Cx) (id:String) (r:V->List V->Hp->VK->Prop):Prop :=
 ∀ (aa:LO) (s:Shared) (σ:St) (H:Hp) (x:V) (xs:List V) (v:Value) (us:List Value) (Q:VK),Inv X aa σ H s->RelV x v->Vals xs us->r x xs H Q ->
  wpAny (model X.prog X.w) X.A (call (.builtin id) (v :: us)) (EP X aa σ Q) X.xe s
section
variable {a b:Expr} {ta tb:TE}
theorem BK {r:R2} (hr:IxR X r) (ha:PE X a ta) (hb:PE X b tb) (hs:Nr b):PE X (.Subscript a b pos) (tOp r ta tb):=by
 intro aa s σ H Q I h;exact Subscript_ (Ov ha hb I h fun v u s2 x y H2 I2 rx ry q=>hr a b aa s2 σ H2 x y v u Q I2 rx ry q (hs _ _))
def QC (K:FG):R2:=fun x y H Q=>∃ p xs i v,x=.ref p/\y=.int i/\SqL K H p xs/\atI xs i=some v/\Q v H
def QD (K:FG):R2:=fun x y H Q=>∃ p xs i v,x=.ref p/\y=.int i/\SqT K H p xs/\atI xs i=some v/\Q v H
theorem Nt:IxR X (QC X.K):=by
 intro value slice aa s σ H x y v u Q I rx ry h hs;obtain ⟨p,xs,i,z,rfl,rfl,hq,he,q⟩:=h;cases rx;obtain ⟨t,rfl⟩:=ry;obtain ⟨its,r,pl,hz⟩:=I.list hq;obtain ⟨j,h1,h2,h3,h4,h5⟩:=KL he;obtain ⟨w,ew,rw'⟩:=r.get h2;have hl:=r.length;have hn:=FP;have fin:EP X aa σ Q w s:=⟨z,H,I,rw',q⟩;by_cases h0:0 <= i
 ·have hj:i.toNat=j:=by
   rw [seqIndex_of h0 h5] at h1;exact Option.some.inj h1
  exact item_listR pl.isList h0 (by omega) (by rw [hj]; simpa using ew) fin hs
 ·have hj:(i + (its.toArray.size:Int)).toNat=j:=by
   rw [seqIndex_neg (by omega) h4] at h1;rw [size_toArray,← hl];exact Option.some.inj h1
  exact subscriptTail_builtinR (x:=w) pl.isList.typeIs slot_list_getitem.lookup
   (wpAny_getItem_list_neg (Q:=fun r s'=>r=w/\EP X aa σ Q r s') pl.isList (by omega) (by rw [size_toArray] <;> omega) (by omega) (by rw [hj]; simpa using ew) ⟨rfl,fin⟩) hs
theorem O0:IxR X (QD X.K):=by
 intro value slice aa s σ H x y v u Q I rx ry h hs;obtain ⟨p,xs,i,z,rfl,rfl,hq,he,q⟩:=h;cases rx;obtain ⟨t,rfl⟩:=ry;obtain ⟨its,r,pl,hz⟩:=I.tuple hq;obtain ⟨j,h1,h2,h3,h4,h5⟩:=KL he;obtain ⟨w,ew,rw'⟩:=r.get h2;have hl:=r.length;have hn:=FP;have fin:EP X aa σ Q w s:=⟨z,H,I,rw',q⟩
 exact subscriptTail_builtinR (x:=w) pl.typeIs slot_tuple_getitem.lookup
  (getItem_tuple (j:=j) (Q:=fun r s'=>r=w/\EP X aa σ Q r s') pl (by omega) (by omega) (by rw [size_toArray,← hl]; exact h1) (by simpa using ew) ⟨rfl,fin⟩) hs
theorem Jb (its:List Value) (n j:Nat) (u:Value):Obj.mapSeq (·.setIfInBounds j u) { cls:=.type "list", data:=.seq its.toArray n }={ cls:=.type "list", data:=.seq (its.set j u).toArray n }:=by
 simp [Obj.mapSeq]
theorem Inv.lst {aa:LO} {σ:St} {H:Hp} {s:Shared} {p:Addr} {xs:List V} (I:Inv X aa σ H s) (h:H p=some (.lst xs)) :
  ∃ (its:List Value) (n:Nat),Vals xs its/\s.heap.get? p=some { cls:=.type "list", data:=.seq its.toArray n }/\xs.length <= sizeLine:=by
 obtain ⟨z,its,n,r,e⟩:=I.hok p _ h;exact ⟨its,n,r,e,z⟩
theorem Inv.lstUpd {p:Addr} {ys:List V} {its its':List Value} {n n':Nat} {f:Obj->Obj} (I:Inv X aa σ H s) (h:H p=some (.lst xs))
  (ho:s.heap.get? p=some { cls:=.type "list", data:=.seq its.toArray n }) (hf:f { cls:=.type "list", data:=.seq its.toArray n }={ cls:=.type "list", data:=.seq its'.toArray n' }) (r:Vals ys its') (hz:ys.length <= sizeLine) (t:Nat) :
  Inv X aa σ (upd H p (.lst ys)) { s with heap:=s.heap.update p f,toks:=t }:=by
 have e:(s.heap.update p f).get? p=some { cls:=.type "list", data:=.seq its'.toArray n' }:=by
  rw [Heap.get?_update_self f ho (by rw [hf] <;> rfl),hf]
 refine I.write (x:=p) (e:=p) (by rw [h]; trivial) (.inl rfl) (fun b u hb q=>(get?_update_other _ _ (Ne.symm hb)).trans q) ⟨_,e⟩ ?_;exact ⟨hz,its',n',r,e⟩
def QE:V->V->V->Hp->(Hp->Prop)->Prop:=fun o i v H Q=>∃ p xs k j,o=.ref p/\i=.int k/\H p=some (.lst xs)/\ixN xs.length k=some j/\Q (upd H p (.lst (xs.set j v)))
theorem IM:P2 X QE:=by
 intro aa s σ H o i v ov iv u Q I ro ri rv h;obtain ⟨p,xs,k,j,rfl,rfl,hp,hj,q⟩:=h;cases ro;obtain ⟨t,rfl⟩:=ri;obtain ⟨its,n,r,ho,hz⟩:=I.lst hp;obtain ⟨h1,h2,h3,h4⟩:=KK hj;have hl:=r.length;have hn:=FP
 have I':Inv X aa σ (upd H p (.lst (xs.set j v))) { s with heap:=s.heap.update p (Obj.mapSeq (·.setIfInBounds j u)) } :=
  I.lstUpd hp ho (Jb its n j u) (r.set rv j) (by rw [List.length_set]; exact hz) s.toks
 by_cases h0:0 <= k
 ·have hk:k.toNat=j:=by
   rw [seqIndex_of h0 h4] at h1;exact Option.some.inj h1
  exact W.ki_setAt ho h0 (by omega) (by rw [size_toArray,← hl]; exact h4) (by rw [hk]; exact ⟨_,I',q⟩)
 ·have hk:(k + (its.toArray.size:Int)).toNat=j:=by
   rw [seqIndex_neg (by omega) h3] at h1;rw [size_toArray,← hl];exact Option.some.inj h1
  exact W.ki_setBack ho (by omega) (by rw [size_toArray,← hl]; exact h3) (by omega) (by rw [hk]; exact ⟨_,I',q⟩)
def Dv:V->Bool
 | .non=>true
 | .bl _=>true
 | .int _=>true
 | .str _=>true
 | _=>false
def eqV:V->V->Bool
 | .non,.non=>true
 | .bl a,.bl b=>a == b
 | .bl a,.int b=>(if a then 1 else 0) == b
 | .int a,.bl b=>a == (if b then 1 else 0)
 | .int a,.int b=>a == b
 | .str a,.str b=>a == b
 | _,_=>false
theorem O1 {y x:V} {v:Value} (ry:RelV y u) (rx:RelV x v) (fy:Dv y=true) (fx:Dv x=true):SeqAt.EqAt A s u v (eqV y x):=by
 cases y with
 | non =>
  cases ry;cases x with
  | non=>cases rx; exact SeqAt.EqAt.same _
  | bl b=>cases rx; exact SeqAt.EqAt.none_bool b
  | int b=>obtain ⟨t,rfl⟩:=rx; exact SeqAt.EqAt.none_int b t
  | str b=>obtain ⟨t,rfl⟩:=rx; exact SeqAt.EqAt.none_str b t
  | _=>exact absurd (show false=true from fx) Bool.false_ne_true
 | bl a =>
  cases ry;cases x with
  | non=>cases rx; exact SeqAt.EqAt.bool_none a
  | bl b=>cases rx; exact SeqAt.EqAt.bool_bool a b
  | int b=>obtain ⟨t,rfl⟩:=rx; exact SeqAt.EqAt.bool_int a b t
  | str b=>obtain ⟨t,rfl⟩:=rx; exact SeqAt.EqAt.bool_str a b t
  | _=>exact absurd (show false=true from fx) Bool.false_ne_true
 | int a =>
  obtain ⟨t',rfl⟩:=ry;cases x with
  | non=>cases rx; exact SeqAt.EqAt.int_none a t'
  | bl b=>cases rx; exact SeqAt.EqAt.int_bool a t' b
  | int b=>obtain ⟨t,rfl⟩:=rx; exact SeqAt.EqAt.int_int a t' b t
  | str b=>obtain ⟨t,rfl⟩:=rx; exact SeqAt.EqAt.int_str a t' b t
  | _=>exact absurd (show false=true from fx) Bool.false_ne_true
 | str a =>
  obtain ⟨t',rfl⟩:=ry;cases x with
  | non=>cases rx; exact SeqAt.EqAt.str_none a t'
  | bl b=>cases rx; exact SeqAt.EqAt.str_bool a t' b
  | int b=>obtain ⟨t,rfl⟩:=rx; exact SeqAt.EqAt.str_int a t' b t
  | str b=>obtain ⟨t,rfl⟩:=rx; exact SeqAt.EqAt.str_str a t' b t
  | _=>exact absurd (show false=true from fx) Bool.false_ne_true
 | _=>exact absurd (show false=true from fy) Bool.false_ne_true
def eqU (x:V) (u:Value):Bool:=match u with
 | .none=>eqV .non x
 | .bool b=>eqV (.bl b) x
 | .int i _=>eqV (.int i) x
 | .str z _=>eqV (.str z) x
 | _=>false
theorem Lx {x y:V} (r:RelV y u) (f:Dv y=true):eqU x u=eqV y x:=by
 cases y with
 | non=>cases r; rfl
 | bl b=>cases r; rfl
 | int i=>obtain ⟨t,rfl⟩:=r; rfl
 | str z=>obtain ⟨t,rfl⟩:=r; rfl
 | _=>exact absurd (show false=true from f) Bool.false_ne_true
theorem HK {x:V}:∀ {xs:List V} {us:List Value},Vals xs us->xs.all Dv=true->us.any (eqU x)=xs.any fun y=>eqV y x
 | _,_,.nil,_=>rfl
 | y :: xs,u :: us,.cons r t,f=>by
  rw [List.all_cons,Bool.and_eq_true] at f;rw [any_cons,any_cons,Lx r f.1,HK t f.2]
theorem FR {A:Around} {s:Shared} {x:V} {v:Value} (rx:RelV x v) (fx:Dv x=true):∀ {xs:List V} {us:List Value},Vals xs us->xs.all Dv=true->∀ u ∈ us,SeqAt.EqAt A s u v (eqU x u)
 | _,_,.nil,_=>fun u hu=>by cases hu
 | y :: xs,u :: us,.cons r t,f=>fun u' hu=>by
  rw [List.all_cons,Bool.and_eq_true] at f;rcases mem_cons.mp hu with rfl | hu
  ·rw [Lx r f.1]; exact O1 r rx f.1 fx
  ·exact FR rx fx t f.2 u' hu
def inV (x:V) (xs:List V):Bool:=xs.any fun y=>eqV y x
def rIn (K:FG) (neg:Bool):R2:=fun x y H Q=>∃ p xs,y=.ref p/\(SqL K H p xs\/SqT K H p xs)/\Dv x=true/\xs.all Dv=true/\Q (.bl (if neg then !inV x xs else inV x xs)) H
theorem Gj:OpR X (compareOp .In) (rIn X.K false):=by
 intro aa s σ H x y v u Q I rx ry h;obtain ⟨p,xs,rfl,hq,fx,fs,q⟩:=h;cases ry;rcases hq with hq | hq
 ·obtain ⟨its,r,pl,hz⟩:=I.list hq;refine SeqAt.in_listAt (eqU x) pl.isList (fun w hw=>FR rx fx r fs w (by simpa using hw)) ⟨.bl _,H,I,rfl,?_⟩;rw [show its.toArray.any (eqU x)=its.any (eqU x) by simp,HK r fs];exact q
 ·obtain ⟨its,r,pl,hz⟩:=I.tuple hq;refine SeqAt.in_tupleAt (eqU x) pl (fun w hw=>FR rx fx r fs w (by simpa using hw)) ⟨.bl _,H,I,rfl,?_⟩;rw [show its.toArray.any (eqU x)=its.any (eqU x) by simp,HK r fs];exact q
theorem Dw:BR X (.builtin "len") (fun xs H Q=>∃ p ys,xs=[.ref p]/\(SqL X.K H p ys\/SqT X.K H p ys)/\Q (.int ys.length) H):=by
 intro aa s σ H xs us Q I r h;obtain ⟨p,ys,rfl,hq,q⟩:=h;obtain ⟨u,rfl,rx⟩:=B2 r;cases rx;have hn:=FP;rcases hq with hq | hq
 ·obtain ⟨its,r',pl,hz⟩:=I.list hq;have bd:=r'.length;exact Calls.call_len_list pl.isList (by simp only [size_toArray] <;> omega) ⟨.int ys.length,H,I.tok _,⟨s.toks + 1,by rw [size_toArray,bd]⟩,q⟩
 ·obtain ⟨its,r',pl,hz⟩:=I.tuple hq;have bd:=r'.length;exact len_tuple pl (by simp only [size_toArray] <;> omega) ⟨.int ys.length,H,I.tok _,⟨s.toks + 1,by rw [size_toArray,bd]⟩,q⟩
theorem HL:BR X (.builtin "len") (fun xs H Q=>∃ z,xs=[.str z]/\z.length <= sizeLine/\Q (.int z.length) H):=by
 intro aa s σ H xs us Q I r h;obtain ⟨z,rfl,hz,q⟩:=h;obtain ⟨u,rfl,t,rfl⟩:=B2 r;have hn:=FP;exact len_str (by omega) ⟨.int z.length,H,I.tok _,⟨_,rfl⟩,q⟩
theorem DK:BR X (.type "tuple") (fun xs H Q=>∃ p ys,xs=[.ref p]/\((SqL X.K H p ys/\∀ l,H l=none->Q (.ref l) (upd H l (.tup ys)))\/(SqT X.K H p ys/\Q (.ref p) H))):=by
 intro aa s σ H xs us Q I r h;obtain ⟨p,ys,rfl,h⟩:=h;obtain ⟨u,rfl,rx⟩:=B2 r;cases rx;rcases h with ⟨hq,q⟩ | ⟨hq,q⟩
 ·obtain ⟨its,r',pl,hz⟩:=I.list hq;have bd:=r'.length;refine call_tuple_list pl.isList (fun h' kp=>?_) (by simp only [size_toArray] <;> omega);have I1:Inv X aa σ H { s with heap:=h' }:=I.kept (t':=s.toks) kp
  have I2:Inv X aa σ (upd H h'.objs.size (.tup ys)) { s with heap:=h'.push { cls:=.type "tuple", data:=.seq its.toArray } } :=
   I1.laid (t':=s.toks) (fun b o e=>get?_push_of_some _ e) (Nat.le_refl _) (show ObjOk X.prog X.w _ _ _ (.tup ys) from ⟨hz,its,r',IsTup.new _ _⟩)
  exact ⟨.ref h'.objs.size,_,I2,rfl,q _ (I1.hok.fresh (Nat.le_refl _))⟩
 ·obtain ⟨its,r',pl,hz⟩:=I.tuple hq;exact call_tuple_same pl ⟨.ref p,H,I,rfl,q⟩
def tyV (K:FG) (T:String) (x:V) (H:Hp):Prop:=match x with
 | .str _=>T = "str"
 | .int _=>T = "int"
 | .ref p=>(T = "list" /\ ∃ xs,SqL K H p xs)\/(T = "tuple" /\ ∃ o,K.lookup p=some o/\o.cls=.type "tuple" /\ o.dict=none) \/
   (T = "dict" /\ ((∃ kvs,H p=some (.dK kvs))\/∃ kvs,H p=some (.dT kvs)))\/(T = "set" /\ ∃ S n,H p=some (.set S n))
 | _=>False
theorem Ly {T:String} {x:V} {v:Value} (I:Inv X aa σ H s) (r:RelV x v) (ty:tyV X.K T x H) :
  s.TypeIs v T/\∀ a,v=.ref a->∃ ob,s.heap.get? a=some ob/\ob.dict=none:=by
 cases x with
 | str z =>
  obtain ⟨t,rfl⟩:=r;cases (show T = "str" from ty);exact ⟨typeIs_str s z t,fun _ e=>nomatch e⟩
 | int i =>
  obtain ⟨t,rfl⟩:=r;cases (show T = "int" from ty);exact ⟨typeIs_int s i t,fun _ e=>nomatch e⟩
 | ref p =>
  cases r;rcases ty with ⟨rfl,xs,hq⟩ | ⟨rfl,o,hk,hc,hd⟩ | ⟨rfl,hk⟩ | ⟨rfl,S,n,hk⟩
  ·obtain ⟨its,_,pl,_⟩:=I.list hq;refine ⟨pl.isList.typeIs,fun a e=>?_⟩;cases e;obtain ⟨o,n,e,c,hd,_⟩:=pl;exact ⟨o,e,hd⟩
  ·refine ⟨⟨o,I.kIn p o hk,hc⟩,fun a e=>?_⟩;cases e;exact ⟨o,I.kIn _ o hk,hd⟩
  ·have z:∃ o,s.heap.get? p=some o/\o.ExactDict:=by
    rcases hk with ⟨kvs,hk⟩ | ⟨kvs,hk⟩
    ·obtain ⟨_,_,_,_,o,_,_,e,ex,_⟩:=I.hok p _ hk;exact ⟨o,e,ex⟩
    ·obtain ⟨_,_,_,_,o,_,_,e,ex,_⟩:=I.hok p _ hk;exact ⟨o,e,ex⟩
   obtain ⟨o,e,ex⟩:=z;refine ⟨⟨o,e,ex.1⟩,fun a e2=>?_⟩;cases e2;exact ⟨o,e,ex.2.1⟩
  ·obtain ⟨o,_,_,_,e,ex,_⟩:=I.hok p _ hk;refine ⟨⟨o,e,ex.1⟩,fun a e2=>?_⟩;cases e2;exact ⟨o,e,ex.2.1⟩
 | _=>exact False.elim ty
def Qt (K:FG) (T:String) (r:V->List V->Hp->VK->Prop) (to:TE):TE:=fun σ H Q=>to σ H fun x H1=>tyV K T x H1/\r x [] H1 Q
def tBM (K:FG) (T:String) (r:V->List V->Hp->VK->Prop) (to:TE) (t:TA):TE:=fun σ H Q=>to σ H fun x H1=>tyV K T x H1/\t σ H1 fun xs H2=>r x xs H2 Q
variable {o:Expr} {es:List Expr} {to:TE} {t:TA} {name:Str} {apos cpos:Pos} {T id:String} {r:V->List V->Hp->VK->Prop}
theorem O2 (pa:PlainAttrs T) (slot:Slot T name id) (hty:typeOf (.builtin id)=pure (.type "method_descriptor")) (hm:MtR X id r) (ho:PE X o to)
  (bj:attributeBase o name X.env (eval o X.env)=eval o X.env:=by rfl) (bm:(apos.endLine == cpos.line)=true:=by rfl):PE X (.Call (.Attribute o name apos) [] [] cpos) (Qt X.K T r to):=by
 intro aa s σ H Q I h;refine wpAny_Call_method0_late bj bm (thn (ho aa s σ H _ I h) fun v s1 ⟨x,H1,I1,r1,ty,q1⟩=>?_);obtain ⟨h1,h2⟩:=Ly I1 r1 ty;exact ⟨T,id,pa,slot,hty,h1,h2,Calls.callWith_builtin rfl (PySem.evalArgs_none (hm aa s1 σ H1 x [] v [] Q I1 r1 .nil q1))⟩
theorem IN (pa:PlainAttrs T) (slot:Slot T name id) (hty:typeOf (.builtin id)=pure (.type "method_descriptor")) (hm:MtR X id r) (ho:PE X o to) (ha:PA X (e :: es) t)
  (bj:attributeBase o name X.env (eval o X.env)=eval o X.env:=by rfl)
  (hfew:((backTo cpos (starEach (e :: es) X.env)).all (fun x=>!x.1) && (backToKw cpos (keywordEach [] X.env)).all (fun x=>x.1.isSome)
   && decide ((e :: es).length + ([]:List Keyword).length + (if ([]:List Keyword).isEmpty then 0 else 1) < 30))=true:=by rfl)
  (bm:(apos.endLine == cpos.line)=true:=by rfl) (hs:starEach (e :: es) X.env=(false,eval e X.env) :: starEach es X.env:=by rfl) (hplain:(backTo cpos (starEach es X.env)).any (·.1)=false:=by rfl) :
  PE X (.Call (.Attribute o name apos) (e :: es) [] cpos) (tBM X.K T r to t):=by
 intro aa s σ H Q I h;refine wpAny_Call_method_late bj hfew bm rfl (thn (ho aa s σ H _ I h) fun v s1 ⟨x,H1,I1,r1,ty,q1⟩=>?_);obtain ⟨h1,h2⟩:=Ly I1 r1 ty;refine ⟨T,id,pa,slot,hty,h1,h2,?_⟩;have hA:=ha cpos aa s1 σ H1 _ I1 q1;rw [hs] at hA ⊢;refine Calls.callWith_builtin (by show (false || (backTo cpos (starEach es X.env)).any (·.1))=false; rw [hplain] <;> rfl) (Calls.evalArgs_plain ?_);exact thn hA fun us s2 ⟨vs,H2,I2,r2,q2⟩=>hm aa s2 σ H2 x vs v us Q I2 r1 r2 q2
end
end L2
namespace L2
open PySem PySem.Spec PyProof.Rows
def MtM (X:Cx) (id:String) (r:V->List V->Hp->VK->Prop):Prop :=
 ∀ (aa:LO) (s:Shared) (σ:St) (H:Hp) (x:V) (xs:List V) (v:Value) (us:List Value) (Q:VK),Inv X aa σ H s->RelV x v->Vals xs us->r x xs H Q ->
  wpAny (model X.prog X.w) X.A (call (.builtin id) (v :: us)) (EP X aa σ Q) X.xe s
theorem Vals.one:∀ {x:V} {us:List Value},Vals [x] us->∃ u,us=[u]/\RelV x u
 | _,_,.cons r .nil=>⟨_,rfl,r⟩
section
variable {l b:Addr} {ys zs:List V}
theorem Inv.lset {its its':List Value} {n:Nat} {f:Array Value->Array Value} {t':Nat} (I:Inv X aa σ H s) (hH:H l=some (.lst xs))
  (e:s.heap.get? l=some { cls:=.type "list", data:=.seq its.toArray n }) (hf:f its.toArray=its'.toArray) (hv:Vals ys its') (hz:ys.length <= sizeLine) :
  Inv X aa σ (upd H l (.lst ys)) { s with heap:=s.heap.update l (Obj.mapSeq f),toks:=t' }:=by
 have q:=PySem.IsL.update e f;rw [hf] at q;refine I.write (x:=l) (e:=l) (by rw [hH]; exact trivial) (.inl rfl) (fun b' u hb hu=>(get?_update_other s.heap (Obj.mapSeq f) (Ne.symm hb)).trans hu) ⟨_,q⟩ ?_;exact ⟨hz,its',_,hv,q⟩
theorem Inv.lnew {its:List Value} {t':Nat} (I:Inv X aa σ H s) (hv:Vals ys its) (hz:ys.length <= sizeLine) :
  Inv X aa σ (upd H s.heap.objs.size (.lst ys)) { s with heap:=s.heap.push { cls:=.type "list", data:=.seq its.toArray },toks:=t' } :=
 I.laid (fun _ _ q=>get?_push_of_some _ q) (Nat.le_refl _) ⟨hz,its,0,hv,get?_push_size _ rfl⟩
theorem Inv.fresh (I:Inv X aa σ H s):H s.heap.objs.size=none:=I.hok.fresh (Nat.le_refl _)
theorem Inv.lstM (I:Inv X aa σ H s) (hH:H l=some (.lst xs)):xs.length <= sizeLine/\∃ (its:List Value) (n:Nat),Vals xs its/\xs.length=its.length/\s.heap.get? l=some { cls:=.type "list", data:=.seq its.toArray n }:=by
 obtain ⟨z,its,n,r,e⟩:=I.hok l _ hH;exact ⟨z,its,n,r,r.length,e⟩
theorem Lz {n:Nat} (h:n <= sizeLine):Builtin.List.listTooLong n=false:=by
 unfold Builtin.List.listTooLong;exact decide_eq_false (by omega)
end
section
def Nu:V->List V->Hp->VK->Prop:=fun x vs H Q=>∃ l xs y,x=.ref l/\vs=[y]/\H l=some (.lst xs)/\xs.length < sizeLine/\Q .non (upd H l (.lst (xs++[y])))
theorem Gk:MtM X "list.append" Nu:=by
 intro aa s σ H x vs v us Q I rx rv h;obtain ⟨l,xs,y,rfl,rfl,hH,hz,q⟩:=h;cases rx;obtain ⟨u,rfl,ru⟩:=rv.one;obtain ⟨z,its,n,r,hl,e⟩:=I.lstM hH;refine call_meets F.slot_list_append ⟨_,e,rfl⟩ F.entry_list_append (F.args_list_append_2 _ _) (PySem.list_append l its.toArray n u (by rw [size_toArray]; omega)) ⟨e,?_⟩;refine ⟨.non,_,I.lset (its':=its++[u]) hH e (by simp) (r.append (.cons ru .nil)) ?_,rfl,q⟩;rw [length_append,length_singleton];omega
def Qu:R2:=fun x y H Q=>∃ l b xs zs,x=.ref l/\y=.ref b/\H l=some (.lst xs)/\H b=some (.lst zs)/\xs.length + zs.length <= sizeLine/\∀ p,H p=none->Q (.ref p) (upd H p (.lst (xs++zs)))
theorem L1:OpR X (binaryOp .Add) Qu:=by
 intro aa s σ H x y v u Q I rx ry h;obtain ⟨l,b,xs,zs,rfl,rfl,hH,hB,hz,q⟩:=h;cases rx;cases ry;obtain ⟨z,its,n,r,hl,e⟩:=I.lstM hH;obtain ⟨z2,its2,n2,r2,hl2,e2⟩:=I.lstM hB;refine PySem.P.add_list e e2 ?_ (by rw [size_toArray,size_toArray]; omega);have ea:its.toArray++its2.toArray=(its++its2).toArray:=by simp
 rw [ea];exact ⟨.ref _,_,I.lnew (t':=s.toks) (r.append r2) (by rw [length_append]; omega),rfl,q _ I.fresh⟩
end
end L2
namespace L2
open PySem PySem.Spec PyProof.Rows
section
variable {κ:Type} [DecidableEq κ]
def Ah (kvs:List (κ × V)) (k:κ):Option V:=(kvs.find? fun kv=>decide (kv.1=k)).map (·.2)
def A1 (kvs:List (κ × V)) (k:κ) (v:V):List (κ × V) :=
 if (kvs.any fun kv=>decide (kv.1=k))=true then kvs.map (fun kv=>if kv.1=k then (kv.1,v) else kv) else kvs++[(k,v)]
theorem A6 {p:κ × V} {r:List (κ × V)} {k:κ} (e:p.1=k):Ah (p :: r) k=some p.2:=by simp [Ah,find?_cons,e]
theorem A7 {p:κ × V} {r:List (κ × V)} {k:κ} (e:¬ p.1=k):Ah (p :: r) k=Ah r k:=by simp [Ah,find?_cons,e]
theorem Ct (k:κ):∀ kvs:List (κ × V),(kvs.any fun kv=>decide (kv.1=k))=(Ah kvs k).isSome
 | []=>rfl
 | p :: r=>by
  rw [any_cons];by_cases e:p.1=k
  ·simp only [A6 e,decide_eq_true e,Bool.true_or,Option.isSome_some]
  ·rw [A7 e,decide_eq_false e,Bool.false_or]; exact Ct k r
theorem IP (k j:κ) (y:V):∀ kvs:List (κ × V),Ah (kvs.map fun kv=>if kv.1=k then (kv.1,y) else kv) j=(Ah kvs j).map fun x=>if j=k then y else x
 | []=>rfl
 | p :: r=>by
  have ih:=IP k j y r;rw [map_cons];by_cases h:p.1=k
  ·rw [if_pos h];by_cases e:p.1=j
   ·rw [A6 (p:=(p.1,y)) e,A6 e,Option.map_some,if_pos (e.symm.trans h)]
   ·rw [A7 (p:=(p.1,y)) e,A7 e,ih]
  ·rw [if_neg h];by_cases e:p.1=j
   ·rw [A6 (p:=p) e,A6 e,Option.map_some,if_neg (fun z=>h (e.trans z))]
   ·rw [A7 (p:=p) e,A7 e,ih]
theorem Gm (k j:κ) (y:V):∀ kvs:List (κ × V),Ah kvs k=none->Ah (kvs++[(k,y)]) j=if j=k then some y else Ah kvs j
 | [],_=>by
  by_cases e:k=j
  ·rw [if_pos e.symm]; exact A6 (p:=(k,y)) e
  ·rw [if_neg (fun z=>e z.symm)]; exact A7 (p:=(k,y)) e
 | p :: r,hn=>by
  rw [List.cons_append];have hk:¬ p.1=k:=fun z=>by rw [A6 z] at hn; cases hn
  rw [A7 hk] at hn;have ih:=Gm k j y r hn;by_cases e:p.1=j
  ·rw [A6 e,A6 e,if_neg (fun z=>hk (e.trans z))]
  ·rw [A7 e,A7 e,ih]
theorem FS (kvs:List (κ × V)) (k j:κ) (y:V):Ah (A1 kvs k y) j=if j=k then some y else Ah kvs j:=by
 unfold A1;by_cases a:(kvs.any fun kv=>decide (kv.1=k))=true
 ·rw [if_pos a,IP];rw [Ct] at a;by_cases e:j=k
  ·obtain ⟨x,hx⟩:=Option.isSome_iff_exists.mp a;rw [if_pos e,e,hx,Option.map_some,if_pos rfl]
  ·rw [if_neg e];cases Ah kvs j with
   | none=>rfl
   | some x=>rw [Option.map_some,if_neg e]
 ·rw [if_neg a];refine Gm k j y kvs ?_;rw [Ct] at a;cases q:Ah kvs k with
  | none=>rfl
  | some x=>rw [q] at a; exact (a rfl).elim
theorem BL (kvs:List (κ × V)) (k:κ) (v:V):(A1 kvs k v).length <= kvs.length + 1:=by
 unfold A1;split
 ·rw [length_map]; omega
 ·rw [length_append,length_cons,length_nil]; omega
theorem Bn {kvs:List (κ × V)} {k:κ} (v:V) (h:Ah kvs k=none):A1 kvs k v=kvs++[(k,v)]:=by
 unfold A1;rw [Ct,h];exact if_neg (by decide)
theorem RelO.isSome_eq {o:Option V} {u:Option Value} (r:RelO o u):o.isSome=u.isSome:=by
 cases o with
 | none=>cases u with
  | none=>rfl
  | some _=>exact (show False from r).elim
 | some _=>cases u with
  | none=>exact (show False from r).elim
  | some _=>rfl
theorem KV.val {kvs:List (κ × V)} {vs:List (κ × Value)} (r:KV kvs vs) (k:κ):RelO (Ah kvs k) (valueAt vs k):=by
 unfold KV at r;induction r with
 | nil=>exact True.intro
 | @cons p q ps qs h t ih =>
  obtain ⟨h1,h2⟩:=h;by_cases e:p.1=k
  ·have e':q.1=k:=h1.symm.trans e;have b:valueAt (q :: qs) k=some q.2:=by simp [valueAt,find?_cons,e']
   rw [A6 e,b]; exact h2
  ·have e':¬ q.1=k:=fun z=>e (h1.trans z);have b:valueAt (q :: qs) k=valueAt qs k:=by simp [valueAt,find?_cons,e']
   rw [A7 e,b]; exact ih
theorem KV.any {kvs:List (κ × V)} {vs:List (κ × Value)} (r:KV kvs vs) (k:κ):(kvs.any fun kv=>decide (kv.1=k))=vs.any fun kv=>decide (kv.1=k):=by
 unfold KV at r;induction r with
 | nil=>rfl
 | cons h t ih=>rw [any_cons,any_cons,ih,h.1]
theorem KV.repl {kvs:List (κ × V)} {vs:List (κ × Value)} (r:KV kvs vs) (k:κ) {y:V} (ry:RelV y u) :
  KV (kvs.map fun kv=>if kv.1=k then (kv.1,y) else kv) (vs.map fun kv=>if kv.1=k then (kv.1,u) else kv):=by
 unfold KV at r ⊢;induction r with
 | nil=>exact .nil
 | @cons p q ps qs h t ih =>
  rw [map_cons,map_cons];refine .cons ?_ ih;obtain ⟨h1,h2⟩:=h;by_cases e:p.1=k
  ·rw [if_pos e,if_pos (h1.symm.trans e)]; exact ⟨h1,ry⟩
  ·rw [if_neg e,if_neg (fun z=>e (h1.trans z))]; exact ⟨h1,h2⟩
theorem KV.put {kvs:List (κ × V)} {vs:List (κ × Value)} (r:KV kvs vs) (k:κ) {y:V} (ry:RelV y u):KV (A1 kvs k y) (stored vs k u):=by
 unfold A1 stored;rw [r.any k];by_cases e:(vs.any fun kv=>decide (kv.1=k))=true
 ·rw [if_pos e,if_pos e]; exact r.repl k ry
 ·rw [if_neg e,if_neg e]; exact Paired.snoc r ⟨rfl,ry⟩
theorem KV.length {kvs:List (κ × V)} {vs:List (κ × Value)} (r:KV kvs vs):kvs.length=vs.length:=Paired.length r
end
theorem Dx {k:Key} (r:RelV (kV k) u):(Ab P w).is k u=true:=by
 cases k with
 | inl i=>obtain ⟨t,e⟩:=(show ∃ t,u=Value.int i t from r); subst e; exact ID P w i t
 | inr x=>obtain ⟨t,e⟩:=(show ∃ t,u=Value.str x t from r); subst e; exact IE P w x t
theorem Gn {P:Program} {w:World}:∀ {ks:List Key} {us:List Value},Vals (ks.map kV) us->ItemsAre (Ab P w) ks us
 | [],_,r=>by rw [map_nil] at r; cases r; exact .nil
 | k :: ks,_,r=>by
  rw [map_cons] at r;cases r with
  | cons h t=>exact .cons (Dx h) (Gn t)
abbrev KT (H:Hp):List (List Key × V)->List (List Key × Addr × Value)->Prop:=Paired fun p q=>p.1=q.1/\H q.2.1=some (.tup (p.1.map kV))/\RelV p.2 q.2.2
theorem KT.val {kvs:List (List Key × V)} {xs:List (List Key × Addr × Value)} (r:KT H kvs xs) (k:List Key):RelO (Ah kvs k) ((atKey xs k).map (·.2)):=by
 induction r with
 | nil=>exact True.intro
 | @cons p q ps qs h t ih =>
  obtain ⟨h1,_,h2⟩:=h;by_cases e:p.1=k
  ·have e':q.1=k:=h1.symm.trans e;have b:atKey (q :: qs) k=some q.2:=by simp [atKey,find?_cons,e']
   rw [A6 e,b]; exact h2
  ·have e':¬ q.1=k:=fun z=>e (h1.trans z);have b:atKey (q :: qs) k=atKey qs k:=by simp [atKey,find?_cons,e']
   rw [A7 e,b]; exact ih
theorem KT.repl {kvs:List (List Key × V)} {xs:List (List Key × Addr × Value)} (r:KT H kvs xs) (k:List Key) {y:V} (ry:RelV y u) :
  KT H (kvs.map fun kv=>if kv.1=k then (kv.1,y) else kv) (xs.map (putAt k u)):=by
 induction r with
 | nil=>exact .nil
 | @cons p q ps qs h t ih =>
  rw [map_cons,map_cons];refine .cons ?_ ih;obtain ⟨h1,h2,h3⟩:=h;unfold putAt;by_cases e:p.1=k
  ·rw [if_pos e,if_pos (h1.symm.trans e)]; exact ⟨h1,h2,ry⟩
  ·rw [if_neg e,if_neg (fun z=>e (h1.trans z))]; exact ⟨h1,h2,h3⟩
theorem KT.put {kvs:List (List Key × V)} {xs:List (List Key × Addr × Value)} (r:KT H kvs xs) (k:List Key) {b:Addr} {y:V} (hb:H b=some (.tup (k.map kV))) (ry:RelV y u) :
  KT H (A1 kvs k y) (storedH xs k b u):=by
 have e:(kvs.any fun kv=>decide (kv.1=k))=(atKey xs k).isSome:=by
  rw [Ct,(r.val k).isSome_eq,Option.isSome_map]
 unfold A1 storedH;rw [e];by_cases q:(atKey xs k).isSome=true
 ·rw [if_pos q,if_pos q]; exact r.repl k ry
 ·rw [if_neg q,if_neg q]; exact Paired.snoc r ⟨rfl,hb,ry⟩
theorem KT.keeps {kvs:List (List Key × V)} {xs:List (List Key × Addr × Value)} (r:KT H kvs xs) (ht:∀ b ys,H b=some (.tup ys)->H' b=some (.tup ys)):KT H' kvs xs :=
 Paired.mapP r fun _ _ z=>⟨z.1,ht _ _ z.2.1,z.2.2⟩
section
theorem Og {u:HO} (ok:HOk P w H h) (e:Rd H a u):ObjOk P w H h a u:=e.ok ok
theorem CQ {kvs:LK} (ok:HOk P w H h) (e:Rd H a (.dK kvs)):kvs.length <= sizeLine/\(a == sysModules)=false/\∃ vs,KV kvs vs/\h.DictOf (Ab P w) a vs :=
 show ObjOk P w H h a (.dK kvs) from Og ok e
theorem KM {kvs:LK} (ok:HOk P w H h) (e:H a=some (.dK kvs)):kvs.length <= sizeLine/\(a == sysModules)=false/\∃ vs,KV kvs vs/\h.DictOf (Ab P w) a vs:=CQ ok (.inl e)
theorem FU {ks:List Key} (ok:HOk P w H h) (e:H a=some (.tup (ks.map kV))):(tupleKind (Ab P w)).is h ks a:=by
 obtain ⟨_,its,r,o,h1,h2,n,h3⟩:=(show ObjOk P w H h a (.tup (ks.map kV)) from ok a _ e);exact ⟨o,its.toArray,n,h1,h2,h3,by simpa using Gn r⟩
theorem Go {kvs:List (List Key × V)} (ok:HOk P w H h) (e:Rd H a (.dT kvs)):kvs.length <= sizeLine/\(a == sysModules)=false /\
  ∃ xs,KT H kvs xs/\h.DictOfH (tupleKind (Ab P w)) a xs:=by
 obtain ⟨z,y,xs,r,o,es,ep,h1,h2,h3,h4,h5⟩:=(show ObjOk P w H h a (.dT kvs) from Og ok e);refine ⟨z,y,xs,r,o,es,ep,h1,h2,h3,h4,fun x hx=>?_,h5⟩
 have all:∀ {l:List (List Key × V)} {m:List (List Key × Addr × Value)},KT H l m->∀ x ∈ m,(tupleKind (Ab P w)).is h x.1 x.2.1:=by
  intro l m q;induction q with
  | nil=>intro x hx; exact nomatch hx
  | @cons p q ps qs hq t ih =>
   intro x hx;rcases mem_cons.mp hx with e | hx
   ·subst e;exact FU ok (by rw [← hq.1]; exact hq.2.1)
   ·exact ih x hx
 exact all r x hx
theorem QF {kvs:List (List Key × V)} (ok:HOk P w H h) (e:H a=some (.dT kvs)):kvs.length <= sizeLine/\(a == sysModules)=false /\
  ∃ xs,KT H kvs xs/\h.DictOfH (tupleKind (Ab P w)) a xs:=Go ok (.inl e)
end
def IQ (H:Hp) (a:Addr) (y:V) (r:Option V):Prop :=
 (∃ kvs k,Rd H a (.dK kvs)/\y=kV k/\r=Ah kvs k)\/∃ kvs k b,Rd H a (.dT kvs)/\y=.ref b/\H b=some (.tup (k.map kV))/\r=Ah kvs k
def DPut (H:Hp) (a:Addr) (y v:V) (H':Hp):Prop :=
 (∃ kvs k,H a=some (.dK kvs)/\y=kV k/\kvs.length < sizeLine/\H'=upd H a (.dK (A1 kvs k v))) \/
 ∃ kvs k b,H a=some (.dT kvs)/\y=.ref b/\H b=some (.tup (k.map kV))/\kvs.length < sizeLine/\H'=upd H a (.dT (A1 kvs k v))
theorem DPut.k {H:Hp} {a:Addr} {kvs:LK} {k:Key} {v:V} (e:H a=some (.dK kvs)) (hl:kvs.length < sizeLine):DPut H a (kV k) v (upd H a (.dK (A1 kvs k v))):=.inl ⟨kvs,k,e,rfl,hl,rfl⟩
section
variable {y v:V} {r:Value} {o:Option V}
theorem Inv.big (I:Inv X aa σ H s):sysModules < s.heap.objs.size:=by
 have h:mainGlobals < s.heap.objs.size:=(I.mod.glob.keeps I.bk).lt;exact Nat.lt_trans (by decide) h
theorem Ku {Q:VS} (hu:A.units + 1 < cLine) (I:Inv X aa σ H s) (g:IQ H a y (some v)) (ry:RelV y u) (h:∀ w' s',Inv X aa σ H s'->RelV v w'->Q w' s') :
  wpAny (model X.prog X.w) A (getItem (.ref a) u) Q E s:=by
 rcases g with ⟨kvs,k,e,ey,l⟩ | ⟨kvs,k,b,e,ey,eb,l⟩
 ·subst ey;obtain ⟨z,hd,vs,rel,dd⟩:=CQ I.hok e;obtain ⟨w',hw,rw'⟩:=RelO.some_of (v:=v) (o:=valueAt vs k) (by rw [l]; exact rel.val k);exact wpAny_getItem_of (Dx ry) dd.mapOf hw (h w' _ (I.tok _) rw')
 ·subst ey;cases (show u=Value.ref b from ry);obtain ⟨z,hd,xs,rel,dd⟩:=Go I.hok e;obtain ⟨w',hw,rw'⟩:=RelO.some_of (v:=v) (o:=(atKey xs k).map (·.2)) (by rw [l]; exact rel.val k);obtain ⟨p,hp,am⟩:=Option.map_eq_some_iff.mp hw;refine wpAny_getItem_heap (tupleKind_room_in1 hu) (FU I.hok eb) dd hp ?_;rw [am];exact h w' _ (I.tok _) rw'
theorem Qw {Q:VS} (hu:A.units + 1 < cLine) (I:Inv X aa σ H s) (g:IQ H a y o) (ry:RelV y u) (h:∀ s',Inv X aa σ H s'->Q (.bool o.isSome) s') :
  wpAny (model X.prog X.w) A (compareOp .In u (.ref a)) Q E s:=by
 rcases g with ⟨kvs,k,e,ey,l⟩ | ⟨kvs,k,b,e,ey,eb,l⟩
 ·subst ey;obtain ⟨z,hd,vs,rel,dd⟩:=CQ I.hok e;refine wpAny_in_of (Dx ry) hd dd.mapOf ?_;rw [← (rel.val k).isSome_eq,← l];exact h _ (I.tok _)
 ·subst ey;cases (show u=Value.ref b from ry);obtain ⟨z,hd,xs,rel,dd⟩:=Go I.hok e;refine wpAny_in_heap (tupleKind_room_in1 hu) (FU I.hok eb) hd dd ?_;have q:=(rel.val k).isSome_eq;rw [Option.isSome_map] at q;rw [← q,← l];exact h _ (I.tok _)
theorem Nv {Q:VS} (hu:A.units + 1 < cLine) (I:Inv X aa σ H s) (g:IQ H a y o) (ry:RelV y u) (h:∀ s',Inv X aa σ H s'->Q (.bool (!o.isSome)) s') :
  wpAny (model X.prog X.w) A (compareOp .NotIn u (.ref a)) Q E s:=by
 rcases g with ⟨kvs,k,e,ey,l⟩ | ⟨kvs,k,b,e,ey,eb,l⟩
 ·subst ey;obtain ⟨z,hd,vs,rel,dd⟩:=CQ I.hok e;refine wpAny_notIn_of (Dx ry) hd dd.mapOf ?_;rw [← (rel.val k).isSome_eq,← l];exact h _ (I.tok _)
 ·subst ey;cases (show u=Value.ref b from ry);obtain ⟨z,hd,xs,rel,dd⟩:=Go I.hok e;refine wpAny_notIn_heap (tupleKind_room_in1 hu) (FU I.hok eb) hd dd ?_;have q:=(rel.val k).isSome_eq;rw [Option.isSome_map] at q;rw [← q,← l];exact h _ (I.tok _)
theorem Dy {h':Heap} {t':Nat} {ob:HO} (I:Inv X aa σ H s) (mu:Mut (H a)) (hs:Heap.SameBut a s.heap h') (he:∃ q,h'.get? a=some q) (new:ObjOk X.prog X.w (upd H a ob) h' a ob) :
  Inv X aa σ (upd H a ob) { s with heap:=h',toks:=t' } :=
 I.write (x:=a) (e:=a) mu (.inl rfl) (fun b q hb z=>(hs.2 b hb).trans z) he new
theorem FV {h':Heap} {kvs:LK} {vs:List (Key × Value)} (z:kvs.length <= sizeLine) (hd:(a == sysModules)=false) (rel:KV kvs vs) (dd:h'.DictOf (Ab P w) a vs) :
  ObjOk P w H' h' a (.dK kvs):=⟨z,hd,vs,rel,dd⟩
theorem Kv {Q:Unit->Shared->Prop} (hu:A.units + 1 < cLine) (I:Inv X aa σ H s) (g:DPut H a y v H') (ry:RelV y u) (rv:RelV v r) (h:∀ s',Inv X aa σ H' s'->Q () s') :
  wpAny (model X.prog X.w) A (setItem (.ref a) u r) Q E s:=by
 rcases g with ⟨kvs,k,e,ey,l,eH⟩ | ⟨kvs,k,b,e,ey,eb,l,eH⟩
 ·subst ey eH;obtain ⟨z,hd,vs,rel,dd⟩:=KM I.hok e;have hz:vs.length <= sizeLine:=by rw [← rel.length]; exact z
  have hl:(A1 kvs k v).length <= sizeLine:=by have:=BL kvs k v; omega
  refine wpAny_setItem_pairs (hsz:=hz) (Dx ry) dd fun h' dd' hs=>h _ ?_;have he:∃ q,h'.get? a=some q:=let ⟨q,_,_,hq,_⟩:=dd'; ⟨q,hq⟩
  exact Dy I (by rw [e]; exact True.intro) hs he (FV hl hd (rel.put k rv) dd')
 ·subst ey eH;cases (show u=Value.ref b from ry);obtain ⟨z,hd,xs,rel,dd⟩:=QF I.hok e;have hz:xs.length <= sizeLine:=by rw [← Paired.length rel]; exact z
  have hl:(A1 kvs k v).length <= sizeLine:=by have:=BL kvs k v; omega
  refine wpAny_setItem_heap (hsz:=hz) (tupleKind_room_in1 hu) (FU I.hok eb) dd fun h' dd' hs=>h _ ?_;obtain ⟨q,es,ep,hq,h2,h3,h4,_,h5⟩:=dd';refine Dy I (by rw [e]; exact True.intro) hs ⟨q,hq⟩ ⟨hl,hd,_,(rel.put k eb rv).keeps fun c ys ec=>?_,q,es,ep,hq,h2,h3,h4,h5⟩;rw [AH (Ps ec e (fun z=>nomatch z))];exact ec
end
section
variable {kvs:LK} {k:Key}
theorem QG {Q:VS} (I:Inv X aa σ H s) (e:Rd H a (.dK kvs)) (h:∀ t s',Inv X aa σ H s'->Q (.int kvs.length t) s'):wpAny (model X.prog X.w) A (call (.builtin "len") [.ref a]) Q E s:=by
 obtain ⟨z,hd,vs,rel,dd⟩:=CQ I.hok e;refine call_len_dict hd dd (by rw [← rel.length]; rw [sizeLine_eq] at z; omega) ?_;rw [← rel.length];exact h _ _ (I.tok _)
end
def QH (i:Expr):Prop:=∀ ov iv,subscripted i false ov iv=operate [ov,iv] (getItem ov iv)
theorem Nw {prog:Program} {env:Env} {value slice:Expr} {T id:String} {Q:VS}
  (hl:typeLookup (.type T) "__getitem__" = pure (some (.builtin id))) (hs:QH slice)
  (h:wpAny (model prog w) A (eval value env) (fun o s₁=>wpAny (model prog w) A (eval slice env) (fun i s₂=>s₂.TypeIs o T/\wpAny (model prog w) A (getItem o i) Q E s₂) E s₁) E s) :
  wpAny (model prog w) A (eval (.Subscript value slice pos) env) Q E s:=by
 refine Subscript_ (wpAny_mono h (fun o s₁ h₁=>wpAny_mono h₁ (fun i s₂ h₂=>?_) fun _ _ x=>x) fun _ _ x=>x);obtain ⟨hT,h₂⟩:=h₂;unfold subscriptTail;refine wpAny_bind ?_;rw [getitemInPython_of_ne hT.not_modules];refine wpAny_bind (wpAny_specialOf hT hl ?_)
 have fin:wpAny (model prog w) A (subscripted slice false o i) (fun r s₃=>wpAny (model prog w) A (letTemporaryGo value o r >>= fun _=>pure r) Q E s₃) E s₂:=by
  rw [hs o i];exact wpAny_operating (wpAny_mono h₂ (fun r s₃ h₃=>wpAny_bind (wpAny_letTemporaryGo (wpAny_pure h₃))) fun _ _ x=>x)
 first
  | exact wpAny_pure (wpAny_bind fin)
  | exact wpAny_bind (wpAny_pure (wpAny_bind fin))
  | exact wpAny_bind fin
theorem IR {y:V} {o:Option V} (I:Inv X aa σ H s) (g:IQ H a y o):s.TypeIs (.ref a) "dict" := by
 rcases g with ⟨kvs,k,e,_,_⟩ | ⟨kvs,k,b,e,_,_,_⟩
 ·obtain ⟨_,_,vs,_,dd⟩:=CQ I.hok e;exact dd.typeIs
 ·obtain ⟨_,_,xs,_,dd⟩:=Go I.hok e;exact dd.typeIs
def QI (td ty:TE):TE:=fun σ H Q=>td σ H fun x H1=>ty σ H1 fun y H2=>∃ a v,x=.ref a/\IQ H2 a y (some v)/\Q v H2
def Qx (ty td:TE):TE:=fun σ H Q=>ty σ H fun y H1=>td σ H1 fun x H2=>∃ a o,x=.ref a/\IQ H2 a y o/\Q (.bl o.isSome) H2
def Nx (ty td:TE):TE:=fun σ H Q=>ty σ H fun y H1=>td σ H1 fun x H2=>∃ a o,x=.ref a/\IQ H2 a y o/\Q (.bl (!o.isSome)) H2
def QJ (td ty tv:TE):TS:=fun D σ H=>tv σ H fun v H1=>td σ H1 fun x H2=>ty σ H2 fun y H3=>∃ a H4,x=.ref a/\DPut H3 a y v H4/\D.nx σ H4
section
variable {o i value:Expr} {pos' tpos:Pos} {td ty tv:TE}
theorem BA (hu:X.A.units + 1 < cLine) (ho:PE X o td) (hi:PE X i ty) (hs:QH i):PE X (.Subscript o i pos) (QI td ty):=by
 intro aa s σ H Q I h;refine Nw PySem.F.slot_dict_getitem.lookup hs (thn (ho aa s σ H _ I h) fun u s1 ⟨x,H1,I1,rx,q1⟩=>thn (hi aa s1 σ H1 _ I1 q1) fun iv s2 ⟨y,H2,I2,ry,a,v,ex,g,q2⟩=>?_);subst ex;obtain rfl:u=Value.ref a:=rx;exact ⟨IR I2 g,Ku hu I2 g ry fun w' s3 I3 rw'=>⟨v,H2,I3,rw',q2⟩⟩
theorem Eg (hu:X.A.units + 1 < cLine) (hi:PE X i ty) (ho:PE X o td):PC X .In i o (Qx ty td):=by
 intro aa s σ H Q I h;refine thn (hi aa s σ H _ I h) fun iv s1 ⟨y,H1,I1,ry,q1⟩=>thn (ho aa s1 σ H1 _ I1 q1) fun u s2 ⟨x,H2,I2,rx,a,ov,ex,g,q2⟩=>?_;subst ex;obtain rfl:u=Value.ref a:=rx;exact Qw hu I2 g ry fun s3 I3=>⟨.bl ov.isSome,H2,I3,rfl,q2⟩
theorem DB (hu:X.A.units + 1 < cLine) (hi:PE X i ty) (ho:PE X o td):PC X .NotIn i o (Nx ty td):=by
 intro aa s σ H Q I h;refine thn (hi aa s σ H _ I h) fun iv s1 ⟨y,H1,I1,ry,q1⟩=>thn (ho aa s1 σ H1 _ I1 q1) fun u s2 ⟨x,H2,I2,rx,a,ov,ex,g,q2⟩=>?_;subst ex;obtain rfl:u=Value.ref a:=rx;exact Nv hu I2 g ry fun s3 I3=>⟨.bl (!ov.isSome),H2,I3,rfl,q2⟩
theorem DC (hu:X.A.units + 1 < cLine) (ho:PE X o td) (hi:PE X i ty) (hv:PE X value tv) (hs:swapsWith value (some (.Subscript o i pos')) pos.line X.env=pure false) :
  PS X (.Assign [.Subscript o i pos'] value pos) (QJ td ty tv):=by
 intro aa s σ H D I h;refine wpAny_Assign_Subscript (thn (hv aa s σ H _ I h) fun r s1 ⟨v,H1,I1,rv,q1⟩=>thn (ho aa s1 σ H1 _ I1 q1) fun u s2 ⟨x,H2,I2,rx,q2⟩=>thn (hi aa s2 σ H2 _ I2 q2) fun iv s3 ⟨y,H3,I3,ry,a,H4,ex,g,q3⟩=>?_) hs;subst ex;obtain rfl:u=Value.ref a:=rx;exact Kv hu I3 g ry rv fun s4 I4=>⟨σ,H4,I4,q3⟩
end
theorem FW (h:Heap) (hb:sysModules < h.objs.size):ObjOk P w H (h.push { cls:=.type "dict", data:=.dict #[] }) h.objs.size (.dK []) :=
 ⟨Nat.zero_le _,beq_eq_false_iff_ne.mpr (Ne.symm (Nat.ne_of_lt hb)),[],.nil,Heap.DictOf.new h⟩
def O3:TE:=fun _ H Q=>∀ p,H p=none->Q (.ref p) (upd H p (.dK []))
section
theorem B4:PE X (.Dict [] [] pos) O3:=fun aa s σ H Q I h =>
 wpAny_Dict_empty ⟨.ref s.heap.objs.size,_,I.laid (a:=s.heap.objs.size) (o:=.dK []) (t':=s.toks) (fun _ _ q=>get?_push_of_some _ q) (Nat.le_refl _) (FW s.heap I.big),rfl,h _ (I.hok.fresh (Nat.le_refl _))⟩
end
def Jc:List (TE × TE)->St->Hp->(List (V × V)->Hp->Prop)->Prop
  | [],_,H,Q=>Q [] H
  | (tk,tv) :: r,σ,H,Q=>tk σ H fun x H1=>tv σ H1 fun y H2=>Jc r σ H2 fun ps H3=>Q ((x,y) :: ps) H3
abbrev VV:List (V × V)->List (Value × Value)->Prop:=Paired fun p q=>RelV p.1 q.1/\RelV p.2 q.2
def PPs (X:Cx) (pos:Pos) (keys:List (Option Expr)) (values:List Expr) (trs:List (TE × TE)):Prop :=
 ∀ (aa:LO) (s:Shared) (σ:St) (H:Hp) (Q:List (V × V)->Hp->Prop),Inv X aa σ H s->Jc trs σ H Q ->
  wpAny (model X.prog X.w) X.A (evalPairs (pairTrees keys values X.env pos)) (fun vs s'=>∃ ps H',Inv X aa σ H' s'/\VV ps vs/\Q ps H') X.xe s
theorem Ny:PPs X pos [] [] []:=fun aa s σ H Q I h=>pairTrees_nil_walk ⟨[],H,I,.nil,h⟩
theorem Dz {k v:Expr} {ks:List (Option Expr)} {vs:List Expr} {tk tv:TE} {trs:List (TE × TE)} (hk:PE X k tk) (hv:PE X v tv) (hr:PPs X pos ks vs trs) :
  PPs X pos (some k :: ks) (v :: vs) ((tk,tv) :: trs):=fun aa s σ H Q I h =>
 pairTrees_cons_walk (thn (hk aa s σ H _ I h) fun u s1 ⟨x,H1,I1,rx,q1⟩=>thn (hv aa s1 σ H1 _ I1 q1) fun w2 s2 ⟨y,H2,I2,ry,q2⟩ =>
  thn (hr aa s2 σ H2 _ I2 q2) fun ws s3 ⟨ps,H3,I3,rel,q3⟩=>⟨(x,y) :: ps,H3,I3,.cons ⟨rx,ry⟩ rel,q3⟩)
def Eh (kvs more:LK):LK:=more.foldl (fun acc kv=>A1 acc kv.1 kv.2) kvs
theorem KV.merge:∀ {more:LK} {rs:List (Key × Value)} {kvs:LK} {vs:List (Key × Value)},KV more rs->KV kvs vs->KV (Eh kvs more) (merged vs rs):=by
 intro more rs kvs vs r;unfold KV at r;induction r generalizing kvs vs with
 | nil=>intro q; exact q
 | @cons p q ps qs h t ih =>
  intro r0
  have e:KV (A1 kvs p.1 p.2) (stored vs q.1 q.2):=by
   have:=r0.put p.1 h.2;rw [← h.1]; exact this
  exact ih e
theorem DL:∀ (more kvs:LK),(Eh kvs more).length <= kvs.length + more.length
 | [],kvs=>by show kvs.length <= kvs.length + 0; omega
 | p :: r,kvs=>by
  have h1:=DL r (A1 kvs p.1 p.2);have h2:=BL kvs p.1 p.2;show (Eh (A1 kvs p.1 p.2) r).length <= _;rw [length_cons]; omega
theorem FX {P:Program} {w:World}:∀ {kvs:LK} {ws:List (Value × Value)},VV (kvs.map fun kv=>(kV kv.1,kv.2)) ws->∃ rs,Carries (Ab P w) ws rs/\KV kvs rs
 | [],_,r=>by rw [map_nil] at r; cases r; exact ⟨[],True.intro,.nil⟩
 | p :: kvs,_,r=>by
  rw [map_cons] at r;cases r with
  | @cons a b as bs h t =>
   obtain ⟨rs,c,q⟩:=FX (P:=P) (w:=w) t;obtain ⟨b1,b2⟩:=b;exact ⟨(p.1,b2) :: rs,⟨Dx h.1,rfl,c⟩,.cons ⟨rfl,h.2⟩ q⟩
def QK (trs:List (TE × TE)):TE:=fun σ H Q=>∀ p,H p=none->Jc trs σ (upd H p (.dK [])) fun ps H2=>H2 p=some (.dK [])/\∃ kvs:LK,ps=kvs.map (fun kv=>(kV kv.1,kv.2))/\kvs.length <= 15/\Q (.ref p) (upd H2 p (.dK (Eh [] kvs)))
theorem Nz {keys:List (Option Expr)} {values:List Expr} {trs:List (TE × TE)} (h:PPs X pos keys values trs) (be:keys.all (·.isSome)=true) (hl:keys.length=values.length) (h0:keys ≠ [])
  (h15:keys.length <= 15):PE X (.Dict keys values pos) (QK trs):=by
 intro aa s σ H Q I q;have hn:=I.hok.fresh (Nat.le_refl s.heap.objs.size);have I1:=I.laid (a:=s.heap.objs.size) (o:=.dK []) (h':=s.heap.push { cls:=.type "dict", data:=.dict #[] }) (t':=s.toks) (fun _ _ q=>get?_push_of_some _ q) (Nat.le_refl _) (FW s.heap I.big);refine wpAny_Dict_walk (knd:=Ab X.prog X.w) be hl h0 h15 (thn (h aa _ σ _ _ I1 (q _ hn)) fun ws s2 ⟨ps,H2,I2,rel,e,kvs,ep,lk,q2⟩=>?_);subst ep;obtain ⟨rs,c,rk⟩:=FX (P:=X.prog) (w:=X.w) rel;obtain ⟨z,hd,vs0,r0,dd⟩:=KM I2.hok e;cases r0;refine ⟨rs,c,dd,fun h' dd' hs=>⟨.ref s.heap.objs.size,_,?_,rfl,q2⟩⟩
 have hz:(Eh [] kvs).length <= sizeLine:=by
  have h1:=DL kvs [];rw [length_nil] at h1;rw [sizeLine_eq]; omega
 have he:∃ q,h'.get? s.heap.objs.size=some q:=let ⟨q,_,_,hq,_⟩:=dd'; ⟨q,hq⟩
 exact Dy I2 (by rw [e]; exact True.intro) hs he (FV hz hd (rk.merge .nil) dd')
def IsD (H:Hp) (a:Addr):Prop:=(∃ kvs,Rd H a (.dK kvs))\/∃ kvs,Rd H a (.dT kvs)
theorem MA (I:Inv X aa σ H s) (d:IsD H a) :
  s.TypeIs (.ref a) "dict" /\ (∀ b,Value.ref a=.ref b->∃ ob,s.heap.get? b=some ob/\ob.dict=none)/\(a == sysModules)=false:=by
 rcases d with ⟨kvs,e⟩ | ⟨kvs,e⟩
 ·obtain ⟨_,hd,vs,_,dd⟩:=CQ I.hok e;refine ⟨dd.typeIs,fun b q=>?_,hd⟩;cases q;obtain ⟨ob,_,_,h1,h2,_⟩:=dd;exact ⟨ob,h1,h2.2.1⟩
 ·obtain ⟨_,hd,xs,_,dd⟩:=Go I.hok e;refine ⟨dd.typeIs,fun b q=>?_,hd⟩;cases q;obtain ⟨ob,_,_,h1,h2,_⟩:=dd;exact ⟨ob,h1,h2.2.1⟩
end L2
namespace Att
open PySem PySem.W PySem.Calls PyProof.Rows
theorem E7 {P:Params}:∀ (ns:List Int) (vs:List Value),WellAll P h vs (ns.map WData.int)->IntsAre vs ns:=by
 intro ns;induction ns with
 | nil =>
  intro vs w;rw [map_nil] at w;cases w;exact .nil
 | cons n ns ih =>
  intro vs w;rw [map_cons] at w;cases w with
  | cons a b =>
   cases a;exact .cons _ _ (ih _ b)
theorem Kw {l:OpenLaw} {n:Nat} (hn:l.most=some n) {P:Params} {args:List WData} {vals:List Value}
    (bw:l.row.toRowW.claim.pre args=true) (hwl:WellAll P h vals args) :
    ∃ a vs ns,vals=[Value.ref a]/\args=[WData.list (ns.map WData.int)]/\h.get? a=some { cls:=.type "list", data:=.seq vs.toArray }/\IntsAre vs ns/\ns.length <= n:=by
  have ai:WShape.hasAll [] args [.list .int]=true:=(pre_splitW bw).1;have hc:l.pre.holds [] { args:=args }=true:=(pre_splitW bw).2;obtain ⟨d,r,rfl,h1,h2⟩:=hasAllW_cons ai;obtain rfl:=hasAllW_nil h2;obtain ⟨xs,rfl,h3⟩:=hasW_list h1;obtain ⟨ns,rfl⟩:=items_int h3
  have bd:ns.length <= n:=by
    unfold OpenLaw.pre at hc
    have h4:(WTm.not (.lt (.lit (.int (n:Int))) (.len (.arg 0)))).holds [] { args:=[.list (ns.map .int)] }=true:=by
      have h4:=(holds_andW hc).1;rw [hn] at h4;exact h4
    have h5:=condW_of h4 (w_not (w_lt w_lit (w_len_list (w_arg rfl))));rw [length_map] at h5;refine Nat.le_of_not_lt fun q=>?_;have q':(n:Int) < ((ns.length:Nat):Int):=by omega
    first
      | (rw [decide_eq_true q'] at h5; exact absurd h5 (by decide))
      | (simp at h5; omega)
  cases hwl with
  | cons w1 w2 =>
    cases w2;cases w1 with
    | list ho be=>exact ⟨_,_,ns,rfl,rfl,ho,E7 ns _ be,bd⟩
theorem Kx (l:OpenLaw) (args:List WData):l.row.toRowW.claim.post args (.bool true) args=true :=
 postW_of (r:=l.row.toRowW) (X:=(true == true))
  (show WShape.has [] (.bool true) .bool=true by first | rfl | decide | simp [WShape.has,WShape.arms,WShape.armsAll])
  (show (WTm.eq .res (.lit (.bool true))).value [] { args:=args,res:=some (.bool true),after:=args }=some (.bool (true == true)) from w_eq_bool (w_res rfl) w_lit) rfl
theorem attach_call {l:OpenLaw} {n:Nat} {q:Program} {loose:List Str} {XP:(Str->Option Value)->Heap->Prop} {YP:World->Heap->Prop} {d:DefRec}
  (hn:l.most=some n) (hdf:d.params.defaults=[])
  (call:∀ (w:World) (s₀ s₁:Shared) (mg mb:SV) (fa:Addr) (o:Obj) (pm cd doc:Value) (a:Addr) (vs:List Value) (ns:List Int),
   Ground q loose [] XP w s₀ mg mb s₁.heap->YP w s₁.heap ->
   s₁.heap.get? fa=some o->o.data=.func (docDef d.name d.params d.body d.scope pm cd doc)->s₁.heap.CodeRec cd d.name->mg d.name=some (.ref fa) ->
   s₁.heap.get? a=some { cls:=.type "list", data:=.seq vs.toArray }->IntsAre vs ns->ns.length <= n->s₁.gens=#[] ->
   codeAny (model l.prog w) callerA (.call (.ref fa) ⟨[.ref a],[]⟩) (fun r s'=>r=.ok (.ret (.bool true))/\OldK s₁.heap s'.heap/\s'.os=s₁.os/\AllBare s'.gens) s₁) :
  WalkO q loose XP YP l.row.toRowW d [] (fun f vs=>PySem.call f vs):=by
 intro w s₀ s₁ mg mb G Y fa o pm cd doc dV kV ho hd hcd hD hmg hg args vals as bw hlay hrd hwl hlo;obtain rfl:dV=.none:=Dflts.none hD hdf;obtain rfl:kV=.none:=Dflts.noKw hD;obtain ⟨a,vs,ns,rfl,rfl,ca,bh,bd⟩:=Kw hn bw hwl;refine enter_call (codeAny_mono (call w s₀ s₁ mg mb fa o pm cd doc a vs ns G Y ho (fd_plain hd) hcd hmg ca bh bd hg) fun r s' hq=>?_);obtain ⟨rfl,h2,h3,h4⟩:=hq;exact ⟨.inl ⟨.bool true,.bool true,[],rfl,fun _=>rfl,.bool true,Kx l _,fun _=>⟨List.Pairwise.nil,fun _ hm=>(nomatch hm)⟩⟩,h2,h3,h4⟩
end Att
namespace L2
open PySem PySem.Spec PyProof.Rows
theorem DD:∀ {vs:List Value} {ns:List Int},IntsAre vs ns->Vals (ns.map V.int) vs
 | _,_,.nil=>.nil
 | _,_,.cons n t h=>.cons ⟨t,rfl⟩ (DD h)
def O4 (H:Hp):Prop:=∀ b,H b=none\/∃ o xs,H b=some (.frz o (.lst xs))
theorem MB {mb:SV} {CX:CXT} {k:Nat} {fa:Addr} {fd:FuncData} {sp:Sp} {s₁:Shared} {vs:List Value} {ns:List Int}
  (KX:K.In s₁.heap) (hns:s₁.heap.Ns mainGlobals mg) (hb:s₁.heap.Ns builtinsNs mb) (hbb:∀ x:Str,x ≠ "__name__" -> mb x=bootBuiltins x) (hlim:s₁.heap.NoLimit) (hg:s₁.gens=#[])
  (ha:s₁.heap.get? a=some { cls:=.type "list", data:=.seq vs.toArray }) (hi:IntsAre vs ns) (hl:ns.length <= sizeLine) (hr:Room k callerA)
  (F:∀ base:Heap,K.In base->base.Ns mainGlobals mg->Af P w K mg base CX k fa fd [x] sp) (hbind:∀ (s:Shared) (u:Value),BindsTo s fd ⟨[u],[]⟩ [(x,u)])
  (hsp:∀ H:Hp,O4 H->SqL K H a (ns.map V.int)->sp [.ref a] H (fun v _=>v=.bl true) fun _ _ _=>False)
  (hCX:∀ H e s',CX [] H s₁ (fun _ _ _=>False) e s'->False) :
  codeAny (model P w) callerA (.call (.ref fa) ⟨[.ref a],[]⟩) (fun r s'=>r=.ok (.ret (.bool true))/\OldK s₁.heap s'.heap/\s'.os=s₁.os/\AllBare s'.gens) s₁:=by
 have rv:=DD hi;have lenV:=hi.length
 have core:∀ H:Hp,O4 H->SqL K H a (ns.map V.int)->HOk P w H s₁.heap->(∀ b,H b ≠ none->b=a)->(H a ≠ none->K.lookup a=none) ->
   codeAny (model P w) callerA (.call (.ref fa) ⟨[.ref a],[]⟩) (fun r s'=>r=.ok (.ret (.bool true))/\OldK s₁.heap s'.heap/\s'.os=s₁.os/\AllBare s'.gens) s₁:=by
  intro H hO hS hok hA hK;have base_of:∀ {b:Addr} {o:Obj},s₁.heap.get? b=some o->H b=none->(HE s₁.heap H).get? b=some o:=fun e n=>Lg e n
  have noA:∀ {b:Addr} {o:Obj} {es:Array DictEntry} {ep:Nat},s₁.heap.get? b=some o->o.data=.dict es ep->H b=none:=fun {b o es ep} e d=>by
   cases q:H b with
   | none=>rfl
   | some u =>
    have e':b=a:=hA b (by rw [q]; simp);subst e';rw [ha] at e; cases e;have d':Data.seq vs.toArray _=Data.dict es ep:=d;cases d'
  have nsK:∀ {b:Addr} {m:SV},s₁.heap.Ns b m->(HE s₁.heap H).Ns b m:=fun {b m} ⟨o,es,ep,e,d,r⟩=>⟨o,es,ep,base_of e (noA e d),d,r⟩
  have hKb:K.In (HE s₁.heap H):=fun b o e=>base_of (KX b o e) (by
   cases q:H b with
   | none=>rfl
   | some u =>
    have e':b=a:=hA b (by rw [q]; simp);subst e'
    rw [hK (by rw [q]; simp)] at e; cases e)
  have hM:Mod K mg (HE s₁.heap H):=⟨hKb,nsK hns,⟨mb,nsK hb,hbb⟩,let ⟨mc,h1,h2⟩:=hlim; ⟨mc,nsK h1,h2⟩⟩;have e0:Env0 P w K mg (HE s₁.heap H) callerA [] s₁ H:=⟨rfl,hM,fun b o e=>Ni e,Nat.le_of_eq (Kl _ _),trivial,fun b hb=>absurd (show b ∈ ([]:List Addr) from hb) (by simp),hok,.of_eq hg⟩;refine codeAny_mono ((F _ hKb (nsK hns)).run callerA [] s₁ H ⟨[.ref a],[]⟩ [.ref a] [.ref a] _ _ hr e0 (hbind s₁ (.ref a)) (.cons rfl .nil) (hsp H hO hS)) fun r s' h=>?_;cases r with
  | error e=>exact (hCX H e s' h).elim
  | ok fl =>
   cases fl with
   | next=>exact False.elim h
   | brk=>exact False.elim h
   | cont=>exact False.elim h
   | ret u =>
    obtain ⟨v,H',os,bare,un,hok',r',q⟩:=h;have q':v=.bl true:=q;subst q';obtain rfl:u=Value.bool true:=r';refine ⟨rfl,OldK.of_keep fun b o e=>?_,os,bare⟩;cases q:H b with
    | none=>exact un.keep b o e q (by intro z; exact absurd (show b ∈ ([]:List Addr) from z) (by simp)) (by simp)
    | some u =>
     rcases hO b with z | ⟨ob,xs,z⟩
     ·rw [q] at z; cases z
     ·have z2:=un.frzs b ob _ z;obtain ⟨e1,_⟩:=hok b _ z;obtain ⟨e2,_⟩:=hok' b _ z2;rw [e] at e1; cases e1;exact e2
 cases hk:K.lookup a with
 | some o =>
  have e:=KX a o hk;rw [ha] at e;cases e;refine core (fun _=>none) (fun _=>.inl rfl) (.inr ⟨_,vs.toArray,_,hk,rfl,rfl,rfl,by rw [size_toArray,lenV]; exact hl,by simpa using rv⟩) (fun b u z=>by have z':(none:Option HO)=some u:=z; cases z') (fun b z=>absurd rfl z) fun z=>absurd rfl z
 | none =>
  refine core (fun b=>if b=a then some (.frz { cls:=.type "list", data:=.seq vs.toArray } (.lst (ns.map V.int))) else none) (fun b=>?_) (.inl (.inr ⟨{ cls:=.type "list", data:=.seq vs.toArray },if_pos rfl⟩)) (fun b u z=>?_) (fun b z=>?_) fun _=>hk
  ·by_cases hb:b=a
   ·exact .inr ⟨_,_,if_pos hb⟩
   ·exact .inl (if_neg hb)
  ·by_cases hb:b=a
   ·have z':=(if_pos hb).symm.trans z;cases z';subst hb;exact ⟨ha,by rw [length_map]; exact hl,vs,_,rv,ha⟩
   ·have z':=(if_neg hb).symm.trans z;cases z'
  ·by_cases hb:b=a
   ·exact hb
   ·exact absurd (if_neg hb) z
end L2
namespace L2
open PySem PySem.Spec PyProof.Rows
theorem N0 {l:W.OpenLaw} {n k:Nat} {q:Program} {loose:List Str} {XP:(Str->Option Value)->Heap->Prop} {YP:World->Heap->Prop} {d:DefRec} {K:Params->FG} {CX:World->CXT} {sp:World->Sp}
  (hn:l.most=some n) (hn2:n <= sizeLine) (hdf:d.params.defaults=[]) (hr:Room k callerA)
  (hY:∀ (w:World) (h:Heap),YP w h->(K w.params).In h)
  (F:∀ (w:World) (mg:SV) (fa:Addr) (h:Heap),(K w.params).In h->h.Ns mainGlobals mg->mg d.name=some (.ref fa) ->
   ∃ fd:FuncData,(∀ (s:Shared) (u:Value),BindsTo s fd ⟨[u],[]⟩ [(x,u)]) /\
    ∀ base:Heap,(K w.params).In base->base.Ns mainGlobals mg->Af l.prog w (K w.params) mg base (CX w) k fa fd [x] (sp w))
  (hsp:∀ (w:World) (H:Hp) (a:Addr) (ns:List Int),ns.length <= n->O4 H->SqL (K w.params) H a (ns.map V.int)->sp w [.ref a] H (fun v _=>v=.bl true) fun _ _ _=>False)
  (hCX:∀ (w:World) (H:Hp) (s:Shared) (e:Value) (s':Shared),CX w [] H s (fun _ _ _=>False) e s'->False) :
  W.WalkO q loose XP YP l.row.toRowW d [] (fun f vs=>PySem.call f vs):=by
 refine Att.attach_call hn hdf fun w s₀ s₁ mg mb fa o pm cd doc a vs ns G Y ho hd hcd hmg ca bh bd hg=>?_;have KX:=hY w _ Y;obtain ⟨fd,hb,hF⟩:=F w mg fa _ KX G.T.g hmg;exact MB KX G.T.g G.T.b G.T.builtins G.T.nolimit hg ca bh (Nat.le_trans bd hn2) hr hF hb (fun H hO hS=>hsp w H a ns bd hO hS) fun H e s'=>hCX w H s₁ e s'
end L2
namespace L2
open PySem PySem.Spec PyProof.Rows
def inClass (s:Stmt) (j:Nat):Stmt:=match s with
 | .ClassDef _ _ _ body _ _ _ _ _ _ _=>body.getD j (.Pass ⟨0,0,0,0⟩)
 | _=>.Pass ⟨0,0,0,0⟩
def defArgs (s:Stmt):Arguments:=match s with
 | .FunctionDef _ a _ _ _ _ _ _ _ _=>a
 | _=>{ posonlyargs:=[],args:=[],vararg:=none,kwonlyargs:=[],kw_defaults:=[],kwarg:=none,defaults:=[] }
def defBody (s:Stmt):List Stmt:=match s with
 | .FunctionDef _ _ b _ _ _ _ _ _ _=>b
 | _=>[]
def defScope (s:Stmt):Scope:=match s with
 | .FunctionDef _ _ _ _ _ _ sc _ _ _=>sc
 | _=>{ kind:=.function,names:=[],isGenerator:=false,isCoroutine:=false }
abbrev CX0:CXT:=fun _ _ _ _ _ _=>False
abbrev E0:XK:=fun _ _ _=>False
theorem AM:DR CX0 X E0:=fun _ _ _ _ _ _ _ h=>h.elim
structure Fun (K:FG) (x qual:Str) (st:Stmt) (f:Addr) (fd:FuncData):Prop where
 ex:∃ (oc:Value) (od:Option Addr) (kV doc pm:Value) (an:Option Addr) (ac ct:Value) (osl:Array (Option Value)),
  fd=W.fnOf x qual (defArgs st) (defBody st) (defScope st) .none kV doc pm an ac ct/\K.lookup f=some ⟨oc,od,.func fd,osl⟩/\W.codeIn K ac qual=true
 kp:W.keepIn K (.ref f)=true
section
theorem Fun.ok {qual:Str} {st:Stmt} {fd:FuncData} {ps:List Str} {k:Nat} {sp:Sp} (F:Fun K x qual st f fd) (S:AL N ps (defScope st)) (len:∀ vs H Q E,sp vs H Q E->vs.length=ps.length)
  (b9:∀ (ac:Value) (A:Around) (outer:List Env) (s:Shared) (H:Hp) (vs:List V) (Q:VK) (E:XK),Room k (A.deeper (envOfC qual (defScope st) s.heap.objs.size f ac))->sp vs H Q E ->
   ∃ t,PSs (Ks CX0 P w K mg base N qual (defScope st) f ac A outer s H E).nox (defBody st) t/\t { nx:=fun _ H'=>Q .non H',rt:=Q } (E3 N vs) H):Af P w K mg base CX0 (k + 1) f fd ps sp:=by
 obtain ⟨oc,od,kV,doc,pm,an,ac,ct,osl,rfl,lk,hcd⟩:=F.ex;refine QB lk hcd S len fun A outer s H vs Q E hr hsp=>?_;obtain ⟨t,h,q⟩:=b9 ac A outer s H vs Q E hr hsp;exact ⟨t,h.nox,q⟩
theorem Fun.binds {qual:Str} {st:Stmt} {fd:FuncData} {ps:List Str} (F:Fun K x qual st f fd)
  (h:∀ (kV doc pm:Value) (an:Option Addr) (ac ct:Value) (us:List Value),us.length=ps.length->bindArgs (W.fnOf x qual (defArgs st) (defBody st) (defScope st) .none kV doc pm an ac ct) ⟨us,[]⟩=pure (ps.zip us)):Binds K fd ps []:=by
 obtain ⟨oc,od,kV,doc,pm,an,ac,ct,osl,rfl,lk,hcd⟩:=F.ex;exact .all (h kV doc pm an ac ct)
theorem fun_mk {qual:Str} {st:Stmt} {oc:Value} {od an:Option Addr} {osl:Array (Option Value)} {kV doc pm ac ct:Value} (l:K.lookup f=some ⟨oc,od,.func (W.fnOf x qual (defArgs st) (defBody st) (defScope st) .none kV doc pm an ac ct),osl⟩)
  (c:W.codeIn K ac qual=true) (k:W.keepIn K (.ref f)=true):Fun K x qual st f (W.fnOf x qual (defArgs st) (defBody st) (defScope st) .none kV doc pm an ac ct):=⟨⟨oc,od,kV,doc,pm,an,ac,ct,osl,rfl,l,c⟩,k⟩
end
theorem B5 {k:Nat} (hr:Room k A):A.units + 1 < cLine:=Nat.lt_of_le_of_lt (Nat.add_le_add_left (by decide:1 <= 64) _) hr.units
theorem AU {n:Nat} (h:n <= 1000):n < sizeLine:=Nat.lt_of_le_of_lt h (by decide)
section
theorem pv (i:Nat) (hN:X.N[i]?=some x:=by rfl) (hv:Vis X.env.scope x:=by first | exact Or.inl rfl | exact Or.inr (Or.inl rfl) | exact Or.inr (Or.inr rfl)) (hd:(x == ("__debug__" : Str))=false:=by decide)
  (hcd:(x == ("__classdict__" : Str))=false:=by decide):PE X (.Name x pos) (Pt i):=Oo hN hv hd hcd
theorem Ky:BR X (.builtin "len") (fun xs H Q=>∃ a kvs,xs=[V.ref a]/\H a=some (.dK kvs)/\Q (.int kvs.length) H):=by
 intro aa s σ H xs us Q I r h;obtain ⟨a,kvs,rfl,ha,q⟩:=h;obtain ⟨u,rfl,ru⟩:=B2 r;cases ru;exact QG I (.inl ha) fun t s' I'=>⟨.int kvs.length,H,I',⟨t,rfl⟩,q⟩
end
theorem Aw {A B:Prop} (h:B):if false=true then A else B:=by
 rw [if_neg Bool.false_ne_true];exact h
theorem CA {A B:Prop} (h:A):if true=true then A else B:=by
 rw [if_pos rfl];exact h
theorem Bc {c A B:Prop} [Decidable c] (h1:c->A) (h2:¬ c->B):if c then A else B:=by
 by_cases h:c
 ·rw [if_pos h];exact h1 h
 ·rw [if_neg h];exact h2 h
theorem KN {c A B:Prop} [Decidable c] (hc:c) (h:B):if (!decide c)=true then A else B:=by
 rw [decide_eq_true hc];exact Aw h
def Same (H H':Hp):Prop:=∀ b o,H b=some o->H' b=some o
theorem Same.refl (H:Hp):Same H H:=fun _ _ h=>h
theorem Same.trans {H1 H2:Hp} (a:Same H H1) (b:Same H1 H2):Same H H2:=fun c o h=>b c o (a c o h)
theorem Same.seq (e:Same H H') (h:SqL K H a xs):SqL K H' a xs:=by
 rcases h with (h | ⟨o,h⟩) | h
 ·exact .inl (.inl (e _ _ h))
 ·exact .inl (.inr ⟨o,e _ _ h⟩)
 ·exact .inr h
section
variable {κ:Type} [DecidableEq κ]
theorem KP:∀ {l:List κ} {k:κ},l.Nodup->¬ k ∈ l->(l++[k]).Nodup
 | [],k,_,_=>by simp
 | a :: r,k,h,hk=>by
  obtain ⟨h1,h2⟩:=nodup_cons.mp h;show (a :: (r++[k])).Nodup;refine nodup_cons.mpr ⟨fun m=>?_,KP h2 fun m=>hk (mem_cons.mpr (Or.inr m))⟩;rcases mem_append.mp m with q | q
  ·exact h1 q
  ·exact hk (mem_cons.mpr (Or.inl (mem_singleton.mp q).symm))
end
end L2
end
section
variable {X:L2.Cx} {H:L2.Hp} {H':L2.Hp} {s:PySem.Shared} {pos:PySem.Pos} {σ:L2.St} {P:PySem.Program} {w:PySem.World} {A:PySem.Around} {aa:LO} {x:PySem.Str} {a:PySem.Addr} {K:FG} {C:PySem.Addr} {E:VS} {h:PySem.Heap} {us:List PySem.Value} {f:PySem.Addr} {u:PySem.Value} {xs:List L2.V} {e:PySem.Expr} {te:L2.TE} {base:PySem.Heap} {N:List PySem.Str} {mg:SV}
section
namespace L2
open PySem PySem.Spec PyProof.Rows
theorem Inv.track {o:HO} (I:Inv X aa σ H s) (hn:H a=none) (hL:a ≠ X.env.locals) (h1:a ∈ X.ex\/X.s₀.heap.objs.size <= a)
  (h2:∀ x c,X.env.cells.lookup x=some c->c ≠ a) (h3:∀ p ∈ X.pn++aa,p.1 ≠ a) (new:ObjOk X.prog X.w (upd H a o) s.heap a o):Inv X aa σ (upd H a o) s:=by
 have a0:∀ b u,H b=some u->b ≠ a:=fun b u e=>AG e hn
 refine I.step (h':=s.heap) (H':=upd H a o) (g':=s.gens) (t':=s.toks) (d':=s.drawn) (ch:=[a])
  (fun b hb=>by have e:b=a:=by simpa using hb
                subst e; exact ⟨h1,hL,h2,h3⟩)
  (fun b o _ _ _ e _=>e) (fun b o _ _ _ e _=>⟨o.slots,e⟩) (fun b o hc e n=>by rw [AH (by simpa using hc)]; exact n)
  (fun b o _ e=>⟨o,e⟩) (fun b xs e=>by rw [AH (a0 b _ e)]; exact e) (fun b o u e=>by rw [AH (a0 b _ e)]; exact e)
  (fun b ps e=>⟨#[],by rw [AH (a0 b _ e),e]; simp⟩) (fun m h=>h) (fun b u e=>?_) I.bare
 by_cases hb:b=a
 ·subst hb; rw [AB] at e; cases e; exact new
 ·rw [AH hb] at e;exact (I.hok b u e).stay (fun c v _ q=>q) (fun c q=>by rw [AH (a0 c _ q)]; exact q) fun c xs q=>by rw [AH (a0 c _ q)]; exact q
structure CompFits (osc sc:Scope) (N N':List Str) (ix:List (Option Nat)):Prop where
 kind:sc.kind=.function
 nocell:∀ y ∈ sc.names,y.2 ≠ .cell
 free:∀ y ∈ sc.names,y.2=.free->osc.names.lookup y.1=some .cell\/osc.names.lookup y.1=some .free
 loc:∀ y ∈ sc.names,y.2=.local->sc.names.lookup y.1=some .local
 len:ix.length=N'.length
 slot:∀ (j:Nat) (x:Str) (i:Nat),N'[j]?=some x->ix[j]?=some (some i)->N[i]?=some x/\sc.names.lookup x=some .free
def Oh (sc:Scope) (N:List Str) (x:Str):Option Nat->Bool
 | none=>true
 | some i=>decide (N[i]?=some x) && decide (sc.names.lookup x=some .free)
def Cc (sc:Scope) (N:List Str):List Str->List (Option Nat)->Bool
 | [],[]=>true
 | x :: r,o :: os=>Oh sc N x o && Cc sc N r os
 | _,_=>false
def Gp (osc sc:Scope) (N N':List Str) (ix:List (Option Nat)):Bool :=
 decide (sc.kind=.function) && (sc.names.all fun y=>decide (y.2 ≠ .cell) && (decide (y.2 ≠ .free) || decide (osc.names.lookup y.1=some .cell) || decide (osc.names.lookup y.1=some .free)) &&
  (decide (y.2 ≠ .local) || decide (sc.names.lookup y.1=some .local))) && Cc sc N N' ix
theorem FY {sc:Scope} {N:List Str}:∀ {N':List Str} {ix:List (Option Nat)},Cc sc N N' ix=true->ix.length=N'.length
 | [],[],_=>rfl
 | [],_ :: _,h=>by simp [Cc] at h
 | _ :: _,[],h=>by simp [Cc] at h
 | x :: r,o :: os,h=>by
  simp only [Cc,Bool.and_eq_true] at h;simp only [length_cons,FY h.2]
theorem Gq {sc:Scope} {N:List Str}:∀ {N':List Str} {ix:List (Option Nat)},Cc sc N N' ix=true->∀ (j:Nat) (x:Str) (i:Nat),N'[j]?=some x->ix[j]?=some (some i)->N[i]?=some x/\sc.names.lookup x=some .free
 | [],_,_,_,_,_,e,_=>by simp at e
 | _ :: _,[],h,_,_,_,_,_=>by simp [Cc] at h
 | y :: r,o :: os,h,j,x,i,e1,e2=>by
  simp only [Cc,Bool.and_eq_true] at h;cases j with
  | zero =>
   simp only [List.getElem?_cons_zero,Option.some.injEq] at e1 e2;subst e1 e2;have h1:=h.1;simp only [Oh,Bool.and_eq_true,decide_eq_true_eq] at h1;exact h1
  | succ j =>
   simp only [List.getElem?_cons_succ] at e1 e2;exact Gq h.2 j x i e1 e2
theorem CompFits.of {osc sc:Scope} {N':List Str} {ix:List (Option Nat)} (h:Gp osc sc N N' ix=true):CompFits osc sc N N' ix:=by
 simp only [Gp,Bool.and_eq_true,decide_eq_true_eq,List.all_eq_true,Bool.or_eq_true] at h;obtain ⟨⟨h1,h2⟩,h3⟩:=h;refine ⟨h1,fun y hy=>(h2 y hy).1.1,fun y hy e=>?_,fun y hy e=>?_,FY h3,Gq h3⟩
 ·rcases (h2 y hy).1.2 with (z | z) | z
  ·exact absurd e z
  ·exact .inl z
  ·exact .inr z
 ·rcases (h2 y hy).2 with z | z
  ·exact absurd e z
  ·exact z
abbrev DS (env:Env):Str × NameKind->Str × NameKind:=fun (n,k)=>if (k == NameKind.free && env.scope.kind == .function && env.kindOf n == some .cell) then (n,NameKind.cell) else (n,k)
theorem IS (env:Env) (y:Str × NameKind):(DS env y).1=y.1:=by
 obtain ⟨n,k⟩:=y; simp only [DS]; split <;> rfl
theorem Kz (env:Env) (n:Str):(DS env (n,.free)).2=.cell\/(DS env (n,.free)).2=.free:=by
 simp only [DS]; split
 ·exact .inl rfl
 ·exact .inr rfl
theorem N1 (env:Env) (y:Str × NameKind) (h:y.2 ≠ .free):DS env y=y:=by
 obtain ⟨n,k⟩:=y;have e:(k == NameKind.free)=false:=by simpa using h
 simp only [DS,e,Bool.false_and,Bool.false_eq_true,if_false]
theorem DN {env:Env}:∀ {names:List (Str × NameKind)} {x:Str},names.lookup x=some .free->(names.map (DS env)).lookup x=some .cell\/(names.map (DS env)).lookup x=some .free
  | [],_,h=>by simp at h
  | (n,k) :: r,x,h=>by
    rw [map_cons]
    have e:DS env (n,k)=(n,(DS env (n,k)).2):=by
      have:=IS env (n,k);exact Prod.ext this rfl
    rw [e];cases hx:x == n with
    | true =>
      simp only [lookup_cons,hx] at h ⊢;cases h;rcases Kz env n with z | z
      · rw [z]; exact .inl rfl
      · rw [z]; exact .inr rfl
    | false =>
      simp only [lookup_cons,hx] at h ⊢;exact DN h
theorem E4 {env:Env}:∀ {names:List (Str × NameKind)} {x:Str},(∀ y ∈ names,y.2 ≠ .cell)->((names.map (DS env)).lookup x=some .cell\/(names.map (DS env)).lookup x=some .free)->(x,NameKind.free) ∈ names
  | [],_,_,h=>by simp at h
  | (n,k) :: r,x,hc,h=>by
    rw [map_cons] at h;have e:DS env (n,k)=(n,(DS env (n,k)).2):=Prod.ext (IS env (n,k)) rfl;rw [e] at h;cases hx:x == n with
    | true =>
      simp only [lookup_cons,hx] at h;have exn:x=n:=by simpa using hx
      subst exn;by_cases hk:k=.free
      · subst hk; exact mem_cons_self
      · rw [N1 env (x,k) hk] at h
        rcases h with z | z
        · have:k=.cell:=by simpa using z
          exact absurd this (hc (x,k) mem_cons_self)
        · have:k=.free:=by simpa using z
          exact absurd this hk
    | false =>
      simp only [lookup_cons,hx] at h;exact mem_cons_of_mem _ (E4 (fun y hy=>hc y (mem_cons_of_mem _ hy)) h)
theorem HM {env:Env} {f:Str × NameKind->List (Str × Addr)->Sem (ForInStep (List (Str × Addr)))}
  (h1:∀ y acc,y.2 ≠ .free->f y acc=pure (.yield acc)) (h2:∀ y acc c,y.2=.free->env.cells.lookup y.1=some c->f y acc=pure (.yield ((y.1,c) :: acc))) :
  ∀ (names:List (Str × NameKind)) (acc:List (Str × Addr)),(∀ y ∈ names,y.2=.free->∃ c,env.cells.lookup y.1=some c)->(∀ x c,acc.lookup x=some c->env.cells.lookup x=some c) ->
   ∃ cl,forIn names acc f=(pure cl:Sem _)/\(∀ x c,cl.lookup x=some c->env.cells.lookup x=some c)/\(∀ y ∈ names,y.2=.free->∃ c,cl.lookup y.1=some c)/\∀ x c,acc.lookup x=some c->∃ c',cl.lookup x=some c'
 | [],acc,_,ha=>⟨acc,rfl,ha,fun _ hy=>(nomatch hy),fun x c e=>⟨c,e⟩⟩
 | y :: r,acc,hn,ha=>by
  have hr:∀ z ∈ r,z.2=.free->∃ c,env.cells.lookup z.1=some c:=fun z hz=>hn z (mem_cons_of_mem _ hz);by_cases hy:y.2=.free
  ·obtain ⟨c,hc⟩:=hn y mem_cons_self hy
   obtain ⟨cl,e,p1,p2,p3⟩:=HM h1 h2 r ((y.1,c) :: acc) hr fun x d e=>by
    cases hx:x == y.1 with
    | true =>
     simp only [lookup_cons,hx,Option.some.injEq] at e;have:x=y.1:=by simpa using hx
     rw [this,← e]; exact hc
    | false =>
     simp only [lookup_cons,hx] at e;exact ha x d e
   refine ⟨cl,by rw [List.forIn_cons,h2 y acc c hy hc,pure_bind]; exact e,p1,fun z hz hf=>?_,fun x d e=>?_⟩
   ·rcases mem_cons.mp hz with rfl | hz
    ·exact p3 z.1 c (by simp [lookup_cons])
    ·exact p2 z hz hf
   ·cases hx:x == y.1 with
    | true=>exact p3 x c (by simp [lookup_cons,hx])
    | false=>exact p3 x d (by simp only [lookup_cons,hx]; exact e)
  ·obtain ⟨cl,e,p1,p2,p3⟩:=HM h1 h2 r acc hr ha;refine ⟨cl,by rw [List.forIn_cons,h1 y acc hy,pure_bind]; exact e,p1,fun z hz hf=>?_,p3⟩;rcases mem_cons.mp hz with rfl | hz
   ·exact absurd hf hy
   ·exact p2 z hz hf
theorem KQ {env:Env} {scope:Scope} (hn:∀ y ∈ scope.names,y.2=.free->∃ c,env.cells.lookup y.1=some c) :
  ∃ cl,closureFor scope env=pure cl/\(∀ x c,cl.lookup x=some c->env.cells.lookup x=some c)/\∀ y ∈ scope.names,y.2=.free->∃ c,cl.lookup y.1=some c:=by
 obtain ⟨cl,e,p1,p2,_⟩:=HM (env:=env) (f:=fun (x:Str × NameKind) (r:List (Str × Addr))=>if (x.2 == NameKind.free)=true then (cellOf env x.1 >>= fun a=>pure (ForInStep.yield ((x.1,a) :: r))) else pure (ForInStep.yield r)) (fun y acc hy=>by
  have:(y.2 == NameKind.free)=false:=by simpa using hy
  rw [this,if_neg Bool.false_ne_true]) (fun y acc c hy hc=>by
  have h0:(y.2 == NameKind.free)=true:=by rw [hy]; rfl
  rw [if_pos h0];simp only [cellOf,hc]
  rfl) scope.names [] hn fun x c e=>by simp at e
 refine ⟨cl,?_,p1,p2⟩;have e0:closureFor scope env=(forIn scope.names [] (fun (x:Str × NameKind) (r:List (Str × Addr))=>if (x.2 == NameKind.free)=true then (cellOf env x.1 >>= fun a=>pure (ForInStep.yield ((x.1,a) :: r))) else pure (ForInStep.yield r)) >>= fun cs=>pure cs):=rfl;rw [e0,e];rfl
def Aa (X:Cx) (N':List Str) (scope:Scope) (cl:List (Str × Addr)) (s:Shared) (H:Hp) (C:Addr) (fp:List Addr) (pn:LO):Cx where
 prog:=X.prog
 w:=X.w
 K:=X.K
 mg:=X.mg
 base:=X.base
 A:=X.A
 N:=N'
 s₀:=s
 H₀:=H
 env:=compEnvC scope cl C X.env
 outer:=X.stack
 stack:=X.stack
 ex:=fp
 fn:=fun _=>false
 calm:=X.calm
 pn:=pn
 xe:=fun _ _=>False
def Bd (ix:List (Option Nat)) (σ:St):St:=ix.map fun o=>o.bind fun i=>(σ[i]?).join
theorem N2 {ix:List (Option Nat)} {j:Nat} {v:V} (h:(Bd ix σ)[j]?=some (some v)):∃ i,ix[j]?=some (some i)/\σ[i]?=some (some v):=by
 unfold Bd at h;rw [getElem?_map] at h;cases e:ix[j]? with
 | none=>rw [e] at h; cases h
 | some o =>
  rw [e] at h;simp only [Option.map_some,Option.some.injEq] at h;cases o with
  | none=>cases h
  | some i =>
   refine ⟨i,rfl,?_⟩;simp only [Option.bind_some] at h;cases q:σ[i]? with
   | none=>rw [q] at h; cases h
   | some u=>rw [q] at h; simp only [Option.join_some] at h; rw [h]
section
variable {N':List Str} {ix:List (Option Nat)} {scope:Scope} {cl:List (Str × Addr)} {fp:List Addr}
theorem N3 (I:Inv X aa σ H s) (hf:CompFits X.env.scope scope X.N N' ix) (c1:∀ x c,cl.lookup x=some c->X.env.cells.lookup x=some c) (c2:∀ y ∈ scope.names,y.2=.free->∃ c,cl.lookup y.1=some c)
  (hC:s.heap.objs.size <= C) (hfp:∀ b ∈ fp,Dq X aa H b) (hlt:∀ b ∈ fp,b < s.heap.objs.size):(Aa X N' scope cl s H C fp (X.pn++aa)).Ok where
 mod:=I.mod
 kind:=hf.kind
 glob:=I.ok.glob
 blt:=I.ok.blt
 above:=hC
 inj:=fun x y c e1 e2=>I.ok.inj x y c (c1 x c e1) (c1 y c e2)
 has:=fun x h=>by
  have hm:(x,NameKind.free) ∈ scope.names:=E4 (env:=X.env) hf.nocell h;exact c2 (x,.free) hm rfl
 cab:=fun x c h=>by cases h
 hd:=I.ok.hd
 frames:=I.ok.frames
 stk:=.inl rfl
 exf:=fun b hb=>⟨Nat.ne_of_lt (Nat.lt_of_lt_of_le (hlt b hb) hC),fun x c e=>(hfp b hb).2.2.2.2.1 x c (c1 x c e)⟩
 bs:=I.bs
 bsz:=Nat.le_trans I.ok.bsz I.sz
 noex:=fun b o e hb=>by
  rcases (hfp b hb).2.2.2.1 with z | z
  ·exact I.ok.noex b o e z
  ·exact absurd (Nat.lt_of_lt_of_le (Nat.lt_of_lt_of_le (lt_size e) I.ok.bsz) z) (Nat.lt_irrefl _)
 exfs:=fun b hb z=>by
  rcases mem_cons.mp (I.stkSub b z) with e | e
  ·exact (hfp b hb).2.1 e
  ·exact (hfp b hb).2.2.1 e
 funs:=I.stack
 frf:=I.stkFree
theorem FZ (I:Inv X aa σ H s) (hf:CompFits X.env.scope scope X.N N' ix) (c1:∀ x c,cl.lookup x=some c->X.env.cells.lookup x=some c) (c2:∀ y ∈ scope.names,y.2=.free->∃ c,cl.lookup y.1=some c)
  (hC:s.heap.objs.size <= C) (hfp:∀ b ∈ fp,Dq X aa H b) (hlt:∀ b ∈ fp,b < s.heap.objs.size) {h₁:Heap} {tk:Nat} {m:SV} (old:∀ b o,s.heap.get? b=some o->h₁.get? b=some o) (hns:h₁.Ns C m) :
  Inv (Aa X N' scope cl s H C fp (X.pn++aa)) [] (Bd ix σ) H { s with heap:=h₁,toks:=tk } where
 ok:=N3 I hf c1 c2 hC hfp hlt
 os:=rfl
 bare:=I.bare
 base:=Un.kept old
 loc:=⟨m,hns,fun j x v e1 e2 e3=>by
  obtain ⟨i,ei,ev⟩:=N2 e2;obtain ⟨hN,bp⟩:=hf.slot j x i e1 ei;obtain ⟨mX,_,hl⟩:=I.loc
  have hm:(x,NameKind.free) ∈ scope.names:=by
   have:∀ {l:List (Str × NameKind)} {k:NameKind},l.lookup x=some k->(x,k) ∈ l:=fun {l k}=>by
    induction l with
    | nil=>intro e; simp at e
    | cons y r ih =>
     intro e;obtain ⟨n,kk⟩:=y;cases hx:x == n with
     | true =>
      simp only [lookup_cons,hx,Option.some.injEq] at e;have:x=n:=by simpa using hx
      subst this e;exact mem_cons_self
     | false =>
      simp only [lookup_cons,hx] at e;exact mem_cons_of_mem _ (ih e)
   exact this bp
  have hk:=hf.free _ hm rfl;obtain ⟨u,r,q⟩:=hl i x v hN ev (.inr hk);refine ⟨u,r,.inr ⟨DN (env:=X.env) bp,?_⟩⟩;obtain ⟨c,hc⟩:=c2 _ hm rfl;refine ⟨c,hc,?_⟩;rcases q with ⟨k,_⟩ | ⟨_,c',hc',z⟩
  ·have k':X.env.scope.names.lookup x=some .local:=k;rcases hk with a | a <;> (rw [k'] at a; cases a)
  ·rw [c1 x c hc] at hc';cases hc'
   exact z.keeps old⟩
 cell:=fun x c e=>by
  obtain ⟨v,z⟩:=I.cell x c (c1 x c e);exact ⟨v,z.keeps old⟩
 free:=I.hok.fresh hC
 freeC:=fun x c e=>I.freeC x c (c1 x c e)
 pin:=fun p hp=>by
  have hp':p ∈ X.pn++aa:=by
   have z:=hp;rw [append_nil] at z;exact z
  obtain ⟨e,n,ne,nf,d⟩:=I.pin p hp';refine ⟨old _ _ e,n,Nat.ne_of_lt (Nat.lt_of_lt_of_le (lt_size e) hC),fun z=>?_,d⟩;rcases mem_cons.mp (I.stkSub p.1 z) with q | q
  ·exact ne q
  ·exact nf q
 hok:=I.hok.kept old
 len:=by
  show (Bd ix σ).length=N'.length;unfold Bd;rw [length_map]; exact hf.len
theorem Gr {pins':LO} {σ':St} {s':Shared} (I:Inv X aa σ H s) (hfp:∀ b ∈ fp,Dq X aa H b) (J:Inv (Aa X N' scope cl s H C fp (X.pn++aa)) pins' σ' H' s'):Inv X aa σ H' s' :=
 I.call' (ch:=fp) J.os J.base J.hok J.bare fun b hb=>⟨(hfp b hb).2.2.2.1,(hfp b hb).2.1,(hfp b hb).2.2.2.2.1,(hfp b hb).2.2.2.2.2⟩
end
def PTs (X:Cx) (ifs:List Expr) (t:TT):Prop :=
 ∀ (aa:LO) (s:Shared) (σ:St) (H:Hp) (Q:Bool->Hp->Prop),Inv X aa σ H s->t σ H Q ->
  wpAny (model X.prog X.w) X.A (forIn ifs true fun c r=>if r=true then do let ok ← isTrue c X.env (eval c X.env); pure (ForInStep.yield ok) else pure (ForInStep.yield r)) (TP X aa σ Q) X.xe s
def Qy:TT:=fun _ H Q=>Q true H
theorem A3:PTs X [] Qy:=fun aa s σ H Q I h=>wpAny_tests_nil ⟨H,I,h⟩
theorem D0 {c:Expr} {t:TT} (h:PT X c t):PTs X [c] t:=fun aa s σ H Q I q=>wpAny_tests_one (h aa s σ H Q I q)
def DT (wi:TI) (g:TG) (tt:TT) (te:TE) (ix:List (Option Nat)) (R:List V->Hp->Prop):St->Hp->Prop:=fun σ H=>wi σ H fun J H1=>∃ W:Nat->Nat->List V->Hp->Prop,(∃ m,W 0 m [] H1)/\∀ i m ys H,W i m ys H ->
 (J.stop i H/\ys.length <= sizeLine/\R ys H) \/
 (J.go i H/\∃ N:List V->Hp->Prop,(∀ ys' H',N ys' H'->ys'.length <= sizeLine/\∃ m',m' < m/\W (i + 1) m' ys' H') /\
  ∀ x H',J.yld i H x H'->g x (Bd ix σ) H' fun σ2 H2=>tt σ2 H2 fun b H3=>if b=true then te σ2 H3 fun y H4=>N (ys++[y]) H4 else N ys H3)
def PGk (X:Cx) (tg:Expr) (ix:List (Option Nat)) (g:TG):Prop :=
 ∀ (aa:LO) (s:Shared) (σ:St) (H:Hp) (v:V) (u:Value) (Q:St->Hp->Prop),Inv X aa (Bd ix σ) H s->RelV v u->g v (Bd ix σ) H Q ->
  wpAny (model X.prog X.w) X.A (assign tg X.env u) (fun _ s'=>∃ σ' H',Inv X aa σ' H' s'/\(∀ (j:Nat) (v:V),(Bd ix σ)[j]?=some (some v)->σ'[j]?=some (some v))/\Q σ' H') X.xe s
theorem Fa {ixc:List (Option Nat)} (h:PG X (.Name x pos) (CO 0)):PGk X (.Name x pos) (none :: ixc) (CO 0):=by
 intro aa s σ H v u Q I r q;refine thn (h aa s _ H v u (fun σ' H'=>(∀ (j:Nat) (v:V),(Bd (none :: ixc) σ)[j]?=some (some v)->σ'[j]?=some (some v))/\Q σ' H') I r ⟨fun j w e=>?_,q⟩) fun _ s' ⟨σ',H',I',k,q⟩=>⟨σ',H',I',k,q⟩;cases j with
 | zero=>cases e
 | succ j=>exact e
theorem MC {tg:Expr} {ixc:List (Option Nat)} (h:PG X tg (Nl K 2 (FM (CO 0) (FM (CO 1) Nk)))):PGk X tg (none :: none :: ixc) (Nl K 2 (FM (CO 0) (FM (CO 1) Nk))):=by
 intro aa s σ H v u Q I r q;obtain ⟨a,xs,e1,e2,e3,v1,r1,e4,v2,r2,e5,e6,q⟩:=q;refine thn (h aa s _ H v u (fun σ' H'=>(∀ (j:Nat) (v:V),(Bd (none :: none :: ixc) σ)[j]?=some (some v)->σ'[j]?=some (some v))/\Q σ' H') I r ⟨a,xs,e1,e2,e3,v1,r1,e4,v2,r2,e5,e6,fun j w e=>?_,q⟩) fun _ s' ⟨σ',H',I',k,q⟩=>⟨σ',H',I',k,q⟩
 match j with
 | 0=>cases e
 | 1=>cases e
 | j + 2=>exact e
structure QL (RD:Cx->Prop) (P:Program) (w:World) (K:FG) (tg:Expr) (J:It) (fp:List Addr) (it:Addr) (tn:Nat->Heap->Prop):Prop where
 obj:∀ i h,tn i h->∀ b ∈ fp,∃ o,h.get? b=some o/\∀ v,o.data ≠ .cell v
 keep:∀ i h h',tn i h->(∀ b ∈ fp,∀ o,h.get? b=some o->h'.get? b=some o)->tn i h'
 item:∀ (X:Cx),X.prog=P->X.w=w->X.K=K->RD X->∀ (i:Nat) (aa:LO) (s:Shared) (σ:St) (H:Hp) (E:VS),Inv X aa σ H s->(∀ b ∈ fp,Dq X aa H b)->tn i s.heap->J.go i H ->
  wpAny (model P w) X.A (pyNext (.ref it)) (fun r s1=>∃ u,r=some u/\wpAny (model P w) X.A (letOwnedTupleGo tg (.ref it) u) (fun _ s2=>∃ x H',Inv X aa σ H' s2/\RelV x u/\J.yld i H x H'/\tn (i + 1) s2.heap/\∀ b ∈ fp,H' b=none) E s1) E s
 done:∀ (X:Cx),X.prog=P->X.w=w->X.K=K->RD X->∀ (i:Nat) (aa:LO) (s:Shared) (σ:St) (H:Hp) (E:VS),Inv X aa σ H s->(∀ b ∈ fp,Dq X aa H b)->tn i s.heap->J.stop i H ->
  wpAny (model P w) X.A (pyNext (.ref it)) (fun r s1=>r=none/\Inv X aa σ H s1) E s
 self:∀ (A:Around) (i:Nat) (s:Shared) (Q:VS) (E:VS),tn i s.heap->Q (.ref it) s->wpAny (model P w) A (pyIter (.ref it)) Q E s
def PIg (RD:Cx->Prop) (X:Cx) (tg iter:Expr) (wi:TI):Prop:=∀ (aa:LO) (s:Shared) (σ:St) (H:Hp) (R:It->Hp->Prop),Inv X aa σ H s->wi σ H R ->
 wpAny (model X.prog X.w) X.A (eval iter X.env) (fun v s1=>wpAny (model X.prog X.w) X.A (pyIter v) (fun itv s2=>∃ (it:Addr) (fp:List Addr) (tn:Nat->Heap->Prop) (J:It) (H':Hp),itv=.ref it/\Inv X aa σ H' s2/\QL RD X.prog X.w X.K tg J fp it tn/\tn 0 s2.heap/\(∀ b ∈ fp,Dq X aa H' b)/\R J H') X.xe s1) X.xe s
theorem PI.g {tg iter:Expr} {wi:TI} (h:PI X tg iter wi):PIg (fun X=>X.calm=true) X tg iter wi:=fun aa s σ H R I q =>
 thn (h aa s σ H R I q) fun v s1 z=>thn z fun itv s2 ⟨it,fp,tn,J,H',e,I',T,r⟩=>⟨it,fp,tn,J,H',e,I',⟨T.obj,T.keep,T.item,T.done,T.self⟩,r⟩
section
variable {tg iter elt:Expr} {ifs:List Expr} {scope:Scope} {pos':Pos} {N':List Str} {ix:List (Option Nat)} {wi:TI} {g:TG} {tt:TT}
theorem CS {α:Type} {M:Model} {t:Sem α} {Q:α->Shared->Prop} (h:wpAny M A t Q (fun _ _=>False) s):wpAny M A t Q E s :=
 wpAny_mono h (fun _ _ q=>q) fun _ _ z=>z.elim
theorem Gs {RD:Cx->Prop} {use:Option (Value->Sem Unit)} {Qv:VS} (hf:CompFits X.env.scope scope X.N N' ix) (hc:∀ cl s H C fp aa,RD (Aa X N' scope cl s H C fp (X.pn++aa))) (hi:PIg RD X tg iter wi)
  (hg:∀ cl s H C fp pn,PGk (Aa X N' scope cl s H C fp pn) tg ix g) (ht:∀ cl s H C fp pn,PTs (Aa X N' scope cl s H C fp pn) ifs tt) (he:∀ cl s H C fp pn,PE (Aa X N' scope cl s H C fp pn) elt te)
  (hs:∀ x,foldedSetIterable iter X.env x=pure x) {aa:LO} {s:Shared} {σ:St} {H:Hp} {R:List V->Hp->Prop} (I:Inv X aa σ H s) (h:DT wi g tt te ix R σ H)
  (cb:∀ s' ys H' D C m,Inv X aa σ (upd H' D (.lst ys)) s'->R ys H'->H' D=none->s'.heap.Ns C m->X.s₀.heap.objs.size <= C->C ≠ X.env.locals->(∀ x c,X.env.cells.lookup x=some c->c ≠ C)->(∀ p ∈ X.pn++aa,p.1 ≠ C) ->
   upd H' D (.lst ys) C=none->compPost (model X.prog X.w) X.A X.xe use Qv (.ref D) C (.ok .next) s') :
  wpAny (model X.prog X.w) X.A (comprehension (.ListComp elt [⟨tg,iter,ifs,0⟩] scope pos) scope X.env pos' (newList []) false (eval iter X.env) use) Qv X.xe s:=by
 obtain ⟨cl,cc,c1,c2⟩:=KQ (env:=X.env) (scope:=scope) fun y hy hyf=>by
  have:=hf.free y hy hyf;exact I.ok.has y.1 this
 refine wpAny_comprehension_free (use:=use) rfl hs cc hf.kind hf.loc (thn (hi aa s σ H _ I h) fun v s1 h1=>thn h1 fun itv s2 h2=>?_);obtain ⟨it,fp,tn,J,H2,e,I2,T,st2,f2,W,⟨m0,w0⟩,turn⟩:=h2;subst e
 have hlt:∀ b ∈ fp,b < s2.heap.objs.size:=fun b hb=>by
  obtain ⟨o,e,_⟩:=T.obj _ _ st2 b hb;exact lt_size e
 refine wpAny_newObj_type (wpAny_newFunctionEnv hf.nocell (by intro y hy; simp at hy) (fun h₁ hns₁ hsb₁=>?_) hf.kind)
 dsimp only at hns₁ hsb₁ ⊢
 generalize hH2:s2.heap.push { cls:=.type "list", dict:=none,data:=.seq ([]:List Value).toArray }=HP at hns₁ hsb₁ ⊢;have hC:HP.objs.size=s2.heap.objs.size + 1:=by rw [← hH2,size_push]
 have hDC:s2.heap.objs.size ≠ HP.objs.size:=by rw [hC]; exact Nat.ne_of_lt (Nat.lt_succ_self _)
 have hCle:s2.heap.objs.size <= HP.objs.size:=by rw [hC]; exact Nat.le_succ _
 have hCne:∀ b,b < s2.heap.objs.size->b ≠ HP.objs.size:=fun b hb=>by rw [hC]; exact Nat.ne_of_lt (Nat.lt_succ_of_lt hb)
 have old:∀ b o,s2.heap.get? b=some o->h₁.get? b=some o:=fun b o e=>hsb₁.extBut b o (hCne b (lt_size e)) (get?_push_of_some _ (hH2 ▸ get?_push_of_some _ e));have bn:h₁.get? s2.heap.objs.size=some { cls:=.type "list", dict:=none,data:=.seq ([]:List Value).toArray }:=hsb₁.extBut _ _ hDC (get?_push_of_some _ (hH2 ▸ get?_push_size _ rfl));generalize hCC:HP.objs.size=C at *;generalize hDD:s2.heap.objs.size=D at *;have IX:=FZ (N':=N') (fp:=fp) I2 hf c1 c2 (by rw [hDD]; exact hCle) f2 (by rw [hDD]; exact hlt) (tk:=s2.toks + ([]:List (Str × Value)).length) old hns₁;have hDn:H2 D=none:=I2.hok.fresh (by rw [hDD]; exact Nat.le_refl _)
 have hDfs:D ∉ frs X.stack:=fun z=>by
  rcases mem_cons.mp (I2.stkSub D z) with q | q
  ·have:=I2.lt; rw [← q,hDD] at this; exact Nat.lt_irrefl _ this
  ·exact I2.nofs (by rw [hDD]; exact Nat.le_refl _) q
 have cellLt:∀ x c,X.env.cells.lookup x=some c->c < D:=fun x c e=>by
  obtain ⟨v,z⟩:=I2.cell x c e;rw [← hDD]; exact z.lt
 have pinLt:∀ p ∈ X.pn++aa,p.1 < D:=fun p hp=>by rw [← hDD]; exact lt_size (I2.pin p hp).1
 have s0D:X.s₀.heap.objs.size <= D:=by rw [← hDD]; exact I2.sz
 have locLt:X.env.locals < D:=by rw [← hDD]; exact I2.lt
 let X':Cx:=Aa X N' scope cl s2 H2 C fp (X.pn++aa)
 have stat:∀ {H':Hp} {ob:Obj},(∀ b ∈ fp,H' b=none)->∀ b ∈ fp,Dq X' [(D,ob)] H' b:=fun {H' ob} hn b hb=>by
  refine ⟨hn b hb,Nat.ne_of_lt (Nat.lt_of_lt_of_le (hlt b hb) hCle),fun z=>?_,.inl hb,fun x c e=>(f2 b hb).2.2.2.2.1 x c (c1 x c e),fun p hp=>?_⟩
  ·exact IX.ok.exfs b hb z
  ·rcases mem_append.mp hp with z | z
   ·exact (f2 b hb).2.2.2.2.2 p z
   ·have e:p=(D,ob):=by simpa using z
    subst e;exact Nat.ne_of_gt (hlt b hb)
 have pinD:∀ {σ':St} {H':Hp} {s':Shared} {ob:Obj},Inv X' [] σ' H' s'->s'.heap.get? D=some ob->H' D=none->(∀ v,ob.data ≠ .cell v)->Inv X' [(D,ob)] σ' H' s':=fun {σ' H' s' ob} Ia e n d =>
  Ia.pins_of fun p hp=>by
   have q:p=(D,ob):=by simpa using hp
   subst q;exact ⟨e,n,hDC,hDfs,d⟩
 have loop:∀ s3:Shared,s3={ s2 with heap:=h₁,toks:=s2.toks + ([]:List (Str × Value)).length } ->
   codeAny (model X.prog X.w) X.A (.compLoop (.ListComp elt [⟨tg,iter,ifs,0⟩] scope pos) 0 (.ref it) (.ref D) (compEnvC scope cl C X.env)) (compPost (model X.prog X.w) X.A X.xe use Qv (.ref D) C) s3:=by
  rintro s3 rfl
  refine codeAny_loop rfl (fun n s'=>∃ i ys its k H',Inv X' [(D,({ cls:=.type "list", data:=.seq (List.toArray its) k }:Obj))] (Bd ix σ) H' s'/\tn i s'.heap/\(∀ b ∈ fp,H' b=none)/\W i n ys H'/\Vals ys its)
   (fun n s4 hI=>?_) m0 ⟨0,[],[],_,H2,pinD IX bn hDn (fun v z=>by cases z),T.keep _ _ _ st2 (fun b _ o e=>old b o e),fun b hb=>(f2 b hb).1,w0,.nil⟩
  obtain ⟨i,ys,its,k,H4,I4,st4,fr4,w4,rv⟩:=hI;show wpAny _ X.A ((compTurn (.ListComp elt [⟨tg,iter,ifs,0⟩] scope pos) 0 (.ref it) (.ref D) (compEnvC scope cl C X.env)).onRaise (fun x=>do noteFrame x (compEnvC scope cl C X.env); theTreesLotGoes x)) _ _ s4;refine wpAny_noted ?_;rw [compTurn_list];refine CS ?_;rcases turn i n ys H4 w4 with ⟨stop,hz,r⟩ | ⟨go,N,hN,step⟩
  ·refine wpAny_bind (wpAny_standAt (wpAny_bind (thn (T.done X' rfl rfl rfl (hc _ _ _ _ _ _) i _ s4 _ H4 _ I4 (stat fr4) st4 stop) fun r' s5 ⟨hr,I5⟩=>?_)));subst hr;have pD:=I5.pin (D,_) (mem_append_right _ mem_cons_self);have Ib:Inv X aa σ H4 s5:=Gr I2 f2 I5;have Ic:Inv X aa σ (upd H4 D (.lst ys)) s5:=Ib.track pD.2.1 (Nat.ne_of_gt locLt) (.inr s0D) (fun x c e=>Nat.ne_of_lt (cellLt x c e)) (fun p hp=>Nat.ne_of_lt (pinLt p hp)) ⟨hz,its,k,rv,pD.1⟩;obtain ⟨m5,n5,_⟩:=I5.loc
   refine wpAny_pure (cb s5 ys H4 D C m5 Ic r pD.2.1 n5 (Nat.le_trans s0D hCle) (Nat.ne_of_gt (Nat.lt_of_lt_of_le locLt hCle)) (fun x c e=>Nat.ne_of_lt (Nat.lt_of_lt_of_le (cellLt x c e) hCle))
    (fun p hp=>Nat.ne_of_lt (Nat.lt_of_lt_of_le (pinLt p hp) hCle)) ?_)
   rw [AH (Ne.symm hDC)];exact I5.free
  ·refine wpAny_bind (wpAny_standAt (wpAny_bind (thn (T.item X' rfl rfl rfl (hc _ _ _ _ _ _) i _ s4 _ H4 _ I4 (stat fr4) st4 go) fun r' s5 ⟨u,hr,h5⟩=>?_)));subst hr;refine wpAny_bind (thn h5 fun _ s6 ⟨x,H6,I6,r6,y6,st6,fr6⟩=>?_);have I6':=I6.pinned (stat fr6) (T.obj _ _ st6);refine wpAny_bind (thn (hg _ _ _ _ _ _ _ s6 _ H6 x u _ I6' r6 (step x H6 y6)) fun _ s7 ⟨σ7,H7,I7,k7,q7⟩=>?_);refine wpAny_bind (thn (ht _ _ _ _ _ _ _ s7 σ7 H7 _ I7 q7) fun b s8 ⟨H8,I8,q8⟩=>?_)
   have again:∀ {H9:Hp} {s9:Shared} {ys':List V} {its':List Value} {k':Nat},Inv X' ([(D,({ cls:=.type "list", data:=.seq (List.toArray its') k' }:Obj))]++B1 fp s6.heap) σ7 H9 s9->Vals ys' its' ->
     (∃ m',m' < n/\W (i + 1) m' ys' H9)->∃ m,m < n/\∃ i ys its k H',Inv X' [(D,({ cls:=.type "list", data:=.seq (List.toArray its) k }:Obj))] (Bd ix σ) H' s9/\tn i s9.heap/\(∀ b ∈ fp,H' b=none)/\W i m ys H'/\Vals ys its:=by
    intro H9 s9 ys' its' k' I9 rv' ⟨m',hm,w9⟩;refine ⟨m',hm,i + 1,ys',its',k',H9,I9.unpinned.weak (I4.len.trans I9.len.symm) k7,T.keep _ _ _ st6 fun b hb o e=>(I9.pin (b,o) (mem_append_right _ (mem_append_right _ (Bf hb e)))).1,fun b hb=>?_,w9,rv'⟩;obtain ⟨o,e,d⟩:=T.obj _ _ st6 b hb;exact (I9.pin (b,o) (mem_append_right _ (mem_append_right _ (Bf hb e)))).2.1
   cases b with
   | false =>
    rw [if_neg Bool.false_ne_true] at q8;exact wpAny_pure ⟨rfl,again I8 rv (hN _ _ q8).2⟩
   | true =>
    rw [if_pos rfl] at q8;refine wpAny_bind (wpAny_bind (thn (he _ _ _ _ _ _ _ s8 σ7 H8 _ I8 q8) fun y s9 ⟨z,H9,I9,r9,q9⟩=>?_))
    have hz:ys.length < sizeLine:=by
     have:=(hN _ _ q9).1;rw [length_append,length_singleton] at this;omega
    have pD:=I9.pin (D,_) (mem_append_right _ (mem_append_left _ mem_cons_self));have bd:=rv.length;refine wpAny_bind (call_meets F.slot_list_append ⟨_,pD.1,rfl⟩ F.entry_list_append (F.args_list_append_2 _ _) (PySem.list_append D its.toArray k y (by rw [size_toArray]; omega)) ⟨pD.1,wpAny_pure (wpAny_pure ⟨rfl,?_⟩)⟩);have eq':its.toArray.push y=(its++[y]).toArray:=by simp
    obtain ⟨k',q⟩:∃ k',(s9.heap.update D (Obj.mapSeq (·.push y))).get? D=some { cls:=.type "list", data:=.seq (its++[y]).toArray k' }:=⟨_,by rw [← eq']; exact PySem.IsL.update pD.1 (·.push y)⟩;have Iw:Inv X' (B1 fp s6.heap) σ7 H9 s9:=I9.pins_of fun p hp=>I9.pin p (mem_append_right _ (mem_append_right _ hp))
    have It:Inv X' (B1 fp s6.heap) σ7 H9 { s9 with heap:=s9.heap.update D (Obj.mapSeq (·.push y)),toks:=s9.toks }:=Iw.turned (it:=D) (fun b o hb e=>(get?_update_other s9.heap (Obj.mapSeq (·.push y)) (Ne.symm hb)).trans e) pD.2.1 hDC
     (.inr (by show s2.heap.objs.size <= D; rw [hDD]; exact Nat.le_refl _)) (fun x c e=>Nat.ne_of_lt (cellLt x c (c1 x c e))) (fun p hp=>by
      rcases mem_append.mp hp with z' | z'
      ·exact Nat.ne_of_lt (pinLt p z')
      ·exact Nat.ne_of_lt (hlt p.1 (Ee z').1))
    refine again (its':=its++[y]) (k':=k') (It.pins_of fun p hp=>?_) (rv.append (.cons r9 .nil)) (hN _ _ q9).2;rcases mem_append.mp hp with z' | z'
    ·have e:p=(D,({ cls:=.type "list", data:=.seq (its++[y]).toArray k' }:Obj)):=by simpa using z'
     subst e;exact ⟨q,pD.2.1,hDC,hDfs,fun v z=>by cases z⟩
    ·exact It.pin p (mem_append_right _ z')
 exact codeAny_compStart_list (loop _ rfl) (T.self _ 0 _ _ _ (T.keep _ _ _ st2 fun b _ o e=>old b o e) (loop _ rfl))
theorem K0 {RD:Cx->Prop} (hf:CompFits X.env.scope scope X.N N' ix) (hc:∀ cl s H C fp aa,RD (Aa X N' scope cl s H C fp (X.pn++aa))) (hi:PIg RD X tg iter wi)
  (hg:∀ cl s H C fp pn,PGk (Aa X N' scope cl s H C fp pn) tg ix g) (ht:∀ cl s H C fp pn,PTs (Aa X N' scope cl s H C fp pn) ifs tt) (he:∀ cl s H C fp pn,PE (Aa X N' scope cl s H C fp pn) elt te)
  (hs:∀ x,foldedSetIterable iter X.env x=pure x:=by intro _; rfl) :
  PE X (.ListComp elt [⟨tg,iter,ifs,0⟩] scope pos) (fun σ H Q=>DT wi g tt te ix (fun ys H'=>∀ p,H' p=none->Q (.ref p) (upd H' p (.lst ys))) σ H):=by
 intro aa s σ H Q I h;rw [eval_ListComp];refine Gs (use:=none) hf hc hi hg ht he hs I h fun s' ys H' D C m I' r hD hn h1 h2 h3 h4 h5=>?_;refine ⟨m,hn,fun h'' hs''=>⟨.ref D,_,I'.turned (it:=C) (t':=s'.toks) (fun b o hb e=>(hs''.2 b hb).trans e) h5 h2 (.inr h1) h3 h4,rfl,r D hD⟩⟩
theorem IT (hf:CompFits X.env.scope scope X.N N' ix) (hc:X.calm=true) (hi:PI X tg iter wi)
  (hg:∀ cl s H C fp pn,PGk (Aa X N' scope cl s H C fp pn) tg ix g) (ht:∀ cl s H C fp pn,PTs (Aa X N' scope cl s H C fp pn) ifs tt) (he:∀ cl s H C fp pn,PE (Aa X N' scope cl s H C fp pn) elt te)
  (hs:∀ x,foldedSetIterable iter X.env x=pure x:=by intro _; rfl) :
  PE X (.ListComp elt [⟨tg,iter,ifs,0⟩] scope pos) (fun σ H Q=>DT wi g tt te ix (fun ys H'=>∀ p,H' p=none->Q (.ref p) (upd H' p (.lst ys))) σ H):=K0 hf (fun _ _ _ _ _ _=>hc) hi.g hg ht he hs
theorem MD {i:Nat} {py spos:Pos} (hN:X.N.Nodup) (hi':X.N[i]?=some x) (hx:X.env.scope.names.lookup x=some .local) (hsw:swapsWith (.ListComp elt [⟨tg,iter,ifs,0⟩] scope pos) (some (.Name x py)) spos.line X.env=pure true)
  (hf:CompFits X.env.scope scope X.N N' ix) (hc:X.calm=true) (hi:PI X tg iter wi)
  (hg:∀ cl s H C fp pn,PGk (Aa X N' scope cl s H C fp pn) tg ix g) (ht:∀ cl s H C fp pn,PTs (Aa X N' scope cl s H C fp pn) ifs tt) (he:∀ cl s H C fp pn,PE (Aa X N' scope cl s H C fp pn) elt te)
  (hs:∀ x,foldedSetIterable iter X.env x=pure x:=by intro _; rfl) :
  PS X (.Assign [.Name x py] (.ListComp elt [⟨tg,iter,ifs,0⟩] scope pos) spos) (fun D σ H=>DT wi g tt te ix (fun ys H'=>∀ p,H' p=none->D.nx (σ.set i (some (.ref p))) (upd H' p (.lst ys))) σ H):=by
 intro aa s σ H D I h;rw [exec_Assign_Name_used _ _ _ _ hsw];refine wpAny_bind (wpAny_standAt (wpAny_bind ?_));show wpAny _ X.A (do let _ ← comprehension (.ListComp elt [⟨tg,iter,ifs,0⟩] scope pos) scope X.env _ (newList []) false (eval iter X.env) (some (assign (.Name x py) X.env))) _ _ s;refine wpAny_bind (thn (Gs (use:=some (assign (.Name x py) X.env)) (Qv:=fun _ s'=>SP X aa D .next s') hf (fun _ _ _ _ _ _=>hc) hi.g hg ht he hs I h fun s' ys H' Da C m I' r hD hn h1 h2 h3 h4 h5=>?_) fun _ s' hq=>wpAny_pure (wpAny_pure hq));show wpAny _ X.A (assign (.Name x py) X.env (.ref Da)) _ _ _;refine wpAny_assign_Name (Gd (v:=.ref Da) I' hN hi' (.inl hx) rfl (fun s'' I'' ⟨a,hsb,ha⟩=>?_) (.inr hx))
 have hCa:C ≠ a:=by
  rcases ha with z | z
  ·rw [z]; exact h2
  ·exact (h3 x a z).symm
 refine ⟨m,hn.sameBut hsb hCa,fun h'' hs''=>?_⟩;exact ⟨_,_,I''.turned (it:=C) (t':=s''.toks) (fun b o hb e=>(hs''.2 b hb).trans e) h5 h2 (.inr h1) h3 h4,r Da hD⟩
end
abbrev g2 (K:FG):TG:=Nl K 2 (FM (CO 0) (FM (CO 1) Nk))
section
variable {iter elt:Expr} {ifs:List Expr} {scope:Scope} {px py pt:Pos} {wi:TI} {tt:TT} {y:Str} {kt:Nat}
theorem Az (Nc:List Str) (ixc:List (Option Nat)) (hf:Gp X.env.scope scope X.N (x :: Nc) (none :: ixc)=true) (hnd:(x :: Nc).Nodup) (hx:scope.names.lookup x=some .local) (hc:X.calm=true) (hi:PI X (.Name x px) iter wi)
  (ht:∀ cl s H C fp pn,PTs (Aa X (x :: Nc) scope cl s H C fp pn) ifs tt) (he:∀ cl s H C fp pn,PE (Aa X (x :: Nc) scope cl s H C fp pn) elt te) (hs:∀ x,foldedSetIterable iter X.env x=pure x:=by intro _; rfl) :
  PE X (.ListComp elt [⟨.Name x px,iter,ifs,0⟩] scope pos) (fun σ H Q=>DT wi (CO 0) tt te (none :: ixc) (fun ys H'=>∀ p,H' p=none->Q (.ref p) (upd H' p (.lst ys))) σ H) :=
 IT (CompFits.of hf) hc hi (fun cl s H C fp pn=>Fa (AO (i:=0) hnd rfl (.inl (lookup_relabel_local hx)) (.inr (lookup_relabel_local hx)))) ht he hs
theorem Cu (Nc:List Str) (ixc:List (Option Nat)) (hf:Gp X.env.scope scope X.N (x :: y :: Nc) (none :: none :: ixc)=true) (hnd:(x :: y :: Nc).Nodup) (hx:scope.names.lookup x=some .local) (hy:scope.names.lookup y=some .local) (hc:X.calm=true)
  (hi:PI X (.Tuple [.Name x px,.Name y py] kt pt) iter wi)
  (ht:∀ cl s H C fp pn,PTs (Aa X (x :: y :: Nc) scope cl s H C fp pn) ifs tt) (he:∀ cl s H C fp pn,PE (Aa X (x :: y :: Nc) scope cl s H C fp pn) elt te) (hs:∀ x,foldedSetIterable iter X.env x=pure x:=by intro _; rfl) :
  PE X (.ListComp elt [⟨.Tuple [.Name x px,.Name y py] kt pt,iter,ifs,0⟩] scope pos) (fun σ H Q=>DT wi (g2 X.K) tt te (none :: none :: ixc) (fun ys H'=>∀ p,H' p=none->Q (.ref p) (upd H' p (.lst ys))) σ H) :=
 IT (CompFits.of hf) hc hi (fun cl s H C fp pn=>MC (BJ (X:=Aa X (x :: y :: Nc) scope cl s H C fp pn) hc (AR (AO (i:=0) hnd rfl (.inl (lookup_relabel_local hx)) (.inr (lookup_relabel_local hx)))
  (AR (AO (i:=1) hnd rfl (.inl (lookup_relabel_local hy)) (.inr (lookup_relabel_local hy))) Ay)))) ht he hs
theorem MF {i:Nat} {z:Str} {pz spos:Pos} (hN:X.N.Nodup) (hi':X.N[i]?=some z) (hz:X.env.scope.names.lookup z=some .local) (Nc:List Str) (ixc:List (Option Nat)) (hf:Gp X.env.scope scope X.N (x :: Nc) (none :: ixc)=true) (hnd:(x :: Nc).Nodup)
  (hx:scope.names.lookup x=some .local) (hc:X.calm=true) (hi:PI X (.Name x px) iter wi)
  (ht:∀ cl s H C fp pn,PTs (Aa X (x :: Nc) scope cl s H C fp pn) ifs tt) (he:∀ cl s H C fp pn,PE (Aa X (x :: Nc) scope cl s H C fp pn) elt te)
  (hsw:swapsWith (.ListComp elt [⟨.Name x px,iter,ifs,0⟩] scope pos) (some (.Name z pz)) spos.line X.env=pure true:=by rfl) (hs:∀ x,foldedSetIterable iter X.env x=pure x:=by intro _; rfl) :
  PS X (.Assign [.Name z pz] (.ListComp elt [⟨.Name x px,iter,ifs,0⟩] scope pos) spos) (fun D σ H=>DT wi (CO 0) tt te (none :: ixc) (fun ys H'=>∀ p,H' p=none->D.nx (σ.set i (some (.ref p))) (upd H' p (.lst ys))) σ H) :=
 MD hN hi' hz hsw (CompFits.of hf) hc hi (fun cl s H C fp pn=>Fa (AO (i:=0) hnd rfl (.inl (lookup_relabel_local hx)) (.inr (lookup_relabel_local hx)))) ht he hs
end
theorem A8 {g:TG} {tt:TT} {ix:List (Option Nat)} {R:List V->Hp->Prop} {H1:Hp} (Pv:Nat->List V->Hp->Prop) (h0:Pv 0 [] H1) (hl:∀ i ys H,i <= xs.length->Pv i ys H->SqL K H a xs) (hz:∀ i ys H,Pv i ys H->ys.length <= 1000)
  (hs:∀ i x ys H,xs[i]?=some x->Pv i ys H->g x (Bd ix σ) H fun σ2 H2=>tt σ2 H2 fun b H3=>if b=true then te σ2 H3 fun y H4=>Pv (i + 1) (ys++[y]) H4 else Pv (i + 1) ys H3) (hd:∀ ys H,Pv xs.length ys H->R ys H) :
  ∃ W:Nat->Nat->List V->Hp->Prop,(∃ m,W 0 m [] H1)/\∀ i m ys H,W i m ys H ->
   ((Itl K a).stop i H/\ys.length <= sizeLine/\R ys H) \/
   ((Itl K a).go i H/\∃ N:List V->Hp->Prop,(∀ ys' H',N ys' H'->ys'.length <= sizeLine/\∃ m',m' < m/\W (i + 1) m' ys' H') /\
    ∀ x H',(Itl K a).yld i H x H'->g x (Bd ix σ) H' fun σ2 H2=>tt σ2 H2 fun b H3=>if b=true then te σ2 H3 fun y H4=>N (ys++[y]) H4 else N ys H3):=by
 refine ⟨fun i m ys H=>m=xs.length - i/\i <= xs.length/\Pv i ys H,⟨_,rfl,Nat.zero_le _,h0⟩,?_⟩;rintro i m ys H ⟨rfl,hi,hp⟩;by_cases hlt:i < xs.length
 ·have hx:xs[i]?=some xs[i]:=List.getElem?_eq_getElem hlt;refine .inr ⟨⟨xs,xs[i],hl i ys H hi hp,hx⟩,Pv (i + 1),fun ys' H' q=>⟨Nat.le_of_lt (AU (hz _ ys' H' q)),xs.length - (i + 1),by omega,rfl,hlt,q⟩,?_⟩;rintro x H' ⟨rfl,hy⟩
  have ex:x=xs[i]:=by
   have:=hy xs (hl i ys H' hi hp);rw [hx] at this;exact (Option.some.inj this).symm
  subst ex;exact hs i xs[i] ys H' hx hp
 ·have e:i=xs.length:=by omega
  subst e;exact .inl ⟨⟨xs,hl _ ys H hi hp,Nat.le_refl _⟩,Nat.le_of_lt (AU (hz _ ys H hp)),hd ys H hp⟩
theorem Fb {g:TG} {tt:TT} {ix:List (Option Nat)} {R:List V->Hp->Prop} {H1:Hp} (Pv:Nat->List V->Hp->Prop) (h0:Pv 0 [] H1) (hl:∀ i ys H,i <= xs.length->Pv i ys H->SqT K H a xs) (hz:∀ i ys H,Pv i ys H->ys.length <= 1000)
  (hs:∀ i x ys H,xs[i]?=some x->Pv i ys H->g x (Bd ix σ) H fun σ2 H2=>tt σ2 H2 fun b H3=>if b=true then te σ2 H3 fun y H4=>Pv (i + 1) (ys++[y]) H4 else Pv (i + 1) ys H3) (hd:∀ ys H,Pv xs.length ys H->R ys H) :
  ∃ W:Nat->Nat->List V->Hp->Prop,(∃ m,W 0 m [] H1)/\∀ i m ys H,W i m ys H ->
   ((Itt K a).stop i H/\ys.length <= sizeLine/\R ys H) \/
   ((Itt K a).go i H/\∃ N:List V->Hp->Prop,(∀ ys' H',N ys' H'->ys'.length <= sizeLine/\∃ m',m' < m/\W (i + 1) m' ys' H') /\
    ∀ x H',(Itt K a).yld i H x H'->g x (Bd ix σ) H' fun σ2 H2=>tt σ2 H2 fun b H3=>if b=true then te σ2 H3 fun y H4=>N (ys++[y]) H4 else N ys H3):=by
 refine ⟨fun i m ys H=>m=xs.length - i/\i <= xs.length/\Pv i ys H,⟨_,rfl,Nat.zero_le _,h0⟩,?_⟩;rintro i m ys H ⟨rfl,hi,hp⟩;by_cases hlt:i < xs.length
 ·have hx:xs[i]?=some xs[i]:=List.getElem?_eq_getElem hlt;refine .inr ⟨⟨xs,xs[i],hl i ys H hi hp,hx⟩,Pv (i + 1),fun ys' H' q=>⟨Nat.le_of_lt (AU (hz _ ys' H' q)),xs.length - (i + 1),by omega,rfl,hlt,q⟩,?_⟩;rintro x H' ⟨rfl,hy⟩
  have ex:x=xs[i]:=by
   have:=hy xs (hl i ys H' hi hp);rw [hx] at this;exact (Option.some.inj this).symm
  subst ex;exact hs i xs[i] ys H' hx hp
 ·have e:i=xs.length:=by omega
  subst e;exact .inl ⟨⟨xs,hl _ ys H hi hp,Nat.le_refl _⟩,Nat.le_of_lt (AU (hz _ ys H hp)),hd ys H hp⟩
theorem Cd {lo:Int} {n:Nat} {g:TG} {tt:TT} {ix:List (Option Nat)} {R:List V->Hp->Prop} {H1:Hp} (Pv:Nat->List V->Hp->Prop) (h0:Pv 0 [] H1) (hz:∀ i ys H,Pv i ys H->ys.length <= 1000)
  (hs:∀ (i:Nat) ys H,i < n->Pv i ys H->g (.int (lo + i)) (Bd ix σ) H fun σ2 H2=>tt σ2 H2 fun b H3=>if b=true then te σ2 H3 fun y H4=>Pv (i + 1) (ys++[y]) H4 else Pv (i + 1) ys H3) (hd:∀ ys H,Pv n ys H->R ys H) :
  ∃ W:Nat->Nat->List V->Hp->Prop,(∃ m,W 0 m [] H1)/\∀ i m ys H,W i m ys H ->
   ((Itr lo n).stop i H/\ys.length <= sizeLine/\R ys H) \/
   ((Itr lo n).go i H/\∃ N:List V->Hp->Prop,(∀ ys' H',N ys' H'->ys'.length <= sizeLine/\∃ m',m' < m/\W (i + 1) m' ys' H') /\
    ∀ x H',(Itr lo n).yld i H x H'->g x (Bd ix σ) H' fun σ2 H2=>tt σ2 H2 fun b H3=>if b=true then te σ2 H3 fun y H4=>N (ys++[y]) H4 else N ys H3):=by
 refine ⟨fun i m ys H=>m=n - i/\i <= n/\Pv i ys H,⟨_,rfl,Nat.zero_le _,h0⟩,?_⟩;rintro i m ys H ⟨rfl,hi,hp⟩;by_cases hlt:i < n
 ·refine .inr ⟨hlt,Pv (i + 1),fun ys' H' q=>⟨Nat.le_of_lt (AU (hz _ ys' H' q)),n - (i + 1),by omega,rfl,hlt,q⟩,?_⟩;rintro x H' ⟨rfl,rfl⟩;exact hs i ys H' hlt hp
 ·have e:i=n:=by omega
  subst e;exact .inl ⟨Nat.le_refl _,Nat.le_of_lt (AU (hz _ ys H hp)),hd ys H hp⟩
section
variable {o:Obj} {kvs:LK}
theorem Inv.newOk (I:Inv X aa σ H s) {p:Addr} (hp:s.heap.objs.size <= p):H p=none/\p ≠ X.env.locals/\X.s₀.heap.objs.size <= p/\(∀ x c,X.env.cells.lookup x=some c->c ≠ p)/\∀ q ∈ X.pn++aa,q.1 ≠ p :=
 ⟨I.hok.fresh hp,Nat.ne_of_gt (Nat.lt_of_lt_of_le I.lt hp),Nat.le_trans I.sz hp,fun x c e=>by
  obtain ⟨v,z⟩:=I.cell x c e
  exact Nat.ne_of_lt (Nat.lt_of_lt_of_le z.lt hp),fun q hq=>Nat.ne_of_lt (Nat.lt_of_lt_of_le (lt_size (I.pin q hq).1) hp)⟩
theorem Inv.freeze (I:Inv X aa σ H s) (h:H a=some (.dK kvs)):∃ o,Inv X aa σ (upd H a (.frz o (.dK kvs))) s:=by
 obtain ⟨z,y,vs,r,ob,es,ep,e,rest⟩:=I.hok a _ h;refine ⟨ob,?_⟩;exact I.write (x:=a) (e:=a) (o:=.frz ob (.dK kvs)) (h':=s.heap) (t':=s.toks) (by rw [h]; exact trivial) (.inl rfl) (fun b u _ q=>q) ⟨ob,e⟩ ⟨e,z,y,vs,r,ob,es,ep,e,rest⟩
theorem Ce {sts:List Stmt} {t:TS} (h:PSs X sts t):PSs X sts (fun D σ H=>∃ a kvs,H a=some (.dK kvs)/\∀ o,t D σ (upd H a (.frz o (.dK kvs)))):=by
 intro aa s σ H D I ⟨a,kvs,e,k⟩;obtain ⟨o,I'⟩:=I.freeze e;exact h aa s σ _ D I' (k o)
def K1 (o:Obj):Nat:=match o.data with
 | .dict _ ep=>ep
 | _=>0
theorem CT (I:Inv X aa σ H s) (h:H a=some (.frz o (.dK kvs))):kvs.length <= sizeLine/\(a == sysModules)=false/\∃ vs,KV kvs vs/\s.heap.DictAt (Ab X.prog X.w) a vs (K1 o):=by
 obtain ⟨e,z,y,vs,r,ob,es,ep,e2,ex,d,rest⟩:=I.hok a _ h;rw [e] at e2; cases e2;refine ⟨z,y,vs,r,o,es,e,ex,?_,rest⟩;show o.data=.dict es (K1 o);unfold K1; rw [d]
end
theorem KV.get {κ:Type}:∀ {kvs:List (κ × V)} {vs:List (κ × Value)} {i:Nat} {kv:κ × V},KV kvs vs->kvs[i]?=some kv->∃ v,vs[i]?=some (kv.1,v)/\RelV kv.2 v
 | _,_,_,_,.nil,e=>by simp at e
 | _,_,0,_,.cons r _,e=>by
  simp only [List.getElem?_cons_zero,Option.some.injEq] at e;subst e;rename_i q _ _ _;exact ⟨q.2,by rw [r.1]; rfl,r.2⟩
 | _,_,i + 1,kv,.cons _ t,e=>by
  obtain ⟨u,h1,h2⟩:=KV.get (i:=i) (kv:=kv) (show KV _ _ from t) (by simpa using e);exact ⟨u,by simpa using h1,h2⟩
theorem D3 {k:Key} (h:(Ab P w).is k u=true):RelV (kV k) u:=by
 rcases Au (show FJ k u=true from h) with ⟨i,t,rfl,rfl⟩ | ⟨x,t,rfl,rfl⟩
 ·exact ⟨t,rfl⟩
 ·exact ⟨t,rfl⟩
def Iti (a:Addr) (o:Obj) (kvs:LK):It:=⟨fun i H=>H a=some (.frz o (.dK kvs))/\i < kvs.length,fun i H x H'=>∃ p kv,H p=none/\x=.ref p/\kvs[i]?=some kv/\H'=upd H p (.tup [kV kv.1,kv.2]),
 fun i H=>H a=some (.frz o (.dK kvs))/\kvs.length <= i⟩
theorem Jd {elts:List Expr} {k0:Nat} (a it:Addr) (o:Obj) (kvs:LK) :
  IH P w K (.Tuple elts k0 pos) (Iti a o kvs) [it] it (fun i h=>∃ ok ov,IsItemIter h it a i kvs.length (K1 o) ok ov) where
 mem:=by simp
 obj:=fun i h st b hb=>by
  have e:b=it:=by simpa using hb
  subst e;obtain ⟨ok,ov,e⟩:=st;exact ⟨_,e,fun v z=>by cases z⟩
 keep:=fun i h h' st k=>by
  obtain ⟨ok,ov,e⟩:=st;exact ⟨ok,ov,k it (by simp) _ e⟩
 item:=by
  intro X hP hw hK hc i aa s σ H E I hf st hg;subst hP hw hK;obtain ⟨hfz,hi⟩:=hg;obtain ⟨z,y,vs,rel,dd⟩:=CT I hfz;obtain ⟨ok,ov,st⟩:=st;have bd:=rel.length;obtain ⟨kv,hkv⟩:∃ kv,kvs[i]?=some kv:=⟨_,List.getElem?_eq_getElem hi⟩;obtain ⟨v,hv,rv⟩:=KV.get rel hkv;obtain ⟨f0,f1,f2,f3,f4,f5⟩:=hf it (by simp);rw [bd] at st;have hlt:it < s.heap.objs.size:=lt_size st;refine wpAny_pyNext_items_item st dd hv fun key h' bq st' hp hsz keep=>?_;have I1:Inv X aa σ H { s with heap:=h' }:=I.turned (t':=s.toks) keep f0 f1 f3 f4 f5;obtain ⟨n1,n2,n3,n4,n5⟩:=I.newOk (Nat.le_refl s.heap.objs.size);have I2:Inv X aa σ (upd H s.heap.objs.size (.tup [kV kv.1,kv.2])) { s with heap:=h' }:=I1.track n1 n2 (.inr n3) n4 n5 ⟨by show 2 <= sizeLine; decide,[key,v],.cons (D3 bq) (.cons rv .nil),_,hp,rfl,_,rfl⟩;have fi:(upd H s.heap.objs.size (.tup [kV kv.1,kv.2])) it=none:=by rw [AH (Nat.ne_of_lt hlt)]; exact f0
  refine ⟨.ref s.heap.objs.size,rfl,wpAny_letOwnedTupleGo_items st' fun h'' st'' sb=>?_⟩;refine ⟨.ref s.heap.objs.size,_,I2.turned (it:=it) (t':=s.toks) (fun b o hb e=>(sb.2 b hb).trans e) fi f1 f3 f4 f5,rfl,⟨_,kv,n1,rfl,hkv,rfl⟩,⟨key,v,by rw [bd]; exact st''⟩,fun b hb=>?_⟩;have e:b=it:=by simpa using hb
  rw [e]; exact fi
 done:=by
  intro X hP hw hK hc i aa s σ H E I hf st hg;subst hP hw hK;obtain ⟨hfz,hi⟩:=hg;obtain ⟨z,y,vs,rel,dd⟩:=CT I hfz;obtain ⟨ok,ov,st⟩:=st;have bd:=rel.length;rw [bd] at st;obtain ⟨f0,f1,f2,f3,f4,f5⟩:=hf it (by simp);exact wpAny_pyNext_items_end (I.ok.hd hc) st dd (List.getElem?_eq_none_iff.mpr (by omega)) fun h' eb=>⟨rfl,I.turned (t':=s.toks) (fun b o hb e=>eb b o hb e) f0 f1 f3 f4 f5⟩
 self:=fun _ _ _ _ _ st h=>by
  obtain ⟨ok,ov,e⟩:=st;exact W.kcp_self e h
def O5 (to:TE):TI:=fun σ H R=>to σ H fun x H1=>∃ a o kvs,x=.ref a/\H1 a=some (.frz o (.dK kvs))/\R (Iti a o kvs) H1
theorem MH {elts:List Expr} {k0:Nat} {o:Expr} {to:TE} {apos cpos:Pos} (ho:PE X o to) (bj:attributeBase o "items" X.env (eval o X.env)=eval o X.env:=by rfl) (bm:(apos.endLine == cpos.line)=true:=by rfl) :
  PI X (.Tuple elts k0 pos) (.Call (.Attribute o "items" apos) [] [] cpos) (O5 to):=by
 intro aa s σ H R I h;refine wpAny_Call_method0_late bj bm (thn (ho aa s σ H _ I h) fun v s1 ⟨x,H1,I1,r1,a,ob,kvs,ex,hfz,q⟩=>?_);subst ex;cases r1;obtain ⟨t1,t2,_⟩:=MA I1 (.inl ⟨kvs,.inr ⟨ob,hfz⟩⟩);obtain ⟨z,y,vs,rel,dd⟩:=CT I1 hfz;refine ⟨"dict", "dict.items", PySem.F.plainAttrs_dict,PySem.F.slot_dict_items,PySem.F.type_dict_items,t1,t2,Calls.callWith_builtin rfl (PySem.evalArgs_none (call_meetsIn PySem.F.slot_dict_items t1 PySem.F.entry_dict_items (PySem.F.args_dict_items_1 _) (meets_dict_items (Ab X.prog X.w) a y) ⟨⟨vs,dd.dictOf⟩,?_⟩))⟩;have I2:Inv X aa σ H1 { s1 with heap:=s1.heap.push { cls:=.type "dict_items", data:=.fields #[.ref a] } }:=I1.kept (t':=s1.toks) fun b o e=>get?_push_of_some _ e;refine wpAny_pyIter_items (knd:=Ab X.prog X.w) (d:=a) (kvs:=vs) (ep:=K1 ob) ⟨_,get?_push_size _ rfl,rfl,rfl⟩ (dd.push _) ?_;refine ⟨_,[_],_,_,H1,rfl,I2.kept (t':=s1.toks) fun b o e=>get?_push_of_some _ e,Jd a _ ob kvs,⟨.none,.none,by rw [rel.length]; exact get?_push_size _ rfl⟩,fun b hb=>?_,q⟩;have e:b=(s1.heap.push { cls:=.type "dict_items", data:=.fields #[.ref a] }).objs.size:=by simpa using hb
 subst e;exact I2.fpOk (Nat.le_refl _) (I2.hok.fresh (Nat.le_refl _))
def Ite (K:FG) (a:Addr):It:=⟨fun i H=>∃ xs x,SqL K H a xs/\xs[i]?=some x,fun i H x H'=>∃ p y,H p=none/\x=.ref p/\(∀ xs,SqL K H a xs->xs[i]?=some y)/\H'=upd H p (.tup [.int i,y]),fun i H=>∃ xs,SqL K H a xs/\xs.length <= i⟩
theorem K2 {elts:List Expr} {k0:Nat} (a e it:Addr) (a0:e ≠ it) :
  IH P w K (.Tuple elts k0 pos) (Ite K a) [e,it] e (fun i h=>∃ old,IsEnum h e it i old/\h.IsListIter it a i) where
 mem:=by simp
 obj:=fun i h st b hb=>by
  obtain ⟨old,e1,o,e2,c,d⟩:=st;have hb':b=e\/b=it:=by simpa using hb
  rcases hb' with rfl | rfl
  ·exact ⟨_,e1,fun v z=>by cases z⟩
  ·exact ⟨o,e2,fun v z=>by rw [d] at z; cases z⟩
 keep:=fun i h h' st k=>by
  obtain ⟨old,e1,e2⟩:=st;exact ⟨old,k e (by simp) _ e1,e2.at fun o q=>k it (by simp) o q⟩
 item:=by
  intro X hP hw hK hc i aa s σ H E I hf st hg;subst hP hw hK;obtain ⟨xs,x,hq,hx⟩:=hg;obtain ⟨its,rv,p,hz⟩:=I.list hq;obtain ⟨u,hu,ru⟩:=rv.get hx;obtain ⟨old,s1,s2⟩:=st;obtain ⟨f0,f1,f2,f3,f4,f5⟩:=hf e (by simp);obtain ⟨g0,g1,g2,g3,g4,g5⟩:=hf it (by simp);have hlt:e < s.heap.objs.size:=lt_size s1;have ce:it < s.heap.objs.size:=by obtain ⟨o,q,_⟩:=id s2; exact lt_size q
  refine wpAny_pyNext_enum_item s1 s2 p.isList (x:=u) (by simpa using hu) a0 fun h' st' st2' hp hsz keep=>?_
  have I1:Inv X aa σ H { s with heap:=h',toks:=s.toks + 1 }:=by
   refine I.step (H':=H) (g':=s.gens) (d':=s.drawn) (ch:=[e,it]) (fun b hb=>?_) (fun b o _ _ hb q _=>keep b o (by simp at hb; exact hb.1) (by simp at hb; exact hb.2) q) (fun b o _ _ hb q _=>⟨o.slots,keep b o (by simp at hb; exact hb.1) (by simp at hb; exact hb.2) q⟩)
    (fun _ _ _ _ n=>n) (fun b o hb q=>⟨o,keep b o (by simp at hb; exact hb.1) (by simp at hb; exact hb.2) q⟩) (fun _ _ q=>q) (fun _ _ _ q=>q) (fun b ps q=>⟨#[],by rw [q]; simp⟩) (fun m hm=>?_) (fun b u q=>?_) I.bare
   ·have hb':b=e\/b=it:=by simpa using hb
    rcases hb' with rfl | rfl
    ·exact ⟨f3,f1,f4,f5⟩
    ·exact ⟨g3,g1,g4,g5⟩
   ·obtain ⟨oL,es,ep,hoL,r⟩:=hm;exact ⟨oL,es,ep,keep _ oL (Ne.symm f1) (Ne.symm g1) hoL,r⟩
   ·have ne1:∀ c v,H c=some v->c ≠ e/\c ≠ it:=fun c v q=>⟨AG q f0,AG q g0⟩;refine (I.hok b u q).stay (fun c v hc q'=>keep c v ?_ ?_ q') (fun _ q=>q) fun _ _ q=>q
    ·rcases hc with z | z
     ·rw [z]; exact (ne1 b u q).1
     ·exact (ne1 c _ z).1
    ·rcases hc with z | z
     ·rw [z]; exact (ne1 b u q).2
     ·exact (ne1 c _ z).2
  obtain ⟨n1,n2,n3,n4,n5⟩:=I.newOk (Nat.le_refl s.heap.objs.size);have I2:Inv X aa σ (upd H s.heap.objs.size (.tup [.int i,x])) { s with heap:=h',toks:=s.toks + 1 }:=I1.track n1 n2 (.inr n3) n4 n5 ⟨by show 2 <= sizeLine; decide,[.int i s.toks,u],.cons ⟨_,rfl⟩ (.cons ru .nil),_,hp,rfl,_,rfl⟩;have fe:(upd H s.heap.objs.size (.tup [.int i,x])) e=none:=by rw [AH (Nat.ne_of_lt hlt)]; exact f0
  have fi:(upd H s.heap.objs.size (.tup [.int i,x])) it=none:=by rw [AH (Nat.ne_of_lt ce)]; exact g0
  refine ⟨.ref s.heap.objs.size,rfl,wpAny_letOwnedTupleGo_enum st' fun h'' st'' sb=>?_⟩;refine ⟨.ref s.heap.objs.size,_,I2.turned (it:=e) (t':=s.toks + 1) (fun b o hb q=>(sb.2 b hb).trans q) fe f1 f3 f4 f5,rfl,⟨_,x,n1,rfl,fun ys hy=>by rw [I.list_inj hy hq]; exact hx,rfl⟩,⟨_,by exact_mod_cast st'',st2'.extBut sb.extBut (Ne.symm a0)⟩,fun b hb=>?_⟩;have hb':b=e\/b=it:=by simpa using hb
  rcases hb' with rfl | rfl
  ·exact fe
  ·exact fi
 done:=by
  intro X hP hw hK hc i aa s σ H E I hf st hg;subst hP hw hK;obtain ⟨xs,hq,hx⟩:=hg;obtain ⟨its,rv,p,hz⟩:=I.list hq;obtain ⟨old,s1,s2⟩:=st;obtain ⟨g0,g1,g2,g3,g4,g5⟩:=hf it (by simp);have hl:=rv.length;exact wpAny_pyNext_enum_end (I.ok.hd hc) s1 s2 p.isList (by simp; omega) fun h' eb=>⟨rfl,I.turned (t':=s.toks) (fun b o hb e=>eb b o hb e) g0 g1 g3 g4 g5⟩
 self:=fun _ _ _ _ _ st h=>by
  obtain ⟨old,e1,_⟩:=st;exact wpAny_pyIter_enum e1 h
def QM (K:FG) (tl:TA):TI:=fun σ H R=>tl σ H fun vs H1=>∃ a,vs=[.ref a]/\(∃ xs,SqL K H1 a xs)/\R (Ite K a) H1
theorem N4 {elts:List Expr} {k0:Nat} {p cpos:Pos} {l:Expr} {tl:TA} (hg:Gl X "enumerate") (hm:X.mg "enumerate" = none) (hl:PA X [l] tl) (hs:starEach [l] X.env=[(false,eval l X.env)]:=by rfl) :
  PI X (.Tuple elts k0 pos) (.Call (.Name "enumerate" p) [l] [] cpos) (QM X.K tl):=by
 intro aa s σ H R I h;refine wpAny_Call_Name_kw (Eb (u:=.type "enumerate") I hg hm (by decide +kernel) ?_);refine PyProof.Rows.callWith_type1 (thn (hl cpos aa s σ H _ I h) fun us s1 ⟨vs,H1,I1,r1,a,ev,⟨xs,hq⟩,q⟩=>?_) hs rfl;subst ev;obtain ⟨u,rfl,ru⟩:=B2 r1;cases ru;obtain ⟨its,rv,pl,hz⟩:=I1.list hq;refine call_enumerate_list pl.isList fun h' he hi hsz keep=>?_;refine wpAny_pyIter_enum he ?_;have I2:Inv X aa σ H1 { s1 with heap:=h' }:=I1.kept (t':=s1.toks) keep;refine ⟨_,[s1.heap.objs.size + 1,s1.heap.objs.size],_,_,H1,rfl,I2,K2 a _ _ (Nat.succ_ne_self _),⟨_,he,hi⟩,fun b hb=>?_,q⟩;have hb':b=s1.heap.objs.size + 1\/b=s1.heap.objs.size:=by simpa using hb
 rcases hb' with rfl | rfl
 ·exact I1.fpOk (Nat.le_succ _) (I1.hok.fresh (Nat.le_succ _))
 ·exact I1.fpOk (Nat.le_refl _) (I1.hok.fresh (Nat.le_refl _))
def Its (x:Str):It:=⟨fun i _=>i < x.cps.size,fun i H v H'=>H'=H/\∃ c,x.cps[i]?=some c/\v=.str ⟨#[c]⟩,fun i _=>x.cps.size <= i⟩
theorem MJ {n:Str} (it:Addr) (x:Str) (t:Tok) :
  IH P w K (.Name n pos) (Its x) [it] it (fun i h=>h.IsStrIter it "str_ascii_iterator" x t i) where
 mem:=by simp
 obj:=fun i h st b hb=>by
  have e:b=it:=by simpa using hb
  subst e;obtain ⟨o,e,c,d⟩:=st;exact ⟨o,e,fun v z=>by rw [d] at z; cases z⟩
 keep:=fun i h h' st k=>by
  obtain ⟨o,e,r⟩:=st;exact ⟨o,k it (by simp) o e,r⟩
 item:=by
  intro X hP hw hK hc i aa s σ H E I hf st hg;subst hP hw hK;have hi:i < x.cps.size:=hg;obtain ⟨f0,f1,f2,f3,f4,f5⟩:=hf it (by simp);refine wpAny_pyNext_ascii_item st (Array.getElem?_eq_getElem hi) fun h' st' sb=>?_;refine ⟨_,rfl,wpAny_pure ⟨.str ⟨#[x.cps[i]]⟩,H,I.turned (t':=s.toks + 1) (fun b o hb e=>(sb.2 b hb).trans e) f0 f1 f3 f4 f5,⟨_,rfl⟩,⟨rfl,_,Array.getElem?_eq_getElem hi,rfl⟩,st',fun b hb=>(hf b hb).1⟩⟩
 done:=by
  intro X hP hw hK hc i aa s σ H E I hf st hg;subst hP hw hK;have hi:x.cps.size <= i:=hg;obtain ⟨f0,f1,f2,f3,f4,f5⟩:=hf it (by simp);exact wpAny_pyNext_ascii_end (I.ok.hd hc) st (Array.getElem?_eq_none hi) fun h' eb=>⟨rfl,I.turned (t':=s.toks) (fun b o hb e=>eb b o hb e) f0 f1 f3 f4 f5⟩
 self:=fun _ _ _ _ _ st h=>wpAny_pyIter_striter_ascii st h
def Qz (ts:TE):TI:=fun σ H R=>ts σ H fun v H1=>∃ x,v=.str x/\x.cps.all (· < 128)=true/\R (Its x) H1
theorem O6 {n:Str} {ts:TE} (he:PE X e ts):PI X (.Name n pos) e (Qz ts):=by
 intro aa s σ H R I h;refine thn (he aa s σ H _ I h) fun v s1 ⟨z,H1,I1,r1,x,ez,ha,q⟩=>?_;subst ez;obtain ⟨t,rfl⟩:=r1;refine wpAny_pyIter_ascii ha ?_;refine ⟨s1.heap.objs.size,[s1.heap.objs.size],_,_,H1,rfl,I1.kept (t':=s1.toks) fun b o e=>get?_push_of_some _ e,MJ _ x t,⟨_,get?_push_size _ rfl,rfl,rfl⟩,fun b hb=>?_,q⟩;have e:b=s1.heap.objs.size:=by simpa using hb
 subst e;exact I1.fpOk (Nat.le_refl _) (I1.hok.fresh (Nat.le_refl _))
theorem GP:entryFor table "proto.unchain" = some Builtin.«proto.unchain»:=entryFor_of_tree (by kernel_rfl)
section
variable {prog:Program}
theorem N5 {α:Type} {c e:Addr} {oc oe:Obj} {vc ve:Array Value} {Q:α->Shared->Prop} (hh:A.handled=some (.ref c)) (hce:c ≠ e) (hc:s.heap.get? c=some oc) (hdc:oc.data=.fields vc) (h2:vc[2]?=some .none)
  (he:s.heap.get? e=some oe) (hde:oe.data=.fields ve) (hz:2 < ve.size) (h:E (.ref e) { s with heap:=s.heap.update e (Obj.mapFields (·.setIfInBounds 2 (.ref c))) }):wpAny (model prog w) A (raiseNew (.ref e):Sem α) Q E s:=by
 unfold raiseNew;refine wpAny_bind (wpAny_handled ?_);rw [hh]
 dsimp only
 rw [if_pos (show (Value.ref c != Value.ref e)=true by simp [hce])];refine wpAny_bind (wpAny_holding (wpAny_runValue (codeAny_builtin GP ?_)));unfold Builtin.«proto.unchain»
 dsimp only
 refine wpAny_bind (wpAny_field hc hdc h2 ?_);rw [if_pos (by decide)];refine wpAny_pure ?_;show wpAny _ _ _ _ _ _;have up:=wpAny_setField (M:=model prog w) (A:=A) (E:=E) (x:=Value.ref c) (Q:=fun _ s'=>E (.ref e) s') he hde hz h;unfold setField at up;exact wpAny_bind (wpAny_mono up (fun _ s' z=>wpAny_throw z) fun _ _ z=>z)
theorem E8 {it l c:Addr} {i:Nat} {xs:Array Value} {oc:Obj} {vc:Array Value} {Q:Option Value->Shared->Prop} (hh:A.handled=some (.ref c)) (hc:s.heap.get? c=some oc) (hdc:oc.data=.fields vc) (h2:vc[2]?=some .none) (hci:c ≠ it)
  (hI:s.heap.IsListIter it l i) (hL:s.heap.IsList l xs) (hx:xs[i]?=none) (fin:∀ h',Heap.ExtBut it s.heap h'->Q none { s with heap:=h' }):wpAny (model prog w) A (pyNext (.ref it)) Q E s:=by
 obtain ⟨o,ho,oc1,hd⟩:=id hI;obtain ⟨ol,hol,_,nl,hdl⟩:=hL;unfold pyNext;refine wpAny_bind (wpAny_attempt (wpAny_callSpecial?_slot (name:=Str.ofString "__next__") hI.typeIs slot_listiter_next (wpAny_call_entry slot_listiter_next hI.typeIs entry_listiter_next ?_ (args_listiter_next _))));show wpAny _ _ (field (.ref it) 0 >>= _) _ _ s;refine wpAny_bind (wpAny_field (x:=.ref l) ho hd rfl ?_);show wpAny _ _ (if (Value.ref l == Value.none)=true then _ else _) _ _ s;rw [if_neg (by simp:¬ (Value.ref l == Value.none)=true)];show wpAny _ _ (field (.ref it) 1 >>= _) _ _ s;refine wpAny_bind (wpAny_field (x:=.int i 0) ho hd rfl ?_);show wpAny _ _ (seqItems? (.ref l) >>= _) _ _ s;refine wpAny_bind (wpAny_seqItems hol hdl ?_);simp only [Int.toNat_natCast,hx];refine wpAny_bind (wpAny_rule (wpAny_bind (wpAny_setField ho hd (by simp) ?_)));show wpAny _ _ (newExc (.type "StopIteration") [] >>= raiseNew) _ _ _;refine wpAny_bind ?_;simp only [newExc,newTuple];refine wpAny_bind (wpAny_newObj_type ?_ (by size_fits));refine wpAny_bind (m:=firstArgMember _ _) (wpAny_of_eq (a:=Value.none) (by first | rfl | (simp only [firstArgMember]; rfl)) (wpAny_newObj_type ?_ (by size_fits)));have k1:=(get?_update_other s.heap (Obj.mapFields (·.setIfInBounds 0 Value.none)) (Ne.symm hci)).trans hc;refine N5 (c:=c) (show A.in1.handled=_ from hh) (fun z=>?_) (get?_push_of_some _ (get?_push_of_some _ k1)) hdc h2 (get?_push_size _ rfl) rfl (by simp; omega) ?_
 ·have:=lt_size (get?_push_of_some { cls:=.type "tuple", data:=.seq #[] } k1);rw [z] at this;exact absurd this (Nat.lt_irrefl _)
 ·refine wpAny_bind (wpAny_isInstance (T := "StopIteration") (b:=true) ⟨_,Heap.get?_update_self _ (get?_push_size _ rfl) rfl,rfl⟩ isSubtype_stop ?_);refine wpAny_pure (fin _ fun b u hb z=>?_);have z1:=(get?_update_other s.heap (Obj.mapFields (·.setIfInBounds 0 Value.none)) (Ne.symm hb)).trans z;have z2:=get?_push_of_some { cls:=.type "tuple", data:=.seq #[] } z1;rw [get?_update_other _ _ (Nat.ne_of_gt (lt_size z2))];exact get?_push_of_some _ z2
end
def Sft (X:Cx):Prop:=∃ e oe vs,X.A.handled=some (.ref e)/\(e,oe) ∈ X.pn/\oe.data=.fields vs/\vs[2]?=some .none
def Rdy (X:Cx):Prop:=X.calm=true\/Sft X
theorem Je {p:Addr} {its:List Value} (hc:Rdy X) (I:Inv X aa σ H s) (pl:s.heap.IsList p its.toArray):∃ fp St,Walks X.prog X.w X.A.in1 s.heap.objs.size fp [s.heap.objs.size] its.toArray.size (fun i v=>its.toArray[i]?=some v) St /\
  St 0 (s.heap.push { cls:=.type "list_iterator", data:=.fields #[.ref p,.int 0 0] })/\∀ b ∈ fp,b < s.heap.objs.size + 1:=by
 have hp:p < s.heap.objs.size:=by obtain ⟨o,e,_⟩:=id pl; exact lt_size e
 have st0:(s.heap.push { cls:=.type "list_iterator", data:=.fields #[.ref p,.int 0 0] }).IsListIter s.heap.objs.size p 0/\(s.heap.push { cls:=.type "list_iterator", data:=.fields #[.ref p,.int 0 0] }).IsList p its.toArray :=
  ⟨⟨_,get?_push_size _ rfl,rfl,rfl⟩,pl.at fun o e=>get?_push_of_some _ e⟩
 rcases hc with hc | ⟨e,oe,vs,a,b,c,d⟩
 ·refine ⟨_,_,Walks.list (A:=X.A.in1) (show X.A.in1.handled=none from I.ok.hd hc) _ p (Nat.ne_of_lt hp) its.toArray,st0,fun b hb=>?_⟩;have z:b=s.heap.objs.size\/b=p:=by simpa using hb
  rcases z with rfl | rfl
  ·exact Nat.lt_succ_self _
  ·exact Nat.lt_succ_of_lt hp
 ·have he:=(I.pin (e,oe) (mem_append_left _ b)).1;have hlt:=lt_size he;refine ⟨[s.heap.objs.size,p,e],fun i h=>(h.IsListIter s.heap.objs.size p i/\h.IsList p its.toArray)/\h.get? e=some oe,⟨fun b hb=>by simp at hb; simp [hb],fun i h h' st k=>⟨⟨st.1.1.at fun o z=>k _ (by simp) o z,st.1.2.at fun o z=>k _ (by simp) o z⟩,k e (by simp) oe st.2⟩,?_,?_,fun _ _ _ _ st hQ=>wpAny_pyIter_listiter st.1.1 hQ⟩,⟨st0,get?_push_of_some _ he⟩,fun b hb=>?_⟩
  ·intro i s1 Q E hi st hQ;refine wpAny_pyNext_list_item st.1.1 st.1.2 (x:=its.toArray[i]) (by simp [hi]) fun h' t1 t2=>?_;exact hQ _ h' s1.toks (by simp [hi]) ⟨⟨t1,st.1.2.extBut t2.extBut (Nat.ne_of_lt hp)⟩,t2.extBut e oe (Nat.ne_of_lt hlt) st.2⟩ fun b o hb z=>t2.extBut b o (fun y=>hb (by simp [y])) z
  ·intro s1 Q E st hQ;exact E8 (show X.A.in1.handled=_ from a) st.2 c d (Nat.ne_of_lt hlt) st.1.1 st.1.2 (by simp) fun h' z=>hQ h' s1.toks fun b o hb y=>z b o (fun y'=>hb (by simp [y'])) y
  ·have z:b=s.heap.objs.size\/b=p\/b=e:=by simpa using hb
   rcases z with rfl | rfl | rfl
   ·exact Nat.lt_succ_self _
   ·exact Nat.lt_succ_of_lt hp
   ·exact Nat.lt_succ_of_lt hlt
def KR (a p:Addr):HO:=.ext fun h=>h.IsItemsView p a
def ML (a p:Addr):HO:=.ext fun h=>h.IsValuesView p a
section
variable {o:Expr} {to:TE} {name:Str} {apos cpos:Pos} {id:String} {r:V->List V->Hp->VK->Prop}
theorem MM (slot:Slot "dict" name id) (hty:typeOf (.builtin id)=pure (.type "method_descriptor")) (hm:MtR X id r) (ho:PE X o to)
  (bj:attributeBase o name X.env (eval o X.env)=eval o X.env:=by rfl) (bm:(apos.endLine == cpos.line)=true:=by rfl) :
  PE X (.Call (.Attribute o name apos) [] [] cpos) (fun σ H Q=>to σ H fun x H1=>∃ a,x=.ref a/\IsD H1 a/\r x [] H1 Q):=by
 intro aa s σ H Q I h;refine wpAny_Call_method0_late bj bm (thn (ho aa s σ H _ I h) fun v s1 ⟨x,H1,I1,r1,a,ex,d,q1⟩=>?_);subst ex;cases r1;obtain ⟨t1,t2,_⟩:=MA I1 d;exact ⟨"dict", id,PySem.F.plainAttrs_dict,slot,hty,t1,t2,Calls.callWith_builtin rfl (PySem.evalArgs_none (hm aa s1 σ H1 (.ref a) [] (.ref a) [] Q I1 rfl .nil q1))⟩
theorem MO:MtR X "dict.items" (fun x xs H Q=>∃ a kvs,x=.ref a/\xs=[]/\Rd H a (.dK kvs)/\∀ p,H p=none->Q (.ref p) (upd H p (KR a p))):=by
 intro aa s σ H x xs v us Q I rx rs h;obtain ⟨a,kvs,rfl,rfl,hd,q⟩:=h;cases rx;cases rs;obtain ⟨z,y,vs,rel,dd⟩:=CQ I.hok hd;refine call_meetsIn PySem.F.slot_dict_items dd.typeIs PySem.F.entry_dict_items (PySem.F.args_dict_items_1 _) (meets_dict_items (Ab X.prog X.w) a y) ⟨⟨vs,dd⟩,?_⟩;refine ⟨.ref s.heap.objs.size,_,I.laid (t':=s.toks) (o:=KR a s.heap.objs.size) (fun b o e=>get?_push_of_some _ e) (Nat.le_refl _) ⟨⟨_,get?_push_size _ rfl,rfl,rfl⟩,⟨_,get?_push_size _ rfl⟩,fun h1 h2 z k=>?_⟩,rfl,q _ (I.hok.fresh (Nat.le_refl _))⟩;obtain ⟨ob,e,r⟩:=z;exact ⟨ob,k ob e,r⟩
theorem K3:MtR X "dict.values" (fun x xs H Q=>∃ a kvs,x=.ref a/\xs=[]/\Rd H a (.dK kvs)/\∀ p,H p=none->Q (.ref p) (upd H p (ML a p))):=by
 intro aa s σ H x xs v us Q I rx rs h;obtain ⟨a,kvs,rfl,rfl,hd,q⟩:=h;cases rx;cases rs;obtain ⟨z,y,vs,rel,dd⟩:=CQ I.hok hd;refine call_meetsIn PySem.F.slot_dict_values dd.typeIs PySem.F.entry_dict_values (PySem.F.args_dict_values_1 _) (meets_dict_values (Ab X.prog X.w) a y) ⟨⟨vs,dd⟩,?_⟩;refine ⟨.ref s.heap.objs.size,_,I.laid (t':=s.toks) (o:=ML a s.heap.objs.size) (fun b o e=>get?_push_of_some _ e) (Nat.le_refl _) ⟨⟨_,get?_push_size _ rfl,rfl,rfl⟩,⟨_,get?_push_size _ rfl⟩,fun h1 h2 z k=>?_⟩,rfl,q _ (I.hok.fresh (Nat.le_refl _))⟩;obtain ⟨ob,e,r⟩:=z;exact ⟨ob,k ob e,r⟩
theorem Bt {α β:Type} {F:α->β->Prop}:∀ {xs:List α} {ys:List β},xs.length=ys.length->(∀ (j:Nat) x y,xs[j]?=some x->ys[j]?=some y->F x y)->Paired F xs ys
 | [],[],_,_=>.nil
 | [],_ :: _,h,_=>by simp at h
 | _ :: _,[],h,_=>by simp at h
 | x :: xs,y :: ys,h,k=>.cons (k 0 x y rfl rfl) (Bt (by simpa using h) fun j a b ea eb=>k (j + 1) a b (by simpa using ea) (by simpa using eb))
theorem Jf (hc:X.calm=true):BR X (.type "list") (fun xs H Q=>∃ a kvs,xs=[.ref a]/\Rd H a (.dK kvs)/\∀ l,H l=none->Q (.ref l) (upd H l (.lst (kvs.map fun kv=>kV kv.1)))):=by
 intro aa s σ H xs us Q I r h;obtain ⟨a,kvs,rfl,hd,q⟩:=h;obtain ⟨u,rfl,ru⟩:=B2 r;cases ru;obtain ⟨z,y,vs,rel,dd⟩:=CQ I.hok hd;obtain ⟨ep,da⟩:=dd.dictAt;have hl:=rel.length;refine W.kdl_call (W.kdl_dict (knd:=Ab X.prog X.w) (kvs:=vs) (ep:=ep) y) (I.ok.hd hc) da (by rw [← hl]; exact z) fun h' tk acc c' keep e hit=>?_;refine ⟨.ref s.heap.objs.size,_,I.laid (t':=tk) keep (Nat.le_refl _) (show ObjOk X.prog X.w _ h' _ (.lst (kvs.map fun kv=>kV kv.1)) from ⟨by rw [length_map]; exact z,acc.toList,c',?_,by rw [Array.toArray_toList]; exact e⟩),rfl,q _ (I.hok.fresh (Nat.le_refl _))⟩
 refine Bt (by have e0:acc.toList.length=acc.size:=by simp
               rw [length_map,e0,hit.1,hl]) fun j v w' ev ew=>?_
 rw [Array.getElem?_toList] at ew;obtain ⟨k,x,ex,hk⟩:=hit.2 j w' ew;rw [getElem?_map] at ev;cases e2:kvs[j]? with
 | none=>rw [e2] at ev; cases ev
 | some kv =>
  rw [e2] at ev;simp only [Option.map_some,Option.some.injEq] at ev;obtain ⟨v2,hv2,_⟩:=KV.get rel e2;rw [ex] at hv2;simp only [Option.some.injEq,Prod.mk.injEq] at hv2;rw [← ev,← hv2.1];exact D3 hk
theorem Jg (hc:X.calm=true):BR X (.type "list") (fun xs H Q=>∃ p a kvs,xs=[.ref p]/\H p=some (ML a p)/\Rd H a (.dK kvs)/\∀ l,H l=none->Q (.ref l) (upd H l (.lst (kvs.map (·.2))))):=by
 intro aa s σ H xs us Q I r h;obtain ⟨p,a,kvs,rfl,hp,hd,q⟩:=h;obtain ⟨u,rfl,ru⟩:=B2 r;cases ru;obtain ⟨z,y,vs,rel,dd⟩:=CQ I.hok hd;obtain ⟨ep,da⟩:=dd.dictAt;obtain ⟨hv,_⟩:=I.hok p _ hp;have hl:=rel.length;refine W.kdl_call (W.kdl_values (knd:=Ab X.prog X.w) (d:=a) (kvs:=vs) (ep:=ep)) (I.ok.hd hc) ⟨hv,da⟩ (by rw [← hl]; exact z) fun h' tk acc c' keep e hit=>?_;refine ⟨.ref s.heap.objs.size,_,I.laid (t':=tk) keep (Nat.le_refl _) (show ObjOk X.prog X.w _ h' _ (.lst (kvs.map (·.2))) from ⟨by rw [length_map]; exact z,acc.toList,c',?_,by rw [Array.toArray_toList]; exact e⟩),rfl,q _ (I.hok.fresh (Nat.le_refl _))⟩
 refine Bt (by have e0:acc.toList.length=acc.size:=by simp
               rw [length_map,e0,hit.1,hl]) fun j v w' ev ew=>?_
 rw [Array.getElem?_toList] at ew;obtain ⟨k,ex⟩:=hit.2 j w' ew;rw [getElem?_map] at ev;cases e2:kvs[j]? with
 | none=>rw [e2] at ev; cases ev
 | some kv =>
  rw [e2] at ev;simp only [Option.map_some,Option.some.injEq] at ev;obtain ⟨v2,hv2,rv2⟩:=KV.get rel e2;rw [ex] at hv2;simp only [Option.some.injEq,Prod.mk.injEq] at hv2;rw [← ev,hv2.2];exact rv2
theorem D4 (hc:X.calm=true):BR X (.builtin "sorted") (fun xs H Q=>∃ a kvs,xs=[.ref a]/\Rd H a (.dK kvs)/\kvs.length < 64/\(∀ kv ∈ kvs,∃ i,kv.1=Sum.inl i) /\
  ∀ (l:Addr) (ns:List Int),H l=none->ns.Perm (kvs.map fun kv=>match kv.1 with | Sum.inl i=>i | Sum.inr _=>0)->ns.Pairwise (· <= ·)->Q (.ref l) (upd H l (.lst (ns.map V.int)))):=by
 intro aa s σ H xs us Q I r h;obtain ⟨a,kvs,rfl,hd,h64,hk,q⟩:=h;obtain ⟨u,rfl,ru⟩:=B2 r;cases ru;obtain ⟨z,y,vs,rel,dd⟩:=CQ I.hok hd;obtain ⟨ep,da⟩:=dd.dictAt;have hl:=rel.length;refine Calls.call_function_entry kind_sorted plain_sorted entry_sorted (args_sorted1 _) ?_;unfold Builtin.«sorted»;refine wpAny_bind (m:=checkCount "sorted" 1 1 _) (wpAny_pure ?_);refine wpAny_bind (W.kdu_collect (A:=X.A.in1) (W.kdl_dict (knd:=Ab X.prog X.w) (kvs:=vs) (ep:=ep) y) (I.ok.hd hc) da (by rw [← hl]; exact z) fun h' tk acc keep hit=>?_)
 have ax:acc.toList.length=kvs.length:=by
  have e0:acc.toList.length=acc.size:=by simp
  rw [e0,hit.1,hl]
 refine wpAny_bind (wpAny_newList ?_ (by rw [ax]; exact z))
 have bh:IntsAre acc.toList (kvs.map fun kv=>match kv.1 with | Sum.inl i=>i | Sum.inr _=>0):=by
  refine B3 (Bt (by rw [length_map,length_map,ax]) fun j v w' ev ew=>?_);rw [Array.getElem?_toList] at ew;obtain ⟨k,x,ex,hkk⟩:=hit.2 j w' ew;rw [getElem?_map,getElem?_map] at ev;cases e2:kvs[j]? with
  | none=>rw [e2] at ev; cases ev
  | some kv =>
   rw [e2] at ev;simp only [Option.map_some,Option.some.injEq] at ev;obtain ⟨v2,hv2,_⟩:=KV.get rel e2;rw [ex] at hv2;simp only [Option.some.injEq,Prod.mk.injEq] at hv2;obtain ⟨i,hi⟩:=hk kv (mem_of_getElem? e2);rw [hv2.1,hi] at hkk;rw [← ev,hi];exact D3 hkk
 have I1:Inv X aa σ H { s with heap:=h',toks:=tk }:=I.kept keep;have hoL:(h'.push { cls:=.type "list", data:=.seq acc.toList.toArray }).get? h'.objs.size=some (seqObj "list" acc.toList.toArray 0):=get?_push_size _ rfl;refine wpAny_bind (wpAny_holding (wpAny_call_entry slot_list_sort ⟨_,hoL,rfl⟩ entry_list_sort (list_sort_tree hoL bh (by rw [ax]; exact h64) fun out ns' a1 a2 a3=>⟨_,rfl,?_⟩) (args_list_sort _)));refine wpAny_pure ⟨_,rfl,?_⟩;have hn:H h'.objs.size=none:=I1.hok.fresh (Nat.le_refl _);have bd:ns'.length=kvs.length:=by rw [a2.length_eq,length_map]
 refine ⟨.ref h'.objs.size,_,I1.laid (t':=tk) (o:=.lst (ns'.map V.int)) (h':=sortedHeap (h'.push { cls:=.type "list", data:=.seq acc.toList.toArray }) h'.objs.size acc.toList out) (fun b o e=>?_) (Nat.le_refl _) ⟨by rw [length_map,bd]; exact z,out.toList,?_⟩,rfl,q _ ns' hn a2 a3⟩
 ·rw [sortedHeap_old (Nat.ne_of_lt (lt_size e)) (lt_size (get?_push_of_some _ e))];exact get?_push_of_some _ e
 ·obtain ⟨c,hcx⟩:=sortedHeap_at (out:=out) hoL;exact ⟨c,DD a1,by rw [Array.toArray_toList]; exact hcx⟩
end
section
theorem D5 (hc:X.calm=true):BR X (.builtin "all") (fun xs H Q=>∃ (p:Addr) (bs:List Bool),xs=[.ref p]/\SqL X.K H p (bs.map V.bl)/\Q (.bl (bs.all id)) H):=by
 intro aa s σ H xs us Q I r h;obtain ⟨p,bs,rfl,hq,q⟩:=h;obtain ⟨u,rfl,ru⟩:=B2 r;cases ru;obtain ⟨its,rv,pl,hz⟩:=I.list hq;have hp:p < s.heap.objs.size:=by obtain ⟨o,n,e,_⟩:=id pl; exact lt_size e
 have bd:bs.length=its.length:=by have:=rv.length; rw [length_map] at this; exact this
 refine call_all_walk (wpAny_pyIter_list pl.isList ?_);refine ⟨_,_,_,_,_,_,fun i=>bs.getD i false,rfl,Walks.list (A:=X.A.in1) (show X.A.in1.handled=none from I.ok.hd hc) _ p (Nat.ne_of_lt hp) its.toArray,⟨⟨_,get?_push_size _ rfl,rfl,rfl⟩,pl.isList.at fun o e=>get?_push_of_some _ e⟩,fun i v s' Q' E' hP hQ=>?_,fun h' tk keep=>?_⟩
 ·have hv:its[i]?=some v:=by simpa using hP
  have hi:i < its.length:=(List.getElem?_eq_some_iff.mp hv).1;have hb:bs[i]?=some (bs[i]'(by omega)):=List.getElem?_eq_getElem (by omega);obtain ⟨u',hu',ru'⟩:=rv.get (i:=i) (x:=V.bl (bs[i]'(by omega))) (by rw [getElem?_map,hb]; rfl);rw [hv] at hu';cases hu';cases (show v=Value.bool _ from ru');refine wpAny_truthy_bool ?_;have hQ':Q' (bs.getD i false) s':=hQ;rw [getD_eq_getElem?_getD,hb] at hQ';exact hQ'
 ·have I1:Inv X aa σ H { s with heap:=h',toks:=tk }:=I.kept fun b o e=>keep b o (by simp; exact Nat.ne_of_lt (lt_size e)) (get?_push_of_some _ e);refine ⟨.bl _,H,I1,rfl,?_⟩
  have e:(List.range its.toArray.size).all (fun i=>bs.getD i false)=bs.all id:=by
   rw [size_toArray,← bd,Bool.eq_iff_iff,List.all_eq_true,List.all_eq_true];constructor
   ·intro h b hb;obtain ⟨i,hi,rfl⟩:=List.mem_iff_getElem.mp hb;have:=h i (mem_range.mpr hi);rw [getD_eq_getElem?_getD,List.getElem?_eq_getElem hi] at this;exact this
   ·intro h i hi;have hi':=mem_range.mp hi;rw [getD_eq_getElem?_getD,List.getElem?_eq_getElem hi'];exact h _ (List.getElem_mem hi')
  rw [e];exact q
theorem Cv (ns:List Int):∀ k,k <= ns.length->preSum (fun i=>ns.getD i 0) k=(ns.take k).sum
 | 0,_=>by simp [preSum]
 | k + 1,h=>by
  have ih:=Cv ns k (by omega);have hk:k < ns.length:=by omega
  simp only [preSum,ih];rw [take_add_one,List.getElem?_eq_getElem hk,sum_append];simp [getD_eq_getElem?_getD,List.getElem?_eq_getElem hk]
theorem K4 (hc:Rdy X):BR X (.builtin "sum") (fun xs H Q=>∃ (p:Addr) (ns:List Int),xs=[.ref p]/\SqL X.K H p (ns.map V.int)/\(∀ n ∈ ns,0 <= n)/\ns.sum < 2 ^ 62/\Q (.int ns.sum) H):=by
 intro aa s σ H xs us Q I r h;obtain ⟨p,ns,rfl,hq,hnn,hsum,q⟩:=h;obtain ⟨u,rfl,ru⟩:=B2 r;cases ru;obtain ⟨its,rv,pl,hz⟩:=I.list hq;have hp:p < s.heap.objs.size:=by obtain ⟨o,n,e,_⟩:=id pl; exact lt_size e
 have bd:ns.length=its.length:=by have:=rv.length; rw [length_map] at this; exact this
 have tk0:∀ k,0 <= (ns.take k).sum:=fun k=>by
  have:∀ l:List Int,(∀ n ∈ l,0 <= n)->0 <= l.sum:=fun l=>by
   induction l with
   | nil=>intro _; simp
   | cons a r ih=>intro h; rw [sum_cons]; have:=h a mem_cons_self; have:=ih fun n hn=>h n (mem_cons_of_mem _ hn); omega
  exact this _ fun n hn=>hnn n (List.mem_of_mem_take hn)
 have tkle:∀ k,(ns.take k).sum <= ns.sum:=fun k=>by
  have e:ns.sum=(ns.take k).sum + (ns.drop k).sum:=by rw [← sum_append,take_append_drop]
  have:∀ l:List Int,(∀ n ∈ l,0 <= n)->0 <= l.sum:=fun l=>by
   induction l with
   | nil=>intro _; simp
   | cons a r ih=>intro h; rw [sum_cons]; have:=h a mem_cons_self; have:=ih fun n hn=>h n (mem_cons_of_mem _ hn); omega
  have:=this _ fun n hn=>hnn n (List.mem_of_mem_drop (i:=k) hn);omega
 refine call_sum_walk (wpAny_pyIter_list pl.isList ?_);obtain ⟨fp,St,W,st0,hfp⟩:=Je hc I pl.isList;refine ⟨_,_,_,_,_,_,fun i=>ns.getD i 0,rfl,W,st0,fun b hb=>?_,fun i v hP=>?_,fun j hj=>?_,fun h' tk t' keep=>?_⟩
 ·have hs:(s.heap.push { cls:=.type "list_iterator", data:=.fields #[.ref p,.int 0 0] }).objs.size=s.heap.objs.size + 1:=size_push ..;show b < (s.heap.push { cls:=.type "list_iterator", data:=.fields #[.ref p,.int 0 0] }).objs.size;rw [hs];exact hfp b hb
 ·have hv:its[i]?=some v:=by simpa using hP
  have hi:i < its.length:=(List.getElem?_eq_some_iff.mp hv).1;have hb:ns[i]?=some (ns[i]'(by omega)):=List.getElem?_eq_getElem (by omega);obtain ⟨u',hu',t,ru'⟩:=rv.get (i:=i) (x:=V.int (ns[i]'(by omega))) (by rw [getElem?_map,hb]; rfl);rw [hv] at hu';cases hu';refine ⟨t,?_⟩;show v=Value.int (ns.getD i 0) t;rw [ru',getD_eq_getElem?_getD,hb];rfl
 ·have hj':j < ns.length:=by rw [size_toArray] at hj; omega
  rw [Cv ns (j + 1) (by omega)];have h1:=tk0 (j + 1);have h2:=tkle (j + 1);have h3:ns.getD j 0=ns[j]:=by rw [getD_eq_getElem?_getD,List.getElem?_eq_getElem hj']; rfl
  have h4:=hnn _ (List.getElem_mem hj');have h5:(ns.take (j + 1)).sum=(ns.take j).sum + ns[j]:=by rw [take_add_one,List.getElem?_eq_getElem hj',sum_append]; simp
  have h6:=tk0 j;show InLong (ns.getD j 0)/\InLong _;unfold InLong;rw [h3];omega
 ·have I1:Inv X aa σ H { s with heap:=h',toks:=tk }:=I.kept fun b o e=>keep b o (by simp; exact Nat.ne_of_lt (lt_size e)) (get?_push_of_some _ e);refine ⟨.int ns.sum,H,I1,⟨t',?_⟩,q⟩;rw [size_toArray,← bd,Cv ns ns.length (Nat.le_refl _),take_length]
theorem MP (hc:X.calm=true):BR X (.builtin "sum") (fun xs H Q=>∃ (p:Addr) (ns:List Int),xs=[.ref p]/\SqL X.K H p (ns.map V.int)/\(∀ n ∈ ns,0 <= n)/\ns.sum < 2 ^ 62/\Q (.int ns.sum) H):=K4 (.inl hc)
theorem HN:MtR X "int.bit_length" (fun x xs H Q=>∃ i,x=.int i/\xs=[]/\Q (.int (Builtin.Int.intBits i)) H):=by
 intro aa s σ H x xs v us Q I rx rs h;obtain ⟨i,rfl,rfl,q⟩:=h;obtain ⟨t,rfl⟩:=rx;cases rs;exact call_int_bit_length ⟨.int _,H,I.tok _,⟨_,rfl⟩,q⟩
theorem Gu:OpR X (compareOp .LtE) (fun x y H Q=>∃ i j,x=.str i/\y=.str j/\Q (.bl (!decide (j.cps.toList < i.cps.toList))) H):=by
 intro aa s σ H x y v u Q I rx ry h;obtain ⟨i,j,rfl,rfl,q⟩:=h;obtain ⟨t,rfl⟩:=rx;obtain ⟨t',rfl⟩:=ry;exact PySem.P.le_str (Aj I q rfl)
theorem GQ:MtR X "dict.setdefault" (fun x xs H Q=>∃ a kvs k v,x=.ref a/\xs=[kV k,v]/\H a=some (.dK kvs)/\kvs.length < sizeLine /\
  (∀ w,Ah kvs k=some w->Q w H)/\(Ah kvs k=none->Q v (upd H a (.dK (A1 kvs k v))))):=by
 intro aa s σ H x xs u us Q I rx rs h;obtain ⟨a,kvs,k,v,rfl,rfl,hd,hl,q1,q2⟩:=h;cases rx;obtain ⟨uk,uv,rfl,rk,rv⟩:=E2 rs;obtain ⟨z,y,vs,rel,dd⟩:=KM I.hok hd;refine call_meetsIn PySem.F.slot_dict_setdefault dd.typeIs PySem.F.entry_dict_setdefault (PySem.F.args_dict_setdefault_3 _ _ _) (PySem.kt_meets_setdefault (Ab X.prog X.w) a (Dx rk) y uv) ⟨vs,dd,by rw [← rel.length]; exact z,fun w' hw=>?_,fun hn h' dd' hs=>?_⟩
 ·have rr:=rel.val k;rw [hw] at rr;cases e:Ah kvs k with
  | none=>rw [e] at rr; exact False.elim rr
  | some w=>rw [e] at rr; exact ⟨w,H,I.tok _,rr,q1 w e⟩
 ·have rr:=rel.val k;rw [hn] at rr
  have e:Ah kvs k=none:=by
   cases e:Ah kvs k with
   | none=>rfl
   | some w=>rw [e] at rr; exact False.elim rr
  have he:∃ q,h'.get? a=some q:=let ⟨q,_,_,hq,_⟩:=dd'; ⟨q,hq⟩
  have hl':(A1 kvs k v).length <= sizeLine:=by have:=BL kvs k v; omega
  exact ⟨v,_,Dy I (by rw [hd]; exact True.intro) hs he (FV hl' y (rel.put k rv) dd'),rv,q2 e⟩
theorem MQ:BR X (.builtin "isinstance") (fun xs H Q=>∃ v T t b,xs=[v,.ty T]/\TyOf X.K H v t/\W.kitOne X.K t (.type T)=some b/\Q (.bl b) H):=by
 intro aa s σ H xs us Q I r h;obtain ⟨v,T,t,b,rfl,ty,hk,q⟩:=h;obtain ⟨u,uT,rfl,ru,ruT⟩:=E2 r;cases (show uT=Value.type T from ruT);exact Ge I ru ty hk fun tk=>⟨.bl b,H,I.tok tk,rfl,q⟩
end
def IU (d:Int):List Int->Int
 | []=>d
 | n :: r=>r.foldl max n
theorem Gv (d:Int) (ns:List Int) (n:Int) (h:ns ≠ []):IU d (ns++[n])=max (IU d ns) n:=by
 cases ns with
 | nil=>exact absurd rfl h
 | cons a r=>show (r++[n]).foldl max a=_; rw [foldl_append]; rfl
theorem K5 (a v:Value):argsOk "max" ⟨[a],[(Str.ofString "default", v)]⟩:=by unfold argsOk; kernel_rfl
section
variable {prog:Program} {R:Result->Shared->Prop} {p I S:Addr} {its:List Value} {ns:List Int} {d:Value}
def MR:Option (Int × Tok)->Array Value
 | none=>#[]
 | some (m,t)=>#[.int m t,.int m t]
theorem K6 (hh:A.handled=none) (bh:IntsAre its ns) (hpI:p ≠ I) (hSI:S ≠ I) (hpS:p ≠ S)
  (hR:∀ h' tk v,(∀ b o,b ≠ I->b ≠ S->s.heap.get? b=some o->h'.get? b=some o)->(ns=[]->v=d)->(ns ≠ []->∃ t,v=.int (IU 0 ns) t)->R (.ok (.ret v)) { s with heap:=h',toks:=tk }) :
  ∀ (k i:Nat) (h:Heap) (tk c:Nat) (b:Option (Int × Tok)),its.length - i=k->i <= its.length->h.IsListIter I p i->h.IsList p its.toArray->h.get? S=some { cls:=.type "list", data:=.seq (MR b) c } ->
   (b=none->i=0)->(∀ m t,b=some (m,t)->0 < i/\m=IU 0 (ns.take i))->(∀ b' o,b' ≠ I->b' ≠ S->s.heap.get? b'=some o->h.get? b'=some o) ->
   codeAny (model prog w) A (.builtin "max.loop" ⟨[.ref I,.none,.ref S],[(Str.ofString "default", d)]⟩) R { s with heap:=h,toks:=tk }:=by
 have br:(toString "max" ++ toString ".loop" : String) = "max.loop" := by decide
 have bd:=bh.length;intro k;induction k with
 | zero =>
  intro i h tk c b hk hi hit hl hS hb0 hb1 keep;have e:i=its.length:=by omega
  refine codeAny_builtin PySem.F.entry_max_loop ?_;rw [Around.under_plainId PySem.F.plain_max_loop _];show wpAny _ A.in1 (seqItems? (.ref S) >>= _) _ _ _;refine wpAny_bind (wpAny_seqItems hS rfl ?_);show wpAny _ A.in1 (tryCatch (pyNext (.ref I)) _ >>= _) _ _ _;refine wpAny_bind (wpAny_tryCatch (wpAny_pyNext_list_end (show A.in1.handled=none from hh) hit hl (by simp; omega) fun h' eb=>?_));cases b with
  | none =>
   have hn:ns=[]:=by
    have:=hb0 rfl;exact List.eq_nil_of_length_eq_zero (by omega)
   exact wpAny_bind (wpAny_rule (wpAny_pure (hR h' tk d (fun b o h1 h2 q=>eb b o h1 (keep b o h1 h2 q)) (fun _=>rfl) fun z=>absurd hn z)))
  | some mt =>
   obtain ⟨m,t⟩:=mt;obtain ⟨hpos,hm⟩:=hb1 m t rfl
   have a0:ns ≠ []:=fun z=>by
    have:its.length=0:=by rw [bd,z]; rfl
    omega
   show wpAny _ A.in1 (updateSeq S (fun _=>#[]) >>= _) _ _ _;refine wpAny_bind (wpAny_updateSeq (eb S _ hSI hS) rfl (wpAny_bind (wpAny_letGo (wpAny_pure ?_))) sl2);refine hR _ tk _ (fun b o h1 h2 q=>(get?_update_other _ _ (Ne.symm h2)).trans (eb b o h1 (keep b o h1 h2 q))) (fun z=>absurd z a0) fun _=>⟨t,?_⟩;rw [hm,e,bd,take_length]
 | succ k ih =>
  intro i h tk c b hk hi hit hl hS hb0 hb1 keep;have hlt:i < its.length:=by omega
  have hv:its[i]?=some its[i]:=List.getElem?_eq_getElem hlt
  obtain ⟨n,t,hn,hvt⟩:∃ n t,ns[i]?=some n/\its[i]=.int n t:=by
   have hi2:i < ns.length:=by omega
   obtain ⟨u,hu,t,ru⟩:=(DD bh).get (i:=i) (x:=V.int ns[i]) (by rw [getElem?_map,List.getElem?_eq_getElem hi2]; rfl);rw [hv] at hu;exact ⟨ns[i],t,List.getElem?_eq_getElem hi2,(Option.some.inj hu).trans ru⟩
  refine codeAny_builtin PySem.F.entry_max_loop ?_;rw [Around.under_plainId PySem.F.plain_max_loop _];show wpAny _ A.in1 (seqItems? (.ref S) >>= _) _ _ _;refine wpAny_bind (wpAny_seqItems hS rfl ?_);show wpAny _ A.in1 (tryCatch (pyNext (.ref I)) _ >>= _) _ _ _;refine wpAny_bind (wpAny_tryCatch (wpAny_pyNext_list_item hit hl (x:=.int n t) (by simpa [hvt] using hv) fun h' hit' sb=>?_));have hS':h'.get? S=some { cls:=.type "list", data:=.seq (MR b) c }:=(sb.2 S hSI).trans hS;have hl':h'.IsList p its.toArray:=hl.at fun o q=>(sb.2 p hpI).trans q;have keep':∀ b' o,b' ≠ I->b' ≠ S->s.heap.get? b'=some o->h'.get? b'=some o:=fun b' o h1 h2 q=>(sb.2 b' h1).trans (keep b' o h1 h2 q);have etk:ns.take (i + 1)=ns.take i++[n]:=by rw [take_add_one,hn]; rfl
  have store:∀ c0,(∀ v,v=Value.int n t->(h'.update S (Obj.mapSeq fun _=>#[v,v])).get? S=some { cls:=.type "list", data:=.seq (MR (some (n,t))) c0 })->n=IU 0 (ns.take (i + 1)) ->
    codeAny (model prog w) A (.builtin "max.loop" ⟨[.ref I,.none,.ref S],[(Str.ofString "default", d)]⟩) R { s with heap:=h'.update S (Obj.mapSeq fun _=>#[.int n t,.int n t]),toks:=tk }:=fun c0 e0 em =>
   ih (i + 1) _ tk c0 (some (n,t)) (by omega) hlt (hit'.at fun o q=>(get?_update_other _ _ hSI).trans q) (hl'.at fun o q=>(get?_update_other _ _ (Ne.symm hpS)).trans q) (e0 _ rfl) (fun z=>by cases z)
    (fun m t' z=>by cases z; exact ⟨Nat.succ_pos _,em⟩) fun b' o h1 h2 q=>(get?_update_other _ _ (Ne.symm h2)).trans (keep' b' o h1 h2 q)
  cases b with
  | none =>
   have hi0:=hb0 rfl;show wpAny _ A.in1 (updateSeq S (fun _=>#[Value.int n t,Value.int n t]) >>= _) _ _ _;refine wpAny_bind (wpAny_updateSeq hS' rfl ?_);rw [br];refine wpAny_pure ⟨plainId_quiet PySem.F.plain_max_loop _,store _ (fun v e=>by subst e; exact get?_update_seq hS' fun _=>#[_,_]) ?_⟩;rw [etk,hi0];rfl
  | some mt =>
   obtain ⟨m,t0⟩:=mt;obtain ⟨hpos,hm⟩:=hb1 m t0 rfl
   have a0:ns.take i ≠ []:=fun z=>by
    have:=congrArg List.length z;rw [length_take,length_nil] at this;omega
   show wpAny _ A.in1 (tryCatch (holding [Value.int n t,Value.int n t] (richCompare .Gt (.int n t) (.int m t0) >>= _)) _ >>= _) _ _ _
   refine wpAny_bind (wpAny_tryCatch (wpAny_holding (wpAny_bind (CmpOf.ints_gt (P:=fun i v=>(i=0/\v=.int n t)\/(i=1/\v=.int m t0)) (fun i=>if i=0 then n else m) (fun i v h=>by
    rcases h with ⟨rfl,rfl⟩ | ⟨rfl,rfl⟩
    ·exact ⟨t,rfl⟩
    ·exact ⟨t0,rfl⟩) 0 1 _ _ _ _ _ (.inl ⟨rfl,rfl⟩) (.inr ⟨rfl,rfl⟩) ?_))))
   refine wpAny_bind (wpAny_holding (wpAny_truthy_bool ?_));refine wpAny_bind (wpAny_letGo (wpAny_pure ?_));by_cases hgt:n > m
   ·have e1:(fun (i j:Nat)=>decide ((if i=0 then n else m) > if j=0 then n else m)) 0 1=true:=decide_eq_true hgt;rw [e1];simp only [if_true];refine wpAny_bind (wpAny_updateSeq hS' rfl (wpAny_bind (wpAny_letGo ?_)) sl2);rw [br];refine wpAny_pure ⟨plainId_quiet PySem.F.plain_max_loop _,store _ (fun v e=>by subst e; exact get?_update_seq hS' fun _=>#[_,_]) ?_⟩;rw [etk,Gv 0 _ n a0,← hm];omega
   ·have e1:(fun (i j:Nat)=>decide ((if i=0 then n else m) > if j=0 then n else m)) 0 1=false:=decide_eq_false hgt;rw [e1];simp only [Bool.false_eq_true,if_false];refine wpAny_bind (wpAny_letGo ?_);rw [br]
    refine wpAny_pure ⟨plainId_quiet PySem.F.plain_max_loop _,ih (i + 1) _ tk c (some (m,t0)) (by omega) hlt hit' hl' hS' (fun z=>by cases z) (fun m' t' z=>by
     cases z;refine ⟨Nat.succ_pos _,?_⟩;rw [etk,Gv 0 _ n a0,← hm]
     omega) keep'⟩
end
section
variable {c:Expr} {tc:TE} {p kp:Pos}
theorem KS (hc:X.calm=true) (hg:Gl X "max") (hm:X.mg "max" = none) (he:PE X e te) (hcc:PE X c tc) (hs:starEach [e] X.env=(false,eval e X.env) :: starEach [] X.env:=by rfl)
  (hs2:backTo pos (starEach [e] X.env)=(false,eval e X.env) :: backTo pos (starEach [] X.env):=by rfl) :
  PE X (.Call (.Name "max" p) [e] [⟨some "default", c,kp⟩] pos) (fun σ H Q=>te σ H fun x H1=>tc σ H1 fun y H2=>∃ (a:Addr) (ns:List Int) (d:Int),x=.ref a/\y=.int d/\SqL X.K H2 a (ns.map V.int)/\(ns=[]->Q (.int d) H2)/\(ns ≠ []->Q (.int (IU 0 ns)) H2)):=by
 intro aa s σ H Q I h;refine wpAny_Call_Name_kw (Eb (u:=.builtin "max") I hg hm boot_max ?_)
 let R3:V->V->Hp->Prop:=fun x y H2=>∃ (a:Addr) (ns:List Int) (d:Int),x=.ref a/\y=.int d/\SqL X.K H2 a (ns.map V.int)/\(ns=[]->Q (.int d) H2)/\(ns ≠ []->Q (.int (IU 0 ns)) H2)
 refine callWith_kw (thn ((AA he AC hs:PA X [e] (A5 te IK)) pos aa s σ H (fun vs H1=>match vs with | [x]=>tc σ H1 (fun y H2=>R3 x y H2) | _=>False) I h) fun us s1 ⟨vs,H1,I1,r1,q1⟩=>?_) hs2 (by rw [hs2]; rfl)
 match vs,r1,q1 with
 | [x],r1,q1 =>
  refine thn ((HJ (nm:=some "default") (kpos:=kp) hcc JZ:PK X [⟨some "default", c,kp⟩] (A5 tc IK)) pos aa s1 σ H1 (fun vs H2=>match vs with | [y]=>R3 x y H2 | _=>False) I1 q1) fun us2 s2 ⟨vs2,H2,I2,r2,q2⟩=>?_
  match vs2,r2,q2 with
  | [y],r2,q2 =>
   obtain ⟨a,ns,d,rfl,rfl,hq,k1,k2⟩:=q2;obtain ⟨u,rfl,ru⟩:=B2 r1;cases ru;obtain ⟨ud,rfl,td,rud⟩:=B2 r2;subst rud;obtain ⟨its,rv,pl,hz⟩:=I2.list hq;have hp:a < s2.heap.objs.size:=by obtain ⟨o,n,e,_⟩:=id pl; exact lt_size e
   show wpAny _ _ (call (.builtin "max") [.ref a] [(Str.ofString "default", .int d td)]) _ _ _;refine PyProof.Rows.kmk_tree PySem.F.kind_max PySem.F.plain_max PySem.F.entry_max (K5 _ _) ?_;show wpAny _ X.A.in1 (Builtin.Builtins.bindParams "max" ["key", "default"] 0 ⟨[],[(Str.ofString "default", .int d td)]⟩ >>= _) _ _ _;refine wpAny_bind (wpAny_of_eq (show Builtin.Builtins.bindParams "max" ["key", "default"] 0 ⟨[],[(Str.ofString "default", Value.int d td)]⟩=pure [none,some (.int d td)] from rfl) ?_);refine wpAny_bind (wpAny_pure ?_);refine wpAny_bind (wpAny_pyIter_list pl.isList ?_);refine wpAny_bind (wpAny_newList ?_ (Nat.zero_le _));have br:(toString "max" ++ toString ".loop" : String) = "max.loop" := by decide
   rw [br];have hS:(s2.heap.push { cls:=.type "list_iterator", data:=.fields #[.ref a,.int 0 0] }).objs.size=s2.heap.objs.size + 1:=size_push ..
   refine wpAny_pure ⟨plainId_quiet PySem.F.plain_max_loop _,K6 (its:=its) (ns:=ns) (s:=s2) (I.ok.hd hc) (B3 rv) (Nat.ne_of_lt hp) (by rw [hS]; exact Nat.succ_ne_self _) (by rw [hS]; exact Nat.ne_of_lt (Nat.lt_succ_of_lt hp))
    (fun h' tk v keep e1 e2=>?_) _ 0 _ _ 0 none rfl (Nat.zero_le _) ⟨_,get?_push_of_some _ (get?_push_size _ rfl),rfl,rfl⟩ (pl.isList.at fun o q=>get?_push_of_some _ (get?_push_of_some _ q)) (get?_push_size _ rfl) (fun _=>rfl) (fun m t z=>by cases z) fun b o h1 h2 q=>get?_push_of_some _ (get?_push_of_some _ q)⟩
   have I3:Inv X aa σ H2 { s2 with heap:=h',toks:=tk }:=I2.kept fun b o q=>keep b o (Nat.ne_of_lt (lt_size q)) (by rw [hS]; exact Nat.ne_of_lt (Nat.lt_succ_of_lt (lt_size q))) q;by_cases hn:ns=[]
   ·rw [e1 hn];exact ⟨.int d,H2,I3,⟨td,rfl⟩,k1 hn⟩
   ·obtain ⟨t,ev⟩:=e2 hn;rw [ev];exact ⟨.int _,H2,I3,⟨t,rfl⟩,k2 hn⟩
end
def TupsAt (H:Hp):List Addr->List (V × V)->Prop:=Paired fun b p=>H b=some (.tup [p.1,p.2])
theorem TupsAt.same {as:List Addr} {ps:List (V × V)} (s:∀ b o,H b=some o->H' b=some o) (h:TupsAt H as ps):TupsAt H' as ps:=Paired.mapP h fun _ _ e=>s _ _ e
theorem Inv.trackTups {as:List Addr} {ps:List (V × V)} (hr:Paired (fun a (p:V × V)=>∃ its,Vals [p.1,p.2] its/\IsTup s.heap a its.toArray) as ps):∀ (H:Hp),Inv X aa σ H s->as.Pairwise (· < ·) ->
  (∀ a ∈ as,H a=none/\a ≠ X.env.locals/\X.s₀.heap.objs.size <= a/\(∀ x c,X.env.cells.lookup x=some c->c ≠ a)/\∀ q ∈ X.pn++aa,q.1 ≠ a)->∃ H',Inv X aa σ H' s/\Same H H'/\TupsAt H' as ps:=by
 induction hr with
 | nil=>intro H I _ _; exact ⟨H,I,Same.refl H,.nil⟩
 | @cons a p as ps h hr ih =>
  intro H I hp hok;obtain ⟨its,hv,ht⟩:=h;obtain ⟨p1,p2⟩:=List.pairwise_cons.mp hp;obtain ⟨o1,o2,o3,o4,o5⟩:=hok a mem_cons_self;have I1:Inv X aa σ (upd H a (.tup [p.1,p.2])) s:=I.track o1 o2 (.inr o3) o4 o5 ⟨by show 2 <= sizeLine; decide,its,hv,ht⟩;have s1:Same H (upd H a (.tup [p.1,p.2])):=fun b u e=>by rw [AH (AG e o1)]; exact e
  obtain ⟨H',I',s',t'⟩:=ih _ I1 p2 (fun b hb=>by
   obtain ⟨q1,q2⟩:=hok b (mem_cons_of_mem _ hb)
   exact ⟨by rw [AH (Nat.ne_of_gt (p1 b hb))]; exact q1,q2⟩)
  exact ⟨H',I',s1.trans s',.cons (s' _ _ AB) t'⟩
theorem Jh (hc:X.calm=true):BR X (.type "list") (fun xs H Q=>∃ p a kvs,xs=[.ref p]/\H p=some (KR a p)/\Rd H a (.dK kvs) /\
  ∀ l as H',Same H H'->H l=none->H' l=some (.lst (as.map V.ref))->TupsAt H' as (kvs.map fun kv=>(kV kv.1,kv.2))->Q (.ref l) H'):=by
 intro aa s σ H xs us Q I r h;obtain ⟨p,a,kvs,rfl,hp,hd,q⟩:=h;obtain ⟨u,rfl,ru⟩:=B2 r;cases ru;obtain ⟨z,y,vs,rel,dd⟩:=CQ I.hok hd;obtain ⟨ep,da⟩:=dd.dictAt;obtain ⟨hv,_⟩:=I.hok p _ hp;have hl:=rel.length;refine W.kdx_call (knd:=Ab X.prog X.w) (kvs:=vs) (ep:=ep) (I.ok.hd hc) hv da (by rw [← hl]; exact z) fun h' tk acc c as keep e bd G bn=>?_;have I1:Inv X aa σ H { s with heap:=h',toks:=tk }:=I.kept keep;obtain ⟨n1,n2,n3,n4,n5⟩:=I.newOk (Nat.le_refl s.heap.objs.size);have el:acc=(as.map Value.ref).toArray:=by rw [← bn]
 have I2:Inv X aa σ (upd H s.heap.objs.size (.lst (as.map V.ref))) { s with heap:=h',toks:=tk }:=I1.track n1 n2 (.inr n3) n4 n5 ⟨by rw [length_map,bd,← hl]; exact z,as.map Value.ref,c,Bt (by rw [length_map,length_map]) fun j v w' ev ew=>by
  rw [getElem?_map] at ev ew;cases e2:as[j]? with
  | none=>rw [e2] at ev; cases ev
  | some b=>rw [e2] at ev ew; cases ev; cases ew; rfl,by rw [← el]; exact e⟩
 have hpp:Paired (fun a (p:V × V)=>∃ its,Vals [p.1,p.2] its/\IsTup h' a its.toArray) as (kvs.map fun kv=>(kV kv.1,kv.2)):=(Bt (by rw [length_map,bd,hl]) fun j b pr eb ep'=>by
   obtain ⟨key,k,x,ex,hk,ho⟩:=G.pairs j b eb;rw [getElem?_map] at ep';cases e2:kvs[j]? with
   | none=>rw [e2] at ep'; cases ep'
   | some kv =>
    rw [e2] at ep';simp only [Option.map_some,Option.some.injEq] at ep';obtain ⟨v2,hv2,rv2⟩:=KV.get rel e2;rw [ex] at hv2;simp only [Option.some.injEq,Prod.mk.injEq] at hv2;subst ep';refine ⟨[key,x],.cons ?_ (.cons ?_ .nil),_,ho,rfl,_,rfl⟩
    ·show RelV (kV kv.1) key;rw [← hv2.1]; exact D3 hk
    ·show RelV kv.2 x
     rw [hv2.2]; exact rv2)
 obtain ⟨H',I',s',t'⟩:=Inv.trackTups (s:={ s with heap:=h',toks:=tk }) hpp _ I2 G.rise (fun b hb=>by
   have hgt:=G.above b hb;obtain ⟨m1,m2,m3,m4,m5⟩:=I.newOk (Nat.le_of_lt hgt)
   exact ⟨by rw [AH (Nat.ne_of_gt hgt)]; exact m1,m2,m3,m4,m5⟩)
 exact ⟨.ref s.heap.objs.size,H',I',rfl,q _ as H' (fun b u e=>s' b u (by rw [AH (AG e n1)]; exact e)) n1 (s' _ _ AB) t'⟩
mutual
def B6 (K:FG) (H:Hp):PyData->V->Prop
 | .none,v=>v=.non
 | .bool b,v=>v=.bl b
 | .int i,v=>v=.int i
 | .str x,v=>v=.str x
 | .list ds,v=>∃ a xs,v=.ref a/\SqL K H a xs/\BV K H ds xs
 | .tuple ds,v=>∃ a xs,v=.ref a/\SqT K H a xs/\BV K H ds xs
 | .dict _,_=>False
def BV (K:FG) (H:Hp):List PyData->List V->Prop
 | [],xs=>xs=[]
 | d :: ds,xs=>∃ x r,xs=x :: r/\B6 K H d x/\BV K H ds r
end
section
mutual
theorem Inv.reads (I:Inv X aa σ H s):∀ (d:PyData) (v:V) (u:Value),RelV v u->B6 X.K H d v->∃ as,Reads s.heap u d as
 | .none,v,u,r,h=>by
  have e:v=.non:=by simpa [B6] using h
  subst e; cases r; exact ⟨_,.none⟩
 | .bool b,v,u,r,h=>by
  have e:v=.bl b:=by simpa [B6] using h
  subst e; cases r; exact ⟨_,.bool b⟩
 | .int i,v,u,r,h=>by
  have e:v=.int i:=by simpa [B6] using h
  subst e; obtain ⟨t,rfl⟩:=r; exact ⟨_,.int i t⟩
 | .str x,v,u,r,h=>by
  have e:v=.str x:=by simpa [B6] using h
  subst e; obtain ⟨t,rfl⟩:=r; exact ⟨_,.str x t⟩
 | .list ds,v,u,r,h=>by
  rw [B6] at h;obtain ⟨a,xs,rfl,hq,hd⟩:=h;cases r;obtain ⟨its,rv,⟨o,n,e,c,_,dd⟩,_⟩:=I.list hq;obtain ⟨as,hr⟩:=I.readsAll ds xs its rv hd;exact ⟨_,.list e c dd (by simpa using hr)⟩
 | .tuple ds,v,u,r,h=>by
  rw [B6] at h;obtain ⟨a,xs,rfl,hq,hd⟩:=h;cases r;obtain ⟨its,rv,⟨o,e,c,n,dd⟩,_⟩:=I.tuple hq;obtain ⟨as,hr⟩:=I.readsAll ds xs its rv hd;exact ⟨_,.tuple e c dd (by simpa using hr)⟩
 | .dict kvs,v,u,r,h=>by
  rw [B6] at h;exact h.elim
theorem Inv.readsAll (I:Inv X aa σ H s):∀ (ds:List PyData) (xs:List V) (us:List Value),Vals xs us->BV X.K H ds xs->∃ as,ReadsAll s.heap us ds as
 | [],xs,us,r,h=>by
  have e:xs=[]:=by simpa [BV] using h
  subst e; cases r; exact ⟨_,.nil⟩
 | d :: ds,xs,us,r,h=>by
  rw [BV] at h;obtain ⟨x,xr,rfl,h1,h2⟩:=h;cases r with
  | cons p q =>
   obtain ⟨as,h3⟩:=I.reads d x _ p h1;obtain ⟨bs,h4⟩:=I.readsAll ds xr _ q h2;exact ⟨_,.cons h3 h4⟩
end
end
section
theorem O7 (K:FG) (hK:X.K=K) (hu:X.A.units + 64 < cLine):OpR X (compareOp .Eq) (fun x y H Q=>∃ dx dy,B6 K H dx x/\B6 K H dy y/\SeqAt.shaped dx=true/\SeqAt.shaped dy=true/\Q (.bl (PyData.eqv dx dy)) H):=by
 subst hK;intro aa s σ H x y v u Q I rx ry h;obtain ⟨dx,dy,h1,h2,s1,s2,q⟩:=h;obtain ⟨as,r1⟩:=I.reads dx x v rx h1;obtain ⟨bs,r2⟩:=I.reads dy y u ry h2;exact eq_dataH r1 r2 s1 s2 hu ⟨.bl _,H,I,rfl,q⟩
theorem MS (K:FG) (hK:X.K=K) (hu:X.A.units + 64 < cLine):OpR X (compareOp .NotEq) (fun x y H Q=>∃ dx dy,B6 K H dx x/\B6 K H dy y/\SeqAt.shaped dx=true/\SeqAt.shaped dy=true/\Q (.bl (!PyData.eqv dx dy)) H):=by
 subst hK;intro aa s σ H x y v u Q I rx ry h;obtain ⟨dx,dy,h1,h2,s1,s2,q⟩:=h;obtain ⟨as,r1⟩:=I.reads dx x v rx h1;obtain ⟨bs,r2⟩:=I.reads dy y u ry h2;exact ne_dataH r1 r2 s1 s2 hu ⟨.bl _,H,I,rfl,q⟩
theorem O8 (K:FG) (hK:X.K=K) (hu:X.A.units + 64 < cLine):OpR X (compareOp .Eq) (fun x y H Q=>∃ (a b:Addr) (ns ms:List Int),x=.ref a/\y=.ref b/\SqL K H a (ns.map V.int)/\SqL K H b (ms.map V.int)/\Q (.bl (decide (ns=ms))) H):=by
 subst hK;intro aa s σ H x y v u Q I rx ry h;obtain ⟨a,b,ns,ms,rfl,rfl,h1,h2,q⟩:=h;cases rx;cases ry;obtain ⟨is1,r1,p1,_⟩:=I.list h1;obtain ⟨is2,r2,p2,_⟩:=I.list h2;exact W.ke_eq_ints p1.isList p2.isList (B3 r1) (B3 r2) hu ⟨.bl _,H,I,rfl,q⟩
def O9 (C:Addr) (sp:Sp) (gV:List V->List V->List V) (E:XK) (t tk:TA):TE:=fun σ H Q=>t σ H fun vs H1=>tk σ H1 fun zs H2=>∀ x dx,H2 x=none->H2 dx=none->dx ≠ x ->
 sp (gV (.ref x :: vs) zs) (upd (upd H2 dx (.own x)) x (.ins C dx [])) (fun v H3=>v=.non/\Q (.ref x) H3) E
variable {k:Nat} {fd:FuncData} {ps ks:List Str} {sp:Sp} {p:Pos} {es:List Expr} {kws:List Keyword} {t tk:TA} {g:List Value->List Value->List Value} {gV:List V->List V->List V}
theorem IV (M:Mk X.K C f) (F:Af X.prog X.w X.K X.mg X.base CX0 k f fd ps sp) (hr:Room (k + 1) X.A) (hg:Gl X x) (hm:X.mg x=some (.ref C)) (hb:Ja X.K fd ps ks g gV)
  (ha:PA X (e :: es) t) (hkw:PK X kws tk) (be:(backToKw pos (keywordEach kws X.env)).all (·.1.isSome)=true:=by rfl) (hks:(backToKw pos (keywordEach kws X.env)).filterMap (·.1)=ks:=by rfl)
  (hdb:(x == ("__debug__" : Str))=false:=by decide) (he:starEach (e :: es) X.env=(false,eval e X.env) :: starEach es X.env:=by rfl)
  (hpl:((backTo pos (starEach (e :: es) X.env)).any (·.1) || (backToKw pos (keywordEach kws X.env)).any (·.1.isNone))=false:=by rfl) :
  PE X (.Call (.Name x p) (e :: es) kws pos) (O9 C sp gV E0 t tk):=by
 intro aa s σ H Q I h;refine wpAny_Call_Name_kw (FA I hg hm ?_ hdb);refine W.callWith_KW (h₀:=X.base) I.ok.mod.kin M.kp be (thn (ha pos aa s σ H _ I h) fun us s1 ⟨vs,H1,I1,r,q⟩=>?_) hpl he;refine thn (hkw pos aa s1 σ H1 _ I1 q) fun ws s2 ⟨zs,H2,I2,rz,q2⟩=>⟨I2.kIn,?_⟩;rw [hks];have hq:=q2 (s2.heap.objs.size + 1) s2.heap.objs.size (I2.hok.fresh (Nat.le_succ _)) (I2.hok.fresh (Nat.le_refl _)) (Nat.ne_of_lt (Nat.lt_succ_self _));have I3:=Inv.made (C:=C) I2;have r2:Vals (gV (V.ref (s2.heap.objs.size + 1) :: vs) zs) (g (Value.ref (s2.heap.objs.size + 1) :: us) ws):=hb.rel (.cons rfl r) rz;have hl:(g (Value.ref (s2.heap.objs.size + 1) :: us) ws).length=ps.length:=by rw [← r2.length]; exact F.len _ _ _ _ hq
 refine wpAny_call (IJ (f:=f) I2.kIn M.makes M.init (beq_iff_eq.mp M.fn) (codeAny_mono (F.run _ X.stack _ _ ⟨Value.ref (s2.heap.objs.size + 1) :: us,ks.zip ws⟩ _ _ _ E0 (hr.make C us (ks.zip ws)) (I3.env0.make C us (ks.zip ws)) (hb.to _ _ _ I3.kIn hl) r2 hq) fun r' s' hq'=>?_));cases r' with
 | error e=>exact hq'.elim
 | ok fl =>
  cases fl with
  | ret u =>
   obtain ⟨v,H',I4,rv,ev,q3⟩:=I3.after hq';subst ev;exact ⟨rv,⟨V.ref (s2.heap.objs.size + 1),H',I4,rfl,q3⟩⟩
  | next=>exact False.elim hq'
  | brk=>exact False.elim hq'
  | cont=>exact False.elim hq'
def Q0 (i j:Int):Prop:=Builtin.Int.intBits i <= 2 ^ 20/\Builtin.Int.intBits j <= 2 ^ 20
theorem HQ:OpR X (binaryOp .Mult) (rI Q0 fun i j=>.int (i * j)):=opI fun _ _ _ _ _ _ _ hc q=>mul_int q (IntMulOk.of_bits hc.1 hc.2)
def QN (i j:Int):Prop:=0 < j/\Builtin.divisionGoesByPylong i j=false
theorem MU:OpR X (binaryOp .FloorDiv) (rI QN fun i j=>.int (i / j)):=opI fun i j _ _ _ _ _ hc q=>by
 have h1:(0:Int) < j:=hc.1;exact floordiv_int (by omega) (by rw [Int.fdiv_eq_ediv_of_nonneg i (by omega)]; exact q) (.inl hc.2)
end
section
variable {prog:Program} {x y:Addr} {ox oy:Obj} {od od':Option Obj}
theorem HR {M:Model} {args:List Value} {Q:Option Value->Shared->Prop} (X:K.In s.heap) (I:W.InstAt s.heap x ox C od) (hs:W.findIn K (.ref C) "__ne__" = some (some (.builtin "object.__ne__")))
  (h:wpAny M A (call (.builtin "object.__ne__") (.ref x :: args)) (fun v=>Q (some v)) E s):wpAny M A (callSpecialIfBound? (.ref x) "__ne__" args) Q E s:=by
 simp only [callSpecialIfBound?,bindSpecialIfBound?];refine wpAny_holding (wpAny_bind (wpAny_bind (wpAny_bind (I.type.here ((W.looks_findIn X hs).here ?_)))));simp only [PySem.F.cmp_object.ne.bind];refine wpAny_bind (wpAny_askSetting (wpAny_ite ?_));have fin:wpAny M A (call (.builtin "object.__ne__") ([.ref x]++args) >>= fun v=>pure (some v)) Q E s:=wpAny_bind (wpAny_mono h (fun v s' h'=>wpAny_pure h') fun _ _ h'=>h');split
 ·exact wpAny_bind (wpAny_pure (wpAny_pure fin))
 ·exact wpAny_tryCatch (wpAny_bind (wpAny_pure (wpAny_pure fin)))
theorem IW {Q:VS} (hu:A.units + 1 < cLine) (X:K.In s.heap) (I:W.InstAt s.heap x ox C od) (hm:W.mroIn K C (.type "object")=some true) (hr:W.findIn K (.ref C) "__eq__" = some (some (.ref f))) (hf:W.isFn K (.ref f)=true)
    (h:wpAny (model prog w) A.in1 (call (.ref f) [.ref x,.ref y]) (fun v s'=>∃ b,v=.bool b/\Q (.bool (!b)) s') E s):wpAny (model prog w) A (call (.builtin "object.__ne__") [.ref x,.ref y]) Q E s:=by
  refine wpAny_call (codeAny_call_builtin PySem.F.cmp_object.ne.plain PySem.F.cmpEntry_ne (W.check_slot (i := "object.__ne__") (owner := "object") (n := "__ne__") (by decide +kernel) (by decide +kernel) (I.type.andThen (W.looks_mroIn X hm)) (PySem.F.cmpArgs_ne _ _) ?_));unfold Builtin.«object.__ne__»
  repeat (first
    | with_reducible refine wpAny_cRoomFor (by show A.in1.units < cLine; exact hu) ?_
    | (refine wpAny_bind (m:=callSpecialIfBound? (.ref x) (Str.ofString "__eq__") [.ref y])
        (W.ifBound_K X I hr hf (wpAny_mono h (fun r s' hr=>by
          obtain ⟨b,rfl,hq⟩:=hr
          repeat (first | exact hq | exact ⟨_,rfl,hq⟩ | exact wpAny_pure ⟨_,rfl,hq⟩ | (refine wpAny_bind (m:=truthy (.bool _)) (wpAny_truthy_bool ?_)) | wp_step)) fun _ _ e=>e)))
    | wp_step)
theorem PB {Q:VS} (hu:A.units + 1 < cLine) (X:K.In s.heap) (I:W.InstAt s.heap x ox C od) (J:W.InstAt s.heap y oy C od') (hm:W.mroIn K C (.type "object")=some true)
  (hn:W.findIn K (.ref C) "__ne__" = some (some (.builtin "object.__ne__"))) (hr:W.findIn K (.ref C) "__eq__" = some (some (.ref f))) (hf:W.isFn K (.ref f)=true)
  (h:wpAny (model prog w) A.in1 (call (.ref f) [.ref x,.ref y]) (fun v s'=>∃ b,v=.bool b/\Q (.bool (!b)) s') E s):wpAny (model prog w) A (compareOp .NotEq (.ref x) (.ref y)) Q E s:=by
 show wpAny _ _ (richCompare .NotEq (.ref x) (.ref y)) _ _ _
 have one:wpAny (model prog w) A (tryCompare (.ref x) (cmpInfo .NotEq).2.1 (.ref y)) (fun r s'=>∃ v,r=some v/\Q v s') E s:=by
  unfold tryCompare;refine wpAny_bind (HR X I hn (IW hu X I hm hr hf (wpAny_mono h (fun v s' hv=>?_) fun _ _ e=>e)));obtain ⟨b,rfl,hq⟩:=hv;exact ⟨b,rfl,wpAny_pure ⟨_,rfl,hq⟩⟩
 unfold richCompare;simp only [oneThing_ref];refine wpAny_holding (wpAny_bind (wpAny_cRoomFor (Nat.lt_of_succ_lt hu) ?_));refine wpAny_bind (I.type.here (wpAny_bind (J.type.here ?_)));rw [if_neg (by simp)];refine wpAny_bind (wpAny_pure ?_);simp only [Bool.false_eq_true,if_false];refine wpAny_bind (wpAny_mono one (fun r s' z=>?_) fun _ _ e=>e);obtain ⟨v,rfl,hq⟩:=z;exact wpAny_pure hq
end
section
variable {k:Nat} {fd:FuncData} {sp:Sp}
def PD (sp:Sp) (a b:Addr) (H:Hp) (Q:VK):Prop:=sp [.ref a,.ref b] H (fun v H'=>∃ t:Bool,v=.bl t/\Q (.bl t) H') E0
theorem MV {b:Addr} {Q:VK} (F:Af X.prog X.w X.K X.mg X.base CX0 k f fd ["self", "other"] sp) (hr:Room k A) (hA:Env0 X.prog X.w X.K X.mg X.base A X.stack s H) (hb:Binds X.K fd ["self", "other"] []) (I:Inv X aa σ H s) (h:PD sp a b H Q) :
  wpAny (model X.prog X.w) A (call (.ref f) [.ref a,.ref b]) (fun v s'=>∃ t:Bool,v=.bool t/\EP X aa σ Q (.bool t) s') E s:=by
 refine wpAny_call (codeAny_mono (F.run A X.stack s H ⟨[.ref a,.ref b],[]⟩ [.ref a,.ref b] [.ref a,.ref b] _ E0 hr hA (hb s [.ref a,.ref b] I.kIn rfl) (.cons rfl (.cons rfl .nil)) h) fun r' s' hq=>?_);cases r' with
 | error e=>exact hq.elim
 | ok fl =>
  cases fl with
  | ret u =>
   obtain ⟨v,H',I',rv,t,ev,q'⟩:=I.after hq;subst ev;cases rv;exact ⟨t,rfl,.bl t,H',I',rfl,q'⟩
  | next=>exact False.elim hq
  | brk=>exact False.elim hq
  | cont=>exact False.elim hq
theorem MW (F:Af X.prog X.w X.K X.mg X.base CX0 k f fd ["self", "other"] sp) (hr:Room k X.A) (hb:Binds X.K fd ["self", "other"] []) (hm:JT X.K C "__eq__" f) :
  OpR X (compareOp .Eq) (fun x y H Q=>∃ a dx fs b,x=.ref a/\y=.ref b/\H a=some (.ins C dx fs)/\((∃ dy gs,H b=some (.ins C dy gs))\/((∃ xs,SqL X.K H b xs)/\W.subIn X.K (.type "list") (.ref C)=some false))/\PD sp a b H Q):=by
 intro aa s σ H x y v u Q I rx ry h;obtain ⟨a,dx,fs,b,rfl,rfl,ha,hy,q⟩:=h;cases rx;cases ry;obtain ⟨m,Fm⟩:=I.fr;obtain ⟨mA,om,_⟩:=CC I.hok ha;obtain ⟨od,ia,_⟩:=om.look;have run:=MV (E:=X.xe) F hr I.env0 hb I q;have hu:X.A.units < cLine:=Nat.lt_of_le_of_lt (Nat.le_add_right _ 64) hr.units
 have run2:wpAny (model X.prog X.w) X.A (call (.ref f) [.ref a,.ref b]) (W.CmpBack (EP X aa σ Q)) X.xe s:=by
  refine thn run fun v s' hv=>?_;obtain ⟨t,rfl,q⟩:=hv;exact q
 show wpAny _ _ (richCompare .Eq (.ref a) (.ref b)) _ _ _;rcases hy with ⟨dy,gs,hy⟩ | ⟨⟨xs,hy⟩,hn⟩
 ·obtain ⟨mB,ob,_⟩:=CC I.hok hy;obtain ⟨odb,ib,_⟩:=ob.look;exact W.cmp_K hu Fm I.mod.kin ia ib.type (by simp [W.notFirst]) hm.at_ hm.fn run2
 ·obtain ⟨its,rv,⟨o,n,e,c,dd,_⟩,_⟩:=I.list hy;have T:W.Looks (model X.prog X.w) s.heap (typeOf (.ref b)) (.type "list"):=c ▸ (W.Looks.ld e).andThen .now;exact W.cmp_K hu Fm I.mod.kin ia T (by simp [W.notFirst,hn]) hm.at_ hm.fn run2
theorem Fc (F:Af X.prog X.w X.K X.mg X.base CX0 k f fd ["self", "other"] sp) (hr:Room (k + 1) X.A) (hb:Binds X.K fd ["self", "other"] []) (hm:JT X.K C "__eq__" f) (hn:W.findIn X.K (.ref C) "__ne__" = some (some (.builtin "object.__ne__"))) (ho:W.mroIn X.K C (.type "object")=some true) :
  OpR X (compareOp .NotEq) (fun x y H Q=>∃ a dx fs b dy gs,x=.ref a/\y=.ref b/\H a=some (.ins C dx fs)/\H b=some (.ins C dy gs)/\PD sp a b H (fun v H'=>∃ t:Bool,v=.bl t/\Q (.bl (!t)) H')):=by
 intro aa s σ H x y v u Q I rx ry h;obtain ⟨a,dx,fs,b,dy,gs,rfl,rfl,ha,hy,q⟩:=h;cases rx;cases ry;obtain ⟨mA,om,_⟩:=CC I.hok ha;obtain ⟨od,ia,_⟩:=om.look;obtain ⟨mB,ob,_⟩:=CC I.hok hy;obtain ⟨odb,ib,_⟩:=ob.look;have run:=MV (E:=X.xe) F hr.in1 I.env0.in1 hb I q;have hu:X.A.units + 1 < cLine:=Nat.lt_of_le_of_lt (Nat.add_le_add_left (by decide) _) hr.units;refine PB hu I.kIn ia ib ho hn hm.at_ hm.fn (thn run fun v s' hv=>?_);obtain ⟨t,rfl,v',H',I',rv,t',e,q⟩:=hv;subst e;cases rv;exact ⟨t,rfl,.bl _,H',I',rfl,q⟩
end
theorem Ji (K:FG) (hK:X.K=K):BR X (.builtin "isinstance") (fun xs H Q=>∃ a p ys,xs=[.ref a,.ref p]/\(H a=some (.lst ys)\/H a=some (.tup ys))/\SqT K H p [.ty "list", .ty "tuple"]/\Q (.bl true) H):=by
 subst hK;intro aa s σ H xs us Q I r h;obtain ⟨a,p,ys,rfl,ha,hp,q⟩:=h;obtain ⟨u,uT,rfl,ru,ruT⟩:=E2 r;cases ru;cases ruT;obtain ⟨its,rv,⟨o,e,c,n,dd⟩,_⟩:=I.tuple hp;obtain ⟨ocl,odi,oda,osl⟩:=o;simp only at c dd;subst c;subst dd
 have ei:its=[Value.type "list", Value.type "tuple"]:=by
  cases rv with
  | cons r1 r2 =>
   cases r2 with
   | cons r3 r4 =>
    cases r4;cases (show _=Value.type "list" from r1);cases (show _=Value.type "tuple" from r3);rfl
 subst ei;have fin:∀ tk,EP X aa σ Q (.bool true) { s with toks:=tk }:=fun tk=>⟨.bl true,H,I.tok tk,rfl,q⟩;rcases ha with ha | ha
 ·obtain ⟨_,_,m,_,h1⟩:=(show ObjOk X.prog X.w H s.heap a (.lst ys) from I.hok a _ ha);exact W.kia_tup W.kitx_list I.kIn ⟨_,h1,rfl⟩ e rfl (fun z=>nomatch z) fin
 ·obtain ⟨_,_,_,pp⟩:=(show ObjOk X.prog X.w H s.heap a (.tup ys) from I.hok a _ ha);obtain ⟨o,h1,h2,_⟩:=pp;exact W.kia_tup W.kitx_tuple I.kIn ⟨o,h1,h2⟩ e rfl (fun z=>nomatch z) fin
end L2
end
section
namespace PySem
open Sem (wp)
theorem Fd {prog:Program} {xs:Array Value} {o:Obj} {k:Nat} {Q:Option Value->Shared->Prop}
  (hx:s.heap.get? a=some o) (hc:o.cls=.type "list") (bx:o.data=.seq xs k) (hd:o.dict=none) (hA:A.handled=none)
  (h:∀ h' tk,(∀ b ob,s.heap.get? b=some ob->h'.get? b=some ob)->Q none { s with heap:=h',toks:=tk }) :
  wpAny (model prog w) A (getAttr? (.ref a) "keys") Q E s:=by
 obtain ⟨c,dct,dat,sl⟩:=o;simp only at hc bx hd;subst hc bx hd;obtain ⟨hp,g,d,tk,os⟩:=s;have hT:∀ tk',(⟨hp,g,d,tk',os⟩:Shared).TypeIs (.ref a) "list" := fun _=>⟨_,hx,rfl⟩;have f1:=sub_AttributeError;have f3:=F.slot_list_getattribute.lookup;have f4:=F.slot_list_getattribute.bind (.ref a);have f5:=am_list_getattr_none;have hmiss:typeLookup (.type "list") "keys" = pure none:=by rw [typeLookup_type,builtinLookup_eq_fast]; kernel_rfl
 unfold getAttr? getAttrBy? getAttrBy
 repeat (any_goals (first | assumption | exact hT _ | ((with_reducible show wpAny _ _ (call (Value.builtin "list.__getattribute__") _ _) _ _ _); refine call_meets F.slot_list_getattribute (hT _) am_entry_list_getattribute (F.args_list_getattribute_2 _ _) (meets_getattribute_miss_list a xs k sl "keys" _ hmiss (by decide +kernel)) ⟨hx,hA,fun h' tk' e hx'=>?_⟩) | wp_step))
 obtain ⟨t',u',he⟩:=hx'.there;show wpAny _ _ (getattributeRaised _ _ _ _ _ _ _) _ _ _;unfold getattributeRaised
 repeat (any_goals (first | assumption | wp_step))
 exact h _ _ hx'.keeps
end PySem
end
section
namespace L2
open PySem PySem.Spec PyProof.Rows
theorem BX:entryFor table "dict.update.loop" = some Builtin.«dict.update.loop»:=entryFor_of_tree (by kernel_rfl)
theorem At:plainId "dict.update.loop" = true:=by decide +kernel
def BY (kvs ps:LK):LK:=ps.foldl (fun d p=>A1 d p.1 p.2) kvs
theorem Fe:∀ (ps kvs:LK),(BY kvs ps).length <= kvs.length + ps.length
 | [],kvs=>Nat.le_refl _
 | p :: r,kvs=>by
  have h1:=Fe r (A1 kvs p.1 p.2);have h2:=BL kvs p.1 p.2;show (BY (A1 kvs p.1 p.2) r).length <= _;rw [length_cons];omega
section
variable {R:Result->Shared->Prop} {it p:Addr} {bs:List Addr} {ps:LK}
theorem K7 (hA:A.in1.handled=none) (hpa:p ≠ a) (hpit:p ≠ it) (hq:SqL X.K H a (bs.map V.ref)) (hl:bs.length=ps.length) (hb:∀ (i:Nat) b q,bs[i]?=some b->ps[i]?=some q->b ≠ p/\SqT X.K H b [kV q.1,q.2]) (hz:ps.length <= 1000)
  (hqs:∀ kvs,SqL X.K (upd H p (.dK kvs)) a (bs.map V.ref)) (hts:∀ kvs b xs,b ≠ p->SqT X.K H b xs->SqT X.K (upd H p (.dK kvs)) b xs) (f0:∀ kvs,(upd H p (.dK kvs)) it=none) (f1:it ≠ X.env.locals) (f3:it ∈ X.ex\/X.s₀.heap.objs.size <= it) (f4:∀ (x:Str) (c:Addr),X.env.cells.lookup x=some c->c ≠ it) (f5:∀ q:Addr × Obj,q ∈ X.pn++aa->q.1 ≠ it) :
  ∀ (k i:Nat) (s:Shared) (kvs:LK),ps.length - i=k->i <= ps.length->kvs.length <= i->Inv X aa σ (upd H p (.dK kvs)) s->s.heap.IsListIter it a i->(∀ s',Inv X aa σ (upd H p (.dK (BY kvs (ps.drop i)))) s'->R (.ok (.ret .none)) s') ->
   codeAny (model X.prog X.w) A (.builtin "dict.update.loop" ⟨[.ref p,.ref it,rawInt (i:Int),.none],[]⟩) R s:=by
 intro k;induction k with
 | zero =>
  intro i s kvs hk hi hkl I st hR;have hin:i=ps.length:=by omega
  obtain ⟨its,rv,pl,_⟩:=I.list (hqs kvs);have bd:=rv.length;refine codeAny_builtin BX ?_;rw [Around.under_plainId At _];show wpAny _ A.in1 (pyNext (.ref it) >>= _) _ _ s;refine wpAny_bind (wpAny_pyNext_list_end hA st pl.isList (by rw [length_map] at bd; simp; omega) fun h' eb=>?_);show wpAny _ A.in1 (Builtin.Dict.addKeywords p [] >>= _) _ _ _;refine wpAny_bind (wpAny_pure (wpAny_pure (hR _ ?_)));have e:BY kvs (ps.drop i)=kvs:=by rw [hin,drop_length]; rfl
  rw [e];exact I.turned (t':=s.toks) (fun b o hb e=>eb b o hb e) (f0 kvs) f1 f3 f4 f5
 | succ k ih =>
  intro i s kvs hk hi hkl I st hR;have hlt:i < ps.length:=by omega
  obtain ⟨its,rv,pl,_⟩:=I.list (hqs kvs);have hbi:bs[i]?=some (bs[i]'(by omega)):=List.getElem?_eq_getElem (by omega);have hpi:ps[i]?=some ps[i]:=List.getElem?_eq_getElem hlt;obtain ⟨hbp,hT⟩:=hb i _ _ hbi hpi;obtain ⟨u,hu,ru⟩:=rv.get (i:=i) (x:=V.ref (bs[i]'(by omega))) (by rw [getElem?_map,hbi]; rfl);cases (show u=Value.ref _ from ru);refine codeAny_builtin BX ?_;rw [Around.under_plainId At _];show wpAny _ A.in1 (pyNext (.ref it) >>= _) _ _ s;refine wpAny_bind (wpAny_pyNext_list_item st pl.isList (x:=Value.ref (bs[i]'(by omega))) (by simpa using hu) fun h' st' sb=>?_);have I1:Inv X aa σ (upd H p (.dK kvs)) { s with heap:=h' }:=I.turned (t':=s.toks) (fun b o hb e=>(sb.2 b hb).trans e) (f0 kvs) f1 f3 f4 f5;obtain ⟨its2,rv2,⟨ot,et,ct,nt,dt⟩,_⟩:=I1.tuple (hts kvs _ _ hbp hT);obtain ⟨uk,uv,e2,rk,rvv⟩:=E2 rv2;subst e2;show wpAny _ A.in1 (holding [Value.ref (bs[i]'(by omega))] _ >>= _) _ _ _;refine wpAny_bind (wpAny_holding ?_);have hp:(upd H p (.dK kvs)) p=some (.dK kvs):=AB;obtain ⟨z,hd,vs,rel,dd⟩:=KM I1.hok hp;have hvs:vs.length <= sizeLine:=by rw [← rel.length]; exact z
  have hTy:Shared.TypeIs { s with heap:=h' } (.ref (bs[i]'(by omega))) "tuple" := ⟨_,et,ct⟩;refine wpAny_bind (wpAny_tryCatch ?_);unfold Builtin.Dict.pairItems;refine wpAny_bind (wpAny_typeOf hTy ?_);rw [if_pos (by decide)];obtain ⟨oc,odd,oda,osl⟩:=ot;simp only at ct dt;subst ct dt;refine wpAny_bind (m:=seqItems? _) ?_;unfold seqItems?;refine wpAny_bind (wpAny_load et (wpAny_pure ?_));refine wpAny_pure ?_;show wpAny _ _ (holding [uk,uv] (dictSet p uk uv)) _ _ _;refine wpAny_holding (wpAny_dictSet_pairs (hsz:=hvs) (Dx rk) dd fun h2 dd2 sb2=>?_);refine wpAny_pure ⟨plainId_quiet At _,?_⟩;have hln:(A1 kvs ps[i].1 ps[i].2).length <= i + 1:=by have:=BL kvs ps[i].1 ps[i].2; omega
  have I2:=Dy (t':=s.toks + 1) I1 (by rw [hp]; exact True.intro) sb2 (let ⟨q,_,_,hq',_⟩:=dd2; ⟨q,hq'⟩) (FV (P:=X.prog) (w:=X.w) (H':=upd (upd H p (.dK kvs)) p (.dK (A1 kvs ps[i].1 ps[i].2))) (Nat.le_of_lt (AU (by omega))) hd (rel.put ps[i].1 rvv) dd2);rw [HD] at I2;have e3:ps.drop i=ps[i] :: ps.drop (i + 1):=List.drop_eq_getElem_cons hlt;have:=ih (i + 1) _ (A1 kvs ps[i].1 ps[i].2) (by omega) (by omega) hln I2 (st'.extBut sb2.extBut (Ne.symm hpit)) (fun s' I'=>hR s' (by rw [e3]; exact I'));exact this
theorem DU (hc:X.calm=true):BR X (.type "dict") (fun xs H Q=>∃ (a:Addr) (bs:List Addr) (ps:LK),xs=[.ref a]/\SqL X.K H a (bs.map V.ref)/\bs.length=ps.length/\ps.length <= 1000/\(∀ (i:Nat) b q,bs[i]?=some b->ps[i]?=some q->SqT X.K H b [kV q.1,q.2]) /\
  ∀ p,H p=none->Q (.ref p) (upd H p (.dK (BY [] ps)))):=by
 intro aa s σ H xs us Q I r h;obtain ⟨a,bs,ps,rfl,hq,hl,hz,hb,q⟩:=h;obtain ⟨u,rfl,ru⟩:=B2 r;cases (show u=Value.ref a from ru);have hp0:H s.heap.objs.size=none:=I.hok.fresh (Nat.le_refl _)
 have sH:∀ o,Same H (upd H s.heap.objs.size o):=fun o b v e=>by
  rw [AH (AG e hp0)];exact e
 refine callType_codes (Q₁:=fun obj s₁=>obj=.ref s.heap.objs.size/\s₁={ s with heap:=s.heap.push { cls:=.type "dict", data:=.dict #[] } }) PySem.F.kt_called_dict (PySem.F.kt_typeCall_dict_1 _) PySem.F.entry_dict_init (kt_code_dict_new _ ⟨rfl,rfl⟩) ?_;rintro obj s₁ ⟨rfl,rfl⟩;have I1:Inv X aa σ (upd H s.heap.objs.size (.dK [])) { s with heap:=s.heap.push { cls:=.type "dict", data:=.dict #[] } }:=I.laid (a:=s.heap.objs.size) (o:=.dK []) (t':=s.toks) (fun _ _ q=>get?_push_of_some _ q) (Nat.le_refl _) (FW s.heap I.big);obtain ⟨its,rv,pl,_⟩:=I1.list ((sH (.dK [])).seq hq);have hTd:Shared.TypeIs { s with heap:=s.heap.push { cls:=.type "dict", data:=.dict #[] } } (.ref s.heap.objs.size) "dict" := ⟨_,get?_push_size _ rfl,rfl⟩;refine ⟨hTd,PySem.F.args_dict_init_2 _ _,?_⟩;unfold Builtin.«dict.__init__»;refine wpAny_bind ?_;unfold Builtin.Dict.selfAndRest;refine wpAny_bind (wpAny_notOrdered_dict hTd ?_);show wpAny _ _ (pure (s.heap.objs.size,[Value.ref a])) _ _ _;refine wpAny_pure ?_;show wpAny _ _ (Builtin.Dict.updateFrom "dict.__init__" s.heap.objs.size (.ref a) [] .none) _ _ _;unfold Builtin.Dict.updateFrom;refine wpAny_bind (wpAny_typeOf pl.isList.typeIs ?_);rw [if_pos (by decide)];have hA:X.A.handled=none:=I.ok.hd hc;have hA2:X.A.in1.in1.handled=none:=hA;obtain ⟨ol,nl,hol,ag,hdl,bx⟩:=id pl;obtain ⟨its0,_,⟨o0,_,e0,_⟩,_⟩:=I.list hq;have ax:a < s.heap.objs.size:=lt_size e0;refine wpAny_bind (Fd hol ag bx hdl hA2 fun h' tk keep=>?_);have I2:Inv X aa σ (upd H s.heap.objs.size (.dK [])) { s with heap:=h',toks:=tk }:=I1.kept keep;show wpAny _ _ (if (Option.isNone (none:Option Value))=true then _ else _) _ _ _;rw [if_pos (show Option.isNone (none:Option Value)=true from rfl)];refine wpAny_bind (wpAny_rule ?_);refine wpAny_bind (wpAny_pyIter_list (pl.isList.at fun o e=>keep _ o e) ?_)
 have hsz:s.heap.objs.size < h'.objs.size:=by
  have:=keep _ _ (get?_push_size s.heap (o:={ cls:=.type "dict", data:=.dict #[] }) rfl);exact lt_size this
 have I3:Inv X aa σ (upd H s.heap.objs.size (.dK [])) { s with heap:=h'.push { cls:=.type "list_iterator", data:=.fields #[.ref a,.int 0 0] },toks:=tk }:=I2.kept (t':=tk) fun b o e=>get?_push_of_some _ e;have a0:s.heap.objs.size ≠ h'.objs.size:=Nat.ne_of_lt hsz;have hn0:(upd H s.heap.objs.size (.dK [])) h'.objs.size=none:=I2.hok.fresh (Nat.le_refl _);obtain ⟨_,f1,_,f3,f4,f5⟩:=I2.fpOk (Nat.le_refl h'.objs.size) hn0;have hnb:∀ (i:Nat) b q,bs[i]?=some b->ps[i]?=some q->b ≠ s.heap.objs.size/\SqT X.K H b [kV q.1,q.2]:=fun i b q e1 e2=>⟨fun z=>?_,hb i b q e1 e2⟩
 ·refine wpAny_pure ⟨plainId_quiet At _,?_⟩;refine K7 (X:=X) (aa:=aa) (σ:=σ) (H:=H) (a:=a) (it:=h'.objs.size) (p:=s.heap.objs.size) (bs:=bs) (ps:=ps) (A:=X.A.in1) hA2 (fun z=>?_) a0 hq hl hnb hz (fun kvs=>(sH _).seq hq) (fun kvs b xs _ hT=>?_) (fun kvs=>?_) f1 f3 f4 f5 (ps.length - 0) 0 _ [] (by omega) (Nat.zero_le _) (Nat.le_refl _) I3 ⟨_,get?_push_size _ rfl,rfl,rfl⟩ (fun s' I'=>⟨rfl,.ref s.heap.objs.size,_,I',rfl,q _ hp0⟩)
  ·exact absurd ax (by rw [← z]; exact Nat.lt_irrefl _)
  ·rcases hT with (h | ⟨o,h⟩) | h
   ·exact .inl (.inl (sH _ _ _ h))
   ·exact .inl (.inr ⟨o,sH _ _ _ h⟩)
   ·exact .inr h
  ·rw [AH (Ne.symm a0)];rw [AH (Ne.symm a0)] at hn0;exact hn0
 ·obtain ⟨its2,_,⟨o2,e2',_⟩,_⟩:=I.tuple (hb i b q e1 e2);exact absurd (lt_size e2') (by rw [z]; exact Nat.lt_irrefl _)
end
def Jj (wi:TI) (g:TG) (tt:TT) (tk te:TE) (ix:List (Option Nat)) (R:LK->Hp->Prop):St->Hp->Prop:=fun σ H=>wi σ H fun J H1=>∃ W:Nat->Nat->LK->Hp->Prop,(∃ m,W 0 m [] H1)/\∀ i m ys H,W i m ys H ->
 (J.stop i H/\ys.length <= sizeLine/\R ys H) \/
 (J.go i H/\∃ N:LK->Hp->Prop,(∀ ys' H',N ys' H'->ys'.length <= sizeLine/\∃ m',m' < m/\W (i + 1) m' ys' H') /\
  ∀ x H',J.yld i H x H'->g x (Bd ix σ) H' fun σ2 H2=>tt σ2 H2 fun b H3=>if b=true then tk σ2 H3 fun yk H4=>te σ2 H4 fun y H5=>∃ k,yk=kV k/\N (A1 ys k y) H5 else N ys H3)
theorem K8 (kvs:LK) (k:Key) (v:V):kvs.length <= (A1 kvs k v).length:=by
 unfold A1;split
 ·rw [length_map]; exact Nat.le_refl _
 ·rw [length_append]; omega
theorem PF {s:Heap} (h:sysModules < s.objs.size):(s.objs.size == sysModules)=false:=by
 rw [beq_eq_false_iff_ne];exact Nat.ne_of_gt h
section
variable {N':List Str} {ix:List (Option Nat)} {scope:Scope} {tg iter kx vx:Expr} {ifs:List Expr} {wi:TI} {g:TG} {tt:TT} {tk:TE} {pos':Pos}
theorem Jk {RD:Cx->Prop} {use:Option (Value->Sem Unit)} {Qv:VS} (hf:CompFits X.env.scope scope X.N N' ix) (hc:∀ cl s H C fp aa,RD (Aa X N' scope cl s H C fp (X.pn++aa))) (hi:PIg RD X tg iter wi)
  (hg:∀ cl s H C fp pn,PGk (Aa X N' scope cl s H C fp pn) tg ix g) (ht:∀ cl s H C fp pn,PTs (Aa X N' scope cl s H C fp pn) ifs tt) (hk:∀ cl s H C fp pn,PE (Aa X N' scope cl s H C fp pn) kx tk) (he:∀ cl s H C fp pn,PE (Aa X N' scope cl s H C fp pn) vx te)
  (hs:∀ x,foldedSetIterable iter X.env x=pure x) {aa:LO} {s:Shared} {σ:St} {H:Hp} {R:LK->Hp->Prop} (I:Inv X aa σ H s) (h:Jj wi g tt tk te ix R σ H)
  (cb:∀ s' ys H' D C m,Inv X aa σ (upd H' D (.dK ys)) s'->R ys H'->H' D=none->s'.heap.Ns C m->X.s₀.heap.objs.size <= C->C ≠ X.env.locals->(∀ x c,X.env.cells.lookup x=some c->c ≠ C)->(∀ p ∈ X.pn++aa,p.1 ≠ C) ->
   upd H' D (.dK ys) C=none->compPost (model X.prog X.w) X.A X.xe use Qv (.ref D) C (.ok .next) s') :
  wpAny (model X.prog X.w) X.A (comprehension (.DictComp kx vx [⟨tg,iter,ifs,0⟩] scope pos) scope X.env pos' newDict false (eval iter X.env) use) Qv X.xe s:=by
 obtain ⟨cl,cc,c1,c2⟩:=KQ (env:=X.env) (scope:=scope) fun y hy hyf=>by
  have:=hf.free y hy hyf;exact I.ok.has y.1 this
 refine wpAny_comprehension_free (use:=use) rfl hs cc hf.kind hf.loc (thn (hi aa s σ H _ I h) fun v s1 h1=>thn h1 fun itv s2 h2=>?_);obtain ⟨it,fp,tn,J,H2,e,I2,T,st2,f2,W,⟨m0,w0⟩,turn⟩:=h2;subst e
 have hlt:∀ b ∈ fp,b < s2.heap.objs.size:=fun b hb=>by
  obtain ⟨o,e,_⟩:=T.obj _ _ st2 b hb;exact lt_size e
 refine wpAny_newObj_type (wpAny_newFunctionEnv hf.nocell (by intro y hy; simp at hy) (fun h₁ hns₁ hsb₁=>?_) hf.kind)
 dsimp only at hns₁ hsb₁ ⊢
 generalize hH2:s2.heap.push { cls:=.type "dict", data:=.dict #[] }=HP at hns₁ hsb₁ ⊢;have hC:HP.objs.size=s2.heap.objs.size + 1:=by rw [← hH2,size_push]
 have hDC:s2.heap.objs.size ≠ HP.objs.size:=by rw [hC]; exact Nat.ne_of_lt (Nat.lt_succ_self _)
 have hCle:s2.heap.objs.size <= HP.objs.size:=by rw [hC]; exact Nat.le_succ _
 have hCne:∀ b,b < s2.heap.objs.size->b ≠ HP.objs.size:=fun b hb=>by rw [hC]; exact Nat.ne_of_lt (Nat.lt_succ_of_lt hb)
 have old:∀ b o,s2.heap.get? b=some o->h₁.get? b=some o:=fun b o e=>hsb₁.extBut b o (hCne b (lt_size e)) (get?_push_of_some _ (hH2 ▸ get?_push_of_some _ e));have bn:h₁.get? s2.heap.objs.size=some { cls:=.type "dict", data:=.dict #[] }:=hsb₁.extBut _ _ hDC (get?_push_of_some _ (hH2 ▸ get?_push_size _ rfl));generalize hCC:HP.objs.size=C at *;generalize hDD:s2.heap.objs.size=D at *;have IX:=FZ (N':=N') (fp:=fp) I2 hf c1 c2 (by rw [hDD]; exact hCle) f2 (by rw [hDD]; exact hlt) (tk:=s2.toks + ([]:List (Str × Value)).length) old hns₁;have hDn:H2 D=none:=I2.hok.fresh (by rw [hDD]; exact Nat.le_refl _)
 have hDfs:D ∉ frs X.stack:=fun z=>by
  rcases mem_cons.mp (I2.stkSub D z) with q | q
  ·have:=I2.lt; rw [← q,hDD] at this; exact Nat.lt_irrefl _ this
  ·exact I2.nofs (by rw [hDD]; exact Nat.le_refl _) q
 have cellLt:∀ x c,X.env.cells.lookup x=some c->c < D:=fun x c e=>by
  obtain ⟨v,z⟩:=I2.cell x c e;rw [← hDD]; exact z.lt
 have pinLt:∀ p ∈ X.pn++aa,p.1 < D:=fun p hp=>by rw [← hDD]; exact lt_size (I2.pin p hp).1
 have s0D:X.s₀.heap.objs.size <= D:=by rw [← hDD]; exact I2.sz
 have locLt:X.env.locals < D:=by rw [← hDD]; exact I2.lt
 let X':Cx:=Aa X N' scope cl s2 H2 C fp (X.pn++aa)
 have stat:∀ {H':Hp} {ob:Obj},(∀ b ∈ fp,H' b=none)->∀ b ∈ fp,Dq X' [(D,ob)] H' b:=fun {H' ob} hn b hb=>by
  refine ⟨hn b hb,Nat.ne_of_lt (Nat.lt_of_lt_of_le (hlt b hb) hCle),fun z=>?_,.inl hb,fun x c e=>(f2 b hb).2.2.2.2.1 x c (c1 x c e),fun p hp=>?_⟩
  ·exact IX.ok.exfs b hb z
  ·rcases mem_append.mp hp with z | z
   ·exact (f2 b hb).2.2.2.2.2 p z
   ·have e:p=(D,ob):=by simpa using z
    subst e;exact Nat.ne_of_gt (hlt b hb)
 have pinD:∀ {σ':St} {H':Hp} {s':Shared} {ob:Obj},Inv X' [] σ' H' s'->s'.heap.get? D=some ob->H' D=none->(∀ v,ob.data ≠ .cell v)->Inv X' [(D,ob)] σ' H' s':=fun {σ' H' s' ob} Ia e n d =>
  Ia.pins_of fun p hp=>by
   have q:p=(D,ob):=by simpa using hp
   subst q;exact ⟨e,n,hDC,hDfs,d⟩
 have loop:∀ s3:Shared,s3={ s2 with heap:=h₁,toks:=s2.toks + ([]:List (Str × Value)).length } ->
   codeAny (model X.prog X.w) X.A (.compLoop (.DictComp kx vx [⟨tg,iter,ifs,0⟩] scope pos) 0 (.ref it) (.ref D) (compEnvC scope cl C X.env)) (compPost (model X.prog X.w) X.A X.xe use Qv (.ref D) C) s3:=by
  rintro s3 rfl
  refine codeAny_loop rfl (fun n s'=>∃ i ys vs ob H',Inv X' [(D,ob)] (Bd ix σ) H' s'/\tn i s'.heap/\(∀ b ∈ fp,H' b=none)/\W i n ys H'/\KV ys vs/\s'.heap.DictOf (Ab X.prog X.w) D vs)
   (fun n s4 hI=>?_) m0 ⟨0,[],[],_,H2,pinD IX bn hDn (fun v z=>by cases z),T.keep _ _ _ st2 (fun b _ o e=>old b o e),fun b hb=>(f2 b hb).1,w0,.nil,by rw [← hDD]; exact Heap.DictOf.at (Heap.DictOf.new s2.heap) fun o e=>by rw [get?_push_size _ rfl] at e; cases e; rw [hDD]; exact bn⟩
  obtain ⟨i,ys,vs,ob,H4,I4,st4,fr4,w4,rv,dd4⟩:=hI;have hDsys:(D == sysModules)=false:=by rw [← hDD]; exact PF I2.big
  show wpAny _ X.A ((compTurn (.DictComp kx vx [⟨tg,iter,ifs,0⟩] scope pos) 0 (.ref it) (.ref D) (compEnvC scope cl C X.env)).onRaise (fun x=>do noteFrame x (compEnvC scope cl C X.env); theTreesLotGoes x)) _ _ s4;refine wpAny_noted ?_;rw [compTurn_dict];refine CS ?_;rcases turn i n ys H4 w4 with ⟨stop,hz,r⟩ | ⟨go,N,hN,step⟩
  ·refine wpAny_bind (wpAny_standAt (wpAny_bind (thn (T.done X' rfl rfl rfl (hc _ _ _ _ _ _) i _ s4 _ H4 _ I4 (stat fr4) st4 stop) fun r' s5 ⟨hr,I5⟩=>?_)));subst hr;have pD:=I5.pin (D,_) (mem_append_right _ mem_cons_self);have Ib:Inv X aa σ H4 s5:=Gr I2 f2 I5;have pD4:=I4.pin (D,_) (mem_append_right _ mem_cons_self);have dd5:=dd4.at (h':=s5.heap) fun o e=>by rw [pD4.1] at e; cases e; exact pD.1
   have Ic:Inv X aa σ (upd H4 D (.dK ys)) s5:=Ib.track pD.2.1 (Nat.ne_of_gt locLt) (.inr s0D) (fun x c e=>Nat.ne_of_lt (cellLt x c e)) (fun p hp=>Nat.ne_of_lt (pinLt p hp)) (FV hz hDsys rv dd5);obtain ⟨m5,n5,_⟩:=I5.loc
   refine wpAny_pure (cb s5 ys H4 D C m5 Ic r pD.2.1 n5 (Nat.le_trans s0D hCle) (Nat.ne_of_gt (Nat.lt_of_lt_of_le locLt hCle)) (fun x c e=>Nat.ne_of_lt (Nat.lt_of_lt_of_le (cellLt x c e) hCle))
    (fun p hp=>Nat.ne_of_lt (Nat.lt_of_lt_of_le (pinLt p hp) hCle)) ?_)
   rw [AH (Ne.symm hDC)];exact I5.free
  ·refine wpAny_bind (wpAny_standAt (wpAny_bind (thn (T.item X' rfl rfl rfl (hc _ _ _ _ _ _) i _ s4 _ H4 _ I4 (stat fr4) st4 go) fun r' s5 ⟨u,hr,h5⟩=>?_)));subst hr;refine wpAny_bind (thn h5 fun _ s6 ⟨x,H6,I6,r6,y6,st6,fr6⟩=>?_);have I6':=I6.pinned (stat fr6) (T.obj _ _ st6);refine wpAny_bind (thn (hg _ _ _ _ _ _ _ s6 _ H6 x u _ I6' r6 (step x H6 y6)) fun _ s7 ⟨σ7,H7,I7,k7,q7⟩=>?_);refine wpAny_bind (thn (ht _ _ _ _ _ _ _ s7 σ7 H7 _ I7 q7) fun b s8 ⟨H8,I8,q8⟩=>?_)
   have again:∀ {H9:Hp} {s9:Shared} {ys':LK} {vs':List (Key × Value)} {ob':Obj},Inv X' ([(D,ob')]++B1 fp s6.heap) σ7 H9 s9->KV ys' vs'->s9.heap.DictOf (Ab X.prog X.w) D vs' ->
     (∃ m',m' < n/\W (i + 1) m' ys' H9)->∃ m,m < n/\∃ i ys vs ob H',Inv X' [(D,ob)] (Bd ix σ) H' s9/\tn i s9.heap/\(∀ b ∈ fp,H' b=none)/\W i m ys H'/\KV ys vs/\s9.heap.DictOf (Ab X.prog X.w) D vs:=by
    intro H9 s9 ys' vs' ob' I9 rv' dd' ⟨m',hm,w9⟩;refine ⟨m',hm,i + 1,ys',vs',ob',H9,I9.unpinned.weak (I4.len.trans I9.len.symm) k7,T.keep _ _ _ st6 fun b hb o e=>(I9.pin (b,o) (mem_append_right _ (mem_append_right _ (Bf hb e)))).1,fun b hb=>?_,w9,rv',dd'⟩;obtain ⟨o,e,d⟩:=T.obj _ _ st6 b hb;exact (I9.pin (b,o) (mem_append_right _ (mem_append_right _ (Bf hb e)))).2.1
   have pD4:=I4.pin (D,_) (mem_append_right _ mem_cons_self)
   have dAt:∀ {σ9:St} {H9:Hp} {s9:Shared},Inv X' ([(D,ob)]++B1 fp s6.heap) σ9 H9 s9->s9.heap.DictOf (Ab X.prog X.w) D vs:=fun {σ9 H9 s9} I9=>dd4.at fun o e=>by
    rw [pD4.1] at e;cases e;exact (I9.pin (D,_) (mem_append_right _ (mem_append_left _ mem_cons_self))).1
   cases b with
   | false =>
    rw [if_neg Bool.false_ne_true] at q8;exact wpAny_pure ⟨rfl,again I8 rv (dAt I8) (hN _ _ q8).2⟩
   | true =>
    rw [if_pos rfl] at q8;refine wpAny_bind (wpAny_bind (thn (hk _ _ _ _ _ _ _ s8 σ7 H8 _ I8 q8) fun yk s8' ⟨zk,H8',I8',rk,q8'⟩=>?_));refine wpAny_bind (wpAny_holding (thn (he _ _ _ _ _ _ _ s8' σ7 H8' _ I8' q8') fun y s9 ⟨z,H9,I9,r9,kk,ek,q9⟩=>?_));subst ek;refine wpAny_bind (wpAny_standAt ?_);have hz:(A1 ys kk z).length <= sizeLine:=(hN _ _ q9).1
    have hzv:vs.length <= sizeLine:=by
     have h1:=K8 ys kk z;rw [← rv.length];omega
    have pD:=I9.pin (D,_) (mem_append_right _ (mem_append_left _ mem_cons_self));refine wpAny_holding (wpAny_dictSet_pairs (hsz:=hzv) (Dx rk) (dAt I9) fun h2 dd2 sb2=>?_);obtain ⟨ob2,es2,ep2,q,ex2,dt2,rest2⟩:=id dd2;have Iw:Inv X' (B1 fp s6.heap) σ7 H9 s9:=I9.pins_of fun p hp=>I9.pin p (mem_append_right _ (mem_append_right _ hp))
    have It:Inv X' (B1 fp s6.heap) σ7 H9 { s9 with heap:=h2,toks:=s9.toks + 1 }:=Iw.turned (it:=D) (fun b o hb e=>(sb2.2 b hb).trans e) pD.2.1 hDC
     (.inr (by show s2.heap.objs.size <= D; rw [hDD]; exact Nat.le_refl _)) (fun x c e=>Nat.ne_of_lt (cellLt x c (c1 x c e))) (fun p hp=>by
      rcases mem_append.mp hp with z' | z'
      ·exact Nat.ne_of_lt (pinLt p z')
      ·exact Nat.ne_of_lt (hlt p.1 (Ee z').1))
    refine wpAny_pure ⟨rfl,again (ob':=ob2) (It.pins_of fun p hp=>?_) (rv.put kk r9) dd2 (hN _ _ q9).2⟩;rcases mem_append.mp hp with z' | z'
    ·have e:p=(D,ob2):=by simpa using z'
     subst e;exact ⟨q,pD.2.1,hDC,hDfs,fun v z=>by rw [dt2] at z; cases z⟩
    ·exact It.pin p (mem_append_right _ z')
 exact codeAny_compStart_dict (loop _ rfl) (T.self _ 0 _ _ _ (T.keep _ _ _ st2 fun b _ o e=>old b o e) (loop _ rfl))
theorem MX (hf:CompFits X.env.scope scope X.N N' ix) (hc:X.calm=true) (hi:PI X tg iter wi)
  (hg:∀ cl s H C fp pn,PGk (Aa X N' scope cl s H C fp pn) tg ix g) (ht:∀ cl s H C fp pn,PTs (Aa X N' scope cl s H C fp pn) ifs tt) (hk:∀ cl s H C fp pn,PE (Aa X N' scope cl s H C fp pn) kx tk) (he:∀ cl s H C fp pn,PE (Aa X N' scope cl s H C fp pn) vx te)
  (hs:∀ x,foldedSetIterable iter X.env x=pure x:=by intro _; rfl) :
  PE X (.DictComp kx vx [⟨tg,iter,ifs,0⟩] scope pos) (fun σ H Q=>Jj wi g tt tk te ix (fun ys H'=>∀ p,H' p=none->Q (.ref p) (upd H' p (.dK ys))) σ H):=by
 intro aa s σ H Q I h;rw [arm_eval_DictComp];refine Jk (use:=none) hf (fun _ _ _ _ _ _=>hc) hi.g hg ht hk he hs I h fun s' ys H' D C m I' r hD hn h1 h2 h3 h4 h5=>?_;refine ⟨m,hn,fun h'' hs''=>⟨.ref D,_,I'.turned (it:=C) (t':=s'.toks) (fun b o hb e=>(hs''.2 b hb).trans e) h5 h2 (.inr h1) h3 h4,rfl,r D hD⟩⟩
variable {y:Str} {px:Pos}
theorem K9 (Nc:List Str) (ixc:List (Option Nat)) (hf:Gp X.env.scope scope X.N (x :: Nc) (none :: ixc)=true) (hnd:(x :: Nc).Nodup) (hx:scope.names.lookup x=some .local) (hc:X.calm=true) (hi:PI X (.Name x px) iter wi)
  (ht:∀ cl s H C fp pn,PTs (Aa X (x :: Nc) scope cl s H C fp pn) ifs tt) (hk:∀ cl s H C fp pn,PE (Aa X (x :: Nc) scope cl s H C fp pn) kx tk) (he:∀ cl s H C fp pn,PE (Aa X (x :: Nc) scope cl s H C fp pn) vx te)
  (hs:∀ x,foldedSetIterable iter X.env x=pure x:=by intro _; rfl) :
  PE X (.DictComp kx vx [⟨.Name x px,iter,ifs,0⟩] scope pos) (fun σ H Q=>Jj wi (CO 0) tt tk te (none :: ixc) (fun ys H'=>∀ p,H' p=none->Q (.ref p) (upd H' p (.dK ys))) σ H) :=
 MX (CompFits.of hf) hc hi (fun cl s H C fp pn=>Fa (AO (i:=0) hnd rfl (.inl (lookup_relabel_local hx)) (.inr (lookup_relabel_local hx)))) ht hk he hs
end
def Itk (a:Addr) (o:Obj) (kvs:LK):It:=⟨fun i H=>H a=some (.frz o (.dK kvs))/\i < kvs.length,fun i H x H'=>H'=H/\∃ kv,kvs[i]?=some kv/\x=kV kv.1,fun i H=>H a=some (.frz o (.dK kvs))/\kvs.length <= i⟩
theorem LA {tg:Expr} (a it:Addr) (o:Obj) (kvs:LK) :
  IH P w K tg (Itk a o kvs) [it] it (fun i h=>h.IsKeyIter it a i kvs.length (K1 o)) where
 mem:=by simp
 obj:=fun i h st b hb=>by
  have e:b=it:=by simpa using hb
  subst e;obtain ⟨ob,e,c,d⟩:=st;exact ⟨ob,e,fun v z=>by rw [d] at z; cases z⟩
 keep:=fun i h h' st k=>by
  obtain ⟨ob,e,r⟩:=st;exact ⟨ob,k it (by simp) _ e,r⟩
 item:=by
  intro X hP hw hK hc i aa s σ H E I hf st hg;subst hP hw hK;obtain ⟨hfz,hi⟩:=hg;obtain ⟨z,y,vs,rel,dd⟩:=CT I hfz;have bd:=rel.length;obtain ⟨kv,hkv⟩:∃ kv,kvs[i]?=some kv:=⟨_,List.getElem?_eq_getElem hi⟩;obtain ⟨v,hv,rv⟩:=KV.get rel hkv;obtain ⟨f0,f1,f2,f3,f4,f5⟩:=hf it (by simp);rw [bd] at st;refine wpAny_pyNext_dict_item st dd hv fun key h' bq st' sb=>?_;have I1:Inv X aa σ H { s with heap:=h' }:=I.turned (t':=s.toks) (fun b o hb e=>(sb.2 b hb).trans e) f0 f1 f3 f4 f5;obtain ⟨o',e',c',d'⟩:=id st';exact ⟨key,rfl,KC (s:={ s with heap:=h' }) e' c' d' (by decide) ⟨kV kv.1,H,I1,D3 bq,⟨rfl,kv,hkv,rfl⟩,by rw [bd]; exact st',fun b hb=>(hf b hb).1⟩⟩
 done:=by
  intro X hP hw hK hc i aa s σ H E I hf st hg;subst hP hw hK;obtain ⟨hfz,hi⟩:=hg;obtain ⟨z,y,vs,rel,dd⟩:=CT I hfz;have bd:=rel.length;rw [bd] at st;obtain ⟨f0,f1,f2,f3,f4,f5⟩:=hf it (by simp);exact wpAny_pyNext_dict_end (I.ok.hd hc) st dd (List.getElem?_eq_none_iff.mpr (by omega)) fun h' eb=>⟨rfl,I.turned (t':=s.toks) (fun b o hb e=>eb b o hb e) f0 f1 f3 f4 f5⟩
 self:=fun _ _ _ _ _ st h=>wpAny_pyIter_keyiter st h
def QO (to:TE):TI:=fun σ H R=>to σ H fun x H1=>∃ a o kvs,x=.ref a/\H1 a=some (.frz o (.dK kvs))/\R (Itk a o kvs) H1
theorem KU {tg o:Expr} {to:TE} (ho:PE X o to):PI X tg o (QO to):=by
 intro aa s σ H R I h;refine thn (ho aa s σ H _ I h) fun v s1 ⟨x,H1,I1,r1,a,ob,kvs,ex,hfz,q⟩=>?_;subst ex;cases r1;obtain ⟨z,y,vs,rel,dd⟩:=CT I1 hfz;refine wpAny_pyIter_dict y dd ?_;refine ⟨_,[_],_,_,H1,rfl,I1.kept (t':=s1.toks) fun b o e=>get?_push_of_some _ e,LA a _ ob kvs,⟨_,get?_push_size _ rfl,rfl,by rw [rel.length]; rfl⟩,fun b hb=>?_,q⟩;have e:b=s1.heap.objs.size:=by simpa using hb
 subst e;exact I1.fpOk (Nat.le_refl _) (I1.hok.fresh (Nat.le_refl _))
theorem LB {o:Obj} {kvs:LK} {g:TG} {tt:TT} {ix:List (Option Nat)} {R:List V->Hp->Prop} {H1:Hp} (Pv:Nat->List V->Hp->Prop) (h0:Pv 0 [] H1) (hl:∀ i ys H,Pv i ys H->H a=some (.frz o (.dK kvs))) (hz:∀ i ys H,Pv i ys H->ys.length <= 1000)
  (hs:∀ i kv ys H,kvs[i]?=some kv->Pv i ys H->g (kV kv.1) (Bd ix σ) H fun σ2 H2=>tt σ2 H2 fun b H3=>if b=true then te σ2 H3 fun y H4=>Pv (i + 1) (ys++[y]) H4 else Pv (i + 1) ys H3) (hd:∀ ys H,Pv kvs.length ys H->R ys H) :
  ∃ W:Nat->Nat->List V->Hp->Prop,(∃ m,W 0 m [] H1)/\∀ i m ys H,W i m ys H ->
   ((Itk a o kvs).stop i H/\ys.length <= sizeLine/\R ys H) \/
   ((Itk a o kvs).go i H/\∃ N:List V->Hp->Prop,(∀ ys' H',N ys' H'->ys'.length <= sizeLine/\∃ m',m' < m/\W (i + 1) m' ys' H') /\
    ∀ x H',(Itk a o kvs).yld i H x H'->g x (Bd ix σ) H' fun σ2 H2=>tt σ2 H2 fun b H3=>if b=true then te σ2 H3 fun y H4=>N (ys++[y]) H4 else N ys H3):=by
 refine ⟨fun i m ys H=>m=kvs.length - i/\i <= kvs.length/\Pv i ys H,⟨_,rfl,Nat.zero_le _,h0⟩,?_⟩;rintro i m ys H ⟨rfl,hi,hp⟩;by_cases hlt:i < kvs.length
 ·refine .inr ⟨⟨hl i ys H hp,hlt⟩,Pv (i + 1),fun ys' H' q=>⟨Nat.le_of_lt (AU (hz _ ys' H' q)),kvs.length - (i + 1),by omega,rfl,hlt,q⟩,?_⟩;rintro x H' ⟨rfl,kv,hkv,rfl⟩;exact hs i kv ys _ hkv hp
 ·have e:i=kvs.length:=by omega
  subst e;exact .inl ⟨⟨hl _ ys H hp,Nat.le_refl _⟩,Nat.le_of_lt (AU (hz _ ys H hp)),hd ys H hp⟩
theorem Jl {o:Obj} {kvs:LK} {g:TG} {tt:TT} {tk:TE} {ix:List (Option Nat)} {R:LK->Hp->Prop} {H1:Hp} (Pv:Nat->LK->Hp->Prop) (h0:Pv 0 [] H1) (hl:∀ i ys H,Pv i ys H->H a=some (.frz o (.dK kvs))) (hz:∀ i ys H,Pv i ys H->ys.length <= 1000)
  (hs:∀ i kv ys H,kvs[i]?=some kv->Pv i ys H->g (kV kv.1) (Bd ix σ) H fun σ2 H2=>tt σ2 H2 fun b H3=>if b=true then tk σ2 H3 fun yk H4=>te σ2 H4 fun y H5=>∃ k,yk=kV k/\Pv (i + 1) (A1 ys k y) H5 else Pv (i + 1) ys H3) (hd:∀ ys H,Pv kvs.length ys H->R ys H) :
  ∃ W:Nat->Nat->LK->Hp->Prop,(∃ m,W 0 m [] H1)/\∀ i m ys H,W i m ys H ->
   ((Itk a o kvs).stop i H/\ys.length <= sizeLine/\R ys H) \/
   ((Itk a o kvs).go i H/\∃ N:LK->Hp->Prop,(∀ ys' H',N ys' H'->ys'.length <= sizeLine/\∃ m',m' < m/\W (i + 1) m' ys' H') /\
    ∀ x H',(Itk a o kvs).yld i H x H'->g x (Bd ix σ) H' fun σ2 H2=>tt σ2 H2 fun b H3=>if b=true then tk σ2 H3 fun yk H4=>te σ2 H4 fun y H5=>∃ k,yk=kV k/\N (A1 ys k y) H5 else N ys H3):=by
 refine ⟨fun i m ys H=>m=kvs.length - i/\i <= kvs.length/\Pv i ys H,⟨_,rfl,Nat.zero_le _,h0⟩,?_⟩;rintro i m ys H ⟨rfl,hi,hp⟩;by_cases hlt:i < kvs.length
 ·refine .inr ⟨⟨hl i ys H hp,hlt⟩,Pv (i + 1),fun ys' H' q=>⟨Nat.le_of_lt (AU (hz _ ys' H' q)),kvs.length - (i + 1),by omega,rfl,hlt,q⟩,?_⟩;rintro x H' ⟨rfl,kv,hkv,rfl⟩;exact hs i kv ys _ hkv hp
 ·have e:i=kvs.length:=by omega
  subst e;exact .inl ⟨⟨hl _ ys H hp,Nat.le_refl _⟩,Nat.le_of_lt (AU (hz _ ys H hp)),hd ys H hp⟩
section
def MY (xs:List V) (k:Nat) (y:V):List V:=xs.take k++y :: xs.drop k
def N6:V->List V->Hp->VK->Prop:=fun x vs H Q=>∃ (l:Addr) (xs:List V) (k:Nat) (y:V),x=.ref l/\vs=[.int (k:Int),y]/\H l=some (.lst xs)/\k <= xs.length/\xs.length <= 1000/\Q .non (upd H l (.lst (MY xs k y)))
theorem LC:MtM X "list.insert" N6:=by
 intro aa s σ H x vs v us Q I rx rv h;obtain ⟨l,xs,k,y,rfl,rfl,hH,hk,hz,q⟩:=h;cases rx;obtain ⟨u1,u2,rfl,⟨t,rfl⟩,ru⟩:=E2 rv;obtain ⟨z,its,n,r,hl,e⟩:=I.lstM hH;have bd:=r.length;have hk62:(k:Int) < 2 ^ 63:=by omega
 have hfit:¬ (!Builtin.List.listFitsIndex (k:Int))=true:=by
  have h1:-(2 ^ 63) <= (k:Int):=by omega
  have h2:=fitsIndex_both h1 hk62;intro z;rw [h2] at z;cases z
 have hsz:its.toArray.size <= sizeLine:=by rw [size_toArray,← bd]; exact z
 generalize hx:(k:Int)=x at hfit ⊢;refine call_meets F.slot_list_insert ⟨_,e,rfl⟩ F.entry_list_insert (F.args_list_insert_3 _ _ _) (PySem.AutoSeq1.list_insert_list_int_val_1 l its.toArray n x t u2 hfit hsz) ⟨e,?_⟩;refine ⟨.non,_,I.lset (its':=its.take k++u2 :: its.drop k) hH e ?_ ?_ ?_,rfl,q⟩
 ·have hk':(if x < 0 then (x + ((its.toArray.size:Nat):Int)).toNat else min x.toNat its.toArray.size)=k:=by
   rw [if_neg (by omega),size_toArray];omega
  show (its.toArray.extract 0 (if x < 0 then (x + ((its.toArray.size:Nat):Int)).toNat else min x.toNat its.toArray.size)).push u2++its.toArray.extract (if x < 0 then (x + ((its.toArray.size:Nat):Int)).toNat else min x.toNat its.toArray.size)=_;rw [hk'];apply Array.toList_inj.mp;simp;exact List.take_of_length_le (by rw [List.length_drop]; exact Nat.le_refl _)
 ·exact Vals.append (r.take _) (.cons ru (r.drop _))
 ·unfold MY;have:(1001:Nat) <= sizeLine:=by decide
  rw [length_append,length_cons,length_take,List.length_drop];omega
end
section
theorem HS (l:Addr) (items:Array Value) (n:Nat) (b:Addr) (o2:Obj) (ae:Array Value) (n2:Nat) (hc:o2.cls=.type "tuple") (hd:o2.data=.seq ae n2) (hs0:¬(!items.isEmpty && Builtin.List.listTooLong (items.size + ae.size))=true) (hs1:items.size <= sizeLine) (hs2:items.size + ae.size <= sizeLine + 1) :
  Meets (Builtin.«list.extend» ⟨[.ref l,.ref b],[]⟩) (fun _ R s=>s.heap.get? l=some { cls:=.type "list", dict:=none,data:=.seq items n,slots:=#[] }/\s.heap.get? b=some o2/\R (.ok (.ret Value.none)) { s with heap:=s.heap.update l (Obj.mapSeq fun x=>x++ae),toks:=s.toks }) :=
 .of_wp fun prog w A R s h=>by
  obtain ⟨hp,g,d,tk,os⟩:=s; obtain ⟨hl,hb,h⟩:=h;obtain ⟨oc,od,oda,osl⟩:=o2;simp only at hc hd;subst hc hd;have q0:=AutoSeq1.idx_int;have q1:=AutoSeq1.sub_tuple_tuple;have q2:=AutoSeq1.sub_tuple_list;have q3:=AutoSeq1.sub_list_list;have q4:=AutoSeq1.sub_list_tuple
  have q5:(items++ae).size <= sizeLine + 1:=by
   rw [Array.size_append];exact hs2
  wp_walk using AutoSeq1.wpAny_loadPart' hl,AutoSeq1.wpAny_loadPart' hb,(wpAny_updateSeq hl rfl (hz:=hs1) (_hz':=q5))
  exact ⟨_,rfl,h⟩
def MZ:V->List V->Hp->VK->Prop:=fun x vs H Q=>∃ l b xs zs,x=.ref l/\vs=[.ref b]/\H l=some (.lst xs)/\H b=some (.tup zs)/\xs.length + zs.length <= sizeLine/\Q .non (upd H l (.lst (xs++zs)))
theorem Jm:MtM X "list.extend" MZ:=by
 intro aa s σ H x vs v us Q I rx rv h;obtain ⟨l,b,xs,zs,rfl,rfl,hH,hB,hz,q⟩:=h;cases rx;obtain ⟨u,rfl,ru⟩:=rv.one;cases ru;obtain ⟨z,its,n,r,hl,e⟩:=I.lstM hH;obtain ⟨its2,r2,⟨o2,e2,hc2,n2,hd2⟩,_⟩:=I.tuple (SqT.of hB);have hl2:=r2.length;have hsz:its.toArray.size + its2.toArray.size <= sizeLine:=by rw [size_toArray,size_toArray]; omega
 have hlong:¬ (!its.toArray.isEmpty && Builtin.List.listTooLong (its.toArray.size + its2.toArray.size))=true:=by
  rw [Lz hsz,Bool.and_false];exact Bool.false_ne_true
 refine call_meets F.slot_list_extend ⟨_,e,rfl⟩ F.entry_list_extend (F.args_list_extend_2 _ _)
  (HS l its.toArray n b o2 its2.toArray n2 hc2 hd2 hlong (by rw [size_toArray]; omega) (by omega)) ⟨e,e2,?_⟩
 refine ⟨.non,_,I.lset (its':=its++its2) hH e (by simp) (r.append r2) ?_,rfl,q⟩;rw [length_append];omega
end
section
def QP (i j k:Nat) (ta:TA):TS:=fun D σ H=>ta σ H fun vs H1=>∃ v w z,vs=[v,w,z]/\D.nx (((σ.set k (some z)).set j (some w)).set i (some v)) H1
theorem N7 {i j k:Nat} {y z:Str} {a b c:Expr} {ta:TA} {px py pz pt:Pos} {kt k2 pt2} (hc:X.calm=true) (hN:X.N.Nodup) (hi:X.N[i]?=some x) (hj:X.N[j]?=some y) (hk:X.N[k]?=some z)
  (hx:X.env.scope.names.lookup x=some .local) (hy:X.env.scope.names.lookup y=some .local) (hz:X.env.scope.names.lookup z=some .local) (ha:PA X [a,b,c] ta)
  (hw:swappedStores [.Tuple [.Name x px,.Name y py,.Name z pz] kt pt] (.Tuple [a,b,c] k2 pt2) X.env=pure (some [x,y,z]))
  (hs:swapsWithSole [.Tuple [.Name x px,.Name y py,.Name z pz] kt pt] (.Tuple [a,b,c] k2 pt2) pos.line X.env=pure false:=by rfl) :
  PS X (.Assign [.Tuple [.Name x px,.Name y py,.Name z pz] kt pt] (.Tuple [a,b,c] k2 pt2) pos) (QP i j k ta):=by
 intro aa s σ H D I h;rw [exec_Assign_arm];refine wpAny_bind (wpAny_standAt ?_);rw [hs];refine wpAny_bind (wpAny_pure ?_);rw [if_neg (by decide)];refine wpAny_bind (Tuple_ (thn (ha _ aa s σ H _ I h) fun us s1 ⟨vs,H1,I1,r1,q1⟩=>?_));obtain ⟨v,w,t,e1,q1⟩:=q1;subst e1
 obtain ⟨u1,u2,u3,rfl,rv,rw',rt⟩:∃ u1 u2 u3,us=[u1,u2,u3]/\RelV v u1/\RelV w u2/\RelV t u3:=by
  cases r1 with
  | cons p q =>
   cases q with
   | cons p' q' =>
    cases q' with
    | cons p'' q'' =>
     cases q'';exact ⟨_,_,_,rfl,p,p',p''⟩
 refine wpAny_newObj_type ?_ sl3;have I2:Inv X aa σ H1 { s1 with heap:=s1.heap.push { cls:=.type "tuple", data:=.seq [u1,u2,u3].toArray } }:=I1.kept (t':=s1.toks) fun b o e=>get?_push_of_some _ e;rw [hw];refine wpAny_bind (wpAny_pure ?_);show wpAny (model X.prog X.w) X.A (do rule "assign.swapped-stores"; let items ← unpackItems (.ref s1.heap.objs.size) 3 none; assignInOrder [fun v=>bindName X.env z v,fun v=>bindName X.env y v,fun v=>bindName X.env x v] items.reverse; pure Flow.next) _ _ _;refine wpAny_bind (wpAny_rule (wpAny_bind (unpackItems_tuple (items:=#[u1,u2,u3]) (I.ok.hd hc) (IsTup.new s1.heap _) fun h' hx'=>?_)));have I3:=I2.kept (h':=h') (t':=s1.toks) fun b o e=>hx' b o (Nat.ne_of_lt (lt_size e)) e;show wpAny _ _ (assignInOrder [fun v=>bindName X.env z v,fun v=>bindName X.env y v,fun v=>bindName X.env x v] [u3,u2,u1] >>= fun _=>pure Flow.next) _ _ _;refine wpAny_bind (assignInOrder_cons (wpAny_bindName (Bk I3 hN hk (.inl hz) rt (fun s2 I4=>?_) (.inr hz))));refine assignInOrder_cons (wpAny_bindName (Bk I4 hN hj (.inl hy) rw' (fun s3 I5=>?_) (.inr hy)));refine assignInOrder_cons (wpAny_bindName (Bk I5 hN hi (.inl hx) rv (fun s4 I6=>assignInOrder_nil (wpAny_pure ?_)) (.inr hx)));exact ⟨_,H1,I6,q1⟩
end
theorem Gw:∀ (fuel n r:Nat),r <= 1->minRun' fuel n r <= n + r
 | 0,n,r,_=>Nat.le_refl _
 | f + 1,n,r,h=>by
  rw [minRun'_succ];split
  ·exact Nat.le_refl _
  ·have:=Gw f (n / 2) (max r (n % 2)) (by omega);omega
section
variable {prog:Program} {a₀:Array Keyed}
theorem GS {st:SortSt} {nrem:Nat} {Q:Option Nat->SortSt->Prop} (h0:IntKeys a₀) (hn:nrem <= a₀.size) (h1:1 <= nrem) (hB:SBase a₀ st) (hr:SortedTo (arrOf st) nrem)
  (h:Q (some nrem) st):wpS (model prog w) A E s (countRun' 0 nrem) Q st:=by
 rw [countRun0_eq];refine wpS_bind (wpS_ascLoop h0 hn (Nat.le_refl 1) h1 hB (fun i j hij hj=>hr i j hij (by omega)) fun n hn1 hn2 hsn hor=>?_)
 dsimp only
 have e:n=nrem:=by
  rcases hor with z | z
  ·exact z
  ·by_cases q:n=nrem
   ·exact q
   ·exact absurd z (Int.not_lt.mpr (hr (n - 1) n (by omega) (by omega)))
 subst e;rw [if_pos (by simp)];exact wpS_pure h
theorem GX {st:SortSt} {Q:Unit->SortSt->Prop} (h0:IntKeys a₀) (hB:SBase a₀ st) (h2:2 <= a₀.size) (hr:SortedTo (arrOf st) a₀.size)
  (h:∀ st',arrOf st'=arrOf st->failedOf st'=none->Q () st'):wpS (model prog w) A E s sortRuns' Q st:=by
 rw [sortRuns'_eq];refine wpS_bind (wpS_get ?_)
 dsimp only
 have hmr:minRun' a₀.size a₀.size 0 <= a₀.size:=Gw _ _ _ (by decide);simp only [hB.size]
 refine wpS_bind (wpS_mono (wpS_forRange
  (I:=fun x c st'=>(x=0/\c=(none,0)/\st'=st)\/(1 <= x/\c=(none,a₀.size)/\st'=setPending st ((pendingOf st).push (0,a₀.size,0))))
  (Q:=fun c st'=>c=(none,a₀.size)/\st'=setPending st ((pendingOf st).push (0,a₀.size,0))) ?step ?fin (.inl ⟨rfl,rfl,rfl⟩)) ?post)
 case fin =>
  rintro c st' (⟨hx,_,_⟩ | ⟨_,hc,hD⟩)
  ·omega
  ·exact ⟨hc,hD⟩
 case step =>
  rintro x c st' _ hx (⟨rfl,rfl,rfl⟩ | ⟨hx1,rfl,rfl⟩)
  ·dsimp only
   rw [if_neg (by omega)];simp only [Nat.sub_zero,Nat.zero_add];refine wpS_bind (GS h0 (Nat.le_refl _) (by omega) hB hr ?_)
   dsimp only
   rw [if_neg (by omega)];refine wpS_bind (wpS_get ?_);have hb:(pendingOf st').back?=none:=by rw [hB.pend]; rfl
   rw [hb]
   dsimp only
   exact wpS_bind (wpS_modify (wpS_pure (.inr ⟨by omega,rfl,rfl⟩)))
  ·dsimp only
   rw [if_pos (Nat.le_refl _)];exact wpS_pure ⟨rfl,rfl⟩
 case post =>
  rintro c st' ⟨rfl,hD⟩
  have hpe:pendingOf st'=#[(0,a₀.size,0)]:=by
   rw [hD];show (pendingOf st).push _=_;rw [hB.pend];rfl
  dsimp only
  refine wpS_bind (wpS_mono (wpS_forRange (I:=fun _ c st''=>st''=st'/\c=(none,())) (Q:=fun c st''=>st''=st'/\c=(none,())) ?_ (fun _ _ hh=>hh) ⟨rfl,rfl⟩) ?_)
  ·rintro x c st'' _ _ ⟨rfl,rfl⟩;refine wpS_bind (wpS_get ?_);rw [if_pos (by rw [hpe]; exact Nat.le_refl 1)];exact wpS_pure ⟨rfl,rfl⟩
  ·rintro c st'' ⟨rfl,rfl⟩;refine wpS_pure (h _ ?_ ?_)
   ·rw [hD]
   ·rw [hD];exact hB.failed
theorem IY:∀ {vs:List Value} {ns:List Int},IntsAre vs ns->∀ (i:Nat) (v:Value),vs[i]?=some v->∃ n t,v=.int n t/\ns[i]?=some n
 | _,_,.nil,i,v,e=>by cases e
 | _,_,.cons n t h,0,v,e=>by cases e; exact ⟨n,t,rfl,rfl⟩
 | _,_,.cons n t h,i + 1,v,e=>IY h i v e
theorem IZ {vs:List Value} {ns:List Int} (hI:IntsAre vs ns) (hp:ns.Pairwise (· <= ·)):SortedTo (pairsOf vs) (pairsOf vs).size:=by
 have key:∀ i,i < vs.length->ns[i]?=some (PyProof.Rows.K (pairsOf vs) i):=fun i hi=>by
  obtain ⟨n,tk,hn,e⟩:=IY hI i _ (List.getElem?_eq_getElem hi);rw [e];unfold PyProof.Rows.K;have hzz:(vs.zip vs)[i]?=some (vs[i],vs[i]):=List.getElem?_zip_eq_some.mpr ⟨List.getElem?_eq_getElem hi,List.getElem?_eq_getElem hi⟩;rw [← Array.getElem?_toList,pairsOf_toList,hzz,hn];rfl
 intro i j hij hj;rw [pairsOf_size] at hj;have e1:=key i (by omega);have e2:=key j hj;rcases Nat.lt_or_ge i j with z | z
 ·obtain ⟨h1,g1⟩:=List.getElem?_eq_some_iff.mp e1;obtain ⟨h2,g2⟩:=List.getElem?_eq_some_iff.mp e2;have:=List.pairwise_iff_getElem.mp hp i j h1 h2 z;rw [g1,g2] at this;exact this
 ·have:i=j:=by omega
  subst this;exact Int.le_refl _
theorem HU (vs:List Value):((pairsOf vs).map (·.2))=vs.toArray:=by
 apply Array.toList_inj.mp;rw [Array.toList_map,pairsOf_toList,List.map_snd_zip (Nat.le_refl _)]
theorem E9 {vs:List Value} {ns:List Int} {n:Nat} {P:Fin->Shared->Prop} (ho:s.heap.get? a=some (seqObj "list" vs.toArray n))
  (hI:IntsAre vs ns) (hpw:ns.Pairwise (· <= ·)) (hz:vs.length <= 1000)
  (h:P (.done (.ret .none)) { s with heap:=sortedHeap s.heap a vs vs.toArray }) :
  wpAny (model prog w) A (Builtin.«list.sort» ⟨[.ref a],[]⟩) P E s:=by
 rw [list_sort_plain];have ha:a < s.heap.objs.size:=lt_size ho;have hsL:vs.toArray.size <= sizeLine:=by rw [sizeLine_eq]; simp only [size_toArray]; omega
 refine wpAny_bind (listItems_at ho rfl ?_);refine wpAny_bind (listUpdate_at ho rfl ?_ hsL);obtain ⟨e1,ho1⟩:∃ e1,(s.heap.update a (Obj.mapSeq fun _=>#[])).get? a=some (seqObj "list" #[] e1):=⟨_,get?_update_seq ho (fun _=>#[])⟩;refine wpAny_bind (seqEpoch_at ho1 rfl ?_);refine wpAny_bind (wpAny_newTuple ?_ (by rw [sizeLine_eq]; show vs.length <= _; omega));refine wpAny_bind (wpAny_newList ?_);refine wpAny_holding ?_
 have ho6:(((s.heap.update a (Obj.mapSeq fun _=>#[])).push (seqObj "tuple" vs.toArray 0)).push (seqObj "list" #[] 0)).get? a=some (seqObj "list" #[] e1):=by
  rw [Heap.get?_push_ne _ _ _ (by rw [size_push',size_update]; exact Nat.ne_of_lt (Nat.lt_succ_of_lt ha)),Heap.get?_push_ne _ _ _ (by rw [size_update]; exact Nat.ne_of_lt ha)];exact ho1
 show wpAny (model prog w) A _ P E { s with heap:=((s.heap.update a (Obj.mapSeq fun _=>#[])).push (seqObj "tuple" vs.toArray 0)).push (seqObj "list" #[] 0) }
 dsimp only
 have hsz:vs.toArray.size=vs.length:=by simp
 by_cases h2:vs.toArray.size < 2
 ·rw [if_pos h2,if_pos h2];refine wpAny_bind (wpAny_pure ?_);rw [StateT.run_pure];refine wpAny_bind (wpAny_pure ?_)
  dsimp only
  refine wpAny_bind (seqEpoch_at ho6 rfl ?_);refine wpAny_bind (listUpdate_at ho6 rfl ?_ (hsz2:=by rw [Array.size_map]; show (pairsOf vs).size <= _; rw [pairsOf_size,sizeLine_eq]; omega));simp only [bne_self_eq_false,Bool.false_eq_true,if_false];refine wpAny_pure ?_;rw [← HU] at h;exact h
 ·rw [if_neg h2,if_neg h2]
  obtain ⟨v₁,v₂,rest,rfl⟩:∃ v₁ v₂ rest,vs=v₁ :: v₂ :: rest:=by
   match vs,hsz,h2 with
   | [],_,h2=>simp at h2
   | [_],_,h2=>simp at h2
   | v₁ :: v₂ :: rest,_,_=>exact ⟨v₁,v₂,rest,rfl⟩
  rw [keyKind_ints hI];refine wpAny_bind (wpAny_pure ?_)
  refine wpAny_bind (wpAny_mono (GX (a₀:=pairsOf (v₁ :: v₂ :: rest)) (st:=SortSt.mk' oneType' ((v₁ :: v₂ :: rest).toArray.zip (v₁ :: v₂ :: rest).toArray) #[] 7 none)
   (Q:=fun _ st'=>arrOf st'=pairsOf (v₁ :: v₂ :: rest)/\failedOf st'=none)
   hI.intKeys ⟨Array.Perm.refl _,rfl,rfl,rfl⟩ (by rw [pairsOf_size]; simp) (IZ hI hpw) fun st' a1 a2=>⟨a1,a2⟩) ?_ fun _ _ e=>e)
  rintro ⟨⟨⟩,st'⟩ s' ⟨rfl,hp,hf⟩
  dsimp only
  refine wpAny_bind (seqEpoch_at ho6 rfl ?_);refine wpAny_bind (listUpdate_at ho6 rfl ?_ (hsz2:=by rw [hp,HU]; exact Nat.le_succ_of_le hsL));rw [hf];simp only [bne_self_eq_false,Bool.false_eq_true,if_false];rw [hp,HU];exact wpAny_pure h
end
section
theorem HV (hK:X.K=K):BR X (.builtin "sorted") (fun xs H Q=>∃ (p:Addr) (ns:List Int),xs=[.ref p]/\SqL K H p (ns.map V.int)/\ns.Pairwise (· <= ·)/\ns.length <= 1000/\∀ l,H l=none->Q (.ref l) (upd H l (.lst (ns.map V.int)))):=by
 subst hK;intro aa s σ H xs us Q I r h;obtain ⟨p,ns,rfl,hq,hpw,hz,q⟩:=h;obtain ⟨u,rfl,ru⟩:=B2 r;cases ru;obtain ⟨its,rv,pl,hzl⟩:=I.list hq;have bd:ns.length=its.length:=by have:=rv.length; rw [length_map] at this; exact this
 have hI:=B3 rv;have hsL:its.length <= sizeLine:=by rw [sizeLine_eq]; omega
 refine Calls.call_function_entry kind_sorted plain_sorted entry_sorted (args_sorted1 _) ?_;unfold Builtin.«sorted»;refine wpAny_bind (m:=checkCount "sorted" 1 1 _) (wpAny_pure ?_);refine wpAny_bind (collect_list pl.isList ?_ hsL);refine wpAny_bind (wpAny_newList ?_ hsL)
 have hsz:((s.heap.push (seqObj "list" #[] 0)).update s.heap.objs.size (Obj.mapSeq (·++its.toArray))).objs.size=s.heap.objs.size + 1:=by
  rw [size_update,size_push']
 have hoL:(((s.heap.push (seqObj "list" #[] 0)).update s.heap.objs.size (Obj.mapSeq (·++its.toArray))).push (seqObj "list" its.toArray 0)).get? (s.heap.objs.size + 1)=some (seqObj "list" its.toArray 0):=by
  rw [← hsz]; exact get?_push_size _ rfl
 show wpAny _ _ _ _ _ { s with heap:=((s.heap.push (seqObj "list" #[] 0)).update s.heap.objs.size (Obj.mapSeq (·++its.toArray))).push (seqObj "list" its.toArray 0) };rw [hsz];refine wpAny_bind (wpAny_holding (wpAny_call_entry slot_list_sort ⟨_,hoL,rfl⟩ entry_list_sort (E9 hoL hI hpw (by omega) ⟨_,rfl,?_⟩) (args_list_sort _)));refine wpAny_pure ⟨_,rfl,?_⟩;have hn:H (s.heap.objs.size + 1)=none:=I.hok.fresh (Nat.le_succ _);refine ⟨.ref (s.heap.objs.size + 1),_,I.laid (t':=s.toks) (o:=.lst (ns.map V.int)) (h':=sortedAll s.heap its its.toArray) (fun b o e=>sortedAll_old e) (Nat.le_succ _) ⟨by rw [length_map,bd]; exact hsL,its,?_⟩,rfl,q _ hn⟩;obtain ⟨c,hcx⟩:=sortedAll_at s.heap its its.toArray;exact ⟨c,rv,hcx⟩
end
end L2
end
section
namespace MK
open PySem
theorem Cf (a b:Nat):Builtin.bitAnd (a:Int) (b:Int)=((a &&& b:Nat):Int):=by
 rw [PyProof.Rows.bitAnd_pp (Int.natCast_nonneg _) (Int.natCast_nonneg _)]; simp
theorem CL (a b:Nat):Builtin.bitOr (a:Int) (b:Int)=((a ||| b:Nat):Int):=by
 have ha:¬ (0:Int) <= Builtin.bitNot (a:Int):=by unfold Builtin.bitNot; omega
 have hb:¬ (0:Int) <= Builtin.bitNot (b:Int):=by unfold Builtin.bitNot; omega
 unfold Builtin.bitOr;rw [PyProof.Rows.bitAnd_nn ha hb];have e:∀ n:Nat,(Builtin.bitNot (Builtin.bitNot (n:Int))).toNat=n:=fun n=>by unfold Builtin.bitNot; omega
 rw [e a,e b];unfold Builtin.bitNot; omega
theorem Ff (a b:Nat):Builtin.bitAnd (a:Int) (Builtin.bitNot (b:Int))=((a - (a &&& b):Nat):Int):=by
 rw [PyProof.Rows.bitAnd_not,Cf];have:a &&& b <= a:=Nat.and_le_left;omega
def AX (l:List Nat):Nat:=l.foldl (· ||| ·) 0
theorem D6 (k:Nat):∀ (l:List Nat) (a:Nat),(l.foldl (· ||| ·) a).testBit k=(a.testBit k || l.any (·.testBit k))
 | [],a=>by simp
 | x :: r,a=>by rw [foldl_cons,D6 k r,Nat.testBit_or,any_cons,Bool.or_assoc]
theorem BW (l:List Nat) (k:Nat):(AX l).testBit k=l.any (·.testBit k):=by
 unfold AX; rw [D6]; simp
theorem D7 {l:List Nat} {m:Nat} (h:∀ n ∈ l,n < 2 ^ m):AX l < 2 ^ m:=by
 have:∀ (l:List Nat) (a:Nat),a < 2 ^ m->(∀ n ∈ l,n < 2 ^ m)->l.foldl (· ||| ·) a < 2 ^ m:=by
  intro l;induction l with
  | nil=>intro a ha _; exact ha
  | cons x r ih=>intro a ha hl; exact ih _ (Nat.or_lt_two_pow ha (hl x mem_cons_self)) fun n hn=>hl n (mem_cons_of_mem _ hn)
 exact this l 0 (Nat.two_pow_pos m) h
theorem Cg (l:List Nat) (n:Nat):AX (l++[n])=AX l ||| n:=by unfold AX; rw [foldl_append]; rfl
def Ar (n:Nat):Bool:=decide (0 < n) && decide (n &&& (n - 1)=0)
theorem Jn (k:Nat):Ar (2 ^ k)=true:=by
 unfold Ar;have h0:0 < 2 ^ k:=Nat.two_pow_pos k
 have h1:2 ^ k &&& (2 ^ k - 1)=0:=by
  apply Nat.eq_of_testBit_eq;intro i;rw [Nat.testBit_and,Nat.testBit_two_pow,Nat.testBit_two_pow_sub_one,Nat.zero_testBit];by_cases e:k=i
  ·subst e; simp
  ·simp [e]
 simp [h0,h1]
theorem Av {n:Nat} (h:Ar n=true):∃ k,n=2 ^ k:=by
 unfold Ar at h;simp only [Bool.and_eq_true,decide_eq_true_eq] at h;obtain ⟨h0,h1⟩:=h;refine ⟨n.log2,?_⟩;have hlo:2 ^ n.log2 <= n:=Nat.log2_self_le (by omega);have hhi:n < 2 ^ (n.log2 + 1):=Nat.lt_log2_self;rcases Nat.eq_or_lt_of_le hlo with e | hlt
 ·exact e.symm
 ·exfalso
  have b1:n.testBit n.log2=true:=by
   rw [Nat.testBit_eq_decide_div_mod_eq];simp
   have:n / 2 ^ n.log2=1:=by
    apply Nat.div_eq_of_lt_le <;> (try rw [Nat.pow_succ] at hhi) <;> omega
   rw [this]
  have b2:(n - 1).testBit n.log2=true:=by
   rw [Nat.testBit_eq_decide_div_mod_eq];simp
   have:(n - 1) / 2 ^ n.log2=1:=by
    apply Nat.div_eq_of_lt_le <;> (try rw [Nat.pow_succ] at hhi) <;> omega
   rw [this]
  have:(n &&& (n - 1)).testBit n.log2=true:=by rw [Nat.testBit_and,b1,b2]; rfl
  rw [h1,Nat.zero_testBit] at this;cases this
def Ch (n:Nat):List Nat:=(List.range 42).filter fun k=>n.testBit k
theorem Fg {α:Type} [DecidableEq α] {p:α->Bool}:∀ {l:List α} {a:α},l.Nodup->a ∈ l->(∀ b ∈ l,p b=true ↔ b=a)->l.filter p=[a]
 | [],_,_,h,_=>by cases h
 | b :: r,a,hn,ha,hp=>by
  obtain ⟨n1,n2⟩:=nodup_cons.mp hn;by_cases e:b=a
  ·subst e;have hb:p b=true:=(hp b mem_cons_self).mpr rfl;rw [filter_cons,if_pos hb];congr 1;apply List.filter_eq_nil_iff.mpr;intro c hc hpc;have:=(hp c (mem_cons_of_mem _ hc)).mp hpc;exact n1 (this ▸ hc)
  ·have hb:¬ p b=true:=fun z=>e ((hp b mem_cons_self).mp z);rw [filter_cons,if_neg hb];rcases mem_cons.mp ha with z | z
   ·exact absurd z.symm e
   ·exact Fg n2 z fun c hc=>hp c (mem_cons_of_mem _ hc)
theorem GY {n:Nat} (hn:n < 2 ^ 42):decide ((Ch n).length=1)=Ar n:=by
 rw [Bool.eq_iff_iff,decide_eq_true_eq];constructor
 ·intro h;obtain ⟨k,hk⟩:∃ k,Ch n=[k]:=List.length_eq_one_iff.mp h
  have mem:∀ i,i < 42->(n.testBit i=true ↔ i=k):=fun i hi=>by
   have:i ∈ Ch n ↔ i=k:=by rw [hk]; simp
   unfold Ch at this;rw [mem_filter] at this;constructor
   ·intro hb; exact this.mp ⟨mem_range.mpr hi,hb⟩
   ·intro e; exact (this.mpr e).2
  have hk42:k < 42:=by
   have:k ∈ Ch n:=by rw [hk]; simp
   unfold Ch at this;exact mem_range.mp (mem_filter.mp this).1
  have e:n=2 ^ k:=by
   apply Nat.eq_of_testBit_eq;intro i;rw [Nat.testBit_two_pow];by_cases hi:i < 42
   ·rw [Bool.eq_iff_iff,mem i hi,decide_eq_true_eq]; exact eq_comm
   ·have h1:n.testBit i=false:=Nat.testBit_lt_two_pow (Nat.lt_of_lt_of_le hn (Nat.pow_le_pow_right (by decide) (by omega)));rw [h1]; symm; rw [decide_eq_false_iff_not]; omega
  rw [e]; exact Jn k
 ·intro h;obtain ⟨k,rfl⟩:=Av h;have hk:k < 42:=(Nat.pow_lt_pow_iff_right (by decide)).mp hn
  have:Ch (2 ^ k)=[k]:=by
   unfold Ch;refine Fg List.nodup_range (mem_range.mpr hk) fun b _=>?_;rw [Nat.testBit_two_pow,decide_eq_true_eq]; exact eq_comm
  rw [this]; rfl
def BM (m:Nat):Nat:=2 ^ (Builtin.Int.intBits (m:Int))
theorem Cw {m:Nat} (h:0 < m):Builtin.Int.intBits (m:Int)=m.log2 + 1:=by
 unfold Builtin.Int.intBits;have:((m:Int) == 0)=false:=by rw [beq_eq_false_iff_ne]; omega
 rw [this]; simp
theorem Ie {m k:Nat} (h1:m < 2 ^ k) (h2:k=0\/2 ^ (k - 1) <= m):2 ^ k=BM m:=by
 unfold BM;congr 1;rcases Nat.eq_zero_or_pos m with e | hm
 ·subst e
  have:k=0:=by
   rcases h2 with z | z
   ·exact z
   ·have:=Nat.two_pow_pos (k - 1); omega
  rw [this]; rfl
 ·rw [Cw hm];rcases h2 with z | z
  ·subst z; simp at h1; omega
  ·have hk:0 < k:=by rcases Nat.eq_zero_or_pos k with e | e
                     ·subst e; simp at h1; omega
                     ·exact e
   have e:m.log2=k - 1:=by
    apply Nat.le_antisymm
    ·have:m.log2 < k:=(Nat.log2_lt (by omega)).mpr h1;omega
    ·exact (Nat.le_log2 (by omega)).mpr z
   omega
theorem Ma:∀ {l:List Nat} {a:Nat},(∀ n ∈ l,Ar n=true)->l.Pairwise (· < ·)->(∀ n ∈ l,a &&& n=0)->a + l.sum=l.foldl (· ||| ·) a
 | [],a,_,_,_=>by simp
 | n :: r,a,hm,hp,ha=>by
  obtain ⟨p1,p2⟩:=List.pairwise_cons.mp hp;have han:=ha n mem_cons_self
  have e:a ||| n=a + n:=by
   have h:=PyProof.Rows.bitOr_and (a:Int) (n:Int);rw [CL,Cf,han] at h;omega
  rw [sum_cons,foldl_cons,← Ma (a:=a ||| n) (fun m hm'=>hm m (mem_cons_of_mem _ hm')) p2 (fun m hm'=>?_),e]
  ·omega
  ·obtain ⟨i,rfl⟩:=Av (hm n mem_cons_self);obtain ⟨j,rfl⟩:=Av (hm m (mem_cons_of_mem _ hm'));have hlt:=p1 _ hm';have haj:=ha _ (mem_cons_of_mem _ hm');apply Nat.eq_of_testBit_eq;intro t;rw [Nat.testBit_and,Nat.testBit_or,Nat.zero_testBit];have h1:(a &&& 2 ^ j).testBit t=false:=by rw [haj]; exact Nat.zero_testBit t
   rw [Nat.testBit_and] at h1;rw [Bool.and_or_distrib_right,h1,Nat.testBit_two_pow,Nat.testBit_two_pow];have:i ≠ j:=fun e=>by subst e; omega
   by_cases e1:i=t
   ·have:¬ j=t:=by omega
    simp [this]
   ·simp [e1]
theorem LD {l:List Nat} (hm:∀ n ∈ l,Ar n=true) (hp:l.Pairwise (· < ·)):l.sum=AX l:=by
 have:=Ma (a:=0) hm hp (fun n _=>by simp);unfold AX;omega
end MK
end
end
variable {P:PySem.Program} {w:PySem.World} {K:FG} {mg:SV} {base:PySem.Heap} {f:PySem.Addr} {fd:PySem.FuncData} {H:L2.Hp} {H':L2.Hp} {due:LN} {ab:LN} {C:PySem.Addr} {VC:PySem.Addr} {EC:PySem.Addr}
section
namespace Mk
open PySem L2 MK
def top (i:Nat):Stmt:=PySem.Challenge.pw_markworks_k52_whole_first_mixed.main.body.getD i (.Pass ⟨0,0,0,0⟩)
abbrev Fh:Stmt:=top 17
abbrev HW:Stmt:=top 18
abbrev HX:Stmt:=top 19
abbrev Fi:Stmt:=top 20
abbrev Ei:Stmt:=top 21
abbrev Fj:Stmt:=top 22
abbrev Ej:Stmt:=top 23
abbrev Ek:Stmt:=top 24
abbrev DV:Stmt:=top 25
abbrev Ci:Stmt:=top 26
abbrev DW:Stmt:=top 27
abbrev El:Stmt:=top 28
abbrev Cy:Stmt:=top 29
abbrev BF:Stmt:=inClass (top 30) 0
abbrev Em:Stmt:=inClass (top 30) 1
abbrev Cz:Stmt:=inClass (top 30) 2
abbrev DX:Stmt:=inClass (top 30) 5
abbrev DY:Stmt:=inClass (top 30) 6
abbrev En:Stmt:=inClass (top 30) 7
abbrev HY:Stmt:=inClass (top 30) 8
abbrev Eo:Stmt:=top 33
abbrev HZ:Stmt:=top 34
abbrev DZ:Stmt:=inClass (top 35) 0
abbrev Cj:Stmt:=inClass (top 35) 1
abbrev Db:Stmt:=inClass (top 35) 2
abbrev C0:Stmt:=inClass (top 35) 3
abbrev Dc:Stmt:=inClass (top 35) 4
abbrev Fk:Stmt:=inClass (top 35) 5
abbrev Mb:Stmt:=top 36
abbrev Fl:Stmt:=top 37
abbrev Fo:Stmt:=top 39
abbrev Fp:Stmt:=top 40
abbrev Ck:Stmt:=inClass (top 41) 0
abbrev Cl:Stmt:=inClass (top 41) 1
abbrev Bg:Stmt:=inClass (top 41) 3
abbrev C1:Stmt:=inClass (top 41) 4
abbrev BS:Stmt:=inClass (top 41) 7
abbrev Fq:Stmt:=top 43
abbrev Ep:Stmt:=top 44
abbrev Fs:Stmt:=top 45
abbrev Dd:Stmt:=top 46
abbrev De:Stmt:=top 47
abbrev Df:Stmt:=top 48
abbrev Bh:Stmt:=top 49
abbrev C2:Stmt:=top 50
abbrev C3:Stmt:=top 51
abbrev Ft:Stmt:=top 52
abbrev Mc:Stmt:=top 53
structure Fn (P:Program) (w:World) (K:FG) (mg:SV) (base:Heap) (x:Str) (k:Nat) (ps:List Str) (sp:Sp):Prop where
 ex:∃ f fd,Af P w K mg base CX0 k f fd ps sp/\mg x=some (.ref f)/\W.keepIn K (.ref f)=true/\Binds K fd ps []
structure Bl (mg:SV):Prop where
 len:mg "len" = none
 isi:mg "isinstance" = none
 max:mg "max" = none
 min:mg "min" = none
 range:mg "range" = none
 list:mg "list" = none
 tuple:mg "tuple" = none
 sorted:mg "sorted" = none
 sum:mg "sum" = none
 all:mg "all" = none
 enum:mg "enumerate" = none
 int:mg "int" = none
 bool:mg "bool" = none
 str:mg "str" = none
def AZ (ns:List Nat):List V:=ns.map fun (n:Nat)=>V.int (n:Int)
section
def Fu:Sp:=fun vs H Q _=>∃ n:Nat,vs=[.int (n:Int)]/\Q (.bl (Ar n)) H
theorem Md:AL ["number"] ["number"] (defScope HX):=fsc
theorem Jo (n:Nat):(decide (0 < (n:Int)) && decide (V.int (Builtin.bitAnd (n:Int) ((n:Int) - 1))=V.int 0))=Ar n:=by
 unfold Ar;rcases Nat.eq_zero_or_pos n with e | h
 ·subst e; rfl
 ·have e1:((n:Int) - 1)=((n - 1:Nat):Int):=by omega
  rw [e1,Cf];have e2:decide (0 < (n:Int))=true:=decide_eq_true (by omega);have e3:decide (0 < n)=true:=decide_eq_true h;rw [e2,e3];congr 1;rw [Bool.eq_iff_iff,decide_eq_true_eq,decide_eq_true_eq];constructor
  ·intro z; injection z with z; omega
  ·intro z; rw [z]; rfl
theorem LF (F:Fun K "is_mark" "is_mark" HX f fd):Af P w K mg base CX0 1 f fd ["number"] Fu:=by
 refine F.ok Md (fun vs H Q E h=>?_) (fun ac A outer s H vs Q E hr h=>?_)
 ·obtain ⟨n,rfl,_⟩:=h;rfl
 ·obtain ⟨n,rfl,k⟩:=h;refine ⟨_,AE (AS (B0 (CB KJ (pv 0) AI (Ae _)) (CZ (CB Dr (AY DQ (pv 0) (AY JS (pv 0) AI)) AI (Ae _))))),?_⟩;rw [← Jo] at k;refine ⟨_,rfl,_,_,rfl,rfl,_,rfl,?_⟩;refine Bc (fun h=>?_) (fun h=>?_)
  ·rw [h,Bool.true_and] at k;exact ⟨_,rfl,_,rfl,_,_,rfl,rfl,_,_,rfl,rfl,rfl,k⟩
  ·rw [Bool.eq_false_iff.mpr h,Bool.false_and] at k;exact k
def Bu (K:FG):Sp:=fun vs H Q _=>∃ (a:Addr) (ns:List Nat),vs=[.ref a]/\SqL K H a (AZ ns)/\Q (.int (AX ns:Nat)) H
theorem scUnionOf:AL ["numbers", "bits", "number"] ["numbers"] (defScope Fi):=fsc
theorem Hi {ns:List Nat} {i:Nat} {x:V} (h:(AZ ns)[i]?=some x):∃ n,ns[i]?=some n/\x=V.int (n:Int):=by
 unfold AZ at h;rw [getElem?_map] at h;cases e:ns[i]? with
 | none=>rw [e] at h; cases h
 | some n=>rw [e] at h; exact ⟨n,rfl,(Option.some.inj h).symm⟩
theorem Jp (F:Fun K "union_of" "union_of" Fi f fd):Af P w K mg base CX0 1 f fd ["numbers"] (Bu K):=by
 refine F.ok scUnionOf (fun vs H Q E h=>?_) (fun ac A outer s H vs Q E hr h=>?_)
 ·obtain ⟨a,ns,rfl,_⟩:=h;rfl
 ·obtain ⟨a,ns,rfl,hS,k⟩:=h
  refine ⟨_,AD (Ad (i:=1) scUnionOf.nd rfl (Or.inl rfl) AI)
   (AD (BP PassesOwn.never rfl (Al (pv 0)) (AO (i:=2) scUnionOf.nd rfl (Or.inl rfl))
    (AE (Ou (i:=1) scUnionOf.nd rfl (Or.inl rfl) (pv 2) (Oy:OpR _ _ _))))
   (AE (AS (pv 1)))),?_⟩
  refine ⟨_,rfl,a,rfl,⟨_,hS⟩,BD (K:=K) (a:=a) (xs:=AZ ns) (fun i σ H2=>∃ v:Option V,σ=[some (.ref a),some (.int (AX (ns.take i):Nat)),v]/\H2=H) ⟨none,rfl,rfl⟩ (fun i σ H2 _ ⟨_,_,e⟩=>e ▸ hS) ?_ ?_⟩
  ·rintro i x σ H2 hi ⟨v,rfl,rfl⟩;obtain ⟨n,hn,rfl⟩:=Hi hi;refine ⟨_,rfl,_,rfl,_,_,rfl,rfl,?_⟩;refine ⟨some (V.int (n:Int)),?_,rfl⟩;rw [take_add_one,hn,Option.toList_some,Cg];show [some (V.ref a),some (V.int (Builtin.bitOr (AX (ns.take i):Nat) (n:Nat))),some (V.int (n:Int))]=_;rw [CL]
  ·rintro σ H2 ⟨v,rfl,rfl⟩;refine ⟨_,rfl,?_⟩;have e:(AZ ns).length=ns.length:=by unfold AZ; rw [length_map]
   rw [e,take_length];exact k
end
end Mk
end
section
namespace L2
open PySem
theorem Me {x:Str} {g:TG} {tt:TT} {te:TE} {ix:List (Option Nat)} {R:List V->Hp->Prop} {σ:St} {H1:Hp} (Pv:Nat->List V->Hp->Prop) (h0:Pv 0 [] H1) (hz:∀ i ys H,Pv i ys H->ys.length <= 1000)
  (hs:∀ (i c:Nat) ys H,x.cps[i]?=some c->Pv i ys H->g (.str ⟨#[c]⟩) (Bd ix σ) H fun σ2 H2=>tt σ2 H2 fun b H3=>if b=true then te σ2 H3 fun y H4=>Pv (i + 1) (ys++[y]) H4 else Pv (i + 1) ys H3) (hd:∀ ys H,Pv x.cps.size ys H->R ys H) :
  ∃ W:Nat->Nat->List V->Hp->Prop,(∃ m,W 0 m [] H1)/\∀ i m ys H,W i m ys H ->
   ((Its x).stop i H/\ys.length <= sizeLine/\R ys H) \/
   ((Its x).go i H/\∃ N:List V->Hp->Prop,(∀ ys' H',N ys' H'->ys'.length <= sizeLine/\∃ m',m' < m/\W (i + 1) m' ys' H') /\
    ∀ v H',(Its x).yld i H v H'->g v (Bd ix σ) H' fun σ2 H2=>tt σ2 H2 fun b H3=>if b=true then te σ2 H3 fun y H4=>N (ys++[y]) H4 else N ys H3):=by
 refine ⟨fun i m ys H=>m=x.cps.size - i/\i <= x.cps.size/\Pv i ys H,⟨_,rfl,Nat.zero_le _,h0⟩,?_⟩;rintro i m ys H ⟨rfl,hi,hp⟩;by_cases hlt:i < x.cps.size
 ·refine .inr ⟨hlt,Pv (i + 1),fun ys' H' q=>⟨Nat.le_of_lt (AU (hz _ ys' H' q)),x.cps.size - (i + 1),by omega,rfl,hlt,q⟩,?_⟩;rintro v H' ⟨rfl,c,hc,rfl⟩;exact hs i c ys H' hc hp
 ·have e:i=x.cps.size:=by omega
  subst e;exact .inl ⟨Nat.le_refl _,Nat.le_of_lt (AU (hz _ ys H hp)),hd ys H hp⟩
end L2
namespace Mk
open PySem L2 MK
theorem Hj:bootBuiltins "all" = some (.builtin "all"):=by decide +kernel
theorem Hk:bootBuiltins "isinstance" = some (.builtin "isinstance"):=by decide +kernel
theorem Er:bootBuiltins "sorted" = some (.builtin "sorted"):=by decide +kernel
theorem PH:bootBuiltins "sum" = some (.builtin "sum"):=by decide +kernel
theorem PJ:bootBuiltins "min" = some (.builtin "min"):=by decide +kernel
theorem PL:bootBuiltins "max" = some (.builtin "max"):=by decide +kernel
theorem Jq:bootBuiltins "str" = some (.type "str"):=by decide +kernel
theorem PM:bootBuiltins "int" = some (.type "int"):=by decide +kernel
theorem N8:bootBuiltins "bool" = some (.type "bool"):=by decide +kernel
theorem B7:bootBuiltins "tuple" = some (.type "tuple"):=by decide +kernel
theorem DE:bootBuiltins "list" = some (.type "list"):=by decide +kernel
theorem AF {H1:Hp} {p:Addr} {o:HO} (s:Same H H1) (hp:H1 p=none):Same H (upd H1 p o):=fun b u e=>by
 have e':=s b u e;rw [AH (AG e' hp)];exact e'
def GZ (c:Nat):Bool:=decide (65 <= c) && decide (c <= 90)
def Ga (x:Str):Bool:=(decide (1 <= x.length) && decide (x.length <= 6)) && x.cps.toList.all GZ
section
theorem BZ {X:Cx} {e:Expr} {te:TE} {T:String} {x:Str} {p p2 pos:Pos} (K:FG) (hK:X.K=K) (hg:Gl X "isinstance") (hm:X.mg "isinstance" = none) (hgT:Gl X x) (hmT:X.mg x=none) (hvT:bootBuiltins x=some (.type T)) (he:PE X e te)
  (hn:x ≠ "__name__" := by decide) (hdb:(x == ("__debug__" : Str))=false:=by decide)
  (hs:starEach [e,.Name x p2] X.env=(false,eval e X.env) :: starEach [.Name x p2] X.env:=by rfl) (hpl:(backTo pos (starEach [.Name x p2] X.env)).any (·.1)=false:=by rfl) (hs2:starEach [.Name x p2] X.env=(false,eval (.Name x p2) X.env) :: starEach [] X.env:=by rfl) :
  PE X (.Call (.Name "isinstance" p) [e,.Name x p2] [] pos) (tCB (fun xs H Q=>∃ v T t b,xs=[v,.ty T]/\TyOf K H v t/\W.kitOne K t (.type T)=some b/\Q (.bl b) H) (A5 te (A5 (tC (.ty T)) IK))):=by
 subst hK;exact AW MQ hg hm Hk (AA he (AA (HF hgT hmT hvT rfl hn hdb) AC hs2) hs) (by decide) (by decide) hs hpl
theorem A9 {X:Cx} (K:FG) (hK:X.K=K):IxR X (QC K):=hK ▸ Nt
theorem Bj {X:Cx} (K:FG) (hK:X.K=K):IxR X (QD K):=hK ▸ O0
theorem Ax {X:Cx} (K:FG) (hK:X.K=K):BR X (.builtin "len") (fun xs H Q=>∃ p ys,xs=[.ref p]/\(SqL K H p ys\/SqT K H p ys)/\Q (.int ys.length) H):=hK ▸ Dw
theorem Hl {X:Cx} {e:Expr} {f:Str} {pos:Pos} {ta:TE} (K:FG) (hK:X.K=K) (he:PE X e ta) (hb:attributeBase e f X.env (eval e X.env)=eval e X.env):PE X (.Attribute e f pos) (P7 K ta f):=hK ▸ Aq he hb
def Fv:Sp:=fun vs H Q _=>∃ x:Str,vs=[.str x]/\x.cps.all (· < 128)=true/\x.length <= 1000/\∀ H',Same H H'->Q (.bl (Ga x)) H'
theorem Mf:AL ["thing"] ["thing"] (defScope HW):=fsc
theorem Mg (c:Nat):(if (!decide ((⟨#[c]⟩:Str).cps.toList < ("A" : Str).cps.toList))=true then (!decide (("Z" : Str).cps.toList < (⟨#[c]⟩:Str).cps.toList)) else false)=GZ c:=by
 have hA:("A" : Str).cps.toList=[65]:=by decide +kernel
 have hZ:("Z" : Str).cps.toList=[90]:=by decide +kernel
 rw [hA,hZ];show (if (!decide ([c] < [65]))=true then !decide ([90] < [c]) else false)=GZ c;unfold GZ
 have e1:decide ([c] < [65])=decide (c < 65):=by
  rw [Bool.eq_iff_iff,decide_eq_true_eq,decide_eq_true_eq,List.cons_lt_cons_iff];simp
 have e2:decide ([90] < [c])=decide (90 < c):=by
  rw [Bool.eq_iff_iff,decide_eq_true_eq,decide_eq_true_eq,List.cons_lt_cons_iff];simp
 rw [e1,e2];by_cases h1:c < 65 <;> by_cases h2:90 < c <;> simp [h1,h2] <;> omega
theorem LG {t6:Tok} (F:Fun K "is_name" "is_name" HW f fd) (B:Bl mg) (hL:mg "LONGEST_NAME" = some (.int 6 t6)):Af P w K mg base CX0 1 f fd ["thing"] Fv:=by
 refine F.ok Mf (fun vs H Q E h=>?_) (fun ac A outer s H vs Q E hr h=>?_)
 ·obtain ⟨x,rfl,_⟩:=h;rfl
 ·obtain ⟨x,rfl,ha,hz,k⟩:=h
  refine ⟨_,AD (Ak (PW.pt (CN (BI (BH (BZ K rfl rfl B.isi rfl B.str Jq (pv 0)))) (Bz (BI (Du Dt Dt AI (AW HL rfl B.len PySem.boot_len (AA (pv 0) AC)) (Br (v:=.int 6) rfl hL ⟨t6,rfl⟩))))))
    (AE (AS Od)) AT)
   (AE (AS (AW (D5 rfl) rfl B.all Hj (AA (Az [] [] (by kernel_rfl) (by decide +kernel) (by kernel_rfl) rfl (O6 (pv 0)) (fun _ _ _ _ _ _=>A3) (fun _ _ _ _ _ _=>II Gu Gu A0 (pv 0) A0)) AC)))),?_⟩
  refine ⟨_,rfl,_,_,_,true,rfl,.str x,rfl,_,rfl,?_⟩;refine Aw ?_;refine ⟨_,rfl,x,rfl,Nat.le_of_lt (AU hz),_,_,rfl,rfl,_,rfl,?_⟩;refine Bc (fun h1=>?_) (fun h1=>?_)
  ·have h1':1 <= x.length:=by have:=of_decide_eq_true h1; omega
   refine ⟨_,_,rfl,rfl,_,rfl,?_⟩;refine Bc (fun h2=>?_) (fun h2=>?_)
   ·have h2':¬ x.length <= 6:=by
     intro z;rw [decide_eq_true (show (x.length:Int) <= 6 by omega)] at h2;cases h2
    have e:Ga x=false:=by unfold Ga; simp [h2']
    have:=k H (Same.refl H);rw [e] at this;exact this
   ·have h2':x.length <= 6:=Decidable.byContradiction fun z=>h2 (by rw [decide_eq_false (show ¬ (x.length:Int) <= 6 by omega)]; rfl);refine ⟨_,rfl,x,rfl,ha,Me (x:=x) (fun i ys H2=>H2=H/\ys=(x.cps.toList.take i).map fun c=>V.bl (GZ c)) ⟨rfl,rfl⟩ (fun i ys H2 ⟨_,e⟩=>?_) ?_ ?_⟩
    ·rw [e,length_map,length_take];have:x.cps.toList.length=x.length:=by rw [Array.length_toList]; rfl
     omega
    ·rintro i c ys H2 hc ⟨rfl,rfl⟩;refine ⟨_,rfl,_,_,rfl,rfl,_,rfl,?_⟩
     have fin:∀ b,b=GZ c->(H2=H2/\(x.cps.toList.take i).map (fun c=>V.bl (GZ c))++[V.bl b]=(x.cps.toList.take (i + 1)).map fun c=>V.bl (GZ c)):=fun b hb=>by
      refine ⟨rfl,?_⟩;have hc':x.cps.toList[i]?=some c:=by rw [Array.getElem?_toList]; exact hc
      rw [take_add_one,hc',map_append,hb];rfl
     have hu:=Mg c;refine Bc (fun h3=>?_) (fun h3=>?_)
     ·rw [if_pos h3] at hu;exact ⟨_,_,rfl,rfl,fin _ hu⟩
     ·rw [if_neg h3] at hu;exact fin _ hu
    ·rintro ys H2 ⟨rfl,rfl⟩ p hp;have el:x.cps.toList.take x.cps.size=x.cps.toList:=List.take_of_length_le (by rw [Array.length_toList]; exact Nat.le_refl _);refine ⟨p,x.cps.toList.map GZ,rfl,SqL.of (by rw [AB,el,map_map]; rfl),?_⟩
     have e:Ga x=((x.cps.toList.map GZ).all id):=by
      unfold Ga;rw [decide_eq_true h1',decide_eq_true h2',all_map];rfl
     rw [← e];exact k _ (AF (Same.refl _) hp)
  ·have h1':¬ 1 <= x.length:=fun z=>h1 (decide_eq_true (by omega));refine ⟨_,rfl,?_⟩;refine CA ?_;have e:Ga x=false:=by unfold Ga; simp [h1']
   have:=k H (Same.refl H);rw [e] at this;exact this
end
inductive Th where
 | non | num (n:Nat) | nms (ns:List Str)
def ThAt (H:Hp) (v:V):Th->Prop
 | .non=>v=.non
 | .num n=>v=.int (n:Int)
 | .nms ns=>∃ a,v=.ref a/\H a=some (.tup (ns.map V.str))
def C4 (ns:List Nat):Nat:=ns.foldl max 0
def look (due:LN) (x:Str):Nat:=((due.find? fun p=>decide (p.1=x)).map (·.2)).getD 0
def As (due:LN):LK:=due.map fun p=>(Sum.inr p.1,V.int (p.2:Int))
def CD (due:LN):Th->Nat
 | .non=>BM (C4 (due.map (·.2)))
 | .num n=>n
 | .nms ns=>AX (ns.map (look due))
theorem Dg (x:Str):∀ due:LN,Ah (As due) (Sum.inr x)=(due.find? fun p=>decide (p.1=x)).map fun p=>V.int (p.2:Int)
 | []=>rfl
 | p :: r=>by
  show Ah ((Sum.inr p.1,V.int (p.2:Int)) :: As r) (Sum.inr x)=_;by_cases e:p.1=x
  ·rw [A6 (p:=(Sum.inr p.1,V.int (p.2:Int))) (by rw [← e]),List.find?_cons_of_pos (by simpa using e)]; rfl
  ·rw [A7 (p:=(Sum.inr p.1,V.int (p.2:Int))) (fun z=>e (Sum.inr.inj z)),List.find?_cons_of_neg (by simpa using e)]; exact Dg x r
theorem LH {x:Str} (h:x ∈ due.map (·.1)):(due.find? fun p=>decide (p.1=x)).isSome=true:=by
 obtain ⟨p,hp,e⟩:=mem_map.mp h;rw [List.find?_isSome];exact ⟨p,hp,by simpa using e⟩
theorem Bo {x:Str} (h:x ∈ due.map (·.1)):Ah (As due) (Sum.inr x)=some (V.int (look due x:Int)):=by
 rw [Dg];unfold look;obtain ⟨p,hp⟩:=Option.isSome_iff_exists.mp (LH h);rw [hp]; rfl
theorem D8 {x:Str} (h:x ∉ due.map (·.1)):Ah (As due) (Sum.inr x)=none:=by
 rw [Dg]
 have:(due.find? fun p=>decide (p.1=x))=none:=by
  rw [List.find?_eq_none];intro p hp e;exact h (mem_map.mpr ⟨p,hp,by simpa using e⟩)
 rw [this]; rfl
theorem D9 {m:Nat}:∀ (l:List Nat) (a:Nat),a < m->(∀ n ∈ l,n < m)->l.foldl max a < m
 | [],a,h,_=>h
 | x :: r,a,h,k=>D9 r (max a x) (by have:=k x mem_cons_self; omega) fun n hn=>k n (mem_cons_of_mem _ hn)
theorem Ig {ns:List Nat} {m:Nat} (h0:0 < m) (h:∀ n ∈ ns,n < m):C4 ns < m:=D9 ns 0 h0 h
theorem Mh (a b:Nat):max (a:Int) (b:Int)=((max a b:Nat):Int):=by omega
theorem Fw:∀ (r:List Nat) (a:Nat),(r.map fun n:Nat=>(n:Int)).foldl max (a:Int)=((r.foldl max a:Nat):Int)
 | [],_=>rfl
 | x :: r,a=>by rw [map_cons,foldl_cons,Mh,Fw r]; rfl
theorem Ih {ns:List Nat} (h:ns ≠ []):IU 0 (ns.map fun n:Nat=>(n:Int))=(C4 ns:Nat):=by
 cases ns with
 | nil=>exact absurd rfl h
 | cons a r =>
  show (r.map fun n:Nat=>(n:Int)).foldl max (a:Int)=_;rw [Fw];unfold C4;rw [foldl_cons];have:max 0 a=a:=by omega
  rw [this]
theorem Jr {m:Nat} (h:m < 2 ^ 20):Builtin.Int.intBits (m:Int) <= 20:=by
 rcases Nat.eq_zero_or_pos m with e | hm
 ·subst e; decide
 ·rw [Cw hm];have:m.log2 < 20:=(Nat.log2_lt (by omega)).mpr h;omega
section
def Dh (K:FG):Sp:=fun vs H Q _=>∃ (a:Addr) (ns:List Nat),vs=[.ref a]/\SqL K H a (AZ ns)/\(∀ n ∈ ns,n < 2 ^ 20)/\Q (.int (BM (C4 ns):Nat)) H
theorem Js:AL ["numbers"] ["numbers"] (defScope Ek):=fsc
theorem Cm (ns:List Nat):AZ ns=(ns.map fun n:Nat=>(n:Int)).map V.int:=by unfold AZ; rw [map_map]; rfl
theorem Ii (F:Fun K "next_mark" "next_mark" Ek f fd) (B:Bl mg):Af P w K mg base CX0 1 f fd ["numbers"] (Dh K):=by
 refine F.ok Js (fun vs H Q E h=>?_) (fun ac A outer s H vs Q E hr h=>?_)
 ·obtain ⟨a,ns,rfl,_⟩:=h;rfl
 ·obtain ⟨a,ns,rfl,hS,hlt,k⟩:=h;refine ⟨_,AE (AS (AY HI AI (O2 PySem.F.plainAttrs_int PySem.F.slot_int_bit_length PySem.F.type_int_bit_length HN (KS rfl rfl B.max (pv 0) AI)))),?_⟩;have hm:=Ig (m:=2 ^ 20) (by decide) hlt
  have fin:∀ m:Int,m=(C4 ns:Nat)->tyV K "int" (.int m) H/\∃ i,V.int m=.int i/\([]:List V)=[]/\∃ i' j,V.int 1=.int i'/\V.int (Builtin.Int.intBits i:Nat)=.int j/\Ow i' j/\Q (.int (i' * 2 ^ j.toNat)) H:=fun m e=>by
   subst e;refine ⟨rfl,_,rfl,rfl,1,_,rfl,rfl,⟨Int.natCast_nonneg _,?_,by decide⟩,?_⟩
   ·have:=Jr hm; omega
   ·have e:(1:Int) * 2 ^ ((Builtin.Int.intBits (C4 ns:Nat):Nat):Int).toNat=((BM (C4 ns):Nat):Int):=by
     unfold BM;rw [Int.one_mul,Int.toNat_natCast];simp
    rw [e];exact k
  refine ⟨_,rfl,a,ns.map (fun n:Nat=>(n:Int)),0,rfl,rfl,by rw [← Cm]; exact hS,fun e=>?_,fun e=>?_⟩
  ·have e':ns=[]:=List.map_eq_nil_iff.mp e;exact fin 0 (by rw [e']; rfl)
  ·have e':ns ≠ []:=fun z=>e (by rw [z]; rfl);exact fin _ (Ih e')
def Bv (K:FG):Sp:=fun vs H Q _=>(∃ (x:Str) (d:Addr) (kvs:LK),vs=[.str x,.ref d]/\Rd H d (.dK kvs)/\Q (.bl (Ah kvs (Sum.inr x:Key)).isSome) H) \/
 (∃ (x:Str) (t:Addr) (xs:List Str),vs=[.str x,.ref t]/\SqT K H t (xs.map V.str)/\Q (.bl (inV (.str x) (xs.map V.str))) H)
theorem LI:AL ["thing", "names"] ["thing", "names"] (defScope Fj):=fsc
theorem Gx:∀ xs:List Str,(xs.map V.str).all Dv=true
 | []=>rfl
 | _ :: r=>Gx r
theorem Jt (F:Fun K "is_one_of" "is_one_of" Fj f fd) (B:Bl mg):Af P w K mg base CX0 1 f fd ["thing", "names"] (Bv K):=by
 refine F.ok LI (fun vs H Q E h=>?_) (fun ac A outer s H vs Q E hr h=>?_)
 ·rcases h with ⟨x,d,kvs,rfl,_⟩ | ⟨x,t,xs,rfl,_⟩ <;> rfl
 ·have hu:=B5 hr;rcases h with ⟨x,d,kvs,rfl,hd,k⟩ | ⟨x,t,xs,rfl,ht,k⟩
  ·refine ⟨_,AE (AS (B0 (BZ K rfl rfl B.isi rfl B.str Jq (pv 0)) (CZ (Op (Eg hu (pv 0) (pv 1)))))),?_⟩;refine ⟨_,rfl,_,_,_,true,rfl,.str x,rfl,_,rfl,?_⟩;exact ⟨_,rfl,_,rfl,d,_,rfl,.inl ⟨kvs,Sum.inr x,hd,rfl,rfl⟩,k⟩
  ·refine ⟨_,AE (AS (B0 (BZ K rfl rfl B.isi rfl B.str Jq (pv 0)) (CZ (CB Gj (pv 0) (pv 1) (by with_unfolding_all rfl))))),?_⟩;refine ⟨_,rfl,_,_,_,true,rfl,.str x,rfl,_,rfl,?_⟩;exact ⟨_,rfl,_,rfl,t,_,rfl,.inr ht,rfl,Gx xs,k⟩
def C5:Sp:=fun vs H Q _=>∃ (a d:Addr) (ns:List Str) (kvs:LK),vs=[.ref a,.ref d]/\H a=some (.tup (ns.map V.str))/\ns.length <= 1000/\Rd H d (.dK kvs) /\
 ∀ H',Same H H'->Q (.bl (decide (0 < ns.length) && ns.all fun x=>(Ah kvs (Sum.inr x:Key)).isSome)) H'
theorem Ij:AL ["parts", "ahead"] ["parts", "ahead"] (defScope DV):=fsc
theorem Same.rd {a:Addr} {u:HO} (s:Same H H') (h:Rd H a u):Rd H' a u:=by
 rcases h with h | ⟨o,h⟩
 ·exact .inl (s _ _ h)
 ·exact .inr ⟨o,s _ _ h⟩
theorem Hm (F:Fun K "is_names_of" "is_names_of" DV f fd) (B:Bl mg) (GO:Fn P w K mg base "is_one_of" 1 ["thing", "names"] (Bv K)):Af P w K mg base CX0 2 f fd ["parts", "ahead"] C5:=by
 obtain ⟨fO,dO,GO,mO,kO,bO⟩:=GO.ex;refine F.ok Ij (fun vs H Q E h=>?_) (fun ac A outer s H vs Q E hr h=>?_)
 ·obtain ⟨a,d,ns,kvs,rfl,_⟩:=h;rfl
 ·obtain ⟨a,d,ns,kvs,rfl,ha,hz,hd,k⟩:=h;have hu:=B5 hr
  refine ⟨_,AE (AS (B0 (CB KJ (AW Dw rfl B.len PySem.boot_len (AA (pv 0) AC)) AI (Ae _))
   (CZ (AW (D5 rfl) rfl B.all Hj (AA (Az ["ahead"] [some 1] (by kernel_rfl) (by decide +kernel) (by kernel_rfl) rfl (HG (pv 0)) (fun _ _ _ _ _ _=>A3)
    (fun _ _ _ _ _ _=>AK GO hr rfl mO kO bO .nil AM (AA (pv 0) (AA (pv 1) AC)))) AC))))),?_⟩
  have hl:(ns.map V.str).length=ns.length:=length_map _;refine ⟨_,rfl,a,_,rfl,.inr (SqT.of ha),_,_,rfl,rfl,_,rfl,?_⟩;refine Bc (fun h1=>?_) (fun h1=>?_)
  ·have h1':0 < ns.length:=by have:=of_decide_eq_true h1; rw [hl] at this; omega
   refine ⟨_,rfl,a,rfl,⟨_,SqT.of ha⟩,Fb (K:=K) (a:=a) (xs:=ns.map V.str) (fun i ys H2=>H2=H/\ys=(ns.take i).map fun x=>V.bl (Ah kvs (Sum.inr x:Key)).isSome) ⟨rfl,rfl⟩ (fun i ys H2 _ ⟨e,_⟩=>e ▸ SqT.of ha) (fun i ys H2 ⟨_,e⟩=>?_) ?_ ?_⟩
   ·rw [e,length_map,length_take]; omega
   ·rintro i v ys H2 hi ⟨rfl,rfl⟩;rw [getElem?_map] at hi
    obtain ⟨x,hx,rfl⟩:∃ x,ns[i]?=some x/\v=V.str x:=by
     cases e:ns[i]? with
     | none=>rw [e] at hi; cases hi
     | some x=>rw [e] at hi; exact ⟨x,rfl,(Option.some.inj hi).symm⟩
    refine ⟨_,rfl,_,rfl,.inl ⟨x,d,kvs,rfl,hd,rfl,?_⟩⟩;rw [take_add_one,hx,map_append];rfl
   ·rintro ys H2 ⟨rfl,rfl⟩ p hp;have el:ns.take (ns.map V.str).length=ns:=by rw [hl]; exact take_length
    refine ⟨p,ns.map fun x=>(Ah kvs (Sum.inr x:Key)).isSome,rfl,SqL.of (by rw [AB,el,map_map]; rfl),?_⟩
    have e:(decide (0 < ns.length) && ns.all fun x=>(Ah kvs (Sum.inr x:Key)).isSome)=(ns.map fun x=>(Ah kvs (Sum.inr x:Key)).isSome).all id:=by
     rw [decide_eq_true h1',Bool.true_and,all_map];rfl
    rw [← e];exact k _ (AF (Same.refl _) hp)
  ·have h1':¬ 0 < ns.length:=fun z=>h1 (decide_eq_true (by rw [hl]; omega));have:=k H (Same.refl H);rw [decide_eq_false h1',Bool.false_and] at this;exact this
def CU:Sp:=fun vs H Q _=>∃ n:Int,vs=[.int n]/\Q (.bl true) H
theorem LJ:AL ["thing"] ["thing"] (defScope Fh):=fsc
theorem Ju (F:Fun K "is_whole" "is_whole" Fh f fd) (B:Bl mg):Af P w K mg base CX0 1 f fd ["thing"] CU:=by
 refine F.ok LJ (fun vs H Q E h=>?_) (fun ac A outer s H vs Q E hr h=>?_)
 ·obtain ⟨n,rfl,_⟩:=h;rfl
 ·obtain ⟨n,rfl,k⟩:=h;refine ⟨_,AE (AS (B0 (BZ K rfl rfl B.isi rfl B.int PM (pv 0)) (CZ (Oq (BZ K rfl rfl B.isi rfl B.bool N8 (pv 0)))))),?_⟩;refine ⟨_,rfl,_,_,_,true,rfl,.int n,rfl,_,rfl,?_⟩;exact ⟨_,rfl,_,_,_,false,rfl,.int n,(by kernel_rfl),_,rfl,k⟩
structure Ik (due:LN):Prop where
 len:due.length <= 10
 lt:∀ p ∈ due,p.2 < 2 ^ 20
 nd:(due.map (·.1)).Nodup
 nm:∀ p ∈ due,Ga p.1=true/\p.1.cps.all (· < 128)=true/\p.1.length <= 1000
def N9 (due:LN):Th->Prop
 | .non=>True
 | .num _=>True
 | .nms ns=>ns ≠ []/\ns.length <= 10/\∀ x ∈ ns,x ∈ due.map (·.1)
def Hn:Sp:=fun vs H Q _=>∃ (tv:V) (th:Th) (d:Addr) (due:LN),vs=[tv,.ref d]/\ThAt H tv th/\Rd H d (.dK (As due))/\Ik due/\N9 due th/\∀ H',Same H H'->Q (.int (CD due th:Nat)) H'
theorem OA:AL ["thing", "ahead"] ["thing", "ahead"] (defScope Ci):=fsc
theorem Mi (due:LN):(As due).map (·.2)=AZ (due.map (·.2)):=by unfold As AZ; rw [map_map,map_map]; rfl
theorem Mj (F:Fun K "thing_number" "thing_number" Ci f fd) (B:Bl mg) (GN:Fn P w K mg base "next_mark" 1 ["numbers"] (Dh K)) (GI:Fn P w K mg base "is_names_of" 2 ["parts", "ahead"] C5)
  (GU:Fn P w K mg base "union_of" 1 ["numbers"] (Bu K)) (GW:Fn P w K mg base "is_whole" 1 ["thing"] CU):Af P w K mg base CX0 3 f fd ["thing", "ahead"] Hn:=by
 obtain ⟨fN,dN,GN,mN,kN,bN⟩:=GN.ex;obtain ⟨fI,dI,GI,mI,kI,bI⟩:=GI.ex;obtain ⟨fU,dU,GU,mU,kU,bU⟩:=GU.ex;obtain ⟨fW,dW,GW,mW,kW,bW⟩:=GW.ex;refine F.ok OA (fun vs H Q E h=>?_) (fun ac A outer s H vs Q E hr h=>?_)
 ·obtain ⟨tv,th,d,due,rfl,_⟩:=h;rfl
 ·obtain ⟨tv,th,d,due,rfl,hT,hd,DO,TO,k⟩:=h;have hu:=B5 hr;have hr1:Room 1 _:=hr.mono (by decide)
  refine ⟨_,AD (Ak (BO (Ec (pv 0))) (AE (AS (AK GN hr1 rfl mN kN bN .nil AM (AA (BU (Jg rfl) rfl B.list DE (AA (MM PySem.F.slot_dict_values PySem.F.type_dict_values K3 (pv 1)) AC)) AC)))) AT)
   (AD (Ak (PW.pt (Ed (BH (BZ K rfl rfl B.isi rfl B.tuple B7 (pv 0))) (C9 (BH (AK GI hr rfl mI kI bI .nil AM (AA (pv 0) (AA (pv 1) AC)))))))
    (AE (AS (AK GU hr1 rfl mU kU bU .nil AM (AA (Az ["ahead"] [some 1] (by kernel_rfl) (by decide +kernel) (by kernel_rfl) rfl (HG (pv 0)) (fun _ _ _ _ _ _=>A3) (fun _ _ _ _ _ _=>BA hu (pv 1) (pv 0) (fun _ _=>rfl))) AC)))) AT)
   (AD (Ak (BH (AK GW hr1 rfl mW kW bW .nil AM (AA (pv 0) AC))) (AE (AS (pv 0))) AT)
   (AE Ag))),?_⟩
  refine ⟨_,rfl,_,rfl,?_⟩;cases th with
  | non =>
   have e:tv=.non:=hT;subst e;refine Bc (fun _=>?_) (fun z=>absurd rfl z);refine ⟨_,rfl,d,rfl,.inl ⟨_,hd⟩,d,_,rfl,rfl,hd,fun p hp=>?_⟩;refine ⟨p,d,_,rfl,AB,Same.rd (AF (Same.refl _) hp) hd,fun l hl=>?_⟩;refine ⟨l,due.map (·.2),rfl,SqL.of (by rw [AB,Mi]),fun n hn=>?_,?_⟩
   ·obtain ⟨q,hq,rfl⟩:=mem_map.mp hn;exact DO.lt q hq
   ·exact k _ (AF (AF (Same.refl _) hp) hl)
  | num n =>
   have e:tv=.int (n:Int):=hT;subst e;refine Bc (fun z=>absurd (of_decide_eq_true z) (by intro q; cases q)) (fun _=>?_);refine ⟨_,rfl,_,_,_,false,rfl,.int _,(by kernel_rfl),_,rfl,?_⟩;refine Aw ?_;refine ⟨_,rfl,n,rfl,_,rfl,?_⟩;refine CA ?_;exact ⟨_,rfl,k H (Same.refl H)⟩
  | nms ns =>
   obtain ⟨a,rfl,ha⟩:=hT;obtain ⟨a0,hln,hin⟩:=TO;refine Bc (fun z=>absurd (of_decide_eq_true z) (by intro q; cases q)) (fun _=>?_);refine ⟨_,rfl,_,_,_,true,rfl,.tup ha,rfl,_,rfl,?_⟩;have hl:(ns.map V.str).length=ns.length:=length_map _;refine ⟨_,rfl,_,rfl,a,d,ns,As due,rfl,ha,by omega,hd,fun H1 s1=>⟨_,rfl,?_⟩⟩
   have e1:(decide (0 < ns.length) && ns.all fun x=>(Ah (As due) (Sum.inr x:Key)).isSome)=true:=by
    rw [Bool.and_eq_true,decide_eq_true_eq,List.all_eq_true];refine ⟨List.length_pos_iff.mpr a0,fun x hx=>?_⟩;rw [Bo (hin x hx)];rfl
   rw [e1];refine CA ?_;refine ⟨_,rfl,a,rfl,⟨_,SqT.of (s1 _ _ ha)⟩,Fb (K:=K) (a:=a) (xs:=ns.map V.str) (fun i ys H2=>H2=H1/\ys=AZ ((ns.take i).map (look due))) ⟨rfl,rfl⟩ (fun i ys H2 _ ⟨e,_⟩=>e ▸ SqT.of (s1 _ _ ha)) (fun i ys H2 ⟨_,e⟩=>?_) ?_ ?_⟩
   ·rw [e];unfold AZ;rw [length_map,length_map,length_take];omega
   ·rintro i v ys H2 hi ⟨rfl,rfl⟩;rw [getElem?_map] at hi
    obtain ⟨x,hx,rfl⟩:∃ x,ns[i]?=some x/\v=V.str x:=by
     cases e:ns[i]? with
     | none=>rw [e] at hi; cases hi
     | some x=>rw [e] at hi; exact ⟨x,rfl,(Option.some.inj hi).symm⟩
    refine ⟨_,rfl,_,rfl,d,_,rfl,.inl ⟨As due,Sum.inr x,Same.rd s1 hd,rfl,(Bo (hin x (mem_of_getElem? hx))).symm⟩,rfl,?_⟩;rw [take_add_one,hx,map_append];unfold AZ;rw [map_append];rfl
   ·rintro ys H2 ⟨rfl,rfl⟩ p hp;have el:ns.take (ns.map V.str).length=ns:=by rw [hl]; exact take_length
    refine ⟨p,ns.map (look due),rfl,SqL.of (by rw [AB,el]),?_⟩;exact k _ (AF s1 hp)
end
end Mk
end
section
namespace L2
open PySem
theorem Ml {a:Addr} {xs:List V} {g:TG} {tb:TS} {D:FK} {σ:St} (Pv:Nat->St->Hp->Prop) (h0:Pv 0 σ H) (hl:∀ i σ H,i <= xs.length->Pv i σ H->SqL K H a xs)
  (hs:∀ i x σ H p,xs[i]?=some x->Pv i σ H->H p=none->g (.ref p) σ (upd H p (.tup [.int i,x])) fun σ2 H2=>tb { D with nx:=Pv (i + 1),ct:=Pv (i + 1),bk:=D.nx } σ2 H2) (hd:∀ σ H,Pv xs.length σ H->D.nx σ H) :
  ∃ W:Nat->Nat->St->Hp->Prop,(∃ m,W 0 m σ H)/\∀ i m σ H,W i m σ H ->
   ((Ite K a).stop i H/\D.nx σ H)\/((Ite K a).go i H/\∃ N:St->Hp->Prop,(∀ σ' H',N σ' H'->∃ m',m' < m/\W (i + 1) m' σ' H')/\∀ x H',(Ite K a).yld i H x H'->g x σ H' fun σ2 H2=>tb { D with nx:=N,ct:=N,bk:=D.nx } σ2 H2):=by
 refine ⟨fun i m σ H=>m=xs.length - i/\i <= xs.length/\Pv i σ H,⟨_,rfl,Nat.zero_le _,h0⟩,?_⟩;rintro i m σ H ⟨rfl,hi,hp⟩;by_cases hlt:i < xs.length
 ·have hx:xs[i]?=some xs[i]:=List.getElem?_eq_getElem hlt;refine .inr ⟨⟨xs,xs[i],hl i σ H hi hp,hx⟩,Pv (i + 1),fun σ' H' q=>⟨xs.length - (i + 1),by omega,rfl,hlt,q⟩,?_⟩;rintro x H' ⟨p,y,hn,rfl,hy,rfl⟩
  have ex:y=xs[i]:=by
   have:=hy xs (hl i σ H hi hp);rw [hx] at this;exact (Option.some.inj this).symm
  subst ex;exact hs i xs[i] σ H p hx hp hn
 ·have e:i=xs.length:=by omega
  subst e;exact .inl ⟨⟨xs,hl _ σ H hi hp,Nat.le_refl _⟩,hd σ H hp⟩
theorem LL {a:Addr} {o:Obj} {kvs:LK} {g:TG} {tb:TS} {D:FK} {σ:St} (Pv:Nat->St->Hp->Prop) (h0:Pv 0 σ H) (hl:∀ i σ H,Pv i σ H->H a=some (.frz o (.dK kvs)))
  (hs:∀ i kv σ H p,kvs[i]?=some kv->Pv i σ H->H p=none->g (.ref p) σ (upd H p (.tup [kV kv.1,kv.2])) fun σ2 H2=>tb { D with nx:=Pv (i + 1),ct:=Pv (i + 1),bk:=D.nx } σ2 H2) (hd:∀ σ H,Pv kvs.length σ H->D.nx σ H) :
  ∃ W:Nat->Nat->St->Hp->Prop,(∃ m,W 0 m σ H)/\∀ i m σ H,W i m σ H ->
   ((Iti a o kvs).stop i H/\D.nx σ H)\/((Iti a o kvs).go i H/\∃ N:St->Hp->Prop,(∀ σ' H',N σ' H'->∃ m',m' < m/\W (i + 1) m' σ' H')/\∀ x H',(Iti a o kvs).yld i H x H'->g x σ H' fun σ2 H2=>tb { D with nx:=N,ct:=N,bk:=D.nx } σ2 H2):=by
 refine ⟨fun i m σ H=>m=kvs.length - i/\i <= kvs.length/\Pv i σ H,⟨_,rfl,Nat.zero_le _,h0⟩,?_⟩;rintro i m σ H ⟨rfl,hi,hp⟩;by_cases hlt:i < kvs.length
 ·refine .inr ⟨⟨hl i σ H hp,hlt⟩,Pv (i + 1),fun σ' H' q=>⟨kvs.length - (i + 1),by omega,rfl,hlt,q⟩,?_⟩;rintro x H' ⟨p,kv,hn,rfl,hkv,rfl⟩;exact hs i kv σ H p hkv hp hn
 ·have e:i=kvs.length:=by omega
  subst e;exact .inl ⟨⟨hl _ σ H hp,Nat.le_refl _⟩,hd σ H hp⟩
end L2
namespace Mk
open PySem L2 MK
def QQ (x:Str):Prop:=Ga x=true/\x.cps.all (· < 128)=true/\x.length <= 1000
structure KW (due:LN) (r:Str × Th):Prop where
 ahead:Ik due
 few:due.length < 10
 nm:QQ r.1
 new:r.1 ∉ due.map (·.1)
 th:N9 due r.2
 lt:CD due r.2 < 2 ^ 20
def AV (rows:List (Str × Th)):LN:=rows.foldl (fun due r=>due++[(r.1,CD due r.2)]) []
theorem Es (rows:List (Str × Th)) (r:Str × Th):AV (rows++[r])=AV rows++[(r.1,CD (AV rows) r.2)]:=by unfold AV; rw [foldl_append]; rfl
def Cn (rows:List (Str × Th)):Prop:=∀ (i:Nat) r,rows[i]?=some r->KW (AV (rows.take i)) r
def RowAt (H:Hp) (b:Addr) (r:Str × Th):Prop:=∃ tv,H b=some (.tup [.str r.1,tv])/\ThAt H tv r.2
def Mm (H:Hp) (l:Addr) (rows:List (Str × Th)):Prop:=∃ as:List Addr,H l=some (.lst (as.map V.ref))/\Paired (RowAt H) as rows
theorem ThAt.same {v:V} {th:Th} (s:Same H H') (h:ThAt H v th):ThAt H' v th:=by
 cases th with
 | non=>exact h
 | num n=>exact h
 | nms ns=>obtain ⟨a,e,h⟩:=h; exact ⟨a,e,s _ _ h⟩
theorem RowAt.same {b:Addr} {r:Str × Th} (s:Same H H') (h:RowAt H b r):RowAt H' b r:=by
 obtain ⟨tv,e,t⟩:=h;exact ⟨tv,s _ _ e,t.same s⟩
theorem Bi {α β:Type} {F:α->β->Prop}:∀ {xs:List α} {ys:List β} {i:Nat} {x:α},Paired F xs ys->xs[i]?=some x->∃ y,ys[i]?=some y/\F x y
 | _,_,_,_,.nil,e=>by simp at e
 | _,_,0,_,.cons r _,e=>by simp at e; subst e; exact ⟨_,rfl,r⟩
 | _,_,i + 1,x,.cons _ t,e=>by
  obtain ⟨u,h1,h2⟩:=Bi (i:=i) (x:=x) t (by simpa using e);exact ⟨u,by simpa using h1,h2⟩
theorem Fx {H1:Hp} {d:Addr} {o:HO} (s:Same H H1) (hd:H d=none):Same H (upd H1 d o):=fun b u e=>by
 rw [AH (AG e hd)];exact s b u e
section
def Mn:Sp:=fun vs H Q _=>∃ (b d:Addr) (r:Str × Th) (due:LN),vs=[.ref b,.ref d]/\RowAt H b r/\Rd H d (.dK (As due))/\KW due r/\∀ H',Same H H'->Q (.int (CD due r.2:Nat)) H'
theorem scRow:AL ["row", "ahead", "name", "thing", "number"] ["row", "ahead"] (defScope DW):=fsc
theorem PN {tg:Tok} (F:Fun K "row_number" "row_number" DW f fd) (B:Bl mg) (hG:mg "GREATEST" = some (.int 1048575 tg)) (GN:Fn P w K mg base "is_name" 1 ["thing"] Fv) (GT:Fn P w K mg base "thing_number" 3 ["thing", "ahead"] Hn) :
  Af P w K mg base CX0 4 f fd ["row", "ahead"] Mn:=by
 obtain ⟨fN,dN,GN,mN,kN,bN⟩:=GN.ex;obtain ⟨fT,dT,GT,mT,kT,bT⟩:=GT.ex;refine F.ok scRow (fun vs H Q E h=>?_) (fun ac A outer s H vs Q E hr h=>?_)
 ·obtain ⟨b,d,r,due,rfl,_⟩:=h;rfl
 ·obtain ⟨b,d,r,due,rfl,⟨tv,hb,hT⟩,hd,RO,k⟩:=h;have hu:=B5 hr;have hr1:Room 1 _:=hr.mono (by decide)
  refine ⟨_,AD (Ak (PW.pt (CN (BI (BH (BZ K rfl rfl B.isi rfl B.tuple B7 (pv 0)))) (Bz (Ac Ds (AW (Ax K rfl) rfl B.len PySem.boot_len (AA (pv 0) AC)) AI (Ae _))))) (AE Ag) AT)
   (AD (CK (pv 0) (BJ rfl (AR (AO (i:=2) scRow.nd rfl (Or.inl rfl)) (AR (AO (i:=3) scRow.nd rfl (Or.inl rfl)) Ay))))
   (AD (Ak (PW.pt (CN (BI (BH (AK GN hr1 rfl mN kN bN .nil AM (AA (pv 2) AC)))) (Bz (BO (Eg hu (pv 2) (pv 1)))))) (AE Ag) AT)
   (AD (Ad (i:=4) scRow.nd rfl (Or.inl rfl) (AK GT hr rfl mT kT bT .nil AM (AA (pv 3) (AA (pv 1) AC))))
   (AD (Ak (PW.pt (CN (BO (Ec (pv 4))) (Bz (BI (Du Dt Dt AI (pv 4) (Br (v:=.int 1048575) rfl hG ⟨tg,rfl⟩)))))) (AE Ag) AT)
   (AE (AS (pv 4))))))),?_⟩
  refine ⟨_,rfl,_,_,_,true,rfl,.tup hb,rfl,_,rfl,?_⟩;refine Aw ?_;refine ⟨_,rfl,b,_,rfl,.inr (SqT.of hb),rfl,_,rfl,?_⟩;refine KN rfl ?_;refine ⟨_,rfl,b,_,rfl,SqT.of hb,rfl,_,_,rfl,_,_,rfl,rfl,?_⟩;refine ⟨_,rfl,r.1,rfl,RO.nm.2.1,RO.nm.2.2,fun H1 s1=>⟨_,rfl,?_⟩⟩;rw [RO.nm.1];refine Aw ?_;refine ⟨_,rfl,_,rfl,d,_,rfl,.inl ⟨As due,Sum.inr r.1,Same.rd s1 hd,rfl,(D8 RO.new).symm⟩,_,rfl,?_⟩;refine Aw ?_;refine ⟨_,rfl,_,rfl,tv,r.2,d,due,rfl,hT.same s1,Same.rd s1 hd,RO.ahead,RO.th,fun H2 s2=>?_⟩;refine ⟨_,rfl,_,rfl,?_⟩;refine Bc (fun z=>absurd (of_decide_eq_true z) (by intro q; cases q)) (fun _=>?_);refine ⟨_,rfl,_,_,rfl,rfl,_,rfl,?_⟩;refine Bc (fun _=>?_) (fun z=>absurd (decide_eq_true (Int.natCast_nonneg _)) z);refine ⟨_,_,rfl,rfl,_,rfl,?_⟩;have hlt:=RO.lt;refine KN (show ((CD due r.2:Nat):Int) <= 1048575 by omega) ?_;exact ⟨_,rfl,k _ (s1.trans s2)⟩
def Di:Sp:=fun vs H Q _=>∃ (l:Addr) (rows:List (Str × Th)),vs=[.ref l]/\Mm H l rows/\0 < rows.length/\rows.length <= 10/\Cn rows /\
 ∀ d H',Same H H'->H d=none->H' d=some (.dK (As (AV rows)))->Q (.ref d) H'
theorem scNumbered:AL ["rows", "numbers", "at", "row", "number"] ["rows"] (defScope El):=fsc
theorem KY {x:Str} {n:Nat} (h:x ∉ due.map (·.1)):A1 (As due) (Sum.inr x:Key) (V.int (n:Int))=As (due++[(x,n)]):=by
 rw [Bn _ (D8 h)];unfold As;rw [map_append];rfl
theorem DF (due:LN):(As due).length=due.length:=length_map _
theorem Ao:∀ rows:List (Str × Th),(AV rows).length=rows.length:=fun rows=>by
 have:∀ (l:List (Str × Th)) (a:LN),(l.foldl (fun due r=>due++[(r.1,CD due r.2)]) a).length=a.length + l.length:=by
  intro l;induction l with
  | nil=>intro a; rfl
  | cons x r ih=>intro a; rw [foldl_cons,ih,length_append,length_cons,length_cons,length_nil]; omega
 have e:=this rows [];rw [length_nil] at e;unfold AV;omega
theorem Il {tm:Tok} (F:Fun K "numbered" "numbered" El f fd) (B:Bl mg) (hM:mg "MOST_ROWS" = some (.int 10 tm)) (GR:Fn P w K mg base "row_number" 4 ["row", "ahead"] Mn):Af P w K mg base CX0 5 f fd ["rows"] Di:=by
 obtain ⟨fR,dR,GR,mR,kR,bR⟩:=GR.ex;refine F.ok scNumbered (fun vs H Q E h=>?_) (fun ac A outer s H vs Q E hr h=>?_)
 ·obtain ⟨l,rows,rfl,_⟩:=h;rfl
 ·obtain ⟨l,rows,rfl,⟨as,hl,hP⟩,h0,h10,RO,k⟩:=h;have hu:=B5 hr;have bd:as.length=rows.length:=hP.length
  refine ⟨_,AD (Ak (PW.pt (CN (BI (BH (BZ K rfl rfl B.isi rfl B.list DE (pv 0)))) (Bz (BI (Du Dt Dt AI (AW (Ax K rfl) rfl B.len PySem.boot_len (AA (pv 0) AC)) (Br (v:=.int 10) rfl hM ⟨tm,rfl⟩)))))) (AE Ag) AT)
   (AD (Ad (i:=1) scNumbered.nd rfl (Or.inl rfl) B4)
   (AD (BP PassesOwn.never rfl (N4 rfl B.enum (AA (pv 0) AC)) (BJ rfl (AR (AO (i:=2) scNumbered.nd rfl (Or.inl rfl)) (AR (AO (i:=3) scNumbered.nd rfl (Or.inl rfl)) Ay)))
    (AD (Ad (i:=4) scNumbered.nd rfl (Or.inl rfl) (AK GR hr rfl mR kR bR .nil AM (AA (pv 3) (AA (pv 1) AC))))
    (AD (Ak (BO (Ec (pv 4))) (AE Ag) AT)
    (AE (DC hu (pv 1) (BK (Bj K rfl) (pv 3) AI (fun _ _=>rfl)) (pv 4) rfl)))))
   (AE (AS (pv 1))))),?_⟩
  refine ⟨_,rfl,_,_,_,true,rfl,.lst hl,rfl,_,rfl,?_⟩;refine Aw ?_;have hll:(as.map V.ref).length=rows.length:=by rw [length_map,bd]
  refine ⟨_,rfl,l,_,rfl,.inl (SqL.of hl),_,_,rfl,rfl,_,rfl,?_⟩;refine Bc (fun _=>?_) (fun z=>absurd (decide_eq_true (by rw [hll]; omega)) z);refine ⟨_,_,rfl,rfl,_,rfl,?_⟩;refine KN (show (((as.map V.ref).length:Nat):Int) <= 10 by rw [hll]; omega) ?_;intro d hdn
  refine ⟨_,rfl,l,rfl,⟨_,SqL.of (AF (Same.refl _) hdn _ _ hl)⟩,Ml (K:=K) (a:=l) (xs:=as.map V.ref) (fun i σ H2=>∃ v1 v2 v3:Option V,σ=[some (.ref l),some (.ref d),v1,v2,v3]/\Same H H2/\H2 d=some (.dK (As (AV (rows.take i)))))
   ⟨none,none,none,rfl,AF (Same.refl _) hdn,AB⟩ (fun i σ H2 _ ⟨_,_,_,_,s2,_⟩=>SqL.of (s2 _ _ hl)) ?_ ?_⟩
  ·rintro i y σ H2 p hi ⟨v1,v2,v3,rfl,s2,hd2⟩ hp;rw [getElem?_map] at hi
   obtain ⟨b,hb,rfl⟩:∃ b,as[i]?=some b/\y=V.ref b:=by
    cases e:as[i]? with
    | none=>rw [e] at hi; cases hi
    | some x=>rw [e] at hi; exact ⟨x,rfl,(Option.some.inj hi).symm⟩
   obtain ⟨r,hr',hra⟩:=Bi hP hb;have R1:=RO i r hr';have s3:Same H (upd H2 p (.tup [.int i,.ref b])):=AF s2 hp;have hd3:(upd H2 p (.tup [.int i,.ref b])) d=some (.dK (As (AV (rows.take i)))):=by rw [AH (AG hd2 hp)]; exact hd2
   refine ⟨p,_,rfl,SqT.of AB,rfl,_,_,rfl,_,_,rfl,rfl,?_⟩;refine ⟨_,rfl,_,rfl,b,d,r,AV (rows.take i),rfl,hra.same s3,.inl hd3,R1,fun H4 s4=>?_⟩;refine ⟨_,rfl,_,rfl,?_⟩;refine Bc (fun z=>absurd (of_decide_eq_true z) (by intro q; cases q)) (fun _=>?_);obtain ⟨tv,ak,_⟩:=hra.same (s3.trans s4);refine ⟨_,rfl,_,rfl,_,rfl,b,_,0,.str r.1,rfl,rfl,SqT.of ak,rfl,d,_,rfl,DPut.k (k:=Sum.inr r.1) (s4 _ _ hd3) (AU (by rw [DF,Ao,length_take]; omega)),?_⟩;refine ⟨_,_,_,rfl,Fx (s3.trans s4) hdn,?_⟩;rw [AB,KY R1.new,take_add_one,hr',Option.toList_some,Es]
  ·rintro σ H2 ⟨v1,v2,v3,rfl,s2,hd2⟩;rw [hll,take_length] at hd2;exact ⟨_,rfl,k d H2 s2 hdn hd2⟩
end
def AN (due:LN):List (Nat × Str):=due.foldl (fun fs p=>if (fs.map (·.1)).contains p.2 then fs else fs++[(p.2,p.1)]) []
def Be (fs:List (Nat × Str)):LK:=fs.map fun q=>(Sum.inl (q.1:Int),V.str q.2)
def A2 (fs:List (Nat × Str)) (n:Nat):Str:=((fs.find? fun q=>decide (q.1=n)).map (·.2)).getD (Str.ofString "")
theorem CG (due:LN) (p:Str × Nat):AN (due++[p])=if ((AN due).map (·.1)).contains p.2 then AN due else AN due++[(p.2,p.1)]:=by unfold AN; rw [foldl_append]; rfl
theorem Et (n:Nat):∀ fs:List (Nat × Str),Ah (Be fs) (Sum.inl (n:Int):Key)=(fs.find? fun q=>decide (q.1=n)).map fun q=>V.str q.2
 | []=>rfl
 | q :: r=>by
  show Ah ((Sum.inl (q.1:Int),V.str q.2) :: Be r) (Sum.inl (n:Int))=_;by_cases e:q.1=n
  ·rw [A6 (p:=(Sum.inl (q.1:Int),V.str q.2)) (by rw [← e]),List.find?_cons_of_pos (by simpa using e)]; rfl
  ·rw [A7 (p:=(Sum.inl (q.1:Int),V.str q.2)) (fun z=>e (by have:=Sum.inl.inj z; omega)),List.find?_cons_of_neg (by simpa using e)]; exact Et n r
theorem Fy {fs:List (Nat × Str)} {n:Nat} (h:n ∈ fs.map (·.1)):(fs.find? fun q=>decide (q.1=n)).isSome=true:=by
 obtain ⟨q,hq,e⟩:=mem_map.mp h;rw [List.find?_isSome];exact ⟨q,hq,by simpa using e⟩
theorem EA {fs:List (Nat × Str)} {n:Nat} (h:n ∈ fs.map (·.1)):Ah (Be fs) (Sum.inl (n:Int):Key)=some (V.str (A2 fs n)):=by
 rw [Et];unfold A2;obtain ⟨q,hq⟩:=Option.isSome_iff_exists.mp (Fy h);rw [hq]; rfl
theorem Eu {fs:List (Nat × Str)} {n:Nat} (h:n ∉ fs.map (·.1)):Ah (Be fs) (Sum.inl (n:Int):Key)=none:=by
 rw [Et]
 have:(fs.find? fun q=>decide (q.1=n))=none:=by
  rw [List.find?_eq_none];intro q hq e;exact h (mem_map.mpr ⟨q,hq,by simpa using e⟩)
 rw [this]; rfl
theorem Im {fs:List (Nat × Str)} {n:Nat} {x:Str} (h:n ∉ fs.map (·.1)):A1 (Be fs) (Sum.inl (n:Int):Key) (V.str x)=Be (fs++[(n,x)]):=by
 rw [Bn _ (Eu h)];unfold Be;rw [map_append];rfl
theorem B8 (due:LN):(AN due).length <= due.length:=by
 have:∀ (l:LN) (a:List (Nat × Str)),(l.foldl (fun fs p=>if (fs.map (·.1)).contains p.2 then fs else fs++[(p.2,p.1)]) a).length <= a.length + l.length:=by
  intro l;induction l with
  | nil=>intro a; exact Nat.le_refl _
  | cons x r ih =>
   intro a;rw [foldl_cons];refine Nat.le_trans (ih _) ?_;split
   ·rw [length_cons]; omega
   ·rw [length_append,length_cons,length_cons,length_nil]; omega
 have e:=this due [];rw [length_nil] at e;unfold AN;omega
theorem C6 (due:LN):∀ (a:List (Nat × Str)),(a.map (·.1)).Nodup->(∀ n ∈ a.map (·.1),n ∈ (due.foldl (fun fs p=>if (fs.map (·.1)).contains p.2 then fs else fs++[(p.2,p.1)]) a).map (·.1)) /\
  ((due.foldl (fun fs p=>if (fs.map (·.1)).contains p.2 then fs else fs++[(p.2,p.1)]) a).map (·.1)).Nodup/\(∀ p ∈ due,p.2 ∈ (due.foldl (fun fs p=>if (fs.map (·.1)).contains p.2 then fs else fs++[(p.2,p.1)]) a).map (·.1)) /\
  (∀ q ∈ due.foldl (fun fs p=>if (fs.map (·.1)).contains p.2 then fs else fs++[(p.2,p.1)]) a,q ∈ a\/(q.2,q.1) ∈ due):=by
 induction due with
 | nil=>intro a ha; exact ⟨fun n hn=>hn,ha,fun p hp=>(nomatch hp),fun q hq=>.inl hq⟩
 | cons p r ih =>
  intro a ha;rw [foldl_cons];by_cases hc:(a.map (·.1)).contains p.2=true
  ·rw [if_pos hc];obtain ⟨i1,i2,i3,i4⟩:=ih a ha;refine ⟨i1,i2,fun q hq=>?_,fun q hq=>?_⟩
   ·rcases mem_cons.mp hq with rfl | hq
    ·exact i1 _ (by simpa using hc)
    ·exact i3 q hq
   ·rcases i4 q hq with z | z
    ·exact .inl z
    ·exact .inr (mem_cons_of_mem _ z)
  ·rw [if_neg hc];have hnot:p.2 ∉ a.map (·.1):=fun z=>hc (by simpa using z);obtain ⟨i1,i2,i3,i4⟩:=ih (a++[(p.2,p.1)]) (by rw [map_append]; exact KP ha hnot);refine ⟨fun n hn=>i1 n (by rw [map_append]; exact mem_append_left _ hn),i2,fun q hq=>?_,fun q hq=>?_⟩
   ·rcases mem_cons.mp hq with rfl | hq
    ·exact i1 _ (by rw [map_append]; exact mem_append_right _ (by simp))
    ·exact i3 q hq
   ·rcases i4 q hq with z | z
    ·rcases mem_append.mp z with z | z
     ·exact .inl z
     ·have:q=(p.2,p.1):=by simpa using z
      subst this;exact .inr mem_cons_self
    ·exact .inr (mem_cons_of_mem _ z)
theorem Gy (due:LN):((AN due).map (·.1)).Nodup:=(C6 due [] nodup_nil).2.1
theorem LM {p:Str × Nat} (h:p ∈ due):p.2 ∈ (AN due).map (·.1):=(C6 due [] nodup_nil).2.2.1 p h
theorem Ev {q:Nat × Str} (h:q ∈ AN due):(q.2,q.1) ∈ due:=by
 rcases (C6 due [] nodup_nil).2.2.2 q h with z | z
 ·cases z
 ·exact z
section
def Fz:Sp:=fun vs H Q _=>∃ (d:Addr) (o:Obj) (due:LN),vs=[.ref d]/\H d=some (.frz o (.dK (As due)))/\due.length <= 100/\∀ e H',Same H H'->H e=none->H' e=some (.dK (Be (AN due)))->Q (.ref e) H'
theorem scFirsts:AL ["numbers", "firsts", "name", "number"] ["numbers"] (defScope Cy):=fsc
theorem Mo {i:Nat} {kv:Key × V} (h:(As due)[i]?=some kv):∃ p,due[i]?=some p/\kv=(Sum.inr p.1,V.int (p.2:Int)):=by
 unfold As at h;rw [getElem?_map] at h;cases e:due[i]? with
 | none=>rw [e] at h; cases h
 | some p=>rw [e] at h; exact ⟨p,rfl,(Option.some.inj h).symm⟩
theorem LP (F:Fun K "first_names" "first_names" Cy f fd):Af P w K mg base CX0 1 f fd ["numbers"] Fz:=by
 refine F.ok scFirsts (fun vs H Q E h=>?_) (fun ac A outer s H vs Q E hr h=>?_)
 ·obtain ⟨d,o,due,rfl,_⟩:=h;rfl
 ·obtain ⟨d,o,due,rfl,hd,hz,k⟩:=h
  refine ⟨_,AD (Ad (i:=1) scFirsts.nd rfl (Or.inl rfl) B4)
   (AD (BP PassesOwn.never rfl (MH (pv 0)) (BJ rfl (AR (AO (i:=2) scFirsts.nd rfl (Or.inl rfl)) (AR (AO (i:=3) scFirsts.nd rfl (Or.inl rfl)) Ay)))
    (AE (Dp (IN PySem.F.plainAttrs_dict PySem.F.slot_dict_setdefault PySem.F.type_dict_setdefault GQ (pv 1) (AA (pv 3) (AA (pv 2) AC))))))
   (AE (AS (pv 1)))),?_⟩
  intro e he
  refine ⟨_,rfl,d,o,As due,rfl,AF (Same.refl _) he _ _ hd,LL (a:=d) (o:=o) (kvs:=As due) (fun i σ H2=>∃ v1 v2:Option V,σ=[some (.ref d),some (.ref e),v1,v2]/\Same H H2/\H2 e=some (.dK (Be (AN (due.take i)))))
   ⟨none,none,rfl,AF (Same.refl _) he,AB⟩ (fun i σ H2 ⟨_,_,_,s2,_⟩=>s2 _ _ hd) ?_ ?_⟩
  ·rintro i kv σ H2 p hkv ⟨v1,v2,rfl,s2,he2⟩ hp;obtain ⟨pr,hpr,rfl⟩:=Mo hkv;have s3:Same H (upd H2 p (.tup [.str pr.1,.int (pr.2:Int)])):=AF s2 hp;have he3:(upd H2 p (.tup [.str pr.1,.int (pr.2:Int)])) e=some (.dK (Be (AN (due.take i)))):=by rw [AH (AG he2 hp)]; exact he2
   have et:due.take (i + 1)=due.take i++[pr]:=by rw [take_add_one,hpr]; rfl
   have hle:(Be (AN (due.take i))).length <= 100:=by
    unfold Be;rw [length_map];have:=B8 (due.take i);rw [length_take] at this;omega
   refine ⟨p,_,rfl,SqT.of AB,rfl,_,_,rfl,_,_,rfl,rfl,?_⟩;refine ⟨_,rfl,.inr (.inr (.inl ⟨rfl,.inl ⟨_,he3⟩⟩)),_,rfl,_,rfl,e,_,Sum.inl (pr.2:Int),.str pr.1,rfl,rfl,he3,AU (by omega),fun w' hw=>?_,fun hn=>?_⟩
   ·refine ⟨_,_,rfl,s3,?_⟩;have z:pr.2 ∈ (AN (due.take i)).map (·.1):=Decidable.byContradiction fun z=>by rw [Eu z] at hw; cases hw
    rw [et,CG,if_pos (by simpa using z)];exact he3
   ·have z:pr.2 ∉ (AN (due.take i)).map (·.1):=fun z=>by rw [EA z] at hn; cases hn
    refine ⟨_,_,rfl,Fx s3 he,?_⟩;rw [AB,et,CG,if_neg (by simpa using z),Im z]
  ·rintro σ H2 ⟨v1,v2,rfl,s2,he2⟩;rw [DF,take_length] at he2;exact ⟨_,rfl,k e H2 s2 he he2⟩
end
theorem n12:¬ (("numbers" : Str) = "firsts"):=by decide +kernel
theorem n13:¬ (("numbers" : Str) = "rule"):=by decide +kernel
theorem n23:¬ (("firsts" : Str) = "rule"):=by decide +kernel
def F0 (d1 d2:Addr) (r:Str):List (Str × V):=A4 "rule" (.str r) (A4 "firsts" (.ref d2) (A4 "numbers" (.ref d1) []))
theorem EB (d1 d2:Addr) (r:Str):(F0 d1 d2 r).lookup ("numbers" : Str)=some (.ref d1):=by
 unfold F0;rw [AQ,if_neg n13,AQ,if_neg n12,AQ,if_pos rfl]
theorem F1 (d1 d2:Addr) (r:Str):(F0 d1 d2 r).lookup ("firsts" : Str)=some (.ref d2):=by
 unfold F0;rw [AQ,if_neg n23,AQ,if_pos rfl]
theorem Ew (d1 d2:Addr) (r:Str):(F0 d1 d2 r).lookup ("rule" : Str)=some (.str r):=by
 unfold F0;rw [AQ,if_pos rfl]
theorem Ba (d1 d2:Addr) (r:Str) {m:Str} (h1:¬ m = "rule" := by decide +kernel) (h2:¬ m = "firsts" := by decide +kernel) (h3:¬ m = "numbers" := by decide +kernel):(F0 d1 d2 r).lookup m=none:=by
 unfold F0;rw [AQ,if_neg h1,AQ,if_neg h2,AQ,if_neg h3];rfl
theorem OB (d1:Addr):(A4 "numbers" (V.ref d1) []).lookup ("numbers" : Str)=some (.ref d1):=by rw [AQ,if_pos rfl]
structure KindAt (C:Addr) (H:Hp) (p:Addr) (due:LN) (r:Str):Prop where
 ex:∃ dx d1 o1 d2 o2,H p=some (.ins C dx (F0 d1 d2 r))/\H d1=some (.frz o1 (.dK (As due)))/\H d2=some (.frz o2 (.dK (Be (AN due))))
theorem KindAt.same {p:Addr} {r:Str} (s:Same H H') (h:KindAt C H p due r):KindAt C H' p due r:=by
 obtain ⟨dx,d1,o1,d2,o2,a,b,c⟩:=h.ex;exact ⟨⟨dx,d1,o1,d2,o2,s _ _ a,s _ _ b,s _ _ c⟩⟩
structure Cp (K:FG) (C:Addr):Prop where
 cl:Cls K C
 nN:NoAttr K C "numbers"
 nF:NoAttr K C "firsts"
 nR:NoAttr K C "rule"
def ruleNames:List Str:=["bar", "drop", "keep", "leave"]
section
def Mp (C:Addr):Sp:=fun vs H Q _=>∃ (p dx l:Addr) (rows:List (Str × Th)) (r:Str),vs=[.ref p,.ref l,.str r]/\H p=some (.ins C dx [])/\Mm H l rows/\0 < rows.length/\rows.length <= 10/\Cn rows/\r ∈ ruleNames /\
 ∀ H',(∀ b o,H b=some o->b ≠ p->H' b=some o)->KindAt C H' p (AV rows) r->Q .non H'
theorem PO:AL ["self", "rows", "rest"] ["self", "rows", "rest"] (defScope BF):=fsc
theorem Mq {r:Str} (h:r ∈ ruleNames):inV (.str r) (ruleNames.map V.str)=true:=by
 unfold inV;rw [any_map,any_eq_true];exact ⟨r,h,by show (r == r)=true; simp⟩
theorem OC {aR:Addr} (F:Fun K "__init__" "Kind.__init__" BF f fd) (B:Bl mg) (T:Cp K C) (hR:mg "RULES" = some (.ref aR)) (hRT:∀ H:Hp,SqT K H aR (ruleNames.map V.str))
  (GN:Fn P w K mg base "numbered" 5 ["rows"] Di) (GF:Fn P w K mg base "first_names" 1 ["numbers"] Fz) (GO:Fn P w K mg base "is_one_of" 1 ["thing", "names"] (Bv K)):Af P w K mg base CX0 6 f fd ["self", "rows", "rest"] (Mp C):=by
 obtain ⟨fN,dN,GN,mN,kN,bN⟩:=GN.ex;obtain ⟨fF,dF,GF,mF,kF,bF⟩:=GF.ex;obtain ⟨fO,dO,GO,mO,kO,bO⟩:=GO.ex;refine F.ok PO (fun vs H Q E h=>?_) (fun ac A outer s H vs Q E hr h=>?_)
 ·obtain ⟨p,dx,l,rows,r,rfl,_⟩:=h;rfl
 ·obtain ⟨p,dx,l,rows,r,rfl,hp,RA,h0,h10,RO,aq,k⟩:=h;have hr1:Room 1 _:=hr.mono (by decide)
  refine ⟨_,AD (Cr (pv 0) (AK GN hr rfl mN kN bN .nil AM (AA (pv 1) AC)) rfl)
   (Ce (AD (Ak (BI (BH (AK GO hr1 rfl mO kO bO .nil AM (AA (pv 2) (AA (Br (v:=.ref aR) rfl hR rfl) AC))))) (AE Ag) AT)
   (AD (Cr (pv 0) (AK GF hr1 rfl mF kF bF .nil AM (AA (Aq (pv 0) rfl) AC)) rfl)
   (Ce (AE (Cr (pv 0) (pv 2) rfl)))))),?_⟩
  refine ⟨_,rfl,l,rows,rfl,RA,h0,h10,RO,fun d1 H1 s1 hd1n hd1=>?_⟩;have npd:p ≠ d1:=AG hp hd1n;refine ⟨_,rfl,p,C,dx,[],rfl,s1 _ _ hp,T.cl,T.nN,(by show 0 < 1000; decide),?_⟩;refine ⟨d1,As (AV rows),by rw [AH (Ne.symm npd)]; exact hd1,fun o1=>?_⟩;refine ⟨_,rfl,.inr ⟨r,aR,ruleNames,rfl,hRT _,_,rfl,?_⟩⟩;rw [Mq aq];refine Aw ?_;have am:∀ o,(upd (upd H1 p (.ins C dx (A4 "numbers" (.ref d1) []))) d1 o) p=some (.ins C dx (A4 "numbers" (.ref d1) [])):=fun o=>by rw [AH npd,AB]
  refine ⟨_,rfl,p,C,dx,_,_,rfl,am _,T.cl,T.nN,OB d1,d1,o1,AV rows,rfl,AB,by rw [Ao]; omega,fun d2 H2 s2 hd2n hd2=>?_⟩;have npd2:p ≠ d2:=AG (am _) hd2n;have hp3:=s2 _ _ (am _);refine ⟨_,rfl,p,C,dx,_,rfl,hp3,T.cl,T.nF,(by show 1 < 1000; decide),?_⟩;refine ⟨d2,Be (AN (AV rows)),by rw [AH (Ne.symm npd2)]; exact hd2,fun o2=>?_⟩;have hp4:∀ o,(upd (upd H2 p (.ins C dx (A4 "firsts" (.ref d2) (A4 "numbers" (.ref d1) [])))) d2 o) p=some (.ins C dx (A4 "firsts" (.ref d2) (A4 "numbers" (.ref d1) []))):=fun o=>by rw [AH npd2,AB]
  refine ⟨_,rfl,_,rfl,p,C,dx,_,rfl,hp4 _,T.cl,T.nR,Nat.lt_of_le_of_lt (Bm _ _ _) (by show 2 < 1000; decide),?_⟩;have nd12:d1 ≠ d2:=AG (AB (H:=upd H1 p (.ins C dx (A4 "numbers" (.ref d1) []))) (o:=.frz o1 (.dK (As (AV rows))))) hd2n;refine k _ (fun b o e hb=>?_) ⟨⟨dx,d1,o1,d2,o2,AB,?_,?_⟩⟩
  ·rw [AH hb,AH,AH hb]
   ·refine s2 _ _ ?_;rw [AH (AG e hd1n),AH hb];exact s1 _ _ e
   ·intro z;subst z
    have:(upd (upd H1 p (.ins C dx (A4 "numbers" (.ref d1) []))) d1 (.frz o1 (.dK (As (AV rows))))) b=some o:=by
     rw [AH (AG e hd1n),AH hb];exact s1 _ _ e
    rw [hd2n] at this;cases this
  ·rw [AH (Ne.symm npd),AH nd12,AH (Ne.symm npd)];exact s2 _ _ AB
  ·rw [AH (Ne.symm npd2),AB]
end
structure Mt (P:Program) (w:World) (K:FG) (mg:SV) (base:Heap) (C:Addr) (m:Str) (k:Nat) (ps:List Str) (sp:Sp):Prop where
 ex:∃ f fd,Af P w K mg base CX0 k f fd ps sp/\JT K C m f/\Binds K fd ps []
def Cq (due:LN):List (V × V):=due.map fun p=>(V.str p.1,V.int (p.2:Int))
def Am (due:LN):List Nat:=((AN due).map (·.1)).mergeSort fun a b=>decide (a <= b)
def AJ (due:LN):List Nat:=(Am due).filter Ar
def Bb (due:LN):List (V × V):=(AJ due).map fun n=>(V.str (A2 (AN due) n),V.int (n:Int))
theorem B9 (due:LN):(Am due).Perm ((AN due).map (·.1)):=List.mergeSort_perm _ _
theorem EE (due:LN):(Am due).Pairwise (· <= ·):=by
 have:=List.pairwise_mergeSort (le:=fun a b:Nat=>decide (a <= b)) (fun a b c h1 h2=>by simp at h1 h2 ⊢; omega) (fun a b=>by simp; omega) ((AN due).map (·.1));exact this.imp fun h=>by simpa using h
theorem Io {ns:List Int} (hp:ns.Perm ((Be (AN due)).map fun kv=>match kv.1 with | Sum.inl i=>i | Sum.inr _=>0)) (hs:ns.Pairwise (· <= ·)):ns=(Am due).map fun n:Nat=>(n:Int):=by
 refine List.Perm.eq_of_pairwise (le:=(· <= ·)) (fun a b _ _ h1 h2=>Int.le_antisymm h1 h2) hs ?_ ?_
 ·rw [List.pairwise_map];exact (EE due).imp fun h=>by omega
 ·have e:((Be (AN due)).map fun kv=>match kv.1 with | Sum.inl i=>i | Sum.inr _=>0)=((AN due).map (·.1)).map fun n:Nat=>(n:Int):=by
   unfold Be;rw [map_map,map_map];rfl
  rw [e] at hp;exact hp.trans ((B9 due).symm.map _)
theorem mem_keysS {n:Nat}:n ∈ Am due ↔ n ∈ (AN due).map (·.1):=(B9 due).mem_iff
theorem DH (due:LN):(Am due).length <= due.length:=by
 rw [(B9 due).length_eq,length_map];exact B8 due
section
def Ho (C:Addr):Sp:=fun vs H Q _=>∃ (p:Addr) (due:LN) (r:Str),vs=[.ref p]/\KindAt C H p due r/\∀ l as H',Same H H'->H' l=some (.lst (as.map V.ref))->TupsAt H' as (Cq due)->Q (.ref l) H'
theorem PP:AL ["self"] ["self"] (defScope Em):=fsc
theorem KZ (due:LN):(As due).map (fun kv=>(kV kv.1,kv.2))=Cq due:=by unfold As Cq; rw [map_map]; rfl
theorem OD (F:Fun K "rows" "Kind.rows" Em f fd) (B:Bl mg) (T:Cp K C):Af P w K mg base CX0 1 f fd ["self"] (Ho C):=by
 refine F.ok PP (fun vs H Q E h=>?_) (fun ac A outer s H vs Q E hr h=>?_)
 ·obtain ⟨p,due,r,rfl,_⟩:=h;rfl
 ·obtain ⟨p,due,r,rfl,KA,k⟩:=h;obtain ⟨dx,d1,o1,d2,o2,hp,h1,h2⟩:=KA.ex;refine ⟨_,AE (AS (BU (Jh rfl) rfl B.list DE (AA (MM PySem.F.slot_dict_items PySem.F.type_dict_items MO (Aq (pv 0) rfl)) AC))),?_⟩;refine ⟨_,rfl,p,C,dx,_,_,rfl,hp,T.cl,T.nN,EB _ _ _,d1,rfl,.inl ⟨_,.inr ⟨o1,h1⟩⟩,d1,_,rfl,rfl,.inr ⟨o1,h1⟩,fun v hv=>?_⟩;have s1:Same H (upd H v (KR d1 v)):=AF (Same.refl _) hv;refine ⟨v,d1,_,rfl,AB,Same.rd s1 (.inr ⟨o1,h1⟩),fun l as H' s2 _ hl ht=>?_⟩;rw [KZ] at ht;exact k l as H' (s1.trans s2) hl ht
def Hq (C:Addr):Sp:=fun vs H Q _=>∃ (p:Addr) (due:LN) (r:Str),vs=[.ref p]/\KindAt C H p due r/\∀ H',Same H H'->Q (.int (AX ((AN due).map (·.1)):Nat)) H'
theorem OE:AL ["self"] ["self"] (defScope DY):=fsc
theorem Mr (F:Fun K "known" "Kind.known" DY f fd) (B:Bl mg) (T:Cp K C) (GU:Fn P w K mg base "union_of" 1 ["numbers"] (Bu K)):Af P w K mg base CX0 2 f fd ["self"] (Hq C):=by
 obtain ⟨fU,dU,GU,mU,kU,bU⟩:=GU.ex;refine F.ok OE (fun vs H Q E h=>?_) (fun ac A outer s H vs Q E hr h=>?_)
 ·obtain ⟨p,due,r,rfl,_⟩:=h;rfl
 ·obtain ⟨p,due,r,rfl,KA,k⟩:=h;obtain ⟨dx,d1,o1,d2,o2,hp,h1,h2⟩:=KA.ex;refine ⟨_,AE (AS (AK GU hr rfl mU kU bU .nil AM (AA (BU (Jf rfl) rfl B.list DE (AA (Aq (pv 0) rfl) AC)) AC))),?_⟩;refine ⟨_,rfl,p,C,dx,_,_,rfl,hp,T.cl,T.nF,F1 _ _ _,d2,_,rfl,.inr ⟨o2,h2⟩,fun l hl=>?_⟩;refine ⟨l,(AN due).map (·.1),rfl,SqL.of (by rw [AB]; unfold Be AZ; rw [map_map,map_map]; rfl),k _ (AF (Same.refl _) hl)⟩
def EF (C:Addr):Sp:=fun vs H Q _=>∃ (p:Addr) (due:LN) (r:Str),vs=[.ref p]/\KindAt C H p due r/\due.length <= 60/\∀ l as H',Same H H'->H' l=some (.lst (as.map V.ref))->TupsAt H' as (Bb due)->Q (.ref l) H'
theorem OF:AL ["self"] ["self"] (defScope DX):=fsc
theorem Gz {as:List Addr} {ps:List (V × V)} {b:Addr} {p:V × V} (s:Same H H') (h:TupsAt H as ps) (hb:H' b=some (.tup [p.1,p.2])):TupsAt H' (as++[b]) (ps++[p]):=Paired.snoc (TupsAt.same s h) hb
theorem Ms (F:Fun K "marks" "Kind.marks" DX f fd) (B:Bl mg) (T:Cp K C) (GM:Fn P w K mg base "is_mark" 1 ["number"] Fu):Af P w K mg base CX0 2 f fd ["self"] (EF C):=by
 obtain ⟨fM,dM,GM,mM,kM,bM⟩:=GM.ex;refine F.ok OF (fun vs H Q E h=>?_) (fun ac A outer s H vs Q E hr h=>?_)
 ·obtain ⟨p,due,r,rfl,_⟩:=h;rfl
 ·obtain ⟨p,due,r,rfl,KA,h60,k⟩:=h;have hu:=B5 hr;obtain ⟨dx,d1,o1,d2,o2,hp,h1,h2⟩:=KA.ex
  refine ⟨_,AE (AS (Az ["self"] [some 0] (by kernel_rfl) (by decide +kernel) (by kernel_rfl) rfl (Al (AW (D4 rfl) rfl B.sorted Er (AA (Aq (pv 0) rfl) AC)))
   (fun _ _ _ _ _ _=>D0 (BH (AK GM hr rfl mM kM bM .nil AM (AA (pv 0) AC))))
   (fun _ _ _ _ _ _=>BQ (AA (BA hu (Hl K rfl (pv 1) rfl) (pv 0) (fun _ _=>rfl)) (AA (pv 0) AC))))),?_⟩
  have hle:(Be (AN due)).length <= due.length:=by unfold Be; rw [length_map]; exact B8 due
  refine ⟨_,rfl,p,C,dx,_,_,rfl,hp,T.cl,T.nF,F1 _ _ _,d2,_,rfl,.inr ⟨o2,h2⟩,by omega,fun kv hkv=>?_,fun l ns hl cf cg=>?_⟩
  ·unfold Be at hkv;obtain ⟨q,_,rfl⟩:=mem_map.mp hkv;exact ⟨_,rfl⟩
  ·have en:=Io cf cg;subst en;have s1:Same H (upd H l (.lst (((Am due).map fun n:Nat=>(n:Int)).map V.int))):=AF (Same.refl _) hl;have exs:((Am due).map fun n:Nat=>(n:Int)).map V.int=AZ (Am due):=(Cm _).symm
   refine ⟨l,rfl,⟨_,SqL.of AB⟩,A8 (K:=K) (a:=l) (xs:=AZ (Am due))
    (fun i ys H2=>∃ as,ys=as.map V.ref/\Same H H2/\H2 l=some (.lst (AZ (Am due)))/\TupsAt H2 as ((((Am due).take i).filter Ar).map fun n=>(V.str (A2 (AN due) n),V.int (n:Int)))) ⟨[],rfl,s1,by rw [AB,exs],.nil⟩
    (fun i ys H2 _ ⟨_,_,_,e,_⟩=>SqL.of e) (fun i ys H2 ⟨as,e,_,_,t⟩=>?_) ?_ ?_⟩
   ·have:=t.length;rw [e,length_map,this,length_map];have h3:(((Am due).take i).filter Ar).length <= ((Am due).take i).length:=length_filter_le _ _;rw [length_take] at h3;have:=DH due;omega
   ·rintro i v ys H2 hi ⟨as,rfl,s2,hl2,ht⟩;obtain ⟨n,hn,rfl⟩:=Hi hi;have bi:n ∈ (AN due).map (·.1):=mem_keysS.mp (mem_of_getElem? hn);have et:((Am due).take (i + 1)).filter Ar=((Am due).take i).filter Ar++(if Ar n then [n] else []):=PySem.take_succ_filter Ar _ i n hn;refine ⟨_,rfl,n,rfl,_,rfl,?_⟩;refine Bc (fun hm=>?_) (fun hm=>?_)
    ·refine ⟨_,rfl,p,C,dx,_,_,rfl,s2 _ _ hp,T.cl,T.nF,F1 _ _ _,_,rfl,d2,_,rfl,.inl ⟨_,Sum.inl (n:Int),Same.rd s2 (.inr ⟨o2,h2⟩),rfl,(EA bi).symm⟩,_,rfl,sl2,fun b hb=>?_⟩;refine ⟨as++[b],by rw [map_append]; rfl,AF s2 hb,by rw [AH (AG hl2 hb)]; exact hl2,?_⟩;rw [et,hm,if_pos rfl,map_append];exact Gz (AF (Same.refl _) hb) ht AB
    ·refine ⟨as,rfl,s2,hl2,?_⟩;rw [et,if_neg hm,append_nil];exact ht
   ·rintro ys H2 ⟨as,rfl,s2,_,ht⟩ q hq
    have el:(Am due).take (AZ (Am due)).length=Am due:=by
     have:(AZ (Am due)).length=(Am due).length:=by unfold AZ; rw [length_map]
     rw [this]; exact take_length
    rw [el] at ht;exact k q as _ (AF s2 hq) AB (TupsAt.same (AF (Same.refl _) hq) ht)
end
theorem Ip {as:List Addr} {ps:List (V × V)} {i:Nat} {b:Addr} (h:TupsAt H as ps) (e:as[i]?=some b):∃ p,ps[i]?=some p/\H b=some (.tup [p.1,p.2]):=Bi h e
section
theorem KindAt.ins {p:Addr} {r:Str} (h:KindAt C H p due r):∃ dx d1 d2,H p=some (.ins C dx (F0 d1 d2 r)):=by
 obtain ⟨dx,d1,o1,d2,o2,a,_⟩:=h.ex;exact ⟨dx,d1,d2,a⟩
theorem G0 (due:LN):(Bb due).length=(AJ due).length:=length_map _
end
theorem Ka (h:∀ p ∈ due,p.2 < 2 ^ 20):∀ n ∈ (AN due).map (·.1),n < 2 ^ 20:=fun n hn=>by
 obtain ⟨q,hq,rfl⟩:=mem_map.mp hn;exact h _ (Ev hq)
theorem Mu (h:∀ p ∈ due,p.2 < 2 ^ 20):∀ n ∈ AJ due,n < 2 ^ 20:=fun n hn=>Ka h n (mem_keysS.mp (mem_filter.mp hn).1)
theorem EG {x:Int} {n:Nat} (h0:0 <= x) (h:x < 2 ^ n):Builtin.Int.intBits x <= n:=by
 obtain ⟨m,rfl⟩:=Int.eq_ofNat_of_zero_le h0;have hm:m < 2 ^ n:=by exact_mod_cast h
 rcases Nat.eq_zero_or_pos m with e | hp
 ·subst e; exact Nat.zero_le _
 ·rw [Cw hp];exact (Nat.log2_lt (by omega)).mpr hm
theorem F2 {xs:List V} {i:Int} (h0:0 <= i) (h1:i < xs.length):∃ v,atI xs i=some v/\xs[i.toNat]?=some v:=by
 have hlt:i.toNat < xs.length:=by omega
 refine ⟨xs[i.toNat],?_,List.getElem?_eq_getElem hlt⟩;unfold atI ixN;rw [if_pos h0,if_pos h1];exact List.getElem?_eq_getElem hlt
structure SameX (d:Addr) (H H':Hp):Prop where
 old:∀ b o,H b=some o->b ≠ d->H' b=some o
 dice:∃ a b:Int,H' d=some (.lst [.int a,.int b])
theorem SameX.step {d:Addr} {H1 H2:Hp} (x:SameX d H H1) (s:Same H1 H2):SameX d H H2 :=
 ⟨fun b o e hb=>s _ _ (x.old b o e hb),by obtain ⟨a,b,e⟩:=x.dice; exact ⟨a,b,s _ _ e⟩⟩
theorem SameX.trans {d:Addr} {H1 H2:Hp} (x:SameX d H H1) (y:SameX d H1 H2):SameX d H H2:=⟨fun b o e hb=>y.old _ _ (x.old b o e hb) hb,y.dice⟩
section
def Jv (K:FG):Sp:=fun vs H Q _=>∃ (a:Addr) (ns:List Int) (k:Int),vs=[.ref a,.int k]/\SqL K H a (ns.map V.int)/\ns.length <= 63/\0 <= k/\∀ (v:Int) H',Same H H'->Q (.int v) H'
theorem PQ:AL ["_law_script", "_law_k"] ["_law_script", "_law_k"] (defScope Fq):=fsc
theorem OG (F:Fun K "_law_cell" "_law_cell" Fq f fd) (B:Bl mg):Af P w K mg base CX0 1 f fd ["_law_script", "_law_k"] (Jv K):=by
 refine F.ok PQ (fun vs H Q E h=>?_) (fun ac A outer s H vs Q E hr h=>?_)
 ·obtain ⟨a,ns,k,rfl,_⟩:=h;rfl
 ·obtain ⟨a,ns,kk,rfl,hS,h63,hk,k⟩:=h;have hu:=hr.units
  refine ⟨_,AD (Ak (Ac (O8 K rfl hu) (pv 0) (Bq AC) (Ae _)) (AE (AS (AY FN (pv 1) AI))) AT)
   (AE (AS (AY Ca (BK (A9 K rfl) (pv 0) (AY DP (pv 1) (AW (Ax K rfl) rfl B.len PySem.boot_len (AA (pv 0) AC))) (fun _ _=>rfl))
    (AY FN (AY HH (pv 1) (AW (Ax K rfl) rfl B.len PySem.boot_len (AA (pv 0) AC))) AI)))),?_⟩
  refine ⟨_,rfl,Nat.zero_le _,fun p hp=>?_⟩;have s1:Same H (upd H p (.lst [])):=AF (Same.refl _) hp;refine ⟨a,p,ns,[],rfl,rfl,s1.seq hS,SqL.of AB,_,rfl,?_⟩;refine Bc (fun h0=>?_) (fun h0=>?_)
  ·exact ⟨_,rfl,_,_,rfl,rfl,.inr ⟨by decide,by decide⟩,k _ _ s1⟩
  ·have a0:ns ≠ []:=fun z=>h0 (decide_eq_true z);have hpos:0 < ns.length:=List.length_pos_iff.mpr a0;have hl:(ns.map V.int).length=ns.length:=length_map _;have hm0:0 <= kk % ((ns.map V.int).length:Int):=Int.emod_nonneg _ (by rw [hl]; omega);have hm1:kk % ((ns.map V.int).length:Int) < ((ns.map V.int).length:Nat):=Int.emod_lt_of_pos _ (by rw [hl]; omega);obtain ⟨v,hv,hv2⟩:=F2 (xs:=ns.map V.int) hm0 hm1
   obtain ⟨n,rfl⟩:∃ n,v=V.int n:=by
    rw [getElem?_map] at hv2;cases e:ns[(kk % ((ns.map V.int).length:Int)).toNat]? with
    | none=>rw [e] at hv2; cases hv2
    | some n=>rw [e] at hv2; exact ⟨n,(Option.some.inj hv2).symm⟩
   refine ⟨_,rfl,_,rfl,_,rfl,a,_,rfl,.inl (s1.seq hS),_,_,rfl,rfl,(by rw [hl]; omega),a,_,_,_,rfl,rfl,s1.seq hS,hv,?_⟩;exact ⟨_,rfl,_,rfl,a,_,rfl,.inl (s1.seq hS),_,_,rfl,rfl,⟨by rw [hl]; omega,by rw [hl]; omega⟩,_,_,rfl,rfl,.inr ⟨by decide,by decide⟩,_,_,rfl,rfl,k _ _ s1⟩
def Hr:Sp:=fun vs H Q _=>∃ (c k:Int),vs=[.int c,.int k]/\∀ r:Int,0 <= r->Q (.int r) H
theorem scDrawn:AL ["_law_cell_here", "_law_k", "_law_more"] ["_law_cell_here", "_law_k"] (defScope Ep):=fsc
theorem Mv (F:Fun K "_law_drawn" "_law_drawn" Ep f fd):Af P w K mg base CX0 1 f fd ["_law_cell_here", "_law_k"] Hr:=by
 refine F.ok scDrawn (fun vs H Q E h=>?_) (fun ac A outer s H vs Q E hr h=>?_)
 ·obtain ⟨c,k,rfl,_⟩:=h;rfl
 ·obtain ⟨c,kk,rfl,k⟩:=h
  refine ⟨_,AD (Ad (i:=2) scDrawn.nd rfl (Or.inl rfl) (AY DP (AY Ca (AY FN (pv 0) AI) (AY FN (AY Ca (pv 1) AI) AI)) AI))
   (AD (Ad (i:=2) scDrawn.nd rfl (Or.inl rfl) (AY DP (AY HQ (pv 2) (pv 2)) AI))
   (AD (Ad (i:=2) scDrawn.nd rfl (Or.inl rfl) (AY HQ (AY HQ (AY Ca (AY DP (pv 2) AI) AI) (AY Ca (AY MU (pv 2) AI) AI)) (pv 2)))
   (AE (AS (AY DP (pv 2) AI))))),?_⟩
  refine ⟨_,rfl,_,_,rfl,rfl,.inr ⟨by decide,by decide⟩,_,rfl,_,_,rfl,rfl,_,_,rfl,rfl,.inr ⟨by decide,by decide⟩,_,_,rfl,rfl,_,_,rfl,rfl,(by show (0:Int) < _; decide),?_⟩;generalize ha:(c * 6364136223846793005 + (kk + 1) * 1442695040888963407) % 340282366920938463463374607431768211507=m1
  have h1:0 <= m1/\m1 < 2 ^ 130:=by
   rw [← ha];exact ⟨Int.emod_nonneg _ (by decide),Int.lt_trans (Int.emod_lt_of_pos _ (by decide)) (by decide)⟩
  have b1:Builtin.Int.intBits m1 <= 2 ^ 20:=Nat.le_trans (EG h1.1 h1.2) (by decide);subst ha;refine ⟨_,rfl,_,rfl,_,_,rfl,rfl,⟨b1,b1⟩,_,_,rfl,rfl,(by show (0:Int) < _; decide),?_⟩;generalize hb:(c * 6364136223846793005 + (kk + 1) * 1442695040888963407) % 340282366920938463463374607431768211507 * ((c * 6364136223846793005 + (kk + 1) * 1442695040888963407) % 340282366920938463463374607431768211507) % 340282366920938463463374607431768211297=m2
  have h2:0 <= m2/\m2 < 2 ^ 130:=by
   rw [← hb];exact ⟨Int.emod_nonneg _ (by decide),Int.lt_trans (Int.emod_lt_of_pos _ (by decide)) (by decide)⟩
  have b2:Builtin.Int.intBits m2 <= 2 ^ 20:=Nat.le_trans (EG h2.1 h2.2) (by decide)
  have p1:0 <= m2 % 18446744073709551557 + 1/\m2 % 18446744073709551557 + 1 < 2 ^ 65:=by
   have:=Int.emod_nonneg m2 (show (18446744073709551557:Int) ≠ 0 by decide);have:=Int.emod_lt_of_pos m2 (show (0:Int) < 18446744073709551557 by decide);omega
  have p2:0 <= m2 / 18446744073709551557 + 1/\m2 / 18446744073709551557 + 1 < 2 ^ 131:=by
   have h3:=Int.ediv_nonneg h2.1 (show (0:Int) <= 18446744073709551557 by decide);have h4:=Int.ediv_le_self (18446744073709551557) h2.1;omega
  have p3:0 <= (m2 % 18446744073709551557 + 1) * (m2 / 18446744073709551557 + 1):=Int.mul_nonneg p1.1 p2.1
  have p4:(m2 % 18446744073709551557 + 1) * (m2 / 18446744073709551557 + 1) < 2 ^ 196:=by
   have:=Int.mul_lt_mul' (Int.le_of_lt p1.2) p2.2 p2.1 (show (0:Int) < 2 ^ 65 by decide);exact Int.lt_of_lt_of_le this (by decide)
  have c1:Builtin.Int.intBits (m2 % 18446744073709551557 + 1) <= 2 ^ 20:=Nat.le_trans (EG p1.1 p1.2) (by decide);have c2:Builtin.Int.intBits (m2 / 18446744073709551557 + 1) <= 2 ^ 20:=Nat.le_trans (EG p2.1 p2.2) (by decide);have c3:Builtin.Int.intBits ((m2 % 18446744073709551557 + 1) * (m2 / 18446744073709551557 + 1)) <= 2 ^ 20:=Nat.le_trans (EG p3 p4) (by decide);subst hb;refine ⟨_,rfl,_,_,rfl,rfl,(by show (0:Int) < _; decide),_,_,rfl,rfl,_,rfl,_,_,rfl,rfl,⟨by decide,PyProof.noPylong_of_log2 (by decide +kernel)⟩,_,_,rfl,rfl,_,_,rfl,rfl,⟨c1,c2⟩,?_⟩;refine ⟨_,rfl,_,_,rfl,rfl,⟨c3,b2⟩,?_⟩;exact ⟨_,rfl,_,_,rfl,rfl,(by show (0:Int) < _; decide),k _ (Int.emod_nonneg _ (by decide))⟩
def F3:Sp:=fun vs H Q _=>∃ (d:Addr) (a b m:Int),vs=[.ref d,.int m]/\H d=some (.lst [.int a,.int b])/\0 < m/\m < 1073741824/\∀ r a' b':Int,0 <= r->r < m->Q (.int r) (upd H d (.lst [.int a',.int b']))
theorem scRoll:AL ["_law_dice", "_law_many", "_law_told"] ["_law_dice", "_law_many"] (defScope Fs):=fsc
theorem OH (F:Fun K "_law_roll" "_law_roll" Fs f fd) (GD:Fn P w K mg base "_law_drawn" 1 ["_law_cell_here", "_law_k"] Hr):Af P w K mg base CX0 2 f fd ["_law_dice", "_law_many"] F3:=by
 obtain ⟨fD,dD,GD,mD,kD,bD⟩:=GD.ex;refine F.ok scRoll (fun vs H Q E h=>?_) (fun ac A outer s H vs Q E hr h=>?_)
 ·obtain ⟨d,a,b,m,rfl,_⟩:=h;rfl
 ·obtain ⟨d,a,b,m,rfl,hd,m0,m1,k⟩:=h
  refine ⟨_,AD (Ak (Ac Ls (BK (A9 K rfl) (pv 0) AI (fun _ _=>rfl)) (AY Lp AI AI) (Ae _))
    (AD (Ad (i:=2) scRoll.nd rfl (Or.inl rfl) (AY DP (BK (A9 K rfl) (pv 0) AI (fun _ _=>rfl)) (pv 1)))
    (AD (CK (AY HH (BK (A9 K rfl) (pv 0) AI (fun _ _=>rfl)) (pv 1)) (Lh (pv 0) AI IM))
    (AE (AS (pv 2))))) AT)
   (AD (CK (AY Ca (BK (A9 K rfl) (pv 0) AI (fun _ _=>rfl)) AI) (Lh (pv 0) AI IM))
   (AE (AS (AY DP (AY HH (AK GD hr rfl mD kD bD .nil AM (AA (BK (A9 K rfl) (pv 0) AI (fun _ _=>rfl)) (AA (BK (A9 K rfl) (pv 0) AI (fun _ _=>rfl)) AC))) AI) (pv 1))))),?_⟩
  refine ⟨_,rfl,d,_,0,.int a,rfl,rfl,SqL.of hd,Cb (j:=0) rfl,_,_,rfl,rfl,⟨by decide,by decide,by decide⟩,_,_,rfl,rfl,_,rfl,?_⟩;refine Bc (fun _=>?_) (fun _=>?_)
  ·refine ⟨_,rfl,d,_,0,.int a,rfl,rfl,SqL.of hd,Cb (j:=0) rfl,_,rfl,_,_,rfl,rfl,m0,?_⟩;refine ⟨_,rfl,d,_,0,.int a,rfl,rfl,SqL.of hd,Cb (j:=0) rfl,_,rfl,_,_,rfl,rfl,⟨m0,m1⟩,_,rfl,d,_,0,0,rfl,rfl,hd,rfl,?_⟩;exact ⟨_,rfl,k _ (a / m) b (Int.emod_nonneg _ (by omega)) (Int.emod_lt_of_pos _ m0)⟩
  ·refine ⟨_,rfl,d,_,1,.int b,rfl,rfl,SqL.of hd,Cb (j:=1) rfl,_,_,rfl,rfl,_,rfl,d,_,1,1,rfl,rfl,hd,rfl,?_⟩;have hd2:(upd H d (.lst ([V.int a,V.int b].set 1 (V.int (b + 1))))) d=some (.lst [.int a,.int (b + 1)]):=AB;refine ⟨_,rfl,d,_,0,.int a,rfl,rfl,SqL.of hd2,Cb (j:=0) rfl,_,rfl,d,_,1,.int (b + 1),rfl,rfl,SqL.of hd2,Cb (j:=1) rfl,_,_,rfl,fun r hr0=>?_⟩;refine ⟨_,_,rfl,rfl,⟨by decide,by decide⟩,_,rfl,_,_,rfl,rfl,m0,?_⟩;exact k _ a (b + 1) (Int.emod_nonneg _ (by omega)) (Int.emod_lt_of_pos _ m0)
def F4:Sp:=fun vs H Q _=>∃ (d:Addr) (a b:Int),vs=[.ref d]/\H d=some (.lst [.int a,.int b])/\∀ (r:Str) H',r ∈ (["bar", "drop", "keep", "leave"]:List Str)->SameX d H H'->Q (.str r) H'
theorem Mw:AL ["_law_dice"] ["_law_dice"] (defScope Df):=fsc
theorem LQ (F:Fun K "_law_rule_of" "_law_rule_of" Df f fd) (GR:Fn P w K mg base "_law_roll" 2 ["_law_dice", "_law_many"] F3):Af P w K mg base CX0 3 f fd ["_law_dice"] F4:=by
 obtain ⟨fR,dR,GR,mR,kR,bR⟩:=GR.ex;refine F.ok Mw (fun vs H Q E h=>?_) (fun ac A outer s H vs Q E hr h=>?_)
 ·obtain ⟨d,a,b,rfl,_⟩:=h;rfl
 ·obtain ⟨d,a,b,rfl,hd,k⟩:=h;refine ⟨_,AE (AS (BK (A9 K rfl) (Bq (AA A0 (AA A0 (AA A0 (AA A0 AC))))) (AK GR hr rfl mR kR bR .nil AM (AA (pv 0) (AA AI AC))) (fun _ _=>rfl))),?_⟩;refine ⟨sl4,fun p hp=>?_⟩;have npd:d ≠ p:=AG hd hp;refine ⟨_,rfl,d,a,b,4,rfl,by rw [AH npd]; exact hd,by decide,by decide,fun r a' b' h0 h1=>?_⟩;have hl:(upd (upd H p (.lst [.str "bar", .str "drop", .str "keep", .str "leave"])) d (.lst [.int a',.int b'])) p=some (.lst [.str "bar", .str "drop", .str "keep", .str "leave"]):=by rw [AH (Ne.symm npd),AB]
  obtain ⟨v,hv,hv2⟩:=F2 (xs:=[V.str "bar", V.str "drop", V.str "keep", V.str "leave"]) h0 (by show r < 4; exact h1)
  have hin:∃ x,v=.str x/\x ∈ (["bar", "drop", "keep", "leave"]:List Str):=by
   have:=mem_of_getElem? hv2;simp only [mem_cons,not_mem_nil,or_false] at this;rcases this with z | z | z | z
   ·exact ⟨_,z,by simp⟩
   ·exact ⟨_,z,by simp⟩
   ·exact ⟨_,z,by simp⟩
   ·exact ⟨_,z,by simp⟩
  obtain ⟨x,rfl,hx⟩:=hin;refine ⟨p,_,r,_,rfl,rfl,SqL.of hl,hv,k x _ hx ⟨fun c o e hc=>?_,⟨a',b',AB⟩⟩⟩;rw [AH hc,AH (AG e hp)];exact e
end
theorem Kb (n k:Nat):decide (V.int (Builtin.bitAnd ((n:Int) / 2 ^ ((0:Int) + (k:Int)).toNat) 1)=V.int 1)=n.testBit k:=by
 have e0:((0:Int) + (k:Int)).toNat=k:=by omega
 have e1:(n:Int) / 2 ^ k=((n / 2 ^ k:Nat):Int):=by push_cast; rfl
 have e2:Builtin.bitAnd ((n / 2 ^ k:Nat):Int) 1=((n / 2 ^ k % 2:Nat):Int):=by
  have:=Cf (n / 2 ^ k) 1;rw [Nat.and_one_is_mod] at this;exact this
 rw [e0,e1,e2,Nat.testBit_eq_decide_div_mod_eq];refine decide_eq_decide.mpr ⟨fun h=>?_,fun h=>?_⟩
 ·have:=V.int.inj h;omega
 ·rw [h]; rfl
section
def F5 (K:FG):Sp:=fun vs H Q _=>∃ (a:Addr) (ns:List Int),vs=[.ref a,.int 3]/\SqL K H a (ns.map V.int)/\ns.length <= 63 /\
 ∀ (l:Addr) (as:List Addr) H',Same H H'->H' l=some (.lst (as.map V.ref))->as.Nodup->l ∉ as->as.length <= 4->(∀ b ∈ as,H b=none/\∃ x y:Int,H' b=some (.lst [.int x,.int y]))->Q (.ref l) H'
theorem Mx:AL ["_law_script", "_law_most"] ["_law_script", "_law_most"] (defScope Dd):=fsc
theorem LR (F:Fun K "_law_rounds" "_law_rounds" Dd f fd) (B:Bl mg) (GC:Fn P w K mg base "_law_cell" 1 ["_law_script", "_law_k"] (Jv K)):Af P w K mg base CX0 2 f fd ["_law_script", "_law_most"] (F5 K):=by
 obtain ⟨fC,dC,GC,mC,kC,bC⟩:=GC.ex;refine F.ok Mx (fun vs H Q E h=>?_) (fun ac A outer s H vs Q E hr h=>?_)
 ·obtain ⟨a,ns,rfl,_⟩:=h;rfl
 ·obtain ⟨a,ns,rfl,hS,h63,k⟩:=h
  refine ⟨_,AE (AS (Az ["_law_script"] [some 0] (by kernel_rfl) (by decide +kernel) (by kernel_rfl) rfl
   (CP rfl B.range (AA (AW (Ko rfl) rfl B.max PL (AA AI (AA (AW (Kp rfl) rfl B.min PJ (AA (pv 1) (AA (AW (Ax K rfl) rfl B.len PySem.boot_len (AA (pv 0) AC)) AC))) AC))) AC))
   (fun _ _ _ _ _ _=>A3)
   (fun _ _ _ _ _ _=>Bq (AA (AK GC hr rfl mC kC bC .nil AM (AA (pv 1) (AA (pv 0) AC))) (AA AI AC))))),?_⟩
  have hl:(ns.map V.int).length=ns.length:=length_map _;refine ⟨_,rfl,_,rfl,a,_,rfl,.inl hS,_,_,rfl,_,_,rfl,_,rfl,?_,?_,?_⟩
  ·split <;> split <;> omega
  ·split <;> split <;> omega
  ·generalize hn:(if (if (((ns.map V.int).length:Nat):Int) < 3 then (((ns.map V.int).length:Nat):Int) else 3) > 1 then (if (((ns.map V.int).length:Nat):Int) < 3 then (((ns.map V.int).length:Nat):Int) else 3) else 1).toNat=n
   have n5:n <= 4:=by
    rw [← hn];split <;> split <;> omega
   refine Cd (lo:=0) (n:=n) (fun i ys H2=>∃ as:List Addr,ys=as.map V.ref/\as.length=i/\i <= 4/\Same H H2/\as.Nodup/\∀ b ∈ as,H b=none/\∃ x y:Int,H2 b=some (.lst [.int x,.int y])) ⟨[],rfl,rfl,by decide,Same.refl _,nodup_nil,fun b hb=>nomatch hb⟩ ?_ ?_ ?_
   ·rintro i ys H2 ⟨as,rfl,e,h5,_⟩;rw [length_map]; omega
   ·rintro i ys H2 hi ⟨as,rfl,e,h5,s2,nd,hb⟩;refine ⟨_,rfl,_,rfl,a,ns,_,rfl,s2.seq hS,h63,by omega,fun v H3 s3=>⟨sl2,fun p hp=>?_⟩⟩;refine ⟨as++[p],by rw [map_append]; rfl,by rw [length_append,e]; rfl,by omega,AF (s2.trans s3) hp,?_,fun b hb'=>?_⟩
    ·refine nodup_append.mpr ⟨nd,nodup_cons.mpr ⟨not_mem_nil,nodup_nil⟩,?_⟩;intro x hx y hy;rw [mem_singleton] at hy;subst hy;obtain ⟨_,x1,y1,e1⟩:=hb x hx;exact AG (s3 _ _ e1) hp
    ·rcases mem_append.mp hb' with z | z
     ·obtain ⟨h0,x1,y1,e1⟩:=hb b z;exact ⟨h0,x1,y1,AF s3 hp _ _ e1⟩
     ·rw [mem_singleton] at z;subst z;refine ⟨?_,v,0,AB⟩;cases e:H b with
      | none=>rfl
      | some o =>
       have:=s3 _ _ (s2 _ _ e);rw [this] at hp;cases hp
   ·rintro ys H2 ⟨as,rfl,e,h5,s2,nd,hb⟩ l hl;refine k l as _ (AF s2 hl) AB nd ?_ (by omega) fun b hb'=>?_
    ·intro z;obtain ⟨_,x,y,e1⟩:=hb l z;rw [e1] at hl; cases hl
    ·obtain ⟨h0,x,y,e1⟩:=hb b hb';exact ⟨h0,x,y,AF (Same.refl _) hl _ _ e1⟩
def F6:Sp:=fun vs H Q _=>∃ n:Nat,vs=[.int (n:Int)]/\∀ l ys H',Same H H'->H' l=some (.lst ys)->ys.length=(Ch n).length->Q (.ref l) H'
theorem My:AL ["_law_number"] ["_law_number"] (defScope De):=fsc
theorem LS (F:Fun K "_law_bits_of" "_law_bits_of" De f fd) (B:Bl mg):Af P w K mg base CX0 1 f fd ["_law_number"] F6:=by
 refine F.ok My (fun vs H Q E h=>?_) (fun ac A outer s H vs Q E hr h=>?_)
 ·obtain ⟨n,rfl,_⟩:=h;rfl
 ·obtain ⟨n,rfl,k⟩:=h
  refine ⟨_,AE (AS (Az ["_law_number"] [some 0] (by kernel_rfl) (by decide +kernel) (by kernel_rfl) rfl (CP rfl B.range (AA AI AC))
   (fun _ _ _ _ _ _=>D0 (Ac Dr (AY DQ (AY Ox (pv 1) (pv 0)) AI) AI (Ae _)))
   (fun _ _ _ _ _ _=>AY HI AI (pv 0)))),?_⟩
  refine ⟨42,rfl,by decide,by decide,?_⟩;refine Cd (lo:=0) (n:=42) (fun i ys H2=>ys.length=((List.range i).filter fun k=>n.testBit k).length/\i <= 42/\H2=H) ⟨rfl,by decide,rfl⟩ ?_ ?_ ?_
  ·rintro i ys H2 ⟨e,hi,_⟩;rw [e];have:=length_filter_le (fun k=>n.testBit k) (List.range i);rw [List.length_range] at this;omega
  ·rintro i ys H2 hi ⟨e,_,rfl⟩;refine ⟨_,rfl,_,rfl,_,_,rfl,rfl,(by omega),_,_,rfl,rfl,?_⟩;refine ⟨rfl,_,rfl,?_⟩
   have er:((List.range (i + 1)).filter fun k=>n.testBit k).length=((List.range i).filter fun k=>n.testBit k).length + (if n.testBit i then 1 else 0):=by
    rw [List.range_succ,filter_append,length_append,filter_cons,filter_nil];split <;> rfl
   refine Bc (fun h=>?_) (fun h=>?_)
   ·have hb:n.testBit i=true:=by rw [← Kb]; exact h
    refine ⟨_,rfl,_,_,rfl,rfl,⟨by omega,by first | decide | omega,by first | decide | omega⟩,?_,by omega,rfl⟩;rw [er,hb,length_append,e]; rfl
   ·have hb:n.testBit i=false:=by rw [← Kb]; exact Bool.eq_false_iff.mpr h
    refine ⟨?_,by omega,rfl⟩;rw [er,hb,e]; rfl
  ·rintro ys H2 ⟨e,_,rfl⟩ l hl;exact k l ys _ (AF (Same.refl _) hl) AB e
end
end Mk
end
section
namespace L2
open PySem
def Q3 (t u:TS):TS:=fun D σ H=>∃ G:St->Hp->Prop,(∀ R:St->Hp->Prop,(∀ σ H,G σ H->R σ H)->t { D with nx:=R } σ H)/\∀ σ H,G σ H->u D σ H
theorem CH {X:Cx} {st:Stmt} {rest:List Stmt} {t u:TS} (h1:PS X st t) (h2:PSs X rest u):PSs X (st :: rest) (Q3 t u):=fun aa s σ H D I ⟨_,a,b⟩=>AD h1 h2 aa s σ H D I (a (u D) b)
end L2
namespace Mk
open PySem L2 MK
def SameT (H H':Hp):Prop:=∀ b xs,H b=some (.tup xs)->H' b=some (.tup xs)
theorem SameT.of (s:Same H H'):SameT H H':=fun b xs e=>s _ _ e
theorem SameT.upd {d:Addr} {xs ys:List V} (h:H d=some (.lst xs)):SameT H (upd H d (.lst ys)):=fun b zs e=>by
 rw [AH (fun z=>by subst z; rw [h] at e; cases e)]; exact e
theorem SameT.trans {H1 H2:Hp} (x:SameT H H1) (y:SameT H1 H2):SameT H H2:=fun b xs e=>y _ _ (x _ _ e)
theorem TupsAt.sameT {as:List Addr} {ps:List (V × V)} (s:SameT H H') (h:TupsAt H as ps):TupsAt H' as ps:=Paired.mapP h fun _ _ e=>s _ _ e
theorem ThAt.sameT {v:V} {th:Th} (s:SameT H H') (h:ThAt H v th):ThAt H' v th:=by
 cases th with
 | non=>exact h
 | num n=>exact h
 | nms ns=>obtain ⟨a,e,h⟩:=h; exact ⟨a,e,s _ _ h⟩
theorem RowAt.sameT {b:Addr} {r:Str × Th} (s:SameT H H') (h:RowAt H b r):RowAt H' b r:=by
 obtain ⟨tv,e,t⟩:=h;exact ⟨tv,s _ _ e,t.sameT s⟩
theorem BB {as:List Addr} {rows:List (Str × Th)} (s:SameT H H') (h:Paired (RowAt H) as rows):Paired (RowAt H') as rows:=Paired.mapP h fun _ _ e=>e.sameT s
def Dj (due:LN):List PyData:=due.map fun p=>.tuple [.str p.1,.int (p.2:Int)]
theorem Mz {b:Addr} {x:Str} {n:Int} (h:H b=some (.tup [.str x,.int n])):B6 K H (.tuple [.str x,.int n]) (.ref b):=by
 rw [B6];refine ⟨b,_,rfl,SqT.of h,?_⟩;rw [BV];refine ⟨_,_,rfl,by rw [B6],?_⟩;rw [BV];refine ⟨_,_,rfl,by rw [B6],?_⟩;rw [BV]
theorem EH:∀ {due:LN} {bs:List Addr},TupsAt H bs (Cq due)->BV K H (Dj due) (bs.map V.ref)
 | [],bs,h=>by
  have:bs=[]:=List.eq_nil_of_length_eq_zero (by rw [h.length]; rfl);subst this;show BV K H [] [];rw [BV]
 | p :: r,[],h=>by have:=h.length; simp [Cq] at this
 | p :: r,b :: bs,h=>by
  have hh:H b=some (.tup [.str p.1,.int (p.2:Int)])/\TupsAt H bs (Cq r):=by
   cases h with
   | cons h1 h2=>exact ⟨h1,h2⟩
  show BV K H (.tuple [.str p.1,.int (p.2:Int)] :: Dj r) (V.ref b :: bs.map V.ref);rw [BV];exact ⟨_,_,rfl,Mz hh.1,EH hh.2⟩
theorem EJ {l:Addr} {ds:List PyData} {xs:List V} (h:H l=some (.lst xs)) (d:BV K H ds xs):B6 K H (.list ds) (.ref l):=by
 rw [B6];exact ⟨l,xs,rfl,SqL.of h,d⟩
theorem OI:BV K H [] []:=by rw [BV]
theorem OJ (ds:List PyData):PyData.eqv (.list ds) (.list [])=ds.isEmpty:=by
 cases ds with
 | nil=>rfl
 | cons a r=>simp [PyData.eqv,PyData.eqvAll]
theorem M0 {x:Str} (h:x.cps.all (· < 128)=true):PyData.strOk x=true:=by
 unfold PyData.strOk;simp only [Array.all_eq_true,decide_eq_true_eq] at h ⊢;intro i hi;have:=h i hi;simp;omega
theorem Jw {ds:List PyData} (h:∀ d ∈ ds,d.canLay0=true):PyData.canLayAll0 ds=true:=by
 induction ds with
 | nil=>rfl
 | cons a r ih=>rw [PyData.canLayAll0,h a mem_cons_self,ih fun d hd=>h d (mem_cons_of_mem _ hd)]; rfl
theorem PU {ds:List PyData} {k:Nat} (h:∀ d ∈ ds,d.depth <= k):PyData.depthAll ds <= k:=by
 induction ds with
 | nil=>rw [PyData.depthAll]; exact Nat.zero_le _
 | cons a r ih=>rw [PyData.depthAll]; exact Nat.max_le.mpr ⟨h a mem_cons_self,ih fun d hd=>h d (mem_cons_of_mem _ hd)⟩
theorem Iq {ds:List PyData} (h:∀ d ∈ ds,d.canLay0=true/\d.depth <= 60):SeqAt.shaped (.list ds)=true:=by
 unfold SeqAt.shaped;rw [Bool.and_eq_true,decide_eq_true_eq];refine ⟨by rw [PyData.canLay0]; exact Jw fun d hd=>(h d hd).1,?_⟩;rw [PyData.depth];have:=PU (k:=60) fun d hd=>(h d hd).2;omega
theorem M6 {x:Str} {n:Int} (h:x.cps.all (· < 128)=true):(PyData.tuple [.str x,.int n]).canLay0=true/\(PyData.tuple [.str x,.int n]).depth <= 60:=by
 refine ⟨?_,?_⟩
 ·rw [PyData.canLay0];refine Jw fun d hd=>?_;simp only [mem_cons,not_mem_nil,or_false] at hd;rcases hd with rfl | rfl
  ·rw [PyData.canLay0]; exact M0 h
  ·rw [PyData.canLay0]
 ·simp only [PyData.depth,PyData.depthAll];omega
theorem C7 (h:∀ p ∈ due,p.1.cps.all (· < 128)=true):SeqAt.shaped (.list (Dj due))=true:=Iq fun d hd=>by
 obtain ⟨p,hp,rfl⟩:=mem_map.mp hd;exact M6 (h p hp)
theorem Jx:SeqAt.shaped (.list [])=true:=by decide +kernel
def uni (due:LN) (ns:List Str):Nat:=AX (due.map fun p=>if inV (.str p.1) (ns.map V.str) then p.2 else 0)
theorem Kc (x:Str) (ns:List Str):inV (.str x) (ns.map V.str)=ns.any (· == x):=by
 unfold inV;rw [any_map];rfl
theorem EK {p:Str × Nat} (nd:(due.map (·.1)).Nodup) (h:p ∈ due):look due p.1=p.2:=by
 induction due with
 | nil=>cases h
 | cons q r ih =>
  rw [map_cons,nodup_cons] at nd;unfold look;by_cases e:q.1=p.1
  ·rw [List.find?_cons_of_pos (by simpa using e)];rcases mem_cons.mp h with z | z
   ·subst z; rfl
   ·exact absurd (mem_map.mpr ⟨p,z,e.symm⟩) nd.1
  ·rw [List.find?_cons_of_neg (by simpa using e)];rcases mem_cons.mp h with z | z
   ·subst z; exact absurd rfl e
   ·exact ih nd.2 z
theorem PV {ns:List Str} (nd:(due.map (·.1)).Nodup) (hs:∀ x ∈ ns,x ∈ due.map (·.1)):uni due ns=AX (ns.map (look due)):=by
 refine Nat.eq_of_testBit_eq fun k=>?_;unfold uni;rw [BW,BW,any_map,any_map,Bool.eq_iff_iff,any_eq_true,any_eq_true];constructor
 ·rintro ⟨p,hp,hb⟩;simp only [Function.comp] at hb;by_cases hi:inV (.str p.1) (ns.map V.str)=true
  ·rw [if_pos hi] at hb;rw [Kc,any_eq_true] at hi;obtain ⟨x,hx,e⟩:=hi;have e':x=p.1:=by simpa using e
   subst e';exact ⟨p.1,hx,by simp only [Function.comp]; rw [EK nd hp]; exact hb⟩
  ·rw [if_neg hi,Nat.zero_testBit] at hb;cases hb
 ·rintro ⟨x,hx,hb⟩;obtain ⟨p,hp,rfl⟩:=mem_map.mp (hs x hx);refine ⟨p,hp,?_⟩;simp only [Function.comp] at hb ⊢;rw [EK nd hp] at hb;rw [if_pos (by rw [Kc,any_eq_true]; exact ⟨p.1,hx,by simp⟩)];exact hb
theorem Ir {rows:List (Str × Th)} {r:Str × Th} (h:Cn rows) (hr:KW (AV rows) r):Cn (rows++[r]):=by
 intro i q e;rcases Nat.lt_trichotomy i rows.length with z | z | z
 ·rw [List.getElem?_append_left z] at e;rw [List.take_append_of_le_length (Nat.le_of_lt z)];exact h i q e
 ·subst z;rw [List.getElem?_append_right (Nat.le_refl _),Nat.sub_self] at e;have:r=q:=by simpa using e
  subst this;rw [List.take_append_of_le_length (Nat.le_refl _),take_length];exact hr
 ·rw [List.getElem?_eq_none (by rw [length_append,length_singleton]; omega)] at e;cases e
theorem EL {rows:List (Str × Th)} (h:Cn rows) (h10:rows.length <= 10):Ik (AV rows):=by
 have key:∀ n,n <= rows.length->Ik (AV (rows.take n)):=by
  intro n;induction n with
  | zero=>intro _; rw [List.take_zero]; exact ⟨by decide,(fun p hp=>nomatch hp),nodup_nil,(fun p hp=>nomatch hp)⟩
  | succ n ih =>
   intro hn;have D:=ih (by omega);have hq:rows[n]?=some rows[n]:=List.getElem?_eq_getElem (by omega);have R:=h n _ hq;rw [take_add_one,hq,Option.toList_some,Es];refine ⟨?_,fun p hp=>?_,?_,fun p hp=>?_⟩
   ·rw [length_append,length_singleton]; have:=R.few; omega
   ·rcases mem_append.mp hp with z | z
    ·exact D.lt p z
    ·rw [mem_singleton] at z; subst z; exact R.lt
   ·rw [map_append];refine nodup_append.mpr ⟨D.nd,nodup_cons.mpr ⟨not_mem_nil,nodup_nil⟩,?_⟩;intro x hx y hy;have ey:y=(rows[n]).1:=by simpa using hy
    subst ey;exact fun z=>R.new (z ▸ hx)
   ·rcases mem_append.mp hp with z | z
    ·exact D.nm p z
    ·rw [mem_singleton] at z; subst z; exact R.nm
 have:=key rows.length (Nat.le_refl _);rw [take_length] at this;exact this
theorem PX {A B:TT} {σ:St} {Q:Bool->Hp->Prop} (p q:Bool) (hA:∀ Q':Bool->Hp->Prop,Q' p H->A σ H Q') (hB:∀ Q':Bool->Hp->Prop,Q' q H->B σ H Q') (h:Q (p || q) H):tOr A B σ H Q:=by
 refine hA _ ?_;cases p with
 | true=>exact CA h
 | false=>exact Aw (hB _ h)
theorem OK {A B:TT} {σ:St} {Q:Bool->Hp->Prop} (p q:Bool) (hA:∀ Q':Bool->Hp->Prop,Q' p H->A σ H Q') (hB:∀ Q':Bool->Hp->Prop,(∀ H',Same H H'->Q' q H')->B σ H Q') (h:∀ H',Same H H'->Q (p && q) H'):Pw A B σ H Q:=by
 refine hA _ ?_;cases p with
 | true=>exact CA (hB _ h)
 | false=>exact Aw (h _ (Same.refl _))
theorem G1 {p:Addr} (s:Same H H') (h:H' p=none):H p=none:=by
 cases e:H p with
 | none=>rfl
 | some o=>rw [s _ _ e] at h; cases h
theorem CM {X:Cx} {x:Str} {j} {p:Pos} {es:List Expr} {t:TA} (h:PA X es t):PA X (.Constant (.str x) j p :: es) (A5 (tC (.str x)) t):=AA A0 h
theorem LU {X:Cx} {x0 x1 x2 x3 x4 x5 x6 x7 x8 x9:Str} {j0} {j1} {j2} {j3} {j4} {j5} {j6} {j7} {j8} {j9} {p0 p1 p2 p3 p4 p5 p6 p7 p8 p9:Pos}:PA X [.Constant (.str x0) j0 p0,.Constant (.str x1) j1 p1,.Constant (.str x2) j2 p2,.Constant (.str x3) j3 p3,.Constant (.str x4) j4 p4,.Constant (.str x5) j5 p5,.Constant (.str x6) j6 p6,.Constant (.str x7) j7 p7,.Constant (.str x8) j8 p8,.Constant (.str x9) j9 p9] (A5 (tC (.str x0)) (A5 (tC (.str x1)) (A5 (tC (.str x2)) (A5 (tC (.str x3)) (A5 (tC (.str x4)) (A5 (tC (.str x5)) (A5 (tC (.str x6)) (A5 (tC (.str x7)) (A5 (tC (.str x8)) (A5 (tC (.str x9)) (IK))))))))))):=CM (CM (CM (CM (CM (CM (CM (CM (CM (CM (AC))))))))))
theorem Bw {bs:List Addr} {i:Nat} {v:V} (h:TupsAt H bs (Cq due)) (e:(bs.map V.ref)[i]?=some v):∃ b p,v=.ref b/\bs[i]?=some b/\due[i]?=some p/\H b=some (.tup [.str p.1,.int (p.2:Int)]):=by
 rw [getElem?_map] at e
 obtain ⟨b,hb,rfl⟩:∃ b,bs[i]?=some b/\v=V.ref b:=by
  cases q:bs[i]? with
  | none=>rw [q] at e; cases e
  | some x=>rw [q] at e; exact ⟨x,rfl,(Option.some.inj e).symm⟩
 obtain ⟨pq,hpq,ak⟩:=Ip h hb;unfold Cq at hpq;rw [getElem?_map] at hpq
 obtain ⟨pr,hpr,rfl⟩:∃ q,due[i]?=some q/\pq=(V.str q.1,V.int (q.2:Int)):=by
  cases q:due[i]? with
  | none=>rw [q] at hpq; cases hpq
  | some x=>rw [q] at hpq; exact ⟨x,rfl,(Option.some.inj hpq).symm⟩
 exact ⟨b,pr,rfl,hb,hpr,ak⟩
def wordsL:List Str:=["A", "B", "CD", "EFG", "H", "IJKLMN", "O", "P", "Q", "R"]
theorem M7:∀ x ∈ wordsL,QQ x:=by
 have:∀ x ∈ wordsL,(Ga x && x.cps.all (· < 128) && decide (x.length <= 1000))=true:=by decide +kernel
 intro x hx;have:=this x hx;simp only [Bool.and_eq_true,decide_eq_true_eq] at this;exact ⟨this.1.1,this.1.2,this.2⟩
theorem LV:∀ i:Fin 10,(wordsL[i.1]?.map fun x=>decide (x ∈ wordsL.take i.1))=some false:=by decide +kernel
structure LW (d w f u:Addr) (H0 H:Hp) (rows:List (Str × Th)):Prop where
 old:∀ b o,H0 b=some o->b ≠ d->H b=some o
 dice:∃ a b:Int,H d=some (.lst [.int a,.int b])
 words:H w=some (.lst (wordsL.map V.str))
 found:∃ as:List Addr,H f=some (.lst (as.map V.ref))/\Paired (RowAt H) as rows
 due:∃ bs:List Addr,H u=some (.lst (bs.map V.ref))/\TupsAt H bs (Cq (AV rows))
structure Ap (d w f u:Addr) (H0:Hp):Prop where
 wd:w ≠ d
 fd:f ≠ d
 ud:u ≠ d
 wf:w ≠ f
 wu:w ≠ u
 fu:f ≠ u
 nf:H0 f=none
 nu:H0 u=none
section
variable {d w u:Addr} {H0:Hp} {rows:List (Str × Th)}
theorem LW.same (h:LW d w f u H0 H rows) (s:Same H H'):LW d w f u H0 H' rows:=by
 obtain ⟨a,b,e⟩:=h.dice;obtain ⟨as,e1,p1⟩:=h.found;obtain ⟨bs,e2,p2⟩:=h.due;exact ⟨fun c o ec hc=>s _ _ (h.old c o ec hc),⟨a,b,s _ _ e⟩,s _ _ h.words,⟨as,s _ _ e1,BB (SameT.of s) p1⟩,⟨bs,s _ _ e2,TupsAt.sameT (SameT.of s) p2⟩⟩
theorem LW.roll (A:Ap d w f u H0) (h:LW d w f u H0 H rows) (a' b':Int):LW d w f u H0 (upd H d (.lst [.int a',.int b'])) rows:=by
 obtain ⟨a,b,e⟩:=h.dice;obtain ⟨as,e1,p1⟩:=h.found;obtain ⟨bs,e2,p2⟩:=h.due;have t:SameT H (upd H d (.lst [.int a',.int b'])):=SameT.upd e;exact ⟨fun c o ec hc=>by rw [AH hc]; exact h.old c o ec hc,⟨a',b',AB⟩,by rw [AH A.wd]; exact h.words,⟨as,by rw [AH A.fd]; exact e1,BB t p1⟩,⟨bs,by rw [AH A.ud]; exact e2,TupsAt.sameT t p2⟩⟩
end
theorem Bx {rows:List (Str × Th)} {bs:List Addr} (h:TupsAt H bs (Cq (AV rows))):bs.length=rows.length:=by
 rw [h.length]; unfold Cq; rw [length_map,Ao]
theorem M8 (rows:List (Str × Th)):(AV rows).map (·.1)=rows.map (·.1):=by
 have:∀ (l:List (Str × Th)) (a:LN),((l.foldl (fun due r=>due++[(r.1,CD due r.2)]) a).map (·.1))=a.map (·.1)++l.map (·.1):=by
  intro l;induction l with
  | nil=>intro a; simp
  | cons x r ih=>intro a; rw [foldl_cons,ih,map_append]; simp
 have e:=this rows [];unfold AV;rw [e]; rfl
def Q4:St->Nat
 | [_,_,_,_,_,_,_,_,_,some (.int i),_,_]=>(2 ^ 22 - i).toNat
 | _=>0
section
def Hs:Sp:=fun vs H Q _=>∃ (d:Addr) (a b M:Int),vs=[.ref d,.int M]/\1 <= M/\M <= 10/\H d=some (.lst [.int a,.int b]) /\
 ∀ (q f u:Addr) (as bs:List Addr) (rows:List (Str × Th)) H',SameX d H H'->H' q=some (.tup [.ref f,.ref u])->H f=none->H u=none->H' f=some (.lst (as.map V.ref))->Paired (RowAt H') as rows->H' u=some (.lst (bs.map V.ref))->TupsAt H' bs (Cq (AV rows)) ->
  0 < rows.length->(rows.length:Int) <= M->Cn rows->(∀ x ∈ rows.map (·.1),x ∈ wordsL)->Q (.ref q) H'
abbrev PY:List Str:=["_law_dice", "_law_most", "_law_words", "_law_found", "_law_due", "_law_at", "_law_high", "_law_kind", "_law_thing", "_law_number", "_law_name", "_law_more"]
@[irreducible] def Jy:Expr:=match defBody Bh with | .Assign _ (.Tuple (e :: _) _ _) _ :: _=>e | _=>.Constant .none 0 ⟨0,0,0,0⟩
abbrev OL:Stmt:=match defBody Bh with | .Assign t (.Tuple (_ :: r) k p) q :: _=>.Assign t (.Tuple (Jy :: r) k p) q | _=>.Pass ⟨0,0,0,0⟩
abbrev PZ:List Stmt:=(defBody Bh).drop 1
theorem Pa:defBody Bh=OL :: PZ:=by kernel_rfl
theorem LX {X:Cx}:PE X Jy (P8 (A5 (tC (.str "A")) (A5 (tC (.str "B")) (A5 (tC (.str "CD")) (A5 (tC (.str "EFG")) (A5 (tC (.str "H")) (A5 (tC (.str "IJKLMN")) (A5 (tC (.str "O")) (A5 (tC (.str "P")) (A5 (tC (.str "Q")) (A5 (tC (.str "R")) (IK)))))))))))):=by
 unfold Jy;exact Bq LU
theorem scLines:AL PY ["_law_dice", "_law_most"] (defScope Bh):=fsc
theorem M9 {f0:Addr} (F:Fun K "_law_lines" "_law_lines" Bh f0 fd) (B:Bl mg) (GR:Fn P w K mg base "_law_roll" 2 ["_law_dice", "_law_many"] F3):Af P w K mg base CX0 3 f0 fd ["_law_dice", "_law_most"] Hs:=by
 obtain ⟨fR,dR,GR,mR,kR,bR⟩:=GR.ex;refine F.ok scLines (fun vs H Q E h=>?_) (fun ac A outer s H vs Q E hr h=>?_)
 ·obtain ⟨d,a,b,M,rfl,_⟩:=h;rfl
 ·obtain ⟨d,a,b,M,rfl,M1,M10,hd,k⟩:=h;have hu64:=hr.units;have nd:=scLines.nd;rw [Pa]
  refine ⟨_,AD (CK (hs:=by kernel_rfl) (hw:=by kernel_rfl) (BQ (AA (hs:=by kernel_rfl) LX (AA (Bq AC) (AA (Bq AC) AC))))
    (BJ rfl (AR (AO (i:=2) scLines.nd rfl (Or.inl rfl)) (AR (AO (i:=3) scLines.nd rfl (Or.inl rfl)) (AR (AO (i:=4) scLines.nd rfl (Or.inr rfl)) Ay)))))
   (AD (BP PassesOwn.never rfl (CP rfl B.range (AA (AY Ca AI (AK GR hr rfl mR kR bR .nil AM (AA (pv 0) (AA (pv 1) AC)))) AC)) (AO (i:=5) scLines.nd rfl (Or.inl rfl))
    (CH (Ad (i:=6) scLines.nd rfl (Or.inl rfl) (KS rfl rfl B.max (Cu [] [] (by kernel_rfl) (by decide +kernel) (by kernel_rfl) (by kernel_rfl) rfl (Al (pv 4)) (fun _ _ _ _ _ _=>A3) (fun _ _ _ _ _ _=>pv 1)) AI))
    (AD (Ad (i:=7) scLines.nd rfl (Or.inl rfl) (AK GR hr rfl mR kR bR .nil AM (AA (pv 0) (AA AI AC))))
    (AD (CK (hs:=by kernel_rfl) (hw:=by kernel_rfl) (BQ (AA JO (AA AI AC))) (BJ rfl (AR (AO (i:=8) scLines.nd rfl (Or.inl rfl)) (AR (AO (i:=9) scLines.nd rfl (Or.inl rfl)) Ay))))
    (CH (Lk PassesOwn.never (Ac Dt (pv 9) (pv 6) (Ae _)) (AE (Ad (i:=9) scLines.nd rfl (Or.inl rfl) (AY FN (pv 9) AI))))
    (CH (Ak (PW.pt (CN (Ac Dr (pv 7) AI (Ae _)) (Bz (Ac Ls (pv 9) (AY Lp AI AI) (Ae _)))))
      (AD (Ad (i:=8) scLines.nd rfl (Or.inl rfl) (BK (A9 K rfl) (Bq (AA (AY HI AI (AK GR hr rfl mR kR bR .nil AM (AA (pv 0) (AA AI AC)))) (AA (AK GR hr rfl mR kR bR .nil AM (AA (pv 0) (AA AI AC)))
       (AA (AY HI AI (AK GR hr rfl mR kR bR .nil AM (AA (pv 0) (AA AI AC)))) (AA AI AC))))) (AK GR hr rfl mR kR bR .nil AM (AA (pv 0) (AA AI AC))) (fun _ _=>rfl)))
      (AE (Ad (i:=9) scLines.nd rfl (Or.inl rfl) (pv 8)))) AT)
    (CH (Ak (PW.pt (Ed (Ac KJ (pv 7) AI (Ae _)) (C9 (Ac (MS K rfl hu64) (pv 4) (Bq AC) (Ae _)))))
      (AD (Ad (i:=8) scLines.nd rfl (Or.inl rfl) (BU DK rfl B.tuple B7 (AA (Az ["_law_due", "_law_dice"] [some 4,some 0] (by kernel_rfl) (by decide +kernel) (by kernel_rfl) rfl (CP rfl B.range (AA (AY Ca AI (AK GR hr rfl mR kR bR .nil AM (AA (pv 0) (AA AI AC)))) AC)) (fun _ _ _ _ _ _=>A3)
       (fun _ _ _ _ _ _=>BK (Bj K rfl) (BK (A9 K rfl) (pv 1) (AK GR hr rfl mR kR bR .nil AM (AA (pv 2) (AA (AW (Ax K rfl) rfl B.len PySem.boot_len (AA (pv 1) AC)) AC))) (fun _ _=>rfl)) AI (fun _ _=>rfl))) AC)))
      (AD (Ad (i:=9) scLines.nd rfl (Or.inl rfl) AI)
      (AE (BP PassesOwn.never rfl (Al (pv 4)) (BJ rfl (AR (AO (i:=10) scLines.nd rfl (Or.inl rfl)) (AR (AO (i:=11) scLines.nd rfl (Or.inl rfl)) Ay)))
       (AE (Ad (i:=9) scLines.nd rfl (Or.inl rfl) (AY FO (pv 9) (FL (Ac Gj (pv 10) (pv 8) rfl) (pv 11) AI)))))))) AT)
    (AD (Dp (IN PySem.F.plainAttrs_list PySem.F.slot_list_append PySem.F.type_list_append Gk (pv 3) (AA (BQ (AA (BK (A9 K rfl) (pv 2) (pv 5) (fun _ _=>rfl)) (AA (pv 8) AC))) AC)))
    (AE (Dp (IN PySem.F.plainAttrs_list PySem.F.slot_list_append PySem.F.type_list_append Gk (pv 4) (AA (BQ (AA (BK (A9 K rfl) (pv 2) (pv 5) (fun _ _=>rfl)) (AA (pv 9) AC))) AC))))))))))))
   (AE (AS (BQ (AA (pv 3) (AA (pv 4) AC)))))),?_⟩
  refine ⟨(by show 10 <= sizeLine; decide),fun pw hpw=>⟨Nat.zero_le _,fun pf hpf=>⟨Nat.zero_le _,fun pu hpu=>⟨sl3,fun q0 hq0=>?_⟩⟩⟩⟩;refine ⟨q0,_,rfl,SqT.of AB,rfl,_,_,rfl,_,_,rfl,_,_,rfl,rfl,?_⟩;have dw:pw ≠ d:=Ne.symm (AG hd hpw);have s1:Same H (upd H pw (.lst (wordsL.map V.str))):=AF (Same.refl _) hpw;have s2:Same (upd H pw (.lst (wordsL.map V.str))) (upd (upd H pw (.lst (wordsL.map V.str))) pf (.lst [])):=AF (Same.refl _) hpf;have s3:Same (upd (upd H pw (.lst (wordsL.map V.str))) pf (.lst [])) (upd (upd (upd H pw (.lst (wordsL.map V.str))) pf (.lst [])) pu (.lst [])):=AF (Same.refl _) hpu;have s4:=AF (Same.refl _) hq0 (o:=HO.tup [.ref pw,.ref pf,.ref pu]);have nf0:H pf=none:=G1 s1 hpf;have nu0:H pu=none:=G1 (s1.trans s2) hpu;have AP:Ap d pw pf pu H:=⟨dw,Ne.symm (AG hd nf0),Ne.symm (AG hd nu0),AG AB hpf,AG (s2 _ _ AB) hpu,AG AB hpu,nf0,nu0⟩;have L0:LW d pw pf pu H _ []:=⟨fun b o e _=>s4 _ _ (s3 _ _ (s2 _ _ (s1 _ _ e))),⟨a,b,s4 _ _ (s3 _ _ (s2 _ _ (s1 _ _ hd)))⟩,s4 _ _ (s3 _ _ (s2 _ _ AB)),⟨[],s4 _ _ (s3 _ _ AB),.nil⟩,⟨[],s4 _ _ AB,.nil⟩⟩;obtain ⟨a1,b1,hd1⟩:=L0.dice;refine ⟨_,rfl,_,rfl,d,a1,b1,M,rfl,hd1,by omega,by omega,fun r a' b' h0 h1=>?_⟩;refine ⟨_,_,rfl,rfl,_,rfl,by omega,by omega,?_⟩
  refine Kn (lo:=0) (n:=(1 + r).toNat) (fun i σ H2=>∃ (v5 v6 v7 v8 v9 v10 v11:Option V) (rows:List (Str × Th)),σ=[some (.ref d),some (.int M),some (.ref pw),some (.ref pf),some (.ref pu),v5,v6,v7,v8,v9,v10,v11]/\rows.length=i/\Cn rows/\rows.map (·.1)=wordsL.take i/\LW d pw pf pu H H2 rows)
   ⟨none,none,none,none,none,none,none,[],rfl,rfl,(fun i r e=>by simp at e),rfl,L0.roll AP a' b'⟩ ?_ ?_
  ·rintro i σ H2 hi ⟨v5,v6,v7,v8,v9,v10,v11,rows,rfl,bd,RO,bz,L⟩;have hi10:i < 10:=by omega
   have DO:Ik (AV rows):=EL RO (by omega);generalize bo:C4 ((AV rows).map (·.2))=bf
   have hh20:bf < 2 ^ 20:=by
    rw [← bo];exact Ig (by decide) fun n hn=>by obtain ⟨p,hp,rfl⟩:=mem_map.mp hn; exact DO.lt p hp
   refine ⟨fun σ H3=>σ=[some (.ref d),some (.int M),some (.ref pw),some (.ref pf),some (.ref pu),some (.int (0 + (i:Int))),some (.int (bf:Int)),v7,v8,v9,v10,v11]/\LW d pw pf pu H H3 rows,fun R hR=>?_,?_⟩
   ·obtain ⟨bs,hu,ap⟩:=L.due;have hbl:=Bx ap;refine ⟨_,rfl,pu,rfl,⟨_,SqL.of hu⟩,A8 (K:=K) (a:=pu) (xs:=bs.map V.ref) (fun j ys H3=>ys=AZ (((AV rows).take j).map (·.2))/\H3=H2) ⟨by rfl,rfl⟩ (fun j ys H3 _ ⟨_,e⟩=>e ▸ SqL.of hu) (fun j ys H3 ⟨e,_⟩=>?_) ?_ ?_⟩
    ·rw [e]; unfold AZ; rw [length_map,length_map,length_take,Ao]; omega
    ·rintro j v ys H3 hj ⟨rfl,rfl⟩;obtain ⟨bb,p,rfl,hb1,al,ak⟩:=Bw ap hj;refine ⟨bb,_,rfl,SqT.of ak,rfl,_,_,rfl,_,_,rfl,rfl,?_⟩;refine ⟨_,rfl,?_,rfl⟩;rw [take_add_one,al,Option.toList_some,map_append];unfold AZ;rw [map_append];rfl
    ·rintro ys H3 ⟨rfl,rfl⟩ p hp;have sp:=AF (Same.refl _) hp (o:=HO.lst (AZ (((AV rows).take (bs.map V.ref).length).map (·.2))));have el:(AV rows).take (bs.map V.ref).length=AV rows:=by rw [length_map,hbl,← Ao,take_length]
     refine ⟨p,((AV rows).map (·.2)).map (fun n:Nat=>(n:Int)),0,rfl,rfl,SqL.of (by rw [AB,el,Cm]),fun e=>?_,fun e=>?_⟩
     ·refine hR _ _ ⟨?_,L.same sp⟩;have:(AV rows).map (·.2)=[]:=List.map_eq_nil_iff.mp e;rw [this] at bo;subst bo;rfl
     ·refine hR _ _ ⟨?_,L.same sp⟩;have a0:(AV rows).map (·.2) ≠ []:=fun z=>e (by rw [z]; rfl);rw [Ih a0,bo];rfl
   ·rintro σ H3 ⟨rfl,L3⟩;obtain ⟨a3,b3,hd3⟩:=L3.dice;refine ⟨_,rfl,d,a3,b3,8,rfl,hd3,by decide,by decide,fun kd a4 b4 kd0 kd1=>?_⟩;have L4:=L3.roll AP a4 b4;refine ⟨sl2,fun q hq=>⟨q,_,rfl,SqT.of AB,rfl,_,_,rfl,_,_,rfl,rfl,?_⟩⟩;have L5:=L4.same (AF (Same.refl _) hq (o:=HO.tup [V.non,V.int 1]));refine ⟨fun σ H6=>σ=[some (.ref d),some (.int M),some (.ref pw),some (.ref pf),some (.ref pu),some (.int (0 + (i:Int))),some (.int (bf:Int)),some (.int kd),some .non,some (.int (BM bf:Nat)),v10,v11]/\LW d pw pf pu H H6 rows,fun R hR=>?_,?_⟩
    ·refine Lm (fun σ H6=>LW d pw pf pu H H6 rows/\∃ j:Nat,j <= 20/\σ=[some (.ref d),some (.int M),some (.ref pw),some (.ref pf),some (.ref pu),some (.int (0 + (i:Int))),some (.int (bf:Int)),some (.int kd),some .non,some (.int ((2 ^ j:Nat):Int)),v10,v11]/\(j=0\/2 ^ (j - 1) <= bf)) (fun σ _=>Q4 σ) ⟨L5,0,by omega,rfl,.inl rfl⟩ ?_ ?_
     ·rintro σ H6 ⟨L6,j,hj,rfl,hjj⟩;refine ⟨_,rfl,_,rfl,_,_,rfl,rfl,_,rfl,?_⟩;refine Bc (fun hle=>?_) (fun hle=>?_)
      ·have hle':2 ^ j <= bf:=by have:=of_decide_eq_true hle; exact_mod_cast this
       have hj20:j < 20:=(Nat.pow_lt_pow_iff_right (by decide)).mp (Nat.lt_of_le_of_lt hle' hh20);refine ⟨_,rfl,_,_,rfl,rfl,.inr ⟨by decide,by decide⟩,?_⟩;have e2:(((2 ^ j:Nat):Int) * 2)=((2 ^ (j + 1):Nat):Int):=by rw [Nat.pow_succ]; omega
       refine ⟨⟨L6,j + 1,by omega,?_,.inr hle'⟩,?_⟩
       ·show [some (V.ref d),some (V.int M),some (V.ref pw),some (V.ref pf),some (V.ref pu),some (V.int (0 + (i:Int))),some (V.int (bf:Int)),some (V.int kd),some V.non,some (V.int (((2 ^ j:Nat):Int) * 2)),v10,v11]=_;rw [e2]
       ·show (2 ^ 22 - (((2 ^ j:Nat):Int) * 2)).toNat < (2 ^ 22 - ((2 ^ j:Nat):Int)).toNat;have h1:0 < 2 ^ j:=Nat.two_pow_pos j;have h2:2 ^ j <= 2 ^ 20:=Nat.pow_le_pow_right (by decide) hj;omega
      ·have hgt:bf < 2 ^ j:=by
        have:¬ ((2 ^ j:Nat):Int) <= (bf:Int):=fun z=>hle (decide_eq_true z);omega
       refine hR _ _ ⟨?_,L6⟩;rw [Ie hgt hjj]
     ·rintro σ H6 Q1 Q2 hQ ⟨v,e1,v2,e2,i,j,a,b,c,ec,q⟩;exact ⟨v,e1,v2,e2,i,j,a,b,c,ec,hQ _ _ q⟩
    ·rintro σ H6 ⟨rfl,L6⟩;have hsig:∀ (tv nv w10 w11:V),True:=fun _ _ _ _=>trivial;refine ⟨fun σ H7=>∃ (tv:V) (th:Th) (w10 w11:Option V),σ=[some (.ref d),some (.int M),some (.ref pw),some (.ref pf),some (.ref pu),some (.int (0 + (i:Int))),some (.int (bf:Int)),some (.int kd),some tv,some (.int (CD (AV rows) th:Nat)),w10,w11]/\LW d pw pf pu H H7 rows/\ThAt H7 tv th/\N9 (AV rows) th/\CD (AV rows) th < 2 ^ 20,fun R hR=>?_,?_⟩
     ·refine PX (decide (V.int kd=V.int 5)) (decide ((2:Int) ^ (20:Int).toNat <= (BM bf:Nat))) (fun Q' h=>⟨_,rfl,rfl,_,rfl,h⟩) (fun Q' h=>⟨_,rfl,_,_,rfl,rfl,⟨by decide,by decide,by decide⟩,_,_,rfl,rfl,_,rfl,h⟩) ?_;refine Bc (fun _=>?_) (fun hc=>?_)
      ·obtain ⟨x1,y1,e1⟩:=L6.dice;refine ⟨_,rfl,d,x1,y1,8,rfl,e1,by decide,by decide,fun r1 a1 b1 r10 r11=>?_⟩;have M1:=L6.roll AP a1 b1;refine ⟨_,_,rfl,rfl,⟨r10,by omega,by decide⟩,?_⟩;obtain ⟨x2,y2,e2⟩:=M1.dice;refine ⟨_,rfl,d,x2,y2,64,rfl,e2,by decide,by decide,fun r2 a2 b2 r20 r21=>?_⟩;have M2:=M1.roll AP a2 b2;obtain ⟨x3,y3,e3⟩:=M2.dice;refine ⟨_,rfl,d,x3,y3,20,rfl,e3,by decide,by decide,fun r3 a3 b3 r30 r31=>?_⟩;have M3:=M2.roll AP a3 b3;refine ⟨_,_,rfl,rfl,⟨r30,by omega,by decide⟩,?_⟩;refine ⟨sl4,fun p hp=>?_⟩;have M4:=M3.same (AF (Same.refl _) hp (o:=HO.lst [V.int (1 * 2 ^ r1.toNat),V.int r2,V.int (1 * 2 ^ r3.toNat),V.int 0]));obtain ⟨x4,y4,e4⟩:=M4.dice;have npd:p ≠ d:=Ne.symm (AG AB hp);refine ⟨_,rfl,d,x4,y4,4,rfl,e4,by decide,by decide,fun r4 a4 b4 r40 r41=>?_⟩;have M5:=M4.roll AP a4 b4;obtain ⟨v,hv,hv2⟩:=F2 (xs:=[V.int (1 * 2 ^ r1.toNat),V.int r2,V.int (1 * 2 ^ r3.toNat),V.int 0]) r40 (by show r4 < 4; exact r41)
       have hin:∃ n:Nat,v=.int (n:Int)/\n < 2 ^ 20:=by
        have:=mem_of_getElem? hv2;simp only [mem_cons,not_mem_nil,or_false] at this;rcases this with z | z | z | z
        ·refine ⟨2 ^ r1.toNat,by rw [z]; simp,?_⟩;exact (Nat.pow_lt_pow_iff_right (by decide)).mpr (by omega)
        ·exact ⟨r2.toNat,by rw [z,Int.toNat_of_nonneg r20],by omega⟩
        ·refine ⟨2 ^ r3.toNat,by rw [z]; simp,?_⟩;exact (Nat.pow_lt_pow_iff_right (by decide)).mpr (by omega)
        ·exact ⟨0,z,by decide⟩
       obtain ⟨n,rfl,hn⟩:=hin;refine ⟨p,_,r4,_,rfl,rfl,SqL.of (by rw [AH npd]; exact AB),hv,?_⟩;exact ⟨_,rfl,hR _ _ ⟨.int (n:Int),.num n,v10,v11,rfl,M5,rfl,trivial,hn⟩⟩
      ·refine hR _ _ ⟨.non,.non,v10,v11,?_,L6,rfl,trivial,?_⟩
       ·show _=[some (V.ref d),some (V.int M),some (V.ref pw),some (V.ref pf),some (V.ref pu),some (V.int (0 + (i:Int))),some (V.int (bf:Int)),some (V.int kd),some V.non,some (V.int ((BM (C4 ((AV rows).map (·.2))):Nat):Int)),v10,v11];rw [bo]
       ·show BM (C4 ((AV rows).map (·.2))) < 2 ^ 20;rw [bo];have h2:¬ ((2:Int) ^ (20:Int).toNat <= (BM bf:Nat)):=fun z=>hc (by rw [decide_eq_true z,Bool.or_true]);have h3:((2:Int) ^ (20:Int).toNat)=1048576:=by decide
        omega
     ·rintro σ H7 ⟨tv,th,w10,w11,rfl,L7,hT,hTO,hlt⟩;obtain ⟨bs,hu,ap⟩:=L7.due;have hbl:=Bx ap;refine ⟨fun σ H8=>∃ (tv:V) (th:Th) (w10 w11:Option V),σ=[some (.ref d),some (.int M),some (.ref pw),some (.ref pf),some (.ref pu),some (.int (0 + (i:Int))),some (.int (bf:Int)),some (.int kd),some tv,some (.int (CD (AV rows) th:Nat)),w10,w11]/\LW d pw pf pu H H8 rows/\ThAt H8 tv th/\N9 (AV rows) th/\CD (AV rows) th < 2 ^ 20,fun R hR=>?_,?_⟩
      ·refine OK (decide ((5:Int) < kd)) (!(Dj (AV rows)).isEmpty) (fun Q' h=>⟨_,rfl,_,_,rfl,rfl,_,rfl,h⟩) (fun Q' h=>⟨_,rfl,Nat.zero_le _,fun p hp=>?_⟩) (fun H8 s8=>?_)
       ·have sp:=AF (Same.refl _) hp (o:=HO.lst []);refine ⟨.list (Dj (AV rows)),.list [],EJ (sp _ _ hu) (EH (TupsAt.sameT (SameT.of sp) ap)),EJ AB OI,C7 fun p hp=>(DO.nm p hp).2.1,Jx,_,rfl,?_⟩;rw [OJ];exact h _ sp
       ·refine Bc (fun hc=>?_) (fun hc=>?_)
        ·have a0:0 < bs.length:=by
          rw [Bool.and_eq_true] at hc;have h2:=hc.2;rw [hbl,← Ao];cases hz:AV rows with
          | nil=>rw [hz] at h2; cases h2
          | cons x r=>simp
         have L8:=L7.same s8;obtain ⟨x1,y1,e1⟩:=L8.dice;refine ⟨_,rfl,d,x1,y1,3,rfl,e1,by decide,by decide,fun r1 a1 b1 r10 r11=>?_⟩;have M1:=L8.roll AP a1 b1;refine ⟨_,_,rfl,rfl,_,rfl,by omega,by omega,?_⟩;refine Cd (lo:=0) (n:=(1 + r1).toNat) (fun j ys H9=>∃ ns:List Str,ys=ns.map V.str/\ns.length=j/\j <= 3/\(∀ x ∈ ns,x ∈ (AV rows).map (·.1))/\LW d pw pf pu H H9 rows) ⟨[],rfl,rfl,by decide,(fun x hx=>nomatch hx),M1⟩ ?_ ?_ ?_
         ·rintro j ys H9 ⟨ns,rfl,e,h3,_⟩;rw [length_map]; omega
         ·rintro j ys H9 hj ⟨ns,rfl,e,h3,hin,L9⟩;obtain ⟨x2,y2,e2⟩:=L9.dice;obtain ⟨cs,hu9,ba⟩:=L9.due;have ag:=Bx ba;have av:(cs.map V.ref).length=bs.length:=by rw [length_map,ag,hbl]
          refine ⟨_,rfl,_,rfl,_,rfl,pu,_,rfl,.inl (SqL.of hu9),d,x2,y2,_,rfl,e2,by rw [av]; omega,by rw [av]; omega,fun r2 a2 b2 r20 r21=>?_⟩;have M2:=L9.roll AP a2 b2;have hu10:(upd H9 d (.lst [.int a2,.int b2])) pu=some (.lst (cs.map V.ref)):=by rw [AH AP.ud]; exact hu9
          have hcs2:TupsAt (upd H9 d (.lst [.int a2,.int b2])) cs (Cq (AV rows)):=TupsAt.sameT (SameT.upd e2) ba;obtain ⟨v,hv,hv2⟩:=F2 (xs:=cs.map V.ref) r20 (by exact r21);obtain ⟨bb,p,rfl,_,al,ak⟩:=Bw hcs2 hv2;refine ⟨pu,_,r2,_,rfl,rfl,SqL.of hu10,hv,bb,_,0,.str p.1,rfl,rfl,SqT.of ak,rfl,?_⟩;refine ⟨ns++[p.1],by rw [map_append]; rfl,by rw [length_append,e]; rfl,by omega,fun x hx=>?_,M2⟩;rcases mem_append.mp hx with z | z
          ·exact hin x z
          ·rw [mem_singleton] at z;subst z;exact mem_map.mpr ⟨p,mem_of_getElem? al,rfl⟩
         ·rintro ys H9 ⟨ns,rfl,e,h3,hin,L9⟩ l hl;have L10:=L9.same (AF (Same.refl _) hl (o:=HO.lst (ns.map V.str)));refine ⟨l,_,rfl,.inl ⟨SqL.of AB,fun t ht=>?_⟩⟩;have L11:=L10.same (AF (Same.refl _) ht (o:=HO.tup (ns.map V.str)));obtain ⟨cs,hu11,ba⟩:=L11.due;have ag:=Bx ba;refine ⟨_,rfl,pu,rfl,⟨_,SqL.of hu11⟩,BD (K:=K) (a:=pu) (xs:=cs.map V.ref) (fun j σ H12=>H12=upd (upd H9 l (.lst (ns.map V.str))) t (.tup (ns.map V.str))/\∃ w10 w11:Option V,σ=[some (.ref d),some (.int M),some (.ref pw),some (.ref pf),some (.ref pu),some (.int (0 + (i:Int))),some (.int (bf:Int)),some (.int kd),some (.ref t),some (.int (uni ((AV rows).take j) ns:Nat)),w10,w11]) ⟨rfl,w10,w11,rfl⟩ (fun j σ H12 _ ⟨e,_⟩=>e ▸ SqL.of hu11) ?_ ?_⟩
          ·rintro j v σ H12 hj ⟨rfl,w10,w11,rfl⟩;obtain ⟨bb,p,rfl,_,al,ak⟩:=Bw ba hj;refine ⟨bb,_,rfl,SqT.of ak,rfl,_,_,rfl,_,_,rfl,rfl,?_⟩;refine ⟨_,rfl,_,rfl,_,rfl,t,_,rfl,.inr (SqT.of AB),rfl,?_,_,rfl,?_⟩
           ·rw [all_map];exact List.all_eq_true.mpr fun _ _=>rfl
           ·have eu:uni ((AV rows).take (j + 1)) ns=uni ((AV rows).take j) ns ||| (if inV (.str p.1) (ns.map V.str) then p.2 else 0):=by
             unfold uni;rw [take_add_one,al,Option.toList_some,map_append];exact Cg _ _
            refine Bc (fun hc2=>?_) (fun hc2=>?_)
            ·refine ⟨_,rfl,_,_,rfl,rfl,rfl,some (.str p.1),some (.int (p.2:Int)),?_⟩;have hc3:inV (.str p.1) (ns.map V.str)=true:=hc2;rw [hc3,if_pos rfl] at eu;rw [eu,← CL];rfl
            ·refine ⟨_,_,rfl,rfl,rfl,some (.str p.1),some (.int (p.2:Int)),?_⟩;have hc3:inV (.str p.1) (ns.map V.str)=false:=Bool.eq_false_iff.mpr hc2;rw [hc3,if_neg Bool.false_ne_true] at eu;rw [eu,← CL];rfl
          ·rintro σ H12 ⟨rfl,w10,w11,rfl⟩;have el:(AV rows).take (cs.map V.ref).length=AV rows:=by rw [length_map,ag,← Ao,take_length]
           have en:CD (AV rows) (.nms ns)=uni (AV rows) ns:=(PV DO.nd hin).symm;have eL:ns.length=(1 + r1).toNat:=e;refine hR _ _ ⟨.ref t,.nms ns,w10,w11,by rw [el,en],L11,⟨t,rfl,AB⟩,⟨?_,by omega,hin⟩,?_⟩
           ·intro z; subst z; simp at eL; omega
           ·show AX (ns.map (look (AV rows))) < 2 ^ 20;refine D7 fun n hn=>?_;obtain ⟨x,hx,rfl⟩:=mem_map.mp hn;obtain ⟨p,hp,rfl⟩:=mem_map.mp (hin x hx);rw [EK DO.nd hp];exact DO.lt p hp
        ·exact hR _ _ ⟨tv,th,w10,w11,rfl,L7.same s8,hT.same s8,hTO,hlt⟩
      ·rintro σ H8 ⟨tv,th,w10,w11,rfl,L8,hT,hTO,hlt⟩;obtain ⟨as,hf,hP⟩:=L8.found;have ax:as.length=rows.length:=hP.length;have hw:wordsL[i]?=some wordsL[i]:=List.getElem?_eq_getElem hi10;generalize ar:wordsL[i]=wd at hw
       have hat:atI (wordsL.map V.str) (0 + (i:Int))=some (.str wd):=by
        have:(0:Int) + (i:Int)=((i:Nat):Int):=by omega
        rw [this];exact Cb (by rw [getElem?_map,hw]; rfl)
       refine ⟨_,rfl,.inl ⟨rfl,_,SqL.of hf⟩,_,rfl,_,rfl,pw,_,_,.str wd,rfl,rfl,SqL.of L8.words,hat,_,rfl,sl2,fun p hp=>?_⟩;have sp:=AF (Same.refl _) hp (o:=HO.tup [V.str wd,tv]);have hz1:(as.map V.ref).length < sizeLine:=AU (by rw [length_map]; omega);refine ⟨pf,_,.ref p,rfl,rfl,sp _ _ hf,hz1,?_⟩;have t1:SameT (upd H8 p (.tup [V.str wd,tv])) (upd (upd H8 p (.tup [V.str wd,tv])) pf (.lst (as.map V.ref++[.ref p]))):=SameT.upd (sp _ _ hf);obtain ⟨bs,hu,ap⟩:=L8.due;have hbl:=Bx ap;have hu1:(upd (upd H8 p (.tup [V.str wd,tv])) pf (.lst (as.map V.ref++[.ref p]))) pu=some (.lst (bs.map V.ref)):=by rw [AH (Ne.symm AP.fu)]; exact sp _ _ hu
       have hw1:(upd (upd H8 p (.tup [V.str wd,tv])) pf (.lst (as.map V.ref++[.ref p]))) pw=some (.lst (wordsL.map V.str)):=by rw [AH AP.wf]; exact sp _ _ L8.words
       refine ⟨_,rfl,.inl ⟨rfl,_,SqL.of hu1⟩,_,rfl,_,rfl,pw,_,_,.str wd,rfl,rfl,SqL.of hw1,hat,_,rfl,sl2,fun q hq=>?_⟩;have sq:=AF (Same.refl _) hq (o:=HO.tup [V.str wd,V.int ((CD (AV rows) th:Nat):Int)]);have hz2:(bs.map V.ref).length < sizeLine:=AU (by rw [length_map]; omega);refine ⟨pu,_,.ref q,rfl,rfl,sq _ _ hu1,hz2,?_⟩;have t2:=SameT.upd (sq _ _ hu1) (ys:=bs.map V.ref++[.ref q]);have tall:=((SameT.of sp).trans t1).trans ((SameT.of sq).trans t2);obtain ⟨x,y,ed⟩:=L8.dice;have RR:KW (AV rows) (wd,th):=⟨DO,by rw [Ao]; omega,M7 wd (mem_of_getElem? hw),?_,hTO,hlt⟩;refine ⟨_,_,_,_,_,_,_,rows++[(wd,th)],rfl,by rw [length_append,bd]; rfl,Ir RO RR,?_,?_⟩
       ·rw [map_append,bz,take_add_one,hw,Option.toList_some]; rfl
       ·refine ⟨fun c o ec hc=>?_,⟨x,y,?_⟩,?_,⟨as++[p],?_,?_⟩,⟨bs++[q],?_,?_⟩⟩
        ·have n1:c ≠ pu:=AG ec AP.nu;have n2:c ≠ pf:=AG ec AP.nf;rw [AH n1];refine sq _ _ ?_;rw [AH n2];exact sp _ _ (L8.old c o ec hc)
        ·rw [AH (Ne.symm AP.ud)];refine sq _ _ ?_;rw [AH (Ne.symm AP.fd)];exact sp _ _ ed
        ·rw [AH AP.wu];exact sq _ _ hw1
        ·rw [AH AP.fu];refine sq _ _ ?_;rw [AB,map_append]; rfl
        ·refine Paired.snoc (BB tall hP) ?_;exact ⟨tv,t2 _ _ (sq _ _ (t1 _ _ AB)),hT.sameT tall⟩
        ·rw [AB,map_append]; rfl
        ·rw [Es];unfold Cq;rw [map_append];exact Paired.snoc (TupsAt.sameT tall ap) (t2 _ _ AB)
       ·rw [M8,bz];intro z;have key:=LV ⟨i,hi10⟩;rw [hw] at key;have:=Option.some.inj key;exact of_decide_eq_false this z
  ·rintro σ H2 ⟨v5,v6,v7,v8,v9,v10,v11,rows,rfl,bd,RO,bz,L⟩;obtain ⟨as,hf,hP⟩:=L.found;obtain ⟨bs,hu,ap⟩:=L.due;refine ⟨_,rfl,_,rfl,sl2,fun q hq=>?_⟩;have sq:=AF (Same.refl _) hq (o:=HO.tup [V.ref pf,V.ref pu]);refine k q pf pu as bs rows _ ⟨fun c o e hc=>sq _ _ (L.old c o e hc),?_⟩ AB nf0 nu0 (sq _ _ hf) (BB (SameT.of sq) hP) (sq _ _ hu) (TupsAt.sameT (SameT.of sq) ap) (by omega) (by omega) RO (fun x hx=>List.mem_of_mem_take (bz ▸ hx));obtain ⟨x,y,e⟩:=L.dice;exact ⟨x,y,sq _ _ e⟩
end
end Mk
end
section
namespace L2
open PySem
theorem G2 {X:Cx} (K:FG) (hK:X.K=K):BR X (.builtin "isinstance") (fun xs H Q=>∃ v C t b,xs=[v,.ref C]/\TyOf K H v t/\W.kitOne K t (.ref C)=some b/\Q (.bl b) H):=by
 subst hK;intro aa s σ H xs us Q I r h;obtain ⟨v,C,t,b,rfl,ty,hk,q⟩:=h;obtain ⟨u,uT,rfl,ru,ruT⟩:=E2 r;cases ruT;exact Ge I ru ty hk fun tk=>⟨.bl b,H,I.tok tk,rfl,q⟩
end L2
namespace Mk
open PySem L2 MK
structure KIsi (K:FG) (C:Addr):Prop where
 cl:Cls K C
 ha:W.findIn K (.ref C) "__class__" = some (some (.builtin "object.__class__"))
 hn:W.specialIn K (.builtin "object.__class__") "__get__" = some (some (.builtin "getset_descriptor.__get__"))
 ht:W.takesIn K (.builtin "object.__class__")=some true
 hm:W.mroIn K C (.type "object")=some true
 nl:W.kitOne K (.type "list") (.ref C)=some false
theorem KIsi.ty {a dx:Addr} {fs:List (Str × V)} (k:KIsi K C) (e:H a=some (.ins C dx fs)):TyOf K H (.ref a) (.ref C):=.ins e k.cl k.ha k.hn k.ht k.hm
theorem Iu (K:FG) (C:Addr):W.kitOne K (.ref C) (.ref C)=some true:=by
 unfold W.kitOne;rw [if_pos (by simp)]
section
def EM (C:Addr):Sp:=fun vs H Q _=>∃ (p:Addr) (due:LN) (r:Str) (x:Str),vs=[.ref p,.str x]/\KindAt C H p due r/\x ∈ due.map (·.1)/\Q (.int (look due x:Nat)) H
theorem NA:AL ["self", "name"] ["self", "name"] (defScope Cz):=fsc
theorem LY (F:Fun K "number" "Kind.number" Cz f fd) (T:Cp K C) (GO:Fn P w K mg base "is_one_of" 1 ["thing", "names"] (Bv K)):Af P w K mg base CX0 2 f fd ["self", "name"] (EM C):=by
 obtain ⟨fO,dO,GO,mO,kO,bO⟩:=GO.ex;refine F.ok NA (fun vs H Q E h=>?_) (fun ac A outer s H vs Q E hr h=>?_)
 ·obtain ⟨p,due,r,x,rfl,_⟩:=h;rfl
 ·obtain ⟨p,due,r,x,rfl,KA,hx,k⟩:=h;have hu:=B5 hr;obtain ⟨dx,d1,o1,d2,o2,hp,h1,h2⟩:=KA.ex
  refine ⟨_,AD (Ak (BI (BH (AK GO hr rfl mO kO bO .nil AM (AA (pv 1) (AA (Aq (pv 0) rfl) AC))))) (AE Ag) AT)
   (AE (AS (BA hu (Aq (pv 0) rfl) (pv 1) (fun _ _=>rfl)))),?_⟩
  have DG:IQ H d1 (.str x) (some (V.int (look due x:Int))):=.inl ⟨_,Sum.inr x,.inr ⟨o1,h1⟩,rfl,(Bo hx).symm⟩;refine ⟨_,rfl,_,rfl,p,C,dx,_,_,rfl,hp,T.cl,T.nN,EB _ _ _,.inl ⟨x,d1,As due,rfl,.inr ⟨o1,h1⟩,_,rfl,?_⟩⟩;rw [Bo hx];refine Aw ?_;exact ⟨_,rfl,p,C,dx,_,_,rfl,hp,T.cl,T.nN,EB _ _ _,_,rfl,d1,_,rfl,DG,k⟩
def Ht (C:Addr):Sp:=fun vs H Q _=>∃ (p:Addr) (due:LN) (r:Str),vs=[.ref p]/\KindAt C H p due r/\Q (.str r) H
theorem Pb:AL ["self"] ["self"] (defScope En):=fsc
theorem OM (F:Fun K "rest" "Kind.rest" En f fd) (T:Cp K C):Af P w K mg base CX0 1 f fd ["self"] (Ht C):=by
 refine F.ok Pb (fun vs H Q E h=>?_) (fun ac A outer s H vs Q E hr h=>?_)
 ·obtain ⟨p,due,r,rfl,_⟩:=h;rfl
 ·obtain ⟨p,due,r,rfl,KA,k⟩:=h;obtain ⟨dx,d1,o1,d2,o2,hp,h1,h2⟩:=KA.ex;refine ⟨_,AE (AS (Aq (pv 0) rfl)),?_⟩;exact ⟨_,rfl,p,C,dx,_,_,rfl,hp,T.cl,T.nR,Ew _ _ _,k⟩
theorem NB {p q:Str × Nat}:PyData.eqv (.tuple [.str p.1,.int (p.2:Int)]) (.tuple [.str q.1,.int (q.2:Int)])=decide (p=q):=by
 rw [Bool.eq_iff_iff];simp only [PyData.eqv,PyData.eqvAll,Bool.and_true,Bool.and_eq_true,decide_eq_true_eq,beq_iff_eq];constructor
 ·rintro ⟨a,b⟩;exact Prod.ext a (by exact_mod_cast b)
 ·rintro rfl;exact ⟨rfl,rfl⟩
theorem Iv:∀ (a b:LN),PyData.eqv (.list (Dj a)) (.list (Dj b))=decide (a=b)
 | [],[]=>by simp [Dj,PyData.eqv,PyData.eqvAll]
 | [],q :: r=>by simp [Dj,PyData.eqv,PyData.eqvAll]
 | p :: r,[]=>by simp [Dj,PyData.eqv,PyData.eqvAll]
 | p :: r,q :: s=>by
  have ih:=Iv r s
  have h:PyData.eqv (.list (Dj (p :: r))) (.list (Dj (q :: s)))=(PyData.eqv (.tuple [.str p.1,.int (p.2:Int)]) (.tuple [.str q.1,.int (q.2:Int)]) && PyData.eqv (.list (Dj r)) (.list (Dj s))):=by
   simp only [Dj,map_cons,PyData.eqv,PyData.eqvAll]
  rw [h,NB,ih,Bool.eq_iff_iff];simp
def Asc (due:LN):Prop:=∀ p ∈ due,p.1.cps.all (· < 128)=true
def Ix (C:Addr):Sp:=fun vs H Q _=>∃ (a b:Addr) (due:LN) (r:Str),vs=[.ref a,.ref b]/\KindAt C H a due r/\Asc due /\
 ((∃ xs,H b=some (.lst xs)/\∀ H',Same H H'->Q (.bl false) H')\/∃ (due':LN) (r':Str),KindAt C H b due' r'/\Asc due'/\∀ H',Same H H'->Q (.bl (decide (due=due'/\r=r'))) H')
theorem Q5:AL ["self", "other"] ["self", "other"] (defScope HY):=fsc
theorem Pc (F:Fun K "__eq__" "Kind.__eq__" HY f fd) (B:Bl mg) (T:Cp K C) (KI:KIsi K C) (mC:mg "Kind" = some (.ref C)) (GR:Mt P w K mg base C "rows" 1 ["self"] (Ho C)):Af P w K mg base CX0 2 f fd ["self", "other"] (Ix C):=by
 obtain ⟨fR,dR,GR,mR,bR⟩:=GR.ex;refine F.ok Q5 (fun vs H Q E h=>?_) (fun ac A outer s H vs Q E hr h=>?_)
 ·obtain ⟨a,b,due,r,rfl,_⟩:=h;rfl
 ·obtain ⟨a,b,due,r,rfl,KA,h1,h⟩:=h;have hu64:=hr.units
  refine ⟨_,AE (AS (B0 (AW (G2 K rfl) rfl B.isi Hk (AA (pv 1) (AA (Br (v:=.ref C) rfl mC rfl) AC)))
   (B0 (CB (O7 K rfl hu64) (Ai (pv 0) T.cl mR GR hr bR .nil AM) (Ai (pv 1) T.cl mR GR hr bR .nil AM) (Ae _))
    (CZ (CB Dr (Aq (pv 0) rfl) (Aq (pv 1) rfl) (Ae _)))))),?_⟩
  obtain ⟨dx,d1,d2,hp⟩:=KA.ins;rcases h with ⟨xs,hb,k⟩ | ⟨due',r',KB,h2,k⟩
  ·refine ⟨_,rfl,_,C,_,false,rfl,.lst hb,KI.nl,_,rfl,?_⟩;exact Aw (k _ (Same.refl _))
  ·obtain ⟨dy,e1,e2,hq⟩:=KB.ins;refine ⟨_,rfl,_,C,_,true,rfl,KI.ty hq,Iu K C,_,rfl,?_⟩;refine CA ?_;refine ⟨_,rfl,a,dx,_,rfl,hp,(Ba _ _ _),a,due,r,rfl,KA,fun l as H1 s1 hl ht=>?_⟩;refine ⟨_,rfl,b,dy,_,rfl,s1 _ _ hq,(Ba _ _ _),b,due',r',rfl,KB.same s1,fun l2 as2 H2 s2 hl2 ht2=>?_⟩;refine ⟨_,_,EJ (s2 _ _ hl) (EH (TupsAt.same s2 ht)),EJ hl2 (EH ht2),C7 h1,C7 h2,_,rfl,?_⟩;rw [Iv];have s12:=s1.trans s2;refine Bc (fun e=>?_) (fun e=>?_)
   ·have e':due=due':=of_decide_eq_true e;refine ⟨_,rfl,a,C,dx,_,_,rfl,s12 _ _ hp,T.cl,T.nR,Ew _ _ _,_,rfl,b,C,dy,_,_,rfl,s12 _ _ hq,T.cl,T.nR,Ew _ _ _,rfl,?_⟩;have:=k _ s12;have ev:decide (V.str r=V.str r')=decide (due=due'/\r=r'):=decide_eq_decide.mpr ⟨fun z=>⟨e',V.str.inj z⟩,fun z=>by rw [z.2]⟩;rw [ev];exact this
   ·have:=k _ s12;rw [decide_eq_false (fun z=>e (decide_eq_true z.1))] at this;exact this
end
def ON (due:LN) (e m:Addr):LK:=[(Sum.inr "known", V.int (AX (due.map (·.2)):Nat)),(Sum.inr "firsts", V.ref e),(Sum.inr "marks", V.ref m),(Sum.inr "bits", V.int (AX (AJ due):Nat))]
theorem Pd (a b c d:V):Eh [] [((Sum.inr "known" : Key),a),(Sum.inr "firsts", b),(Sum.inr "marks", c),(Sum.inr "bits", d)]=[((Sum.inr "known" : Key),a),(Sum.inr "firsts", b),(Sum.inr "marks", c),(Sum.inr "bits", d)]:=by kernel_rfl
theorem Ex (due:LN) (e m:Addr):Ah (ON due e m) (Sum.inr "marks")=some (V.ref m):=by kernel_rfl
theorem NC (due:LN) (e m:Addr):Ah (ON due e m) (Sum.inr "bits")=some (V.int (AX (AJ due):Nat)):=by kernel_rfl
theorem G3 (due:LN):(AJ due).Pairwise (· < ·):=by
 have h1:=EE due;have h2:(Am due).Nodup:=(B9 due).nodup_iff.mpr (Gy due);have h3:(Am due).Pairwise (· < ·):=List.Pairwise.imp₂ (fun a b h n=>Nat.lt_of_le_of_ne h n) h1 h2;exact h3.filter _
theorem G4 (due:LN):((AJ due).map fun n:Nat=>(n:Int)).sum=((AX (AJ due):Nat):Int):=by
 have hs:(AJ due).sum=AX (AJ due):=LD (fun n hn=>(mem_filter.mp hn).2) (G3 due);rw [← hs];clear hs;generalize AJ due=l;induction l with
 | nil=>rfl
 | cons a r ih=>rw [map_cons,sum_cons,sum_cons,ih]; push_cast; rfl
theorem ND (due:LN):AX ((AN due).map (·.1))=AX (due.map (·.2)):=by
 refine Nat.eq_of_testBit_eq fun k=>?_;rw [BW,BW,Bool.eq_iff_iff,any_eq_true,any_eq_true];constructor
 ·rintro ⟨n,hn,hb⟩;obtain ⟨q,hq,rfl⟩:=mem_map.mp hn;exact ⟨q.1,mem_map.mpr ⟨_,Ev hq,rfl⟩,hb⟩
 ·rintro ⟨n,hn,hb⟩;obtain ⟨p,hp,rfl⟩:=mem_map.mp hn;exact ⟨p.2,LM hp,hb⟩
section
def EN:Sp:=fun vs H Q _=>∃ (u:Addr) (bs:List Addr) (due:LN),vs=[.ref u]/\H u=some (.lst (bs.map V.ref))/\TupsAt H bs (Cq due)/\due.length <= 10/\(∀ p ∈ due,p.2 < 2 ^ 20) /\
 ∀ t e m ms H',Same H H'->H' t=some (.dK (ON due e m))->H' e=some (.dK (Be (AN due)))->H' m=some (.lst (ms.map V.ref))->TupsAt H' ms (Bb due)->Q (.ref t) H'
abbrev Pe:List Str:=["_law_due", "_law_known", "_law_firsts", "_law_name", "_law_number", "_law_marks"]
theorem scTable:AL Pe ["_law_due"] (defScope C2):=fsc
theorem NE (F:Fun K "_law_table_of" "_law_table_of" C2 f fd) (B:Bl mg) (GB:Fn P w K mg base "_law_bits_of" 1 ["_law_number"] F6):Af P w K mg base CX0 2 f fd ["_law_due"] EN:=by
 obtain ⟨fB,dB,GB,mB,kB,bB⟩:=GB.ex;refine F.ok scTable (fun vs H Q E h=>?_) (fun ac A outer s H vs Q E hr h=>?_)
 ·obtain ⟨u,bs,due,rfl,_⟩:=h;rfl
 ·obtain ⟨u,bs,due,rfl,hu0,ap,h10,hlt,k⟩:=h;have hu:=B5 hr
  refine ⟨_,AD (CK (hs:=by kernel_rfl) (hw:=by kernel_rfl) (BQ (AA AI (AA B4 AC))) (BJ rfl (AR (AO (i:=1) scTable.nd rfl (Or.inl rfl)) (AR (AO (i:=2) scTable.nd rfl (Or.inr rfl)) Ay))))
   (AD (BP PassesOwn.never rfl (Al (pv 0)) (BJ rfl (AR (AO (i:=3) scTable.nd rfl (Or.inl rfl)) (AR (AO (i:=4) scTable.nd rfl (Or.inl rfl)) Ay)))
    (AD (Ad (i:=1) scTable.nd rfl (Or.inl rfl) (AY FO (pv 1) (pv 4)))
    (AE (Ak (BO (DB hu (pv 4) (pv 2))) (AE (DC hu (pv 2) (pv 4) (pv 3) rfl)) AT))))
   (AD (MF (i:=5) scTable.nd rfl (by kernel_rfl) ["_law_firsts"] [some 2] (by kernel_rfl) (by decide +kernel) (by kernel_rfl) rfl (Al (AW (D4 rfl) rfl B.sorted Er (AA (pv 2) AC)))
    (fun _ _ _ _ _ _=>D0 (Ac Dr (AW (Ax K rfl) rfl B.len PySem.boot_len (AA (AK GB hr rfl mB kB bB .nil AM (AA (pv 0) AC)) AC)) AI (Ae _)))
    (fun _ _ _ _ _ _=>BQ (AA (BA hu (pv 1) (pv 0) (fun _ _=>rfl)) (AA (pv 0) AC))))
   (AE (AS (Nz (Dz A0 (pv 1) (Dz A0 (pv 2) (Dz A0 (pv 5) (Dz A0 (AW (MP rfl) rfl B.sum PH (AA (Cu [] [] (by kernel_rfl) (by decide +kernel) (by kernel_rfl) (by kernel_rfl) rfl (Al (pv 5)) (fun _ _ _ _ _ _=>A3) (fun _ _ _ _ _ _=>pv 1)) AC)) Ny)))) rfl rfl (by simp) (by decide)))))),?_⟩
  refine fun e he=>⟨sl2,fun q hq=>⟨q,_,rfl,SqT.of AB,rfl,_,_,rfl,_,_,rfl,rfl,?_⟩⟩;have s1:=AF (AF (Same.refl _) he (o:=HO.dK [])) hq (o:=HO.tup [V.int 0,V.ref e]);have hbl:bs.length=due.length:=by rw [ap.length]; unfold Cq; rw [length_map]
  refine ⟨_,rfl,u,rfl,⟨_,SqL.of (s1 _ _ hu0)⟩,BD (K:=K) (a:=u) (xs:=bs.map V.ref) (fun i σ H2=>∃ v3 v4:Option V,σ=[some (.ref u),some (.int (AX ((due.take i).map (·.2)):Nat)),some (.ref e),v3,v4,none]/\Same H H2/\H2 e=some (.dK (Be (AN (due.take i)))))
   ⟨none,none,rfl,s1,AF (Same.refl _) hq _ _ AB⟩ (fun i σ H2 _ ⟨_,_,_,s2,_⟩=>SqL.of (s2 _ _ hu0)) ?_ ?_⟩
  ·rintro i v σ H2 hi ⟨v3,v4,rfl,s2,he2⟩;obtain ⟨bb,p,rfl,_,al,ak⟩:=Bw (TupsAt.same s2 ap) hi;have et:due.take (i + 1)=due.take i++[p]:=by rw [take_add_one,al]; rfl
   have ek:(((AX ((due.take (i + 1)).map (·.2)):Nat)):Int)=Builtin.bitOr ((AX ((due.take i).map (·.2)):Nat):Int) (p.2:Int):=by
    rw [et,map_append,CL];exact congrArg _ (Cg _ _)
   have hle:(Be (AN (due.take i))).length <= 100:=by
    unfold Be;rw [length_map];have:=B8 (due.take i);rw [length_take] at this;omega
   refine ⟨bb,_,rfl,SqT.of ak,rfl,_,_,rfl,_,_,rfl,rfl,?_⟩;refine ⟨_,rfl,_,rfl,_,_,rfl,rfl,?_⟩;by_cases z:p.2 ∈ (AN (due.take i)).map (·.1)
   ·refine ⟨_,rfl,_,rfl,e,_,rfl,.inl ⟨_,Sum.inl (p.2:Int),.inl he2,rfl,(EA z).symm⟩,_,rfl,?_⟩;refine Aw ⟨_,_,by rw [ek]; rfl,s2,?_⟩;rw [et,CG,if_pos (by simpa using z)];exact he2
   ·refine ⟨_,rfl,_,rfl,e,_,rfl,.inl ⟨_,Sum.inl (p.2:Int),.inl he2,rfl,(Eu z).symm⟩,_,rfl,?_⟩;refine CA ⟨_,rfl,_,rfl,_,rfl,e,_,rfl,DPut.k (k:=Sum.inl (p.2:Int)) he2 (AU (by omega)),?_⟩;refine ⟨_,_,by rw [ek]; rfl,Fx s2 he,?_⟩;rw [AB,et,CG,if_neg (by simpa using z),Im z]
  ·rintro σ H2 ⟨v3,v4,rfl,s2,he2⟩;have e1:due.take (bs.map V.ref).length=due:=by rw [length_map,hbl,take_length]
   rw [e1] at he2 ⊢;have hle:(Be (AN due)).length <= due.length:=by unfold Be; rw [length_map]; exact B8 due
   refine ⟨_,rfl,e,_,rfl,.inl he2,by omega,fun kv hkv=>?_,fun l ns hl cf cg=>?_⟩
   ·unfold Be at hkv;obtain ⟨q,_,rfl⟩:=mem_map.mp hkv;exact ⟨_,rfl⟩
   ·have en:=Io cf cg;subst en;have s3:=AF (Same.refl _) hl (o:=HO.lst (((Am due).map fun n:Nat=>(n:Int)).map V.int));have exs:((Am due).map fun n:Nat=>(n:Int)).map V.int=AZ (Am due):=(Cm _).symm
    refine ⟨l,rfl,⟨_,SqL.of AB⟩,A8 (K:=K) (a:=l) (xs:=AZ (Am due))
     (fun i ys H3=>∃ as,ys=as.map V.ref/\Same H2 H3/\H3 l=some (.lst (AZ (Am due)))/\TupsAt H3 as ((((Am due).take i).filter Ar).map fun n=>(V.str (A2 (AN due) n),V.int (n:Int)))) ⟨[],rfl,s3,by rw [AB,exs],.nil⟩
     (fun i ys H3 _ ⟨_,_,_,e,_⟩=>SqL.of e) (fun i ys H3 ⟨as,e,_,_,t⟩=>?_) ?_ ?_⟩
    ·have:=t.length;rw [e,length_map,this,length_map];have h3:(((Am due).take i).filter Ar).length <= ((Am due).take i).length:=length_filter_le _ _;rw [length_take] at h3;have:=DH due;omega
    ·rintro i v ys H3 hi ⟨as,rfl,s4,hl3,ht⟩;obtain ⟨n,hn,rfl⟩:=Hi hi;have bi:n ∈ (AN due).map (·.1):=mem_keysS.mp (mem_of_getElem? hn);have hn42:n < 2 ^ 42:=Nat.lt_trans (Ka hlt n bi) (by decide);have et:((Am due).take (i + 1)).filter Ar=((Am due).take i).filter Ar++(if Ar n then [n] else []):=PySem.take_succ_filter Ar _ i n hn;refine ⟨_,rfl,n,rfl,fun l2 zs H4 s5 hl4 hz=>⟨l2,_,rfl,.inl (SqL.of hl4),rfl,_,rfl,?_⟩⟩
     have eb:decide (V.int ((zs.length:Nat):Int)=V.int 1)=Ar n:=by
      rw [← GY hn42,hz];refine decide_eq_decide.mpr ⟨fun h=>?_,fun h=>by rw [h]; rfl⟩;have:=V.int.inj h;omega
     rw [eb];have hl5:=s5 _ _ hl3;refine Bc (fun hm=>?_) (fun hm=>?_)
     ·refine ⟨_,rfl,_,rfl,e,_,rfl,.inl ⟨_,Sum.inl (n:Int),.inl (s5 _ _ (s4 _ _ he2)),rfl,(EA bi).symm⟩,_,rfl,sl2,fun b hb=>?_⟩;refine ⟨as++[b],by rw [map_append]; rfl,AF (s4.trans s5) hb,by rw [AH (AG hl5 hb)]; exact hl5,?_⟩;rw [et,hm,if_pos rfl,map_append];exact Gz (AF s5 hb) ht AB
     ·refine ⟨as,rfl,s4.trans s5,hl5,?_⟩;rw [et,if_neg hm,append_nil];exact TupsAt.same s5 ht
    ·rintro ys H3 ⟨as,rfl,s4,_,ht⟩ m hm
     have el:(Am due).take (AZ (Am due)).length=Am due:=by
      have:(AZ (Am due)).length=(Am due).length:=by unfold AZ; rw [length_map]
      rw [this]; exact take_length
     rw [el] at ht;have ht':TupsAt H3 as (Bb due):=ht;have s5:=AF (Same.refl _) hm (o:=HO.lst (as.map V.ref));have ax:as.length=(AJ due).length:=by rw [ht'.length]; exact G0 due
     refine fun t ht0=>⟨_,rfl,_,rfl,_,rfl,?_⟩;have s6:=AF (Same.refl _) ht0 (o:=HO.dK []);have htm:=TupsAt.same (s5.trans s6) ht';have hm6:=s6 _ _ (AB (H:=H3) (a:=m) (o:=HO.lst (as.map V.ref)));refine ⟨_,rfl,m,rfl,⟨_,SqL.of hm6⟩,A8 (K:=K) (a:=m) (xs:=as.map V.ref) (fun j ys H7=>ys=AZ ((AJ due).take j)/\H7=upd (upd H3 m (.lst (as.map V.ref))) t (.dK [])) ⟨by rfl,rfl⟩ (fun j ys H7 _ ⟨_,e⟩=>e ▸ SqL.of hm6) (fun j ys H7 ⟨e,_⟩=>?_) ?_ ?_⟩
     ·rw [e]; unfold AZ; rw [length_map,length_take];have h3:(AJ due).length <= (Am due).length:=length_filter_le _ _;have:=DH due;omega
     ·rintro j v ys H7 hj ⟨rfl,rfl⟩;rw [getElem?_map] at hj
      obtain ⟨b,hb,rfl⟩:∃ b,as[j]?=some b/\v=V.ref b:=by
       cases q:as[j]? with
       | none=>rw [q] at hj; cases hj
       | some x=>rw [q] at hj; exact ⟨x,rfl,(Option.some.inj hj).symm⟩
      obtain ⟨pq,hpq,ak⟩:=Ip htm hb;unfold Bb at hpq;rw [getElem?_map] at hpq
      obtain ⟨n,hn,rfl⟩:∃ n,(AJ due)[j]?=some n/\pq=(V.str (A2 (AN due) n),V.int (n:Int)):=by
       cases q:(AJ due)[j]? with
       | none=>rw [q] at hpq; cases hpq
       | some x=>rw [q] at hpq; exact ⟨x,rfl,(Option.some.inj hpq).symm⟩
      refine ⟨b,_,rfl,SqT.of ak,rfl,_,_,rfl,_,_,rfl,rfl,?_⟩;refine ⟨_,rfl,?_,rfl⟩;rw [take_add_one,hn,Option.toList_some];unfold AZ;rw [map_append];rfl
     ·rintro ys H7 ⟨rfl,rfl⟩ l2 hl2;have el2:(AJ due).take (as.map V.ref).length=AJ due:=by rw [length_map,ax,take_length]
      rw [el2];have s7:=AF (Same.refl _) hl2 (o:=HO.lst (AZ (AJ due)));refine ⟨l2,(AJ due).map fun n:Nat=>(n:Int),rfl,SqL.of (by rw [AB,Cm]),fun n hn=>?_,?_,?_⟩
      ·obtain ⟨x,_,rfl⟩:=mem_map.mp hn;exact Int.natCast_nonneg _
      ·rw [G4];have:=D7 (Mu hlt);omega
      ·rw [G4];refine ⟨s7 _ _ AB,[((Sum.inr "known" : Key),V.int (AX (due.map (·.2)):Nat)),(Sum.inr "firsts", .ref e),(Sum.inr "marks", .ref m),(Sum.inr "bits", V.int (AX (AJ due):Nat))],rfl,(by show 4 <= 15; decide),?_⟩;rw [Pd];have nt:∀ b o,H3 b=some o->b ≠ t:=fun b o ebo=>AG (s5 _ _ ebo) ht0
       have sAll:Same (upd H3 m (.lst (as.map V.ref))) (upd (upd (upd (upd H3 m (.lst (as.map V.ref))) t (.dK [])) l2 (.lst (AZ (AJ due)))) t (.dK (ON due e m))):=fun b o ebo=>by
        rw [AH (AG ebo ht0)];exact s7 _ _ (s6 _ _ ebo)
       refine k t e m as _ ?_ AB ?_ (sAll _ _ AB) (TupsAt.same (s5.trans sAll) ht')
       ·intro b o ebo;exact sAll _ _ (s5 _ _ (s4 _ _ (s2 _ _ ebo)))
       ·exact sAll _ _ (s5 _ _ (s4 _ _ he2))
end
theorem E5:∀ {ds:List PyData},(∀ d ∈ ds,PyData.eqv d d=true)->PyData.eqvAll ds ds=true
 | [],_=>by rw [PyData.eqvAll]
 | d :: r,h=>by
  rw [PyData.eqvAll,h d mem_cons_self,E5 fun x hx=>h x (mem_cons_of_mem _ hx)];rfl
theorem Hu {ds:List PyData} (h:∀ d ∈ ds,PyData.eqv d d=true):PyData.eqv (.tuple ds) (.tuple ds)=true:=by
 rw [PyData.eqv]; exact E5 h
theorem EQ (n:Int):PyData.eqv (.int n) (.int n)=true:=by simp [PyData.eqv]
theorem LZ {fs:List (Nat × Str)} {n:Nat} (h:n ∈ fs.map (·.1)):(n,A2 fs n) ∈ fs:=by
 unfold A2;obtain ⟨q,hq⟩:=Option.isSome_iff_exists.mp (Fy h);rw [hq];have e:q.1=n:=by simpa using List.find?_some hq
 have hm:=mem_of_find?_eq_some hq;subst e;exact hm
theorem Q6:¬ (("own_kind" : Str) = "bits"):=by decide +kernel
def F7 (kp:Addr) (n:Nat):List (Str × V):=A4 "bits" (.int (n:Int)) (A4 "own_kind" (.ref kp) [])
theorem ER (kp:Addr) (n:Nat):(F7 kp n).lookup ("own_kind" : Str)=some (.ref kp):=by
 unfold F7;rw [AQ,if_neg Q6,AQ,if_pos rfl]
theorem ES (kp:Addr) (n:Nat):(F7 kp n).lookup ("bits" : Str)=some (.int (n:Int)):=by
 unfold F7;rw [AQ,if_pos rfl]
theorem E6 (kp:Addr) (n:Nat) {m:Str} (h1:¬ m = "bits") (h2:¬ m = "own_kind"):(F7 kp n).lookup m=none:=by
 unfold F7;rw [AQ,if_neg h1,AQ,if_neg h2];rfl
def ValAt (VC:Addr) (H:Hp) (p kp:Addr) (n:Nat):Prop:=∃ dx,H p=some (.ins VC dx (F7 kp n))
theorem ValAt.same {p kp:Addr} {n:Nat} (s:Same H H') (h:ValAt VC H p kp n):ValAt VC H' p kp n:=by
 obtain ⟨dx,h⟩:=h;exact ⟨dx,s _ _ h⟩
structure Gb (K:FG) (VC:Addr):Prop where
 cl:Cls K VC
 nK:NoAttr K VC "own_kind"
 nB:NoAttr K VC "bits"
def kn (due:LN):Nat:=AX (due.map (·.2))
section
def Dk:Sp:=fun vs H Q _=>∃ n:Nat,vs=[.int (n:Int)]/\n < 2 ^ 40/\Q (.bl true) H
theorem Jz:AL ["thing"] ["thing"] (defScope Eo):=fsc
theorem Iy {tL:Tok} (F:Fun K "is_number" "is_number" Eo f fd) (hL:mg "LIMIT" = some (.int 1099511627776 tL)) (GW:Fn P w K mg base "is_whole" 1 ["thing"] CU):Af P w K mg base CX0 2 f fd ["thing"] Dk:=by
 obtain ⟨fW,dW,GW,mW,kW,bW⟩:=GW.ex;refine F.ok Jz (fun vs H Q E h=>?_) (fun ac A outer s H vs Q E hr h=>?_)
 ·obtain ⟨n,rfl,_⟩:=h;rfl
 ·obtain ⟨n,rfl,hn,k⟩:=h;refine ⟨_,AE (AS (B0 (AK GW hr rfl mW kW bW .nil AM (AA (pv 0) AC)) (CZ (II Dt KH AI (pv 0) (Br (v:=.int 1099511627776) rfl hL ⟨tL,rfl⟩))))),?_⟩;refine ⟨_,rfl,(n:Int),rfl,_,rfl,?_⟩;refine CA ?_;refine ⟨_,rfl,_,_,rfl,rfl,_,rfl,?_⟩;rw [decide_eq_true (show (0:Int) <= (n:Int) by omega)];refine CA ?_;refine ⟨_,_,rfl,rfl,?_⟩;show Q (V.bl (decide ((n:Int) < 1099511627776))) H
  rw [decide_eq_true (show (n:Int) < 1099511627776 by have:(2:Nat) ^ 40=1099511627776:=by decide
                                                      omega)]
  exact k
def EU (C:Addr):Sp:=fun vs H Q _=>∃ (kp:Addr) (due:LN) (r:Str) (n:Nat),vs=[.ref kp,.int (n:Int)]/\KindAt C H kp due r/\∀ H',Same H H'->Q (.int ((n - (n &&& kn due):Nat):Int)) H'
theorem NF:AL ["kind", "number"] ["kind", "number"] (defScope HZ):=fsc
theorem La (F:Fun K "rest_of" "rest_of" HZ f fd) (T:Cp K C) (GK:Mt P w K mg base C "known" 2 ["self"] (Hq C)):Af P w K mg base CX0 3 f fd ["kind", "number"] (EU C):=by
 obtain ⟨fK,dK,GK,mK,bK⟩:=GK.ex;refine F.ok NF (fun vs H Q E h=>?_) (fun ac A outer s H vs Q E hr h=>?_)
 ·obtain ⟨kp,due,r,n,rfl,_⟩:=h;rfl
 ·obtain ⟨kp,due,r,n,rfl,KA,k⟩:=h;obtain ⟨dx,d1,d2,hp⟩:=KA.ins;refine ⟨_,AE (AS (AY DQ (pv 1) (Ln Lq (Ai (pv 0) T.cl mK GK hr bK .nil AM)))),?_⟩;refine ⟨_,rfl,_,rfl,kp,dx,_,rfl,hp,(Ba _ _ _),kp,due,r,rfl,KA,fun H1 s1=>?_⟩;refine ⟨_,rfl,_,_,rfl,rfl,?_⟩;show Q (V.int (Builtin.bitAnd (n:Int) (Builtin.bitNot ((AX ((AN due).map (·.1)):Nat):Int)))) H1;rw [Ff,ND];exact k H1 s1
def FC (C VC:Addr):Sp:=fun vs H Q _=>∃ (p dx kp:Addr) (due:LN) (r:Str) (n:Nat),vs=[.ref p,.ref kp,.int (n:Int)]/\H p=some (.ins VC dx [])/\KindAt C H kp due r/\n < 2 ^ 40/\(r = "keep" \/ n - (n &&& kn due)=0) /\
 ∀ H',(∀ b o,H b=some o->b ≠ p->H' b=some o)->ValAt VC H' p kp n->Q .non H'
theorem OO:AL ["self", "kind", "number"] ["self", "kind", "number"] (defScope DZ):=fsc
theorem Iz (F:Fun K "__init__" "Value.__init__" DZ f fd) (T:Cp K C) (VT:Gb K VC)
  (GN:Fn P w K mg base "is_number" 2 ["thing"] Dk) (GR:Fn P w K mg base "rest_of" 3 ["kind", "number"] (EU C)) (GRe:Mt P w K mg base C "rest" 1 ["self"] (Ht C)):Af P w K mg base CX0 4 f fd ["self", "kind", "number"] (FC C VC):=by
 obtain ⟨fN,dN,GN,mN,kN,bN⟩:=GN.ex;obtain ⟨fR,dR,GR,mR,kR,bR⟩:=GR.ex;obtain ⟨fE,dE,GE,mE,bE⟩:=GRe.ex;refine F.ok OO (fun vs H Q E h=>?_) (fun ac A outer s H vs Q E hr h=>?_)
 ·obtain ⟨p,dx,kp,due,r,n,rfl,_⟩:=h;rfl
 ·obtain ⟨p,dx,kp,due,r,n,rfl,hp,KA,hn,hrest,k⟩:=h;have hr1:Room 1 _:=hr.mono (by decide);have hr2:Room 2 _:=hr.mono (by decide);obtain ⟨dxk,d1,d2,ah⟩:=KA.ins
  refine ⟨_,AD (Ak (BI (BH (AK GN hr2 rfl mN kN bN .nil AM (AA (pv 2) AC)))) (AE Ag) AT)
   (CH (Ak (PW.pt (Ed (Ac Ds (Ai (pv 1) T.cl mE GE hr1 bE .nil AM) A0 (Ae _)) (C9 (Ac Ds (AK GR hr rfl mR kR bR .nil AM (AA (pv 1) (AA (pv 2) AC))) AI (Ae _))))) (AE Ag) AT)
   (AD (Cr (pv 0) (pv 1) rfl) (AE (Cr (pv 0) (pv 2) rfl)))),?_⟩
  refine ⟨_,rfl,n,rfl,hn,_,rfl,?_⟩;refine Aw ?_;refine ⟨fun σ H1=>σ=[some (.ref p),some (.ref kp),some (.int (n:Int))]/\Same H H1,fun R hR=>?_,?_⟩
  ·refine ⟨_,rfl,kp,dxk,_,rfl,ah,(Ba _ _ _),kp,due,r,rfl,KA,rfl,_,rfl,?_⟩;by_cases hk:r = "keep"
   ·rw [decide_eq_true (show V.str r=V.str "keep" by rw [hk])];exact Aw (Aw (hR _ _ ⟨rfl,Same.refl _⟩))
   ·rw [decide_eq_false (show ¬ V.str r=V.str "keep" from fun z=>hk (V.str.inj z))];refine CA ?_;refine ⟨_,rfl,_,rfl,kp,due,r,n,rfl,KA,fun H1 s1=>⟨rfl,_,rfl,?_⟩⟩;have h0:=hrest.resolve_left hk;rw [h0];exact Aw (hR _ _ ⟨rfl,s1⟩)
  ·rintro σ H1 ⟨rfl,s1⟩;refine ⟨_,rfl,_,rfl,p,VC,dx,[],rfl,s1 _ _ hp,VT.cl,VT.nK,(by show 0 < 1000; decide),?_⟩;refine ⟨_,rfl,_,rfl,p,VC,dx,_,rfl,AB,VT.cl,VT.nB,Nat.lt_of_le_of_lt (Bm _ _ _) (by show 1 < 1000; decide),?_⟩;refine k _ (fun b o e hb=>?_) ⟨dx,AB⟩;rw [AH hb,AH hb];exact s1 _ _ e
def CV (VC:Addr):Sp:=fun vs H Q _=>∃ (p kp:Addr) (n:Nat),vs=[.ref p]/\ValAt VC H p kp n/\Q (.int (n:Int)) H
theorem Lb:AL ["self"] ["self"] (defScope Cj):=fsc
theorem J0 (F:Fun K "number" "Value.number" Cj f fd) (VT:Gb K VC):Af P w K mg base CX0 1 f fd ["self"] (CV VC):=by
 refine F.ok Lb (fun vs H Q E h=>?_) (fun ac A outer s H vs Q E hr h=>?_)
 ·obtain ⟨p,kp,n,rfl,_⟩:=h;rfl
 ·obtain ⟨p,kp,n,rfl,⟨dx,hp⟩,k⟩:=h;refine ⟨_,AE (AS (Aq (pv 0) rfl)),?_⟩;exact ⟨_,rfl,p,VC,dx,_,_,rfl,hp,VT.cl,VT.nB,ES _ _,k⟩
def FD (VC:Addr):Sp:=fun vs H Q _=>∃ (p kp:Addr) (n:Nat),vs=[.ref p]/\ValAt VC H p kp n/\Q (.ref kp) H
theorem OP:AL ["self"] ["self"] (defScope Db):=fsc
theorem NG (F:Fun K "kind" "Value.kind" Db f fd) (VT:Gb K VC):Af P w K mg base CX0 1 f fd ["self"] (FD VC):=by
 refine F.ok OP (fun vs H Q E h=>?_) (fun ac A outer s H vs Q E hr h=>?_)
 ·obtain ⟨p,kp,n,rfl,_⟩:=h;rfl
 ·obtain ⟨p,kp,n,rfl,⟨dx,hp⟩,k⟩:=h;refine ⟨_,AE (AS (Aq (pv 0) rfl)),?_⟩;exact ⟨_,rfl,p,VC,dx,_,_,rfl,hp,VT.cl,VT.nK,ER _ _,k⟩
def NH (C VC:Addr):Sp:=fun vs H Q _=>∃ (a:Addr) (v:V) (ka:Addr) (na:Nat) (due:LN) (r:Str),vs=[.ref a,v]/\ValAt VC H a ka na/\KindAt C H ka due r/\Asc due /\
 ((∃ i,v=.int i/\Q (.bl false) H)\/∃ (b kb:Addr) (nb:Nat) (due':LN) (r':Str),v=.ref b/\ValAt VC H b kb nb/\KindAt C H kb due' r'/\Asc due'/\∀ H',Same H H'->Q (.bl (decide ((due=due'/\r=r')/\na=nb))) H')
theorem QR:AL ["self", "other"] ["self", "other"] (defScope Fk):=fsc
theorem Pf (F:Fun K "__eq__" "Value.__eq__" Fk f fd) (B:Bl mg) (T:Cp K C) (VT:Gb K VC) (VI:KIsi K VC) (hI:W.kitOne K (.type "int") (.ref VC)=some false) (mV:mg "Value" = some (.ref VC))
  (GE:Mt P w K mg base C "__eq__" 2 ["self", "other"] (Ix C)):Af P w K mg base CX0 3 f fd ["self", "other"] (NH C VC):=by
 obtain ⟨fE,dE,GE,mE,bE⟩:=GE.ex;refine F.ok QR (fun vs H Q E h=>?_) (fun ac A outer s H vs Q E hr h=>?_)
 ·obtain ⟨a,v,ka,na,due,r,rfl,_⟩:=h;rfl
 ·obtain ⟨a,v,ka,na,due,r,rfl,⟨dx,hp⟩,KA,h1,h⟩:=h
  refine ⟨_,AE (AS (B0 (AW (G2 K rfl) rfl B.isi Hk (AA (pv 1) (AA (Br (v:=.ref VC) rfl mV rfl) AC)))
   (B0 (CB (MW GE hr bE mE) (Aq (pv 0) rfl) (Aq (pv 1) rfl) (Ae _))
    (CZ (CB Dr (Aq (pv 0) rfl) (Aq (pv 1) rfl) (Ae _)))))),?_⟩
  rcases h with ⟨i,rfl,k⟩ | ⟨b,kb,nb,due',r',rfl,⟨dy,hq⟩,KB,h2,k⟩
  ·refine ⟨_,rfl,_,VC,_,false,rfl,.int i,hI,_,rfl,?_⟩;exact Aw k
  ·refine ⟨_,rfl,_,VC,_,true,rfl,VI.ty hq,Iu K VC,_,rfl,?_⟩;refine CA ?_;obtain ⟨dka,d1,d2,hka⟩:=KA.ins;obtain ⟨dkb,e1,e2,hkb⟩:=KB.ins;refine ⟨_,rfl,a,VC,dx,_,_,rfl,hp,VT.cl,VT.nK,ER _ _,_,rfl,b,VC,dy,_,_,rfl,hq,VT.cl,VT.nK,ER _ _,?_⟩;refine ⟨ka,dka,_,kb,rfl,rfl,hka,.inl ⟨_,_,hkb⟩,ka,kb,due,r,rfl,KA,h1,.inr ⟨due',r',KB,h2,fun H1 s1=>⟨_,rfl,_,rfl,?_⟩⟩⟩;refine Bc (fun e=>?_) (fun e=>?_)
   ·have e':=of_decide_eq_true e;refine ⟨_,rfl,a,VC,dx,_,_,rfl,s1 _ _ hp,VT.cl,VT.nB,ES _ _,_,rfl,b,VC,dy,_,_,rfl,s1 _ _ hq,VT.cl,VT.nB,ES _ _,rfl,?_⟩;have ev:decide (V.int (na:Int)=V.int (nb:Int))=decide ((due=due'/\r=r')/\na=nb):=decide_eq_decide.mpr ⟨fun z=>⟨e',by have:=V.int.inj z; omega⟩,fun z=>by rw [z.2]⟩;rw [ev];exact k _ s1
   ·have:=k _ s1;rw [decide_eq_false (fun z=>e (decide_eq_true z.1))] at this;exact this
structure JA (P:Program) (w:World) (K:FG) (mg:SV) (base:Heap) (C VC:Addr):Prop where
 VT:Gb K VC
 cls:mg "Value" = some (.ref VC)
 make:∃ f fd,Mk K VC f/\Af P w K mg base CX0 4 f fd ["self", "kind", "number"] (FC C VC)/\Binds K fd ["self", "kind", "number"] []
 eq:∃ f fd,Af P w K mg base CX0 3 f fd ["self", "other"] (NH C VC)/\JT K VC "__eq__" f/\Binds K fd ["self", "other"] []
 isi:KIsi K VC
 ne:W.findIn K (.ref VC) "__ne__" = some (some (.builtin "object.__ne__"))
 ni:W.subIn K (.type "int") (.ref VC)=some false
theorem CW {D kp dx:Addr} (hkp:H kp=none) (a5:H dx=none) (a0:dx ≠ kp):Same H (upd (upd H dx (.own kp)) kp (.ins D dx [])):=by
 refine AF (AF (Same.refl _) a5) ?_;rw [AH (Ne.symm a0)];exact hkp
theorem By {Hc:Hp} {kp:Addr} (sN:Same H H') (hkp:H kp=none) (sc:∀ b o,H' b=some o->b ≠ kp->Hc b=some o):Same H Hc:=fun b o e=>sc b o (sN _ _ e) (AG e hkp)
theorem QS (h:∀ p ∈ due,p.2 < 2 ^ 20):kn due < 2 ^ 20:=by
 unfold kn;exact D7 fun n hn=>by obtain ⟨p,hp,rfl⟩:=mem_map.mp hn; exact h p hp
end
theorem Ey {α β:Type} {F:α->β->Prop}:∀ {xs:List α} {ys:List β} {i:Nat} {a:α},Paired F xs ys->xs[i]?=some a->∃ b,ys[i]?=some b/\F a b
 | _,_,_,_,.nil,e=>by simp at e
 | _,_,0,_,.cons r _,e=>by simp at e; subst e; exact ⟨_,rfl,r⟩
 | _,_,i + 1,x,.cons _ t,e=>by
  obtain ⟨u,h1,h2⟩:=Ey (i:=i) (a:=x) t (by simpa using e);exact ⟨u,by simpa using h1,h2⟩
def An (due:LN) (n:Nat):List Str:=((AJ due).filter fun m=>decide (m &&& n ≠ 0)).map (A2 (AN due))
theorem BC (due:LN):(AJ due).length <= due.length:=Nat.le_trans (length_filter_le _ _) (DH due)
section
def F8 (C VC:Addr):Sp:=fun vs H Q _=>∃ (p kp:Addr) (n:Nat) (due:LN) (r:Str),vs=[.ref p]/\ValAt VC H p kp n/\KindAt C H kp due r/\due.length <= 60/\∀ l H',Same H H'->H' l=some (.lst ((An due n).map V.str))->Q (.ref l) H'
theorem NI:AL ["self"] ["self"] (defScope C0):=fsc
theorem Lc (F:Fun K "marks" "Value.marks" C0 f fd) (T:Cp K C) (VT:Gb K VC) (GM:Mt P w K mg base C "marks" 2 ["self"] (EF C)):Af P w K mg base CX0 3 f fd ["self"] (F8 C VC):=by
 obtain ⟨fM,dM,GM,mM,bM⟩:=GM.ex;refine F.ok NI (fun vs H Q E h=>?_) (fun ac A outer s H vs Q E hr h=>?_)
 ·obtain ⟨p,kp,n,due,r,rfl,_⟩:=h;rfl
 ·obtain ⟨p,kp,n,due,r,rfl,⟨dx,hp⟩,KA,h60,k⟩:=h;obtain ⟨dxk,d1,d2,ah⟩:=KA.ins
  refine ⟨_,AE (AS (Cu ["self"] [some 0] (by kernel_rfl) (by decide +kernel) (by kernel_rfl) (by kernel_rfl) rfl (Al (Ai (Aq (pv 0) rfl) T.cl mM GM hr bM .nil AM))
   (fun _ _ _ _ _ _=>D0 (Ac Ds (AY DQ (pv 1) (Hl K rfl (pv 2) rfl)) AI (Ae _))) (fun _ _ _ _ _ _=>pv 0))),?_⟩
  refine ⟨_,rfl,p,VC,dx,_,_,rfl,hp,VT.cl,VT.nK,ER _ _,kp,dxk,_,rfl,ah,(Ba _ _ _),kp,due,r,rfl,KA,h60,fun l as H1 s1 hl ht=>?_⟩;have av:=BC due;have ax:as.length=(AJ due).length:=by rw [ht.length]; unfold Bb; rw [length_map]
  refine ⟨l,rfl,⟨_,SqL.of hl⟩,A8 (K:=K) (a:=l) (xs:=as.map V.ref) (fun i ys H2=>ys=((((AJ due).take i).filter fun m=>decide (m &&& n ≠ 0)).map (A2 (AN due))).map V.str/\H2=H1) ⟨rfl,rfl⟩ (fun i ys H2 _ ⟨_,e⟩=>e ▸ SqL.of hl) (fun i ys H2 ⟨e,_⟩=>?_) ?_ ?_⟩
  ·rw [e,length_map,length_map];have h3:(((AJ due).take i).filter fun m=>decide (m &&& n ≠ 0)).length <= ((AJ due).take i).length:=length_filter_le _ _;rw [length_take] at h3;omega
  ·rintro i v ys H2 hi ⟨rfl,rfl⟩;rw [getElem?_map] at hi;obtain ⟨b,hb,rfl⟩:=Option.map_eq_some_iff.mp hi
   obtain ⟨pr,hpr,ak⟩:∃ pr,(Bb due)[i]?=some pr/\H2 b=some (.tup [pr.1,pr.2]):=by
    exact Ey ht hb
   unfold Bb at hpr;rw [getElem?_map] at hpr;obtain ⟨m,hm,rfl⟩:=Option.map_eq_some_iff.mp hpr;refine ⟨b,_,rfl,SqT.of ak,rfl,_,_,rfl,_,_,rfl,rfl,?_⟩;refine ⟨_,rfl,_,rfl,p,VC,dx,_,_,rfl,s1 _ _ hp,VT.cl,VT.nB,ES _ _,_,_,rfl,rfl,rfl,_,rfl,?_⟩;have et:(((AJ due).take (i + 1)).filter fun m=>decide (m &&& n ≠ 0))=((AJ due).take i).filter (fun m=>decide (m &&& n ≠ 0))++(if decide (m &&& n ≠ 0) then [m] else []):=PySem.take_succ_filter (fun m=>decide (m &&& n ≠ 0)) _ i m hm
   have ed:(!decide (V.int (Builtin.bitAnd (m:Int) (n:Int))=V.int 0))=decide (m &&& n ≠ 0):=by
    rw [Cf];by_cases z:m &&& n=0
    ·rw [z]; rfl
    ·rw [decide_eq_true z,decide_eq_false (fun y=>z (by have:=V.int.inj y; omega))]; rfl
   show if (!decide (V.int (Builtin.bitAnd (m:Int) (n:Int))=V.int 0))=true then _ else _
   rw [ed];refine Bc (fun hq=>?_) (fun hq=>?_)
   ·refine ⟨_,rfl,?_,rfl⟩;rw [et,if_pos hq,map_append,map_append];rfl
   ·refine ⟨?_,rfl⟩;rw [et,if_neg hq,append_nil]
  ·rintro ys H2 ⟨rfl,rfl⟩ q hq;have el:(AJ due).take (as.map V.ref).length=AJ due:=by rw [length_map,ax]; exact take_length
   rw [el];exact k q _ (AF s1 hq) AB
def Dl (C:Addr):Sp:=fun vs H Q _=>∃ (kp:Addr) (due:LN) (r:Str),vs=[.ref kp]/\KindAt C H kp due r/\due.length <= 60/\∀ H',Same H H'->Q (.int (AX (AJ due):Nat)) H'
theorem J1:AL ["kind"] ["kind"] (defScope Ej):=fsc
theorem JB (F:Fun K "mark_bits" "mark_bits" Ej f fd) (T:Cp K C) (GM:Mt P w K mg base C "marks" 2 ["self"] (EF C)) (GU:Fn P w K mg base "union_of" 1 ["numbers"] (Bu K)):Af P w K mg base CX0 3 f fd ["kind"] (Dl C):=by
 obtain ⟨fM,dM,GM,mM,bM⟩:=GM.ex;obtain ⟨fU,dU,GU,mU,kU,bU⟩:=GU.ex;refine F.ok J1 (fun vs H Q E h=>?_) (fun ac A outer s H vs Q E hr h=>?_)
 ·obtain ⟨kp,due,r,rfl,_⟩:=h;rfl
 ·obtain ⟨kp,due,r,rfl,KA,h60,k⟩:=h;obtain ⟨dxk,d1,d2,ah⟩:=KA.ins;have hr1:Room 1 _:=hr.mono (by decide);refine ⟨_,AE (AS (AK GU hr1 rfl mU kU bU .nil AM (AA (Cu [] [] (by kernel_rfl) (by decide +kernel) (by kernel_rfl) (by kernel_rfl) rfl (Al (Ai (pv 0) T.cl mM GM hr bM .nil AM)) (fun _ _ _ _ _ _=>A3) (fun _ _ _ _ _ _=>pv 1)) AC))),?_⟩;refine ⟨_,rfl,kp,dxk,_,rfl,ah,(Ba _ _ _),kp,due,r,rfl,KA,h60,fun l as H1 s1 hl ht=>?_⟩;have av:=BC due;have ax:as.length=(AJ due).length:=by rw [ht.length]; unfold Bb; rw [length_map]
  refine ⟨l,rfl,⟨_,SqL.of hl⟩,A8 (K:=K) (a:=l) (xs:=as.map V.ref) (fun i ys H2=>ys=AZ ((AJ due).take i)/\H2=H1) ⟨rfl,rfl⟩ (fun i ys H2 _ ⟨_,e⟩=>e ▸ SqL.of hl) (fun i ys H2 ⟨e,_⟩=>?_) ?_ ?_⟩
  ·rw [e]; unfold AZ; rw [length_map,length_take]; omega
  ·rintro i v ys H2 hi ⟨rfl,rfl⟩;rw [getElem?_map] at hi;obtain ⟨b,hb,rfl⟩:=Option.map_eq_some_iff.mp hi;obtain ⟨pr,hpr,ak⟩:∃ pr,(Bb due)[i]?=some pr/\H2 b=some (.tup [pr.1,pr.2]):=Ey ht hb;unfold Bb at hpr;rw [getElem?_map] at hpr;obtain ⟨m,hm,rfl⟩:=Option.map_eq_some_iff.mp hpr;refine ⟨b,_,rfl,SqT.of ak,rfl,_,_,rfl,_,_,rfl,rfl,_,rfl,?_,rfl⟩;rw [take_add_one,hm,Option.toList_some];unfold AZ;rw [map_append];rfl
  ·rintro ys H2 ⟨rfl,rfl⟩ q hq;have el:(AJ due).take (as.map V.ref).length=AJ due:=by rw [length_map,ax]; exact take_length
   rw [el];exact ⟨q,AJ due,rfl,SqL.of AB,k _ (AF s1 hq)⟩
def Hv (C VC:Addr):Sp:=fun vs H Q _=>∃ (p kp:Addr) (n:Nat) (due:LN) (r:Str),vs=[.ref p]/\ValAt VC H p kp n/\KindAt C H kp due r/\due.length <= 60/\∀ H',Same H H'->Q (.int ((n - (n &&& AX (AJ due)):Nat):Int)) H'
theorem OQ:AL ["self"] ["self"] (defScope Dc):=fsc
theorem NJ (F:Fun K "rest" "Value.rest" Dc f fd) (VT:Gb K VC) (GB:Fn P w K mg base "mark_bits" 3 ["kind"] (Dl C)):Af P w K mg base CX0 4 f fd ["self"] (Hv C VC):=by
 obtain ⟨fB,dB,GB,mB,kB,bB⟩:=GB.ex;refine F.ok OQ (fun vs H Q E h=>?_) (fun ac A outer s H vs Q E hr h=>?_)
 ·obtain ⟨p,kp,n,due,r,rfl,_⟩:=h;rfl
 ·obtain ⟨p,kp,n,due,r,rfl,⟨dx,hp⟩,KA,h60,k⟩:=h;refine ⟨_,AE (AS (AY DQ (Aq (pv 0) rfl) (Ln Lq (AK GB hr rfl mB kB bB .nil AM (AA (Aq (pv 0) rfl) AC))))),?_⟩;refine ⟨_,rfl,p,VC,dx,_,_,rfl,hp,VT.cl,VT.nB,ES _ _,_,rfl,p,VC,dx,_,_,rfl,hp,VT.cl,VT.nK,ER _ _,kp,due,r,rfl,KA,h60,fun H1 s1=>⟨_,rfl,_,_,rfl,rfl,?_⟩⟩;show Q (V.int (Builtin.bitAnd (n:Int) (Builtin.bitNot ((AX (AJ due):Nat):Int)))) H1;rw [Ff];exact k H1 s1
end
theorem none_of {x:Addr} (s:Same H H') (h:H' x=none):H x=none:=by
 cases e:H x with
 | none=>rfl
 | some u=>rw [s _ _ e] at h; cases h
section
theorem JC {ns:List Str} (hs:∀ x ∈ ns,x ∈ due.map (·.1)):AX (ns.map (look due)) - (AX (ns.map (look due)) &&& kn due)=0:=by
 have h:AX (ns.map (look due)) &&& kn due=AX (ns.map (look due)):=by
  refine Nat.eq_of_testBit_eq fun k=>?_;rw [Nat.testBit_and];cases e:(AX (ns.map (look due))).testBit k with
  | false=>rfl
  | true =>
   rw [BW,any_map,any_eq_true] at e;obtain ⟨x,hx,hb⟩:=e;simp only [Function.comp] at hb
   have:(kn due).testBit k=true:=by
    unfold kn;rw [BW,any_map,any_eq_true];unfold look at hb;cases q:due.find? fun p=>decide (p.1=x) with
    | none=>rw [q] at hb; simp at hb
    | some p=>rw [q] at hb; exact ⟨p,mem_of_find?_eq_some q,hb⟩
   rw [this]; rfl
 omega
theorem JD {ns:List Str} (h:∀ p ∈ due,p.2 < 2 ^ 20):AX (ns.map (look due)) < 2 ^ 20:=by
 refine D7 fun n hn=>?_;obtain ⟨x,_,rfl⟩:=mem_map.mp hn;unfold look;cases q:due.find? fun p=>decide (p.1=x) with
 | none=>show 0 < 2 ^ 20; decide
 | some p=>exact h p (mem_of_find?_eq_some q)
def NK (C VC:Addr):Sp:=fun vs H Q _=>∃ (kp l:Addr) (due:LN) (r:Str) (ns:List Str),vs=[.ref kp,.ref l]/\KindAt C H kp due r/\H l=some (.lst (ns.map V.str))/\ns.length <= 100/\(∀ x ∈ ns,x ∈ due.map (·.1))/\(∀ p ∈ due,p.2 < 2 ^ 20) /\
 ∀ q H',Same H H'->ValAt VC H' q kp (AX (ns.map (look due)))->Q (.ref q) H'
theorem Ld:AL ["kind", "names"] ["kind", "names"] (defScope Fl):=fsc
theorem J2 (F:Fun K "value_of" "value_of" Fl f fd) (B:Bl mg) (T:Cp K C) (VO:JA P w K mg base C VC) (GU:Fn P w K mg base "union_of" 1 ["numbers"] (Bu K)) (GNu:Mt P w K mg base C "number" 2 ["self", "name"] (EM C)) :
  Af P w K mg base CX0 6 f fd ["kind", "names"] (NK C VC):=by
 obtain ⟨fU,dU,GU,mU,kU,bU⟩:=GU.ex;obtain ⟨fN,dN,GN,mN,bN⟩:=GNu.ex;obtain ⟨fI,dI,MI,GI,bI⟩:=VO.make;have mV:=VO.cls;refine F.ok Ld (fun vs H Q E h=>?_) (fun ac A outer s H vs Q E hr h=>?_)
 ·obtain ⟨kp,l,due,r,ns,rfl,_⟩:=h;rfl
 ·obtain ⟨kp,l,due,r,ns,rfl,KA,hl,hn,hs,hlt,k⟩:=h;have hr1:Room 1 _:=hr.mono (by decide);have hr2:Room 2 _:=hr.mono (by decide);obtain ⟨dxk,d1,d2,ah⟩:=KA.ins;have hnl:(ns.map V.str).length=ns.length:=length_map _
  have step:∀ (Hx:Hp),Same H Hx->∀ (i:Nat) (v:V) (ys:List V),(ns.map V.str)[i]?=some v->ys=AZ ((ns.take i).map (look due))->∃ x,v=V.str x/\x ∈ due.map (·.1)/\ys++[V.int (look due x:Nat)]=AZ ((ns.take (i + 1)).map (look due)):=by
   intro Hx sx i v ys hi e;rw [getElem?_map] at hi;obtain ⟨x,hx,rfl⟩:=Option.map_eq_some_iff.mp hi;refine ⟨x,rfl,hs x (mem_of_getElem? hx),?_⟩;rw [e,take_add_one,hx,Option.toList_some,map_append];unfold AZ;rw [map_append];rfl
  have el:ns.take (ns.map V.str).length=ns:=by rw [hnl]; exact take_length
  refine ⟨_,AD (Ak (BI (BH (AW (Ji K rfl) rfl B.isi Hk (AA (pv 1) (AA (BQ (AA (HF (v:=.ty "list") rfl B.list DE rfl) (AA (HF (v:=.ty "tuple") rfl B.tuple B7 rfl) AC))) AC))))) (AE Ag) AT)
   (AE (AS (FB MI GI hr rfl mV bI .nil AM (AA (pv 0) (AA (AK GU hr1 rfl mU kU bU .nil AM (AA (Az ["kind"] [some 0] (by kernel_rfl) (by decide +kernel) (by kernel_rfl) rfl (Al (pv 1)) (fun _ _ _ _ _ _=>A3) (fun _ _ _ _ _ _=>DA (pv 1) T.cl mN GN hr2 bN .nil AM (AA (pv 0) AC))) AC)) AC))))),?_⟩
  refine ⟨_,rfl,sl2,fun t ht=>?_⟩;have s1:=AF (Same.refl _) ht (o:=HO.tup [V.ty "list", V.ty "tuple"]);refine ⟨l,t,_,rfl,.inl (s1 _ _ hl),SqT.of AB,_,rfl,?_⟩;refine Aw ?_;refine ⟨_,rfl,_,rfl,l,rfl,⟨_,SqL.of (s1 _ _ hl)⟩,A8 (K:=K) (a:=l) (xs:=ns.map V.str) (fun i ys H2=>ys=AZ ((ns.take i).map (look due))/\H2=upd H t (.tup [V.ty "list", V.ty "tuple"])) ⟨rfl,rfl⟩ (fun i ys H2 _ ⟨_,e⟩=>e ▸ SqL.of (s1 _ _ hl)) (fun i ys H2 ⟨e,_⟩=>?_) ?_ ?_⟩
  ·rw [e]; unfold AZ; rw [length_map,length_map,length_take]; omega
  ·rintro i v ys H2 hi ⟨e,rfl⟩;obtain ⟨x,rfl,hx,ey⟩:=step _ s1 i v ys hi e;exact ⟨_,rfl,kp,dxk,_,rfl,s1 _ _ ah,(Ba _ _ _),_,rfl,kp,due,r,x,rfl,KA.same s1,hx,ey,rfl⟩
  ·rintro ys H2 ⟨rfl,rfl⟩ p hp;rw [el];have s2:=s1.trans (AF (Same.refl _) hp (o:=HO.lst (AZ (ns.map (look due)))));refine ⟨p,ns.map (look due),rfl,SqL.of AB,?_⟩;intro q dq hq hdq a0;have sN:=CW (D:=VC) hq hdq a0;refine ⟨q,dq,kp,due,r,AX (ns.map (look due)),rfl,AB,(KA.same s2).same sN,?_,.inr (JC hs),fun H3 s3 hV=>⟨rfl,?_⟩⟩
   ·have:=JD (ns:=ns) hlt;have h2:(2:Nat) ^ 20 < 2 ^ 40:=by decide
    omega
   ·exact k q H3 (s2.trans (By sN hq s3)) hV
end
theorem Hw:bootBuiltins "dict" = some (.type "dict"):=by decide +kernel
abbrev Ent:=Str × Addr × List Str
def kvT (es:List Ent):LK:=es.map fun q=>((Sum.inr q.1:Key),V.ref q.2.1)
def EntA (H:Hp) (a:Addr) (q:Ent):Prop:=H a=some (.tup [.str q.1,.ref q.2.1])/\H q.2.1=some (.tup (q.2.2.map V.str))
theorem EntA.same {a:Addr} {q:Ent} (s:∀ b xs,H b=some (.tup xs)->H' b=some (.tup xs)) (h:EntA H a q):EntA H' a q:=⟨s _ _ h.1,s _ _ h.2⟩
def Ez (due:LN):LK:=(AJ due).map fun n=>((Sum.inr (A2 (AN due) n):Key),V.int (n:Int))
def kM (due:LN):LK:=BY [] (Ez due)
def kN (due:LN):LK:=BY [] (As due)
def Gc (told:LK) (ys:LK) (kv:Key × V):LK:=match Ah told kv.1 with | some v=>A1 ys kv.1 v | none=>ys
def EV (km told:LK):LK:=km.foldl (Gc told) []
theorem NL (told ys:LK) (kv:Key × V):(Gc told ys kv).length <= ys.length + 1:=by
 unfold Gc;split
 ·exact BL _ _ _
 ·omega
theorem JE (told:LK):∀ (km ys:LK),(km.foldl (Gc told) ys).length <= ys.length + km.length
 | [],ys=>Nat.le_refl _
 | kv :: r,ys=>by
  have h1:=JE told r (Gc told ys kv);have h2:=NL told ys kv;rw [foldl_cons,length_cons];omega
theorem J3 {km told:LK} {i:Nat} {kv:Key × V} (h:km[i]?=some kv):EV (km.take (i + 1)) told=Gc told (EV (km.take i) told) kv:=by
 unfold EV;rw [take_add_one,h,foldl_append];rfl
theorem Pg (due:LN):(kM due).length <= due.length:=by
 have h1:=Fe (Ez due) [];have h2:=BC due;have h3:(Ez due).length=(AJ due).length:=length_map _;unfold kM;rw [length_nil] at h1;omega
theorem NM {as:List Addr} {ps:LK} (t:TupsAt H as (ps.map fun q=>(kV q.1,q.2))):as.length=ps.length/\∀ (i:Nat) b q,as[i]?=some b->ps[i]?=some q->SqT K H b [kV q.1,q.2]:=by
 refine ⟨by rw [t.length,length_map],fun i b q hb hq=>?_⟩;obtain ⟨p,hp,h⟩:=Bi t hb;rw [getElem?_map,hq] at hp;cases hp;exact SqT.of h
theorem NN (due:LN):Bb due=(Ez due).map fun q=>(kV q.1,q.2):=by
 unfold Bb Ez;rw [map_map];rfl
theorem JF:∀ {as:List Addr} {es:List Ent},Paired (EntA H) as es->TupsAt H as ((kvT es).map fun q=>(kV q.1,q.2))
 | _,_,.nil=>.nil
 | _,_,.cons q p=>.cons q.1 (JF p)
section
def NO:Sp:=fun vs H Q _=>∃ (a dm dn:Addr) (km kn:LK) (q:Ent),vs=[.ref a,.ref dm,.ref dn]/\Rd H dm (.dK km)/\Rd H dn (.dK kn)/\EntA H a q/\(Ah km (Sum.inr q.1:Key)).isSome=true/\q.2.2.length <= 1000/\(∀ y ∈ q.2.2,(Ah kn (Sum.inr y:Key)).isSome=true)/\∀ H',Same H H'->Q (.bl true) H'
theorem QT:AL ["thing", "marks", "names"] ["thing", "marks", "names"] (defScope Fo):=fsc
theorem Ph (F:Fun K "is_entry" "is_entry" Fo f fd) (B:Bl mg) (GO:Fn P w K mg base "is_one_of" 1 ["thing", "names"] (Bv K)):Af P w K mg base CX0 2 f fd ["thing", "marks", "names"] NO:=by
 obtain ⟨fO,dO,GO,mO,kO,bO⟩:=GO.ex;refine F.ok QT (fun vs H Q E h=>?_) (fun ac A outer s H vs Q E hr h=>?_)
 ·obtain ⟨a,dm,dn,km,kn,q,rfl,_⟩:=h;rfl
 ·obtain ⟨a,dm,dn,km,kn,⟨x,c,ns⟩,rfl,hm,hn,⟨ha,hc⟩,h1,hl,h2,k⟩:=h;have hl':ns.length <= 1000:=hl;have hu:=B5 hr
  refine ⟨_,AD (Ak (PW.pt (CN (BI (BH (BZ K rfl rfl B.isi rfl B.tuple B7 (pv 0)))) (CN (Ac Ds (AW (Ax K rfl) rfl B.len PySem.boot_len (AA (pv 0) AC)) AI (Ae _))
    (Bz (BI (BH (BZ K rfl rfl B.isi rfl B.tuple B7 (BK (Bj K rfl) (pv 0) AI (fun _ _=>rfl))))))))) (AE Ag) AT)
   (AE (AS (B0 (AK GO hr rfl mO kO bO .nil AM (AA (BK (Bj K rfl) (pv 0) AI (fun _ _=>rfl)) (AA (pv 1) AC)))
    (CZ (AW (D5 rfl) rfl B.all Hj (AA (Az ["names"] [some 2] (by kernel_rfl) (by decide +kernel) (by kernel_rfl) rfl (HG (BK (Bj K rfl) (pv 0) AI (fun _ _=>rfl))) (fun _ _ _ _ _ _=>A3)
     (fun _ _ _ _ _ _=>AK GO hr rfl mO kO bO .nil AM (AA (pv 0) (AA (pv 1) AC)))) AC)))))),?_⟩
  refine ⟨_,rfl,_,_,_,true,rfl,.tup ha,rfl,_,rfl,Aw ?_⟩;refine ⟨_,rfl,a,_,rfl,.inr (SqT.of ha),rfl,_,rfl,?_⟩;refine KN rfl ?_;refine ⟨_,rfl,a,_,_,_,rfl,rfl,SqT.of ha,rfl,_,_,_,true,rfl,.tup hc,rfl,_,rfl,Aw ?_⟩;refine ⟨_,rfl,a,_,_,_,rfl,rfl,SqT.of ha,rfl,_,rfl,.inl ⟨x,dm,km,rfl,hm,_,rfl,?_⟩⟩;rw [h1];refine CA ?_;refine ⟨_,rfl,a,_,_,_,rfl,rfl,SqT.of ha,rfl,c,rfl,⟨_,SqT.of hc⟩,Fb (K:=K) (a:=c) (xs:=ns.map V.str) (fun i zs H2=>H2=H/\zs=(ns.take i).map fun _=>V.bl true) ⟨rfl,rfl⟩ (fun i zs H2 _ ⟨e,_⟩=>e ▸ SqT.of hc) (fun i zs H2 ⟨_,e⟩=>by rw [e,length_map,length_take]; omega) ?_ ?_⟩
  ·rintro i z zs H2 hi ⟨rfl,rfl⟩;rw [getElem?_map] at hi;obtain ⟨y,hy,rfl⟩:=Option.map_eq_some_iff.mp hi;refine ⟨_,rfl,_,rfl,.inl ⟨y,dn,kn,rfl,hn,rfl,?_⟩⟩;rw [h2 y (mem_of_getElem? hy),take_add_one,hy,map_append];rfl
  ·rintro zs H2 ⟨rfl,rfl⟩ q hq;refine ⟨q,(ns.take (ns.map V.str).length).map fun _=>true,rfl,SqL.of (by rw [AB,map_map]; rfl),?_⟩;rw [show (((ns.take (ns.map V.str).length).map fun _=>true).all id)=true by rw [all_map]; exact List.all_eq_true.mpr fun _ _=>rfl];exact k _ (AF (Same.refl _) hq)
structure Prs (due ab:LN) (H:Hp) (l:Addr) (es:List Ent):Prop where
 at_:∃ as:List Addr,H l=some (.lst (as.map V.ref))/\Paired (EntA H) as es
 len:es.length <= 100
 nd:(es.map (·.1)).Nodup
 mr:∀ q ∈ es,(Ah (kM due) (Sum.inr q.1:Key)).isSome=true
 nm:∀ q ∈ es,q.2.2.length <= 3/\∀ y ∈ q.2.2,(Ah (kN ab) (Sum.inr y:Key)).isSome=true
theorem E1:∀ (ps kvs:LK),(ps.map (·.1)).Nodup->(∀ k ∈ ps.map (·.1),Ah kvs k=none)->BY kvs ps=kvs++ps
 | [],kvs,_,_=>(append_nil _).symm
 | p :: r,kvs,hn,hk=>by
  rw [map_cons,nodup_cons] at hn;have e:A1 kvs p.1 p.2=kvs++[(p.1,p.2)]:=Bn p.2 (hk _ (mem_cons_self ..));show BY (A1 kvs p.1 p.2) r=_;rw [E1 r _ hn.2 fun k hkr=>?_,e,List.append_assoc]
  ·rfl
  ·rw [FS,if_neg (show ¬ k=p.1 from fun z=>hn.1 (z ▸ hkr))];exact hk k (mem_cons_of_mem _ hkr)
theorem CI {α β:Type} {f:α->β}:∀ {l:List α},l.Nodup->(∀ a ∈ l,∀ b ∈ l,f a=f b->a=b)->(l.map f).Nodup
 | [],_,_=>nodup_nil
 | a :: r,hn,h=>by
  rw [nodup_cons] at hn;rw [map_cons,nodup_cons];refine ⟨fun z=>?_,CI hn.2 fun b hb c hc=>h b (mem_cons_of_mem _ hb) c (mem_cons_of_mem _ hc)⟩;obtain ⟨b,hb,e⟩:=mem_map.mp z;exact hn.1 (h a (mem_cons_self ..) b (mem_cons_of_mem _ hb) e.symm ▸ hb)
theorem NP {es:List Ent} (h:(es.map (·.1)).Nodup):((kvT es).map (·.1)).Nodup:=by
 have e:(kvT es).map (·.1)=(es.map (·.1)).map (fun x=>(Sum.inr x:Key)):=by unfold kvT; rw [map_map,map_map]; rfl
 rw [e];exact CI h fun a _ b _ e=>Sum.inr.inj e
theorem NQ {es:List Ent} (h:(es.map (·.1)).Nodup):BY [] (kvT es)=kvT es:=by
 rw [E1 _ _ (NP h) fun _ _=>rfl,nil_append]
def NR (C:Addr):Sp:=fun vs H Q _=>∃ (k o l:Addr) (due ab:LN) (r r2:Str) (es:List Ent),vs=[.ref k,.ref o,.ref l]/\KindAt C H k due r/\due.length <= 60/\KindAt C H o ab r2/\ab.length <= 60/\Prs due ab H l es /\
 ∀ d H',Same H H'->H d=none->H' d=some (.dK (EV (kM due) (kvT es)))->Q (.ref d) H'
theorem scTab:AL ["kind", "other", "pairs", "marks", "names", "told"] ["kind", "other", "pairs"] (defScope Fp):=fsc
theorem Pi (F:Fun K "table_of" "table_of" Fp f fd) (B:Bl mg) (hD:mg "dict" = none) (T:Cp K C) (GM:Mt P w K mg base C "marks" 2 ["self"] (EF C)) (GR:Mt P w K mg base C "rows" 1 ["self"] (Ho C)) (GE:Fn P w K mg base "is_entry" 2 ["thing", "marks", "names"] NO) :
  Af P w K mg base CX0 3 f fd ["kind", "other", "pairs"] (NR C):=by
 obtain ⟨fM,dM,GM,mM,bM⟩:=GM.ex;obtain ⟨fR,dR,GR,mR,bR⟩:=GR.ex;obtain ⟨fE,dE,GE,mE,kE,bE⟩:=GE.ex;refine F.ok scTab (fun vs H Q E h=>?_) (fun ac A outer s H vs Q E hr h=>?_)
 ·obtain ⟨k,o,l,due,ab,r,r2,es,rfl,_⟩:=h;rfl
 ·obtain ⟨k,o,l,due,ab,r,r2,es,rfl,KA,h60,KB,h60',PR,q⟩:=h;have hu:=B5 hr;have hr2:Room 1 _:=hr.mono (by decide)
  refine ⟨_,AD (Ad (i:=3) scTab.nd rfl (Or.inr rfl) (BU (DU rfl) rfl hD Hw (AA (Ai (pv 0) T.cl mM GM hr bM .nil AM) AC)))
   (Ce (AD (Ad (i:=4) scTab.nd rfl (Or.inr rfl) (BU (DU rfl) rfl hD Hw (AA (Ai (pv 1) T.cl mR GR hr2 bR .nil AM) AC)))
   (AD (Ak (PW.pt (CN (BI (BH (BZ K rfl rfl B.isi rfl B.list DE (pv 2)))) (Bz (BI (BH (AW (D5 rfl) rfl B.all Hj (AA (Az ["marks", "names"] [some 3,some 4] (by kernel_rfl) (by decide +kernel) (by kernel_rfl) rfl (Al (pv 2)) (fun _ _ _ _ _ _=>A3)
     (fun _ _ _ _ _ _=>AK GE hr rfl mE kE bE .nil AM (AA (pv 0) (AA (pv 1) (AA (pv 2) AC))))) AC))))))) (AE Ag) AT)
   (AD (Ad (i:=5) scTab.nd rfl (Or.inr rfl) (BU (DU rfl) rfl hD Hw (AA (pv 2) AC)))
   (AD (Ak (Ac KH (AW Ky rfl B.len PySem.boot_len (AA (pv 5) AC)) (AW (Ax K rfl) rfl B.len PySem.boot_len (AA (pv 2) AC)) (Ae _)) (AE Ag) AT)
   (AE (AS (K9 ["told"] [some 5] (by kernel_rfl) (by decide +kernel) (by kernel_rfl) rfl (KU (pv 3)) (fun _ _ _ _ _ _=>D0 (BO (Eg hu (pv 0) (pv 1)))) (fun _ _ _ _ _ _=>pv 0) (fun _ _ _ _ _ _=>BA hu (pv 1) (pv 0) (fun _ _=>rfl)))))))))),?_⟩
  obtain ⟨dk,e1,e2,hk⟩:=KA.ins;obtain ⟨dq,g1,g2,ho⟩:=KB.ins;obtain ⟨as,hl,hps⟩:=PR.at_;have ax:as.length=es.length:=hps.length;have hz:=PR.len;refine ⟨_,rfl,k,dk,_,rfl,hk,(Ba _ _ _),k,due,r,rfl,KA,h60,fun l1 as1 H1 s1 hl1 ht1=>?_⟩;rw [NN] at ht1;obtain ⟨n1,q1⟩:=NM (K:=K) ht1
  have z1:(Ez due).length <= 1000:=by
   have h3:(Ez due).length=(AJ due).length:=length_map _;have:=BC due;omega
  refine ⟨l1,as1,Ez due,rfl,SqL.of hl1,n1,z1,q1,fun dm hdm=>?_⟩;refine ⟨dm,kM due,AB,fun om=>?_⟩;rw [HD];have s2:Same H (upd H1 dm (.frz om (.dK (kM due)))):=AF s1 hdm;refine ⟨_,rfl,o,dq,_,rfl,s2 _ _ ho,(Ba _ _ _),o,ab,r2,rfl,KB.same s2,fun l3 as3 H3 s3 hl3 ht3=>?_⟩;rw [← KZ] at ht3;obtain ⟨n3,q3⟩:=NM (K:=K) ht3;refine ⟨l3,as3,As ab,rfl,SqL.of hl3,n3,by rw [DF]; omega,q3,fun dn hdn=>?_⟩;have s4:Same H (upd H3 dn (.dK (kN ab))):=AF (s2.trans s3) hdn
  have hm4:(upd H3 dn (.dK (kN ab))) dm=some (.frz om (.dK (kM due))):=by
   have:=s3 _ _ (AB (H:=H1) (a:=dm) (o:=.frz om (.dK (kM due))));rw [AH (AG this hdn)];exact this
  have hn4:(upd H3 dn (.dK (kN ab))) dn=some (.dK (kN ab)):=AB;rw [show BY [] (As ab)=kN ab from rfl];generalize upd H3 dn (.dK (kN ab))=H4 at s4 hm4 hn4 ⊢;refine ⟨_,rfl,_,_,_,true,rfl,.lst (s4 _ _ hl),rfl,_,rfl,Aw ?_⟩;refine ⟨_,rfl,l,rfl,⟨_,SqL.of (s4 _ _ hl)⟩,A8 (K:=K) (a:=l) (xs:=as.map V.ref) (fun i ys H5=>Same H4 H5/\ys=(as.take i).map fun _=>V.bl true) ⟨Same.refl _,rfl⟩ (fun i ys H5 _ ⟨e,_⟩=>SqL.of (e _ _ (s4 _ _ hl))) (fun i ys H5 ⟨_,e⟩=>by rw [e,length_map,length_take]; omega) ?_ ?_⟩
  ·rintro i z ys H5 hi ⟨s5,rfl⟩;rw [getElem?_map] at hi;obtain ⟨a,ha,rfl⟩:=Option.map_eq_some_iff.mp hi;obtain ⟨en,hen,hE⟩:=Bi hps ha;have bi:=mem_of_getElem? hen;refine ⟨_,rfl,_,rfl,_,rfl,a,dm,dn,kM due,kN ab,en,rfl,.inr ⟨om,s5 _ _ hm4⟩,.inl (s5 _ _ hn4),hE.same (fun b xs e=>s5 _ _ (s4 _ _ e)),PR.mr _ bi,by have:=(PR.nm _ bi).1; omega,(PR.nm _ bi).2,fun H6 s6=>⟨s5.trans s6,?_⟩⟩;rw [take_add_one,ha,map_append];rfl
  ·rintro ys H5 ⟨s5,rfl⟩ q5 hq5;have sq:=AF s5 hq5 (o:=HO.lst ((as.take (as.map V.ref).length).map fun _=>V.bl true));refine ⟨q5,(as.take (as.map V.ref).length).map fun _=>true,rfl,SqL.of (by rw [AB,map_map]; rfl),_,rfl,?_⟩;rw [show (((as.take (as.map V.ref).length).map fun _=>true).all id)=true by rw [all_map]; exact List.all_eq_true.mpr fun _ _=>rfl];refine Aw ?_;generalize upd H5 q5 (HO.lst ((as.take (as.map V.ref).length).map fun _=>V.bl true))=H6 at sq ⊢;have s6:Same H H6:=s4.trans sq;obtain ⟨n6,q6⟩:=NM (K:=K) (TupsAt.same s6 (JF hps));have hkl:(kvT es).length=es.length:=length_map _;refine ⟨_,rfl,l,as,kvT es,rfl,SqL.of (s6 _ _ hl),n6,by omega,q6,fun dt hdt=>?_⟩;rw [NQ PR.nd];have s7:Same H6 (upd H6 dt (.dK (kvT es))):=AF (Same.refl _) hdt;have ht7:(upd H6 dt (.dK (kvT es))) dt=some (.dK (kvT es)):=AB;generalize upd H6 dt (.dK (kvT es))=H7 at s7 ht7 ⊢;have hm7:=s7 _ _ (sq _ _ hm4);refine ⟨_,rfl,dt,_,rfl,ht7,_,rfl,l,_,rfl,.inl (SqL.of (s7 _ _ (s6 _ _ hl))),_,_,rfl,rfl,_,rfl,?_⟩;refine Bc (fun z=>absurd (of_decide_eq_true z) (by rw [length_map]; omega)) (fun _=>?_);have hkm:=Pg due;refine ⟨_,rfl,dm,om,kM due,rfl,hm7,Jl (fun i ys H8=>H8=H7/\ys=EV ((kM due).take i) (kvT es)) ⟨rfl,rfl⟩ (fun i ys H8 ⟨e,_⟩=>e ▸ hm7) (fun i ys H8 ⟨_,e⟩=>?_) ?_ ?_⟩
   ·have:=JE (kvT es) ((kM due).take i) [];rw [e];unfold EV;rw [length_nil,length_take] at this;omega
   ·rintro i kv ys H8 hkv ⟨rfl,rfl⟩;refine ⟨_,rfl,_,rfl,dt,_,rfl,.inl ⟨_,kv.1,.inl ht7,rfl,rfl⟩,_,rfl,?_⟩;rw [J3 hkv];unfold Gc;cases e:Ah (kvT es) kv.1 with
    | none=>exact Aw ⟨rfl,rfl⟩
    | some v=>exact CA ⟨_,rfl,_,rfl,_,rfl,dt,_,rfl,.inl ⟨_,kv.1,.inl ht7,rfl,e.symm⟩,kv.1,rfl,rfl,rfl⟩
   ·rintro ys H8 ⟨rfl,rfl⟩ d hd;rw [take_length];exact q d _ (AF (s6.trans s7) hd) (none_of (s6.trans s7) hd) AB
end
theorem Q7:¬ (("own_kind" : Str) = "second_kind"):=by decide +kernel
theorem Q8:¬ (("own_kind" : Str) = "table"):=by decide +kernel
theorem Q9:¬ (("second_kind" : Str) = "table"):=by decide +kernel
def EX (k o d:Addr):List (Str × V):=A4 "table" (.ref d) (A4 "second_kind" (.ref o) (A4 "own_kind" (.ref k) []))
theorem FE (k o d:Addr):(EX k o d).lookup ("own_kind" : Str)=some (.ref k):=by
 unfold EX;rw [AQ,if_neg Q8,AQ,if_neg Q7,AQ,if_pos rfl]
theorem JG (k o d:Addr):(EX k o d).lookup ("second_kind" : Str)=some (.ref o):=by
 unfold EX;rw [AQ,if_neg Q9,AQ,if_pos rfl]
theorem J4 (k o d:Addr):(EX k o d).lookup ("table" : Str)=some (.ref d):=by
 unfold EX;rw [AQ,if_pos rfl]
theorem G5 (k o d:Addr) {m:Str} (h1:¬ m = "table" := by decide +kernel) (h2:¬ m = "second_kind" := by decide +kernel) (h3:¬ m = "own_kind" := by decide +kernel):(EX k o d).lookup m=none:=by
 unfold EX;rw [AQ,if_neg h1,AQ,if_neg h2,AQ,if_neg h3];rfl
def EdAt (EC:Addr) (H:Hp) (p k o:Addr) (kvs:LK):Prop:=∃ dx d ob,H p=some (.ins EC dx (EX k o d))/\H d=some (.frz ob (.dK kvs))
theorem EdAt.same {p k o:Addr} {kvs:LK} (s:Same H H') (h:EdAt EC H p k o kvs):EdAt EC H' p k o kvs:=by
 obtain ⟨dx,d,ob,h1,h2⟩:=h;exact ⟨dx,d,ob,s _ _ h1,s _ _ h2⟩
structure JH (K:FG) (EC:Addr):Prop where
 cl:Cls K EC
 nK:NoAttr K EC "own_kind"
 nS:NoAttr K EC "second_kind"
 nT:NoAttr K EC "table"
def SameN (p:Addr) (H H':Hp):Prop:=∀ b o,H b=some o->b ≠ p->H' b=some o
theorem KindAt.sameN {p dx:Addr} {k:Addr} {r:Str} (s:SameN p H H') (hp:H p=some (.ins EC dx [])) (h:KindAt C H k due r):KindAt C H' k due r:=by
 obtain ⟨x,d1,o1,d2,o2,a,b,c⟩:=h.ex;refine ⟨⟨x,d1,o1,d2,o2,s _ _ a fun e=>?_,s _ _ b fun e=>?_,s _ _ c fun e=>?_⟩⟩
 ·subst e;rw [hp] at a;have q:=EB d1 d2 r;cases a
 ·subst e;rw [hp] at b;cases b
 ·subst e;rw [hp] at c;cases c
theorem SameN.tup {p dx:Addr} (s:SameN p H H') (hp:H p=some (.ins EC dx [])):∀ b xs,H b=some (.tup xs)->H' b=some (.tup xs):=fun b xs e=>s b _ e fun q=>by
 subst q;rw [hp] at e;cases e
theorem Prs.sameN {p dx l:Addr} {es:List Ent} (s:SameN p H H') (hp:H p=some (.ins EC dx [])) (h:Prs due ab H l es):Prs due ab H' l es:=by
 obtain ⟨as,h1,h2⟩:=h.at_;exact ⟨⟨as,s _ _ h1 fun q=>(by subst q; rw [hp] at h1; cases h1),Paired.imp' (fun _ _ q=>q.same (s.tup hp)) h2⟩,h.len,h.nd,h.mr,h.nm⟩
section
variable {cP:Addr}
def Kd (C EC:Addr):Sp:=fun vs H Q _=>∃ (p dx k o l:Addr) (due ab:LN) (r r2:Str) (es:List Ent),vs=[.ref p,.ref k,.ref o,.ref l]/\H p=some (.ins EC dx [])/\KindAt C H k due r/\due.length <= 60/\KindAt C H o ab r2/\ab.length <= 60/\Prs due ab H l es /\
 ∀ H',SameN p H H'->EdAt EC H' p k o (EV (kM due) (kvT es))->Q .non H'
theorem OR:AL ["self", "kind", "other", "pairs"] ["self", "kind", "other", "pairs"] (defScope Ck):=fsc
theorem NS (F:Fun K "__init__" "Edition.__init__" Ck f fd) (ET:JH K EC) (GT:Fn P w K mg base "table_of" 3 ["kind", "other", "pairs"] (NR C)) :
  Af P w K mg base CX0 4 f fd ["self", "kind", "other", "pairs"] (Kd C EC):=by
 obtain ⟨fT,dT,GT,mT,kT,bT⟩:=GT.ex;refine F.ok OR (fun vs H Q E h=>?_) (fun ac A outer s H vs Q E hr h=>?_)
 ·obtain ⟨p,dx,k,o,l,due,ab,r,r2,es,rfl,_⟩:=h;rfl
 ·obtain ⟨p,dx,k,o,l,due,ab,r,r2,es,rfl,hp,KA,h60,KB,h60',PR,hG⟩:=h;refine ⟨_,AD (Cr (pv 0) (pv 1) rfl) (AD (Cr (pv 0) (pv 2) rfl) (AD (Cr (pv 0) (AK GT hr rfl mT kT bT .nil AM (AA (pv 1) (AA (pv 2) (AA (pv 3) AC)))) rfl) (Ce AT))),?_⟩;refine ⟨_,rfl,_,rfl,p,EC,dx,_,rfl,hp,ET.cl,ET.nK,(by show 0 < 1000; decide),?_⟩;refine ⟨_,rfl,_,rfl,p,EC,dx,_,rfl,AB,ET.cl,ET.nS,(by show 1 < 1000; decide),?_⟩;rw [HD];have s1:SameN p H (upd H p (.ins EC dx (A4 "second_kind" (.ref o) (A4 "own_kind" (.ref k) [])))):=fun b u e hb=>by rw [AH hb]; exact e
  have al:(upd H p (.ins EC dx (A4 "second_kind" (.ref o) (A4 "own_kind" (.ref k) [])))) p=some (.ins EC dx (A4 "second_kind" (.ref o) (A4 "own_kind" (.ref k) []))):=AB;generalize upd H p (.ins EC dx (A4 "second_kind" (.ref o) (A4 "own_kind" (.ref k) [])))=H1 at s1 al ⊢;refine ⟨_,rfl,_,rfl,_,rfl,k,o,l,due,ab,r,r2,es,rfl,KA.sameN s1 hp,h60,KB.sameN s1 hp,h60',PR.sameN s1 hp,fun d H2 s2 ao hd=>?_⟩;have npd:p ≠ d:=AG al ao;refine ⟨_,rfl,p,EC,dx,_,rfl,s2 _ _ al,ET.cl,ET.nT,Nat.lt_of_le_of_lt (Bm _ _ _) (by show 2 < 1000; decide),?_⟩;refine ⟨d,_,by rw [AH (Ne.symm npd)]; exact hd,fun ob=>?_⟩;refine hG _ (fun b u e hb=>?_) ⟨dx,d,ob,?_,AB⟩
  ·have e1:=s1 b u e hb;rw [AH (AG e1 ao),AH hb];exact s2 _ _ e1
  ·rw [AH npd,AB];rfl
def Hy (EC:Addr):Sp:=fun vs H Q _=>∃ p k o kvs,vs=[.ref p]/\EdAt EC H p k o kvs/\Q (.ref k) H
theorem OS:AL ["self"] ["self"] (defScope Cl):=fsc
theorem NT (F:Fun K "kind" "Edition.kind" Cl f fd) (ET:JH K EC):Af P w K mg base CX0 1 f fd ["self"] (Hy EC):=by
 refine F.ok OS (fun vs H Q E h=>?_) (fun ac A outer s H vs Q E hr h=>?_)
 ·obtain ⟨p,k,o,kvs,rfl,_⟩:=h;rfl
 ·obtain ⟨p,k,o,kvs,rfl,⟨dx,d,ob,hp,hd⟩,q⟩:=h;exact ⟨_,AE (AS (Aq (pv 0) rfl)),_,rfl,p,EC,dx,_,_,rfl,hp,ET.cl,ET.nK,FE _ _ _,q⟩
end
theorem Bs (x:Str):∀ es:List Ent,Ah (kvT es) (Sum.inr x:Key)=(es.lookup x).map fun q=>V.ref q.1
 | []=>rfl
 | q :: r=>by
  have ih:=Bs x r;unfold kvT Ah at ih ⊢;rw [map_cons,find?_cons,lookup_cons];by_cases h:q.1=x
  ·rw [decide_eq_true (show (Sum.inr q.1:Key)=Sum.inr x by rw [h]),show (x == q.1)=true by rw [h]; simp];rfl
  ·rw [decide_eq_false (show ¬ (Sum.inr q.1:Key)=Sum.inr x from fun z=>h (Sum.inr.inj z)),show (x == q.1)=false by simp; exact fun z=>h z.symm];exact ih
def TabN (ab:LN) (H:Hp) (tab:List Ent):Prop:=∀ q ∈ tab,H q.2.1=some (.tup (q.2.2.map V.str))/\q.2.2.length <= 3/\∀ y ∈ q.2.2,y ∈ ab.map (·.1)
theorem TabN.same {tab:List Ent} (s:∀ b xs,H b=some (.tup xs)->H' b=some (.tup xs)) (h:TabN ab H tab):TabN ab H' tab:=fun q hq=>⟨s _ _ (h q hq).1,(h q hq).2⟩
def fl (tab:List Ent) (ms:List Str):List Str:=ms.flatMap fun x=>((tab.lookup x).map (·.2)).getD []
def Has (tab:List Ent) (ms:List Str):Prop:=∀ x ∈ ms,(tab.lookup x).isSome=true
def QU (tab:List Ent) (ms:List Str) (x:Str):Prop:=∃ i,ms[i]?=some x/\Has tab (ms.take i)/\tab.lookup x=none
theorem EY {tab:List Ent} {x:Str} {q:Addr × List Str} (h:tab.lookup x=some q):(x,q) ∈ tab:=by
 induction tab with
 | nil=>cases h
 | cons y r ih =>
  rw [lookup_cons] at h;cases e:x == y.1 with
  | true=>rw [e] at h; cases h; rw [eq_of_beq e]; exact mem_cons_self ..
  | false=>rw [e] at h; exact mem_cons_of_mem _ (ih h)
theorem OT {tab:List Ent} {ms:List Str} {i:Nat} {x:Str} {q:Addr × List Str} (h:ms[i]?=some x) (hq:tab.lookup x=some q):fl tab (ms.take (i + 1))=fl tab (ms.take i)++q.2:=by
 unfold fl;rw [take_add_one,h,List.flatMap_append];show _++List.flatMap _ [x]=_;rw [List.flatMap_singleton,hq];rfl
theorem Oi {tab:List Ent} (h:TabN ab H tab) (ms:List Str):∀ y ∈ fl tab ms,y ∈ ab.map (·.1):=fun y hy=>by
 obtain ⟨x,_,hx⟩:=List.mem_flatMap.mp hy;cases e:tab.lookup x with
 | none=>rw [e] at hx; cases hx
 | some q=>rw [e] at hx; exact (h _ (EY e)).2.2 y hx
theorem J5 {tab:List Ent} (h:TabN ab H tab):∀ ms:List Str,(fl tab ms).length <= 3 * ms.length
 | []=>Nat.le_refl _
 | x :: r=>by
  have ih:=J5 h r;unfold fl at ih ⊢;rw [List.flatMap_cons,length_append,length_cons];cases e:tab.lookup x with
  | none=>show 0 + _ <= _; omega
  | some q =>
   have:=(h _ (EY e)).2.1;show q.2.length + _ <= _;simp only at this;omega
section
def Pj (C VC EC:Addr):Sp:=fun vs H Q _=>∃ (p v k o kp:Addr) (n:Nat) (due ab:LN) (r:Str) (tab:List Ent),vs=[.ref p,.ref v]/\EdAt EC H p k o (kvT tab)/\TabN ab H tab/\ValAt VC H v kp n/\KindAt C H kp due r/\due.length <= 60 /\
 Has tab (An due n)/\∀ l H',Same H H'->H' l=some (.lst ((fl tab (An due n)).map V.str))->Q (.ref l) H'
theorem scNf:AL ["self", "value", "names", "mark"] ["self", "value"] (defScope Bg):=fsc
theorem EZ (due:LN) (n:Nat):(An due n).length <= due.length:=by
 unfold An;rw [length_map];exact Nat.le_trans (length_filter_le _ _) (BC due)
theorem QV (F:Fun K "names_for" "Edition.names_for" Bg f fd) (ET:JH K EC) (VT:Gb K VC) (GM:Mt P w K mg base VC "marks" 3 ["self"] (F8 C VC)) :
  Af P w K mg base CX0 4 f fd ["self", "value"] (Pj C VC EC):=by
 obtain ⟨fM,dM,GM,mM,bM⟩:=GM.ex;refine F.ok scNf (fun vs H Q E h=>?_) (fun ac A outer s H vs Q E hr h=>?_)
 ·obtain ⟨p,v,k,o,kp,n,due,ab,r,tab,rfl,_⟩:=h;rfl
 ·obtain ⟨p,v,k,o,kp,n,due,ab,r,tab,rfl,ED,TN,hV,KA,h60,hA,q⟩:=h;have hu:=B5 hr;have hr3:Room 3 _:=hr.mono (by decide);obtain ⟨dx,d,ob,hp,hd⟩:=ED;obtain ⟨dv,hv⟩:=id hV
  refine ⟨_,AD (Ad (i:=2) scNf.nd rfl (Or.inl rfl) (Bq AC))
   (AD (BP PassesOwn.never rfl (Al (Ai (pv 1) VT.cl mM GM hr bM .nil AM)) (AO (i:=3) scNf.nd rfl (Or.inl rfl))
    (AD (Ak (BO (DB hu (pv 3) (Aq (pv 0) rfl))) (AE Ag) AT)
    (AE (Dp (IN PySem.F.plainAttrs_list PySem.F.slot_list_extend PySem.F.type_list_extend Jm (pv 2) (AA (BA hu (Aq (pv 0) rfl) (pv 3) (fun _ _=>rfl)) AC))))))
   (AE (AS (pv 2)))),?_⟩
  refine ⟨(by show 0 <= sizeLine; decide),fun l hl=>?_⟩;have s1:=AF (Same.refl _) hl (o:=HO.lst []);have hl1:(upd H l (HO.lst [])) l=some (.lst []):=AB;have hl0:=hl;generalize upd H l (HO.lst [])=H1 at s1 hl1 ⊢;refine ⟨_,rfl,v,dv,_,rfl,s1 _ _ hv,E6 _ _ (by decide +kernel) (by decide +kernel),v,kp,n,due,r,rfl,hV.same s1,KA.same s1,h60,fun l2 H2 s2 hl2=>?_⟩;have s12:=s1.trans s2;have hlm:=EZ due n;have af:=J5 TN;generalize An due n=ms at hA q hl2 hlm ⊢
  have nll:l2 ≠ l\/ms=[]:=by
   by_cases z:l2=l
   ·refine .inr ?_;rw [z,s2 _ _ hl1] at hl2;cases ms with
    | nil=>rfl
    | cons a r=>cases hl2
   ·exact .inl z
  refine ⟨l2,rfl,⟨_,SqL.of hl2⟩,BD (K:=K) (a:=l2) (xs:=ms.map V.str) (fun i σ H3=>(∃ v3:Option V,σ=[some (.ref p),some (.ref v),some (.ref l),v3])/\Has tab (ms.take i)/\(∀ b u,H2 b=some u->b ≠ l->H3 b=some u)/\H3 l=some (.lst ((fl tab (ms.take i)).map V.str))/\(i=0->H3=H2))
   ⟨⟨none,rfl⟩,(fun x hx=>by cases hx),fun _ _ e _=>e,s2 _ _ hl1,fun _=>rfl⟩ (fun i σ H3 hi ⟨_,_,e,_,hz⟩=>?_) ?_ ?_⟩
  ·rcases nll with z | z
   ·exact SqL.of (e _ _ hl2 z)
   ·rw [z] at hi;rw [hz (Nat.le_zero.mp hi)];exact SqL.of hl2
  ·rintro i x0 σ H3 hi ⟨⟨v3,rfl⟩,hH,e3,hl3,hz⟩;rw [getElem?_map] at hi;obtain ⟨x,hx,rfl⟩:=Option.map_eq_some_iff.mp hi;have s13:Same H H3:=fun b u e=>e3 b u (s12 _ _ e) (AG e hl0);refine ⟨_,rfl,_,rfl,p,EC,dx,_,_,rfl,s13 _ _ hp,ET.cl,ET.nT,J4 _ _ _,d,_,rfl,.inl ⟨_,Sum.inr x,.inr ⟨ob,s13 _ _ hd⟩,rfl,rfl⟩,_,rfl,?_⟩;rw [Bs];cases eq:tab.lookup x with
   | none =>
    have:=hA x (mem_of_getElem? hx);rw [eq] at this;cases this
   | some q' =>
    refine Aw ?_;have hq:=TN _ (EY eq);have hi60:i < ms.length:=(List.getElem?_eq_some_iff.mp hx).1;have hfi:=af (ms.take i);rw [length_take] at hfi;refine ⟨_,rfl,.inl ⟨rfl,_,SqL.of hl3⟩,_,rfl,p,EC,dx,_,_,rfl,s13 _ _ hp,ET.cl,ET.nT,J4 _ _ _,_,rfl,d,_,rfl,.inl ⟨_,Sum.inr x,.inr ⟨ob,s13 _ _ hd⟩,rfl,by rw [Bs,eq]; rfl⟩,l,q'.1,_,_,rfl,rfl,hl3,s13 _ _ hq.1,Nat.le_of_lt (AU (by rw [length_map,length_map]; have:=hq.2.1; simp only at this; omega)),?_⟩;refine ⟨⟨_,rfl⟩,fun y hy=>?_,fun b u e hb=>by rw [AH hb]; exact e3 b u e hb,?_,fun z=>by cases z⟩
    ·rw [take_add_one,hx] at hy;rcases mem_append.mp hy with z | z
     ·exact hH y z
     ·rw [show y=x from mem_singleton.mp z,eq];rfl
    ·rw [AB,OT hx eq,map_append]
  ·rintro σ H3 ⟨⟨v3,rfl⟩,hH,e3,hl3,_⟩;rw [length_map,take_length] at hH hl3;exact ⟨_,rfl,q l _ (fun b u e=>e3 b u (s12 _ _ e) (AG e hl0)) hl3⟩
end
section
theorem NU {X:Cx} {e:Expr}:PE X e (fun _ _ _=>False):=fun _ _ _ _ _ _ h=>h.elim
def J6 (C VC:Addr):Sp:=fun vs H Q _=>∃ (kp:Addr) (due:LN) (r:Str) (n:Nat),vs=[.ref kp,.int (n:Int)]/\KindAt C H kp due r/\n < 2 ^ 40/\n - (n &&& kn due)=0/\∀ q H',Same H H'->ValAt VC H' q kp n->Q (.ref q) H'
theorem scMade:AL ["kind", "number", "bits", "rest"] ["kind", "number"] (defScope Mb):=fsc
theorem OU {tL:Tok} (F:Fun K "made" "made" Mb f fd) (hL:mg "LIMIT" = some (.int 1099511627776 tL)) (T:Cp K C) (VO:JA P w K mg base C VC)
  (GW:Fn P w K mg base "is_whole" 1 ["thing"] CU) (GR:Fn P w K mg base "rest_of" 3 ["kind", "number"] (EU C)) (GRe:Mt P w K mg base C "rest" 1 ["self"] (Ht C)) :
  Af P w K mg base CX0 6 f fd ["kind", "number"] (J6 C VC):=by
 obtain ⟨fW,dW,GW,mW,kW,bW⟩:=GW.ex;obtain ⟨fR,dR,GR,mR,kR,bR⟩:=GR.ex;obtain ⟨fE,dE,GE,mE,bE⟩:=GRe.ex;obtain ⟨fI,dI,MI,GI,bI⟩:=VO.make;have mV:=VO.cls;refine F.ok scMade (fun vs H Q E h=>?_) (fun ac A outer s H vs Q E hr h=>?_)
 ·obtain ⟨kp,due,r,n,rfl,_⟩:=h;rfl
 ·obtain ⟨kp,due,r,n,rfl,KA,h40,h0,k⟩:=h;have hr1:Room 1 _:=hr.mono (by decide);have hr3:Room 3 _:=hr.mono (by decide);obtain ⟨dxk,d1,d2,ah⟩:=KA.ins
  refine ⟨_,AD (Ak (PW.pt (CN (BI (BH (AK GW hr1 rfl mW kW bW .nil AM (AA (pv 1) AC)))) (Bz (BI (Du Dt KH (Ln Oz (Br (v:=.int 1099511627776) rfl hL ⟨tL,rfl⟩)) (pv 1) (Br (v:=.int 1099511627776) rfl hL ⟨tL,rfl⟩)))))) (AE Ag) AT)
   (AD (Ad (i:=2) scMade.nd rfl (Or.inl rfl) (FL (Ac Ls (pv 1) AI (Ae _)) (pv 1) NU))
   (AD (Ad (i:=3) scMade.nd rfl (Or.inl rfl) (AK GR hr3 rfl mR kR bR .nil AM (AA (pv 0) (AA (pv 2) AC))))
   (AD (Ak (PW.pt (Ed (Ac Ds (pv 3) AI (Ae _)) (C9 (Ac Dr (Ai (pv 0) T.cl mE GE hr1 bE .nil AM) A0 (Ae _))))) (AE Ag) AT)
   (AD (Ak (Ac KH (pv 1) AI (Ae _)) (AE Ag) AT)
   (AD (Ak (PW.pt (Ed (Ac Ds (pv 3) AI (Ae _)) (C9 (Ac Dr (Ai (pv 0) T.cl mE GE hr1 bE .nil AM) A0 (Ae _))))) (AE Ag) AT)
   (AE (AS (FB MI GI hr rfl mV bI .nil AM (AA (pv 0) (AA (FL (Ac Dr (Ai (pv 0) T.cl mE GE hr1 bE .nil AM) A0 (Ae _)) (pv 2) (AY JS (pv 2) (pv 3))) AC)))))))))),?_⟩
  have noR:(F0 d1 d2 r).lookup ("rest" : Str)=none:=(Ba _ _ _);have e40:(2:Nat) ^ 40=1099511627776:=by decide
  refine ⟨_,rfl,_,rfl,_,rfl,?_⟩;refine Aw ?_;refine ⟨_,rfl,_,rfl,_,_,rfl,rfl,_,rfl,?_⟩;rw [decide_eq_true (show -1099511627776 <= (n:Int) by omega)];refine CA ?_;refine ⟨_,_,rfl,rfl,_,rfl,?_⟩;rw [decide_eq_true (show (n:Int) < 1099511627776 by omega)];refine Aw ?_;refine ⟨_,rfl,_,_,rfl,rfl,_,rfl,?_⟩;rw [decide_eq_true (show (0:Int) <= (n:Int) from Int.natCast_nonneg _)];refine CA ⟨_,rfl,?_⟩;refine ⟨_,rfl,_,rfl,kp,due,r,n,rfl,KA,fun H1 s1=>?_⟩;have KA1:=KA.same s1;have hpk1:=s1 _ _ ah;rw [h0];refine ⟨_,rfl,rfl,_,rfl,?_⟩;rw [decide_eq_true (show V.int ((0:Nat):Int)=V.int 0 from rfl)];refine Aw (Aw ?_);refine ⟨_,rfl,_,_,rfl,rfl,_,rfl,?_⟩;rw [decide_eq_false (show ¬ (n:Int) < 0 by omega)];refine Aw ?_;refine ⟨_,rfl,rfl,_,rfl,?_⟩;rw [decide_eq_true (show V.int ((0:Nat):Int)=V.int 0 from rfl)];refine Aw (Aw ?_);refine ⟨_,rfl,_,rfl,kp,dxk,_,rfl,hpk1,noR,kp,due,r,rfl,KA1,rfl,_,rfl,?_⟩
  have fin:∀ q dq,H1 q=none->H1 dq=none->dq ≠ q->FC C VC [.ref q,.ref kp,.int (n:Int)] (upd (upd H1 dq (.own q)) q (.ins VC dq [])) (fun v H4=>v=.non/\Q (.ref q) H4) E0:=fun q dq hq hdq a0=>by
   have sN:=CW (D:=VC) hq hdq a0;exact ⟨q,dq,kp,due,r,n,rfl,AB,KA1.same sN,h40,.inr h0,fun H4 s4 hV=>⟨rfl,k q H4 (s1.trans (By sN hq s4)) hV⟩⟩
  refine Bc (fun _=>?_) (fun _=>?_)
  ·exact ⟨_,rfl,fin⟩
  ·refine ⟨_,rfl,_,rfl,_,_,rfl,rfl,?_⟩;have es:((n:Nat):Int) - ((0:Nat):Int)=(n:Int):=by omega
   intro q dq hq hdq a0;have:=fin q dq hq hdq a0;rw [← es] at this;exact this
def CJ (tab:List Ent) (due ab:LN) (n:Nat):Nat:=AX ((fl tab (An due n)).map (look ab)) ||| (n - (n &&& AX (AJ due)))
def Ke (C VC EC:Addr):Sp:=fun vs H Q _=>∃ (p v k o:Addr) (n:Nat) (due ab:LN) (r r2:Str) (tab:List Ent),vs=[.ref p,.ref v]/\EdAt EC H p k o (kvT tab)/\TabN ab H tab/\ValAt VC H v k n/\KindAt C H k due r/\Asc due/\due.length <= 30/\KindAt C H o ab r2/\(∀ q ∈ ab,q.2 < 2 ^ 20) /\
 Has tab (An due n)/\n - (n &&& AX (AJ due))=0/\∀ q H',Same H H'->ValAt VC H' q o (CJ tab due ab n)->Q (.ref q) H'
theorem scLed:AL ["self", "value", "number"] ["self", "value"] (defScope C1):=fsc
theorem Pk (F:Fun K "led" "Edition.led" C1 f fd) (ET:JH K EC) (VT:Gb K VC) (neK:W.findIn K (.ref C) "__ne__" = some (some (.builtin "object.__ne__"))) (hm:W.mroIn K C (.type "object")=some true)
  (GE:Mt P w K mg base C "__eq__" 2 ["self", "other"] (Ix C)) (GVK:Mt P w K mg base VC "kind" 1 ["self"] (FD VC)) (GVN:Mt P w K mg base VC "number" 1 ["self"] (CV VC)) (GVR:Mt P w K mg base VC "rest" 4 ["self"] (Hv C VC))
  (GN:Mt P w K mg base EC "names_for" 4 ["self", "value"] (Pj C VC EC)) (GV:Fn P w K mg base "value_of" 6 ["kind", "names"] (NK C VC)) (GM:Fn P w K mg base "made" 6 ["kind", "number"] (J6 C VC)) :
  Af P w K mg base CX0 7 f fd ["self", "value"] (Ke C VC EC):=by
 obtain ⟨fE,dE,GE,mE,bE⟩:=GE.ex;obtain ⟨fK,dK,GVK,mK,bK⟩:=GVK.ex;obtain ⟨fN,dN,GVN,mN,bN⟩:=GVN.ex;obtain ⟨fR,dR,GVR,mR,bR⟩:=GVR.ex;obtain ⟨fF,dF,GF,mF,bF⟩:=GN.ex;obtain ⟨fV,dV,GV,mV,kV',bV⟩:=GV.ex;obtain ⟨fM,dM,GM,mM,kM',bM⟩:=GM.ex;refine F.ok scLed (fun vs H Q E h=>?_) (fun ac A outer s H vs Q E hr h=>?_)
 ·obtain ⟨p,v,k,o,n,due,ab,r,r2,tab,rfl,_⟩:=h;rfl
 ·obtain ⟨p,v,k,o,n,due,ab,r,r2,tab,rfl,ED,TN,hV,KA,asc,h30,KB,hlt,hH,h0,q⟩:=h;have hr1:Room 1 _:=hr.mono (by decide);have hr3:Room 3 _:=hr.mono (by decide);have hr4:Room 4 _:=hr.mono (by decide);obtain ⟨dx,d,ob,hp,hd⟩:=id ED;obtain ⟨dv,hv⟩:=id hV;obtain ⟨dk,e1,e2,hk⟩:=KA.ins
  refine ⟨_,AD (Ak (Ac (Fc GE hr3 bE mE neK hm) (Ai (pv 1) VT.cl mK GVK hr1 bK .nil AM) (Aq (pv 0) rfl) (Ae _)) (AE Ag) AT)
   (AD (Ad (i:=2) scLed.nd rfl (Or.inl rfl) (Ai (AK GV hr rfl mV kV' bV .nil AM (AA (Aq (pv 0) rfl) (AA (DA (pv 0) ET.cl mF GF hr4 bF .nil AM (AA (pv 1) AC)) AC))) VT.cl mN GVN hr1 bN .nil AM))
   (AE (AS (AK GM hr rfl mM kM' bM .nil AM (AA (Aq (pv 0) rfl) (AA (AY FO (pv 2) (Ai (pv 1) VT.cl mR GVR hr4 bR .nil AM)) AC)))))),?_⟩
  refine ⟨_,rfl,v,dv,_,rfl,hv,E6 _ _ (by decide +kernel) (by decide +kernel),v,k,n,rfl,hV,_,rfl,p,EC,dx,_,_,rfl,hp,ET.cl,ET.nK,FE _ _ _,?_⟩;refine ⟨k,dk,_,k,dk,_,rfl,rfl,hk,hk,k,k,due,r,rfl,KA,asc,.inr ⟨due,r,KA,asc,fun H1 s1=>⟨_,rfl,_,rfl,_,rfl,?_⟩⟩⟩;rw [decide_eq_true (show due=due/\r=r from ⟨rfl,rfl⟩)];refine Aw ?_;refine ⟨_,rfl,p,EC,dx,_,_,rfl,s1 _ _ hp,ET.cl,ET.nS,JG _ _ _,_,rfl,p,dx,_,rfl,s1 _ _ hp,G5 _ _ _,_,rfl,p,v,k,o,k,n,due,ab,r,tab,rfl,ED.same s1,TN.same (fun b xs e=>s1 _ _ e),hV.same s1,KA.same s1,by omega,hH,fun l H2 s2 hl=>?_⟩;have s12:=s1.trans s2;have af:=J5 TN (An due n);have hlm:=EZ due n;refine ⟨o,l,ab,r2,_,rfl,KB.same s12,hl,by omega,Oi TN _,hlt,fun q1 H3 s3 hq1=>?_⟩;have s13:=s12.trans s3;obtain ⟨dq,hq⟩:=id hq1;refine ⟨q1,dq,_,rfl,hq,E6 _ _ (by decide +kernel) (by decide +kernel),q1,o,_,rfl,hq1,?_⟩;refine ⟨_,rfl,p,EC,dx,_,_,rfl,s13 _ _ hp,ET.cl,ET.nS,JG _ _ _,_,rfl,_,rfl,v,dv,_,rfl,s13 _ _ hv,E6 _ _ (by decide +kernel) (by decide +kernel),v,k,n,due,r,rfl,hV.same s13,KA.same s13,by omega,fun H4 s4=>⟨_,_,rfl,rfl,?_⟩⟩;have s14:=s13.trans s4;have eg:CJ tab due ab n=AX ((fl tab (An due n)).map (look ab)):=by unfold CJ; rw [h0,Nat.or_zero]
  refine ⟨o,ab,r2,CJ tab due ab n,?_,KB.same s14,?_,?_,fun q5 H5 s5 hV5=>q q5 H5 (s14.trans s5) hV5⟩
  ·show [V.ref o,V.int (Builtin.bitOr _ _)]=_;rw [CL];rfl
  ·rw [eg];exact Nat.lt_trans (JD hlt) (by decide)
  ·rw [eg];exact JC (Oi TN _)
end
theorem C8 (k:Key):∀ (ps kvs:LK),(Ah (BY kvs ps) k).isSome=((Ah kvs k).isSome || ps.any fun p=>decide (p.1=k))
 | [],kvs=>by simp [BY]
 | p :: r,kvs=>by
  show (Ah (BY (A1 kvs p.1 p.2) r) k).isSome=_;rw [C8 k r,FS,any_cons];by_cases h:k=p.1
  ·rw [if_pos h,decide_eq_true h.symm];simp
  ·rw [if_neg h,decide_eq_false (Ne.symm h),Bool.false_or]
def BG (due:LN):List Str:=(AJ due).map (A2 (AN due))
theorem Co {n:Nat} (h:n ∈ AJ due):n ∈ (AN due).map (·.1)/\Ar n=true:=by
 unfold AJ at h;obtain ⟨h1,h2⟩:=mem_filter.mp h;exact ⟨mem_keysS.mp h1,h2⟩
theorem CY {n:Nat} (h:n ∈ AJ due):(A2 (AN due) n,n) ∈ due:=Ev (LZ (Co h).1)
theorem Le (due:LN):(AJ due).Nodup:=((B9 due).nodup_iff.mpr (Gy due)).filter _
theorem QW (nd:(due.map (·.1)).Nodup) {x:Str} {m n:Nat} (h1:(x,m) ∈ due) (h2:(x,n) ∈ due):m=n:=by
 induction due with
 | nil=>cases h1
 | cons p r ih =>
  rw [map_cons,nodup_cons] at nd;rcases mem_cons.mp h1 with z1 | z1 <;> rcases mem_cons.mp h2 with z2 | z2
  ·rw [← z2] at z1;exact (Prod.mk.inj z1).2
  ·exact absurd (mem_map.mpr ⟨_,z2,by rw [← z1]⟩) nd.1
  ·exact absurd (mem_map.mpr ⟨_,z1,by rw [← z2]⟩) nd.1
  ·exact ih nd.2 z1 z2
theorem G6 (nd:(due.map (·.1)).Nodup):(BG due).Nodup :=
 CI (Le due) fun a ha b hb e=>QW nd (CY ha) (e ▸ CY hb)
theorem Lf {x:Str} (h:x ∈ BG due):x ∈ due.map (·.1):=by
 obtain ⟨n,hn,rfl⟩:=mem_map.mp h;exact mem_map.mpr ⟨_,CY hn,rfl⟩
theorem QX (x:Str):(Ah (kM due) (Sum.inr x:Key)).isSome=decide (x ∈ BG due):=by
 unfold kM;rw [C8];show (false || _)=_;rw [Bool.false_or];unfold Ez BG;rw [any_map];refine Bool.eq_iff_iff.mpr ?_;rw [any_eq_true,decide_eq_true_eq,mem_map];constructor
 ·rintro ⟨n,hn,e⟩;exact ⟨n,hn,Sum.inr.inj (of_decide_eq_true e)⟩
 ·rintro ⟨n,hn,e⟩;exact ⟨n,hn,decide_eq_true (congrArg Sum.inr e)⟩
theorem QY (x:Str):(Ah (kN due) (Sum.inr x:Key)).isSome=decide (x ∈ due.map (·.1)):=by
 unfold kN;rw [C8];show (false || _)=_;rw [Bool.false_or];unfold As;rw [any_map];refine Bool.eq_iff_iff.mpr ?_;rw [any_eq_true,decide_eq_true_eq,mem_map];constructor
 ·rintro ⟨n,hn,e⟩;exact ⟨n,hn,Sum.inr.inj (of_decide_eq_true e)⟩
 ·rintro ⟨n,hn,e⟩;exact ⟨n,hn,decide_eq_true (congrArg Sum.inr e)⟩
theorem F9 {α β:Type} {F:α->β->Prop} {a:α} {b:β} (h:F a b):∀ {xs:List α} {ys:List β} (j:Nat),Paired F xs ys->Paired F (xs.take j++a :: xs.drop j) (ys.take j++b :: ys.drop j)
 | _,_,0,p=>.cons h p
 | _,_,j + 1,.nil=>.cons h .nil
 | _,_,j + 1,.cons q p=>.cons q (F9 h j p)
theorem NV {α:Type} (x:α) (xs:List α) (j:Nat):(xs.take j++x :: xs.drop j).Perm (x :: xs):=by
 have h:=List.perm_middle (a:=x) (l₁:=xs.take j) (l₂:=xs.drop j);rw [take_append_drop] at h;exact h
theorem GA (told:LK):∀ (ps ys:LK),(ps.map (·.1)).Nodup->(∀ k ∈ ps.map (·.1),Ah ys k=none)->ps.foldl (Gc told) ys=ys++ps.filterMap fun kv=>(Ah told kv.1).map fun v=>(kv.1,v)
 | [],ys,_,_=>(append_nil _).symm
 | p :: r,ys,hn,hk=>by
  rw [map_cons,nodup_cons] at hn;have h0:=hk _ (mem_cons_self ..);rw [foldl_cons,filterMap_cons];unfold Gc;cases e:Ah told p.1 with
  | none=>exact GA told r ys hn.2 fun k h=>hk k (mem_cons_of_mem _ h)
  | some v =>
   have e2:A1 ys p.1 v=ys++[(p.1,v)]:=Bn v h0;show r.foldl (Gc told) (A1 ys p.1 v)=_;rw [GA told r _ hn.2 fun k h=>?_,e2,List.append_assoc]
   ·rfl
   ·rw [FS,if_neg (show ¬ k=p.1 from fun z=>hn.1 (z ▸ h))];exact hk k (mem_cons_of_mem _ h)
theorem G7 (nd:(due.map (·.1)).Nodup):((Ez due).map (·.1)).Nodup:=by
 have e:(Ez due).map (·.1)=(BG due).map fun x=>(Sum.inr x:Key):=by unfold Ez BG; rw [map_map,map_map]; rfl
 rw [e];exact CI (G6 nd) fun a _ b _ z=>Sum.inr.inj z
theorem Dm {α β:Type} {f g:α->Option β}:∀ {l:List α},(∀ a ∈ l,f a=g a)->l.filterMap f=l.filterMap g
 | [],_=>rfl
 | a :: r,h=>by rw [filterMap_cons,filterMap_cons,h a (mem_cons_self ..),Dm fun b hb=>h b (mem_cons_of_mem _ hb)]
def DJ (f:Str->Option (Addr × List Str)) (xs:List Str):List Ent:=xs.filterMap fun x=>(f x).map fun q=>(x,q)
theorem NW {es:List Ent} (nd:(due.map (·.1)).Nodup):EV (kM due) (kvT es)=kvT (DJ (fun x=>es.lookup x) (BG due)):=by
 unfold EV kM;rw [E1 _ _ (G7 nd) fun _ _=>rfl,nil_append,GA _ _ _ (G7 nd) fun _ _=>rfl,nil_append];unfold Ez DJ BG kvT;rw [List.filterMap_map,List.map_filterMap,List.filterMap_map];refine Dm fun n _=>?_;show (Ah (kvT es) (Sum.inr (A2 (AN due) n):Key)).map _=_;rw [Bs];show _=Option.map _ (Option.map _ (es.lookup (A2 (AN due) n)));cases es.lookup (A2 (AN due) n) <;> rfl
theorem GH {f g:Str->Option (Addr × List Str)} {xs:List Str} (h:∀ x ∈ xs,f x=g x):DJ f xs=DJ g xs:=Dm fun x hx=>by rw [h x hx]
theorem Hz {f:Str->Option (Addr × List Str)} {xs:List Str} {q:Ent} (h:q ∈ DJ f xs):q.1 ∈ xs:=by
 obtain ⟨x,hx,e⟩:=List.mem_filterMap.mp h;obtain ⟨y,_,rfl⟩:=Option.map_eq_some_iff.mp e;exact hx
theorem Bp {es:List Ent} {x:Str} (h:x ∉ es.map (·.1)):es.lookup x=none:=by
 cases e:es.lookup x with
 | none=>rfl
 | some q=>exact absurd (mem_map.mpr ⟨_,EY e,rfl⟩) h
theorem BN {es fs:List Ent} (y:Str):(es++fs).lookup y=(es.lookup y).or (fs.lookup y):=by
 induction es with
 | nil=>rfl
 | cons a r ih =>
  rw [List.cons_append,lookup_cons,lookup_cons];cases y == a.1 with
  | true=>rfl
  | false=>exact ih
theorem J7 {es:List Ent} {x:Str} {q:Addr × List Str} (j:Nat) (h:x ∉ es.map (·.1)) (y:Str):(es.take j++(x,q) :: es.drop j).lookup y=(es++[(x,q)]).lookup y:=by
 have e:es.lookup y=((es.take j).lookup y).or ((es.drop j).lookup y):=by rw [← BN,take_append_drop]
 rw [BN,BN,e,lookup_cons];cases z:y == x with
 | false =>
  show _=Option.or (Option.or _ _) (List.lookup y [(x,q)]);rw [show List.lookup y [(x,q)]=none by rw [lookup_cons,z]; rfl,Option.or_none]
 | true =>
  have hy:=eq_of_beq z;have hn:=Bp h;rw [← hy,e] at hn;rw [show List.lookup y [(x,q)]=some q by rw [lookup_cons,z]];cases e1:(es.take j).lookup y with
  | some v=>rw [e1] at hn; cases hn
  | none =>
   rw [e1] at hn;show some q=Option.or ((es.drop j).lookup y) (some q);rw [show (es.drop j).lookup y=none from hn];rfl
structure EI (mn:List Str) (i:Nat) (tab es:List Ent):Prop where
 nd:(es.map (·.1)).Nodup
 len:es.length <= i
 tlen:tab.length <= i
 lk:∀ y,es.lookup y=tab.lookup y
 pk:tab=DJ (fun x=>tab.lookup x) (mn.take i)
 sub:∀ q ∈ es,q ∈ tab
theorem EI.out {mn:List Str} {i:Nat} {tab es:List Ent} {x:Str} (h:EI mn i tab es) (hn:mn.Nodup) (hx:mn[i]?=some x):x ∉ tab.map (·.1):=fun z=>by
 obtain ⟨q,hq,rfl⟩:=mem_map.mp z;rw [h.pk] at hq;have h1:=Hz hq;have et:mn.take (i + 1)=mn.take i++[q.1]:=by rw [take_add_one,hx]; rfl
 have h7:=hn.sublist (take_sublist (i + 1) mn);rw [et,nodup_append] at h7;exact h7.2.2 _ h1 _ (mem_singleton.mpr rfl) rfl
theorem EI.skip {mn:List Str} {i:Nat} {tab es:List Ent} {x:Str} (h:EI mn i tab es) (hn:mn.Nodup) (hx:mn[i]?=some x):EI mn (i + 1) tab es:=by
 have h1:=h.len;have h2:=h.tlen;refine ⟨h.nd,by omega,by omega,h.lk,?_,h.sub⟩;have e:=h.pk;unfold DJ at e ⊢;rw [take_add_one,hx,List.filterMap_append,← e];show tab=tab++List.filterMap _ [x];simp only [filterMap_cons,Bp (h.out hn hx),Option.map_none,List.filterMap_nil,append_nil]
theorem EI.put {mn:List Str} {i j:Nat} {tab es:List Ent} {x:Str} {q:Addr × List Str} (h:EI mn i tab es) (hn:mn.Nodup) (hx:mn[i]?=some x):EI mn (i + 1) (tab++[(x,q)]) (es.take j++(x,q) :: es.drop j):=by
 have h1:=h.len;have h2:=h.tlen;have pm:=NV ((x,q):Ent) es j;have ho:=h.out hn hx
 have hoe:x ∉ es.map (·.1):=fun z=>by
  obtain ⟨y,hy,e⟩:=mem_map.mp z;exact ho (e ▸ mem_map.mpr ⟨y,h.sub y hy,rfl⟩)
 have et:mn.take (i + 1)=mn.take i++[x]:=by rw [take_add_one,hx]; rfl
 have lkx:∀ y,y ∈ mn.take i->(tab++[(x,q)]).lookup y=tab.lookup y:=fun y hy=>by
  have h7:=hn.sublist (take_sublist (i + 1) mn);rw [et,nodup_append] at h7;have a0:(y == x)=false:=by simp; exact h7.2.2 y hy x (mem_singleton.mpr rfl)
  rw [BN,show List.lookup y [(x,q)]=none by rw [lookup_cons,a0]; rfl,Option.or_none]
 refine ⟨?_,by rw [pm.length_eq,length_cons]; omega,by rw [length_append]; show tab.length + 1 <= _; omega,fun y=>?_,?_,fun e he=>?_⟩
 ·refine (pm.map (·.1)).nodup_iff.mpr ?_;rw [map_cons];exact nodup_cons.mpr ⟨hoe,h.nd⟩
 ·rw [J7 j hoe,BN,BN,h.lk]
 ·have e:=h.pk;rw [et]
  have:DJ (fun y=>(tab++[(x,q)]).lookup y) (mn.take i++[x])=DJ (fun y=>(tab++[(x,q)]).lookup y) (mn.take i)++[(x,q)]:=by
   unfold DJ;rw [List.filterMap_append];congr 1
   have hl:(tab++[(x,q)]).lookup x=some q:=by
    rw [BN,Bp ho,show List.lookup x [(x,q)]=some q by rw [lookup_cons]; simp];rfl
   simp only [filterMap_cons,hl,Option.map_some,List.filterMap_nil]
  rw [this,GH lkx,← e]
 ·rcases mem_cons.mp (pm.mem_iff.mp he) with z | z
  ·exact mem_append_right _ (mem_singleton.mpr z)
  ·exact mem_append_left _ (h.sub e z)
def gV3 (vs zs:List V):List V:=match vs,zs with | [a,b],[c]=>[a,b,c] | _,_=>[]
def gU3 (us ws:List Value):List Value:=match us,ws with | [a,b],[c]=>[a,b,c] | _,_=>[]
structure NX (P:Program) (w:World) (K:FG) (mg:SV) (base:Heap) (C:Addr):Prop where
 T:Cp K C
 cls:mg "Kind" = some (.ref C)
 make:∃ f fd,Mk K C f/\Af P w K mg base CX0 6 f fd ["self", "rows", "rest"] (Mp C) /\
  (∃ g,Ja K fd ["self", "rows", "rest"] ["rest"] g gV3)/\∃ ds,Binds K fd ["self", "rows", "rest"] ds/\Vals [.str "bar"] ds
structure QZ (P:Program) (w:World) (K:FG) (mg:SV) (base:Heap) (C EC:Addr):Prop where
 T:JH K EC
 cls:mg "Edition" = some (.ref EC)
 make:∃ f fd,Mk K EC f/\Af P w K mg base CX0 4 f fd ["self", "kind", "other", "pairs"] (Kd C EC)/\Binds K fd ["self", "kind", "other", "pairs"] []
section
variable {cP:Addr}
def KeepL (H H':Hp):Prop:=∀ b o,H b=some o->(∀ xs,o ≠ .lst xs)->H' b=some o
theorem KindAt.keepL {p:Addr} {r:Str} (s:KeepL H H') (h:KindAt C H p due r):KindAt C H' p due r:=by
 obtain ⟨dx,d1,o1,d2,o2,a,b,c⟩:=h.ex;exact ⟨⟨dx,d1,o1,d2,o2,s _ _ a (fun _ z=>nomatch z),s _ _ b (fun _ z=>nomatch z),s _ _ c (fun _ z=>nomatch z)⟩⟩
theorem KeepL.sameX {d:Addr} {xs:List V} (hd:H d=some (.lst xs)) (s:SameX d H H'):KeepL H H':=fun b o e h=>s.old b o e fun z=>by subst z; rw [hd] at e; cases e; exact h _ rfl
def DueL (H:Hp) (u:Addr) (due:LN):Prop:=∃ bs:List Addr,H u=some (.lst (bs.map V.ref))/\TupsAt H bs (Cq due)
theorem DueL.sameX {d u:Addr} {xs:List V} (hd:H d=some (.lst xs)) (hu:u ≠ d) (s:SameX d H H') (h:DueL H u due):DueL H' u due:=by
 obtain ⟨bs,h1,h2⟩:=h;exact ⟨bs,s.old _ _ h1 hu,TupsAt.sameT (fun b xs e=>KeepL.sameX hd s _ _ e (fun _ z=>nomatch z)) h2⟩
theorem DueL.same {u:Addr} (s:Same H H') (h:DueL H u due):DueL H' u due:=by
 obtain ⟨bs,h1,h2⟩:=h;exact ⟨bs,s _ _ h1,TupsAt.same s h2⟩
structure EW (d t pl:Addr) (ab:LN) (H1 H:Hp) (tab es:List Ent) (as:List Addr):Prop where
 old:∀ b o,H1 b=some o->b ≠ d->b ≠ t->b ≠ pl->H b=some o
 tup:SameT H1 H
 dice:∃ x y:Int,H d=some (.lst [.int x,.int y])
 ht:H t=some (.dK (kvT tab))
 hp:H pl=some (.lst (as.map V.ref))
 he:Paired (EntA H) as es
 tn:TabN ab H tab
theorem EW.same {d t pl:Addr} {H1:Hp} {tab es:List Ent} {as:List Addr} (s:Same H H') (h:EW d t pl ab H1 H tab es as):EW d t pl ab H1 H' tab es as:=by
 obtain ⟨x,y,h1⟩:=h.dice;exact ⟨fun b o e a1 a2 a3=>s _ _ (h.old b o e a1 a2 a3),h.tup.trans (SameT.of s),⟨x,y,s _ _ h1⟩,s _ _ h.ht,s _ _ h.hp,Paired.imp' (fun _ _ q=>q.same (SameT.of s)) h.he,h.tn.same (SameT.of s)⟩
theorem EW.roll {d t pl:Addr} {H1:Hp} {tab es:List Ent} {as:List Addr} (h:EW d t pl ab H1 H tab es as) (td:t ≠ d) (pd:pl ≠ d) (x y:Int):EW d t pl ab H1 (upd H d (.lst [.int x,.int y])) tab es as:=by
 obtain ⟨x0,y0,h1⟩:=h.dice;have st:SameT H (upd H d (.lst [.int x,.int y])):=SameT.upd h1;exact ⟨fun b o e a1 a2 a3=>by rw [AH a1]; exact h.old b o e a1 a2 a3,h.tup.trans st,⟨x,y,AB⟩,by rw [AH td]; exact h.ht,by rw [AH pd]; exact h.hp,Paired.imp' (fun _ _ q=>q.same st) h.he,h.tn.same st⟩
theorem EW.put {d t pl:Addr} {H1:Hp} {tab tab' es:List Ent} {as:List Addr} (h:EW d t pl ab H1 H tab es as) (td:t ≠ d) (tp:t ≠ pl) (hn:TabN ab H tab'):EW d t pl ab H1 (upd H t (.dK (kvT tab'))) tab' es as:=by
 obtain ⟨x0,y0,h1⟩:=h.dice;have st:SameT H (upd H t (.dK (kvT tab'))):=fun b ys e=>by rw [AH (fun z=>by subst z; rw [h.ht] at e; cases e)]; exact e
 exact ⟨fun b o e a1 a2 a3=>by rw [AH a2]; exact h.old b o e a1 a2 a3,h.tup.trans st,⟨x0,y0,by rw [AH (Ne.symm td)]; exact h1⟩,AB,by rw [AH (Ne.symm tp)]; exact h.hp,Paired.imp' (fun _ _ q=>q.same st) h.he,hn.same st⟩
theorem EW.ins {d t pl ea:Addr} {H1:Hp} {j:Nat} {tab es:List Ent} {as:List Addr} {q:Ent} (h:EW d t pl ab H1 H tab es as) (pd:pl ≠ d) (tp:t ≠ pl) (he:EntA H ea q) :
  EW d t pl ab H1 (upd H pl (.lst (MY (as.map V.ref) j (.ref ea)))) tab (es.take j++q :: es.drop j) (as.take j++ea :: as.drop j):=by
 obtain ⟨x0,y0,h1⟩:=h.dice;have st:SameT H (upd H pl (.lst (MY (as.map V.ref) j (.ref ea)))):=SameT.upd h.hp;refine ⟨fun b o e a1 a2 a3=>by rw [AH a3]; exact h.old b o e a1 a2 a3,h.tup.trans st,⟨x0,y0,by rw [AH (Ne.symm pd)]; exact h1⟩,by rw [AH tp]; exact h.ht,?_,F9 (he.same st) j (Paired.imp' (fun _ _ q=>q.same st) h.he),h.tn.same st⟩;rw [AB];unfold MY;rw [map_append,map_cons,List.map_take,List.map_drop]
theorem OV {tab:List Ent} {x:Str} {q:Addr × List Str} (h:x ∉ tab.map (·.1)):A1 (kvT tab) (Sum.inr x:Key) (V.ref q.1)=kvT (tab++[(x,q)]):=by
 rw [Bn _ (by rw [Bs,Bp h]; rfl)];unfold kvT;rw [map_append];rfl
theorem OW {ms:List Addr} {x y:Int} (h:some (HO.lst [.int x,.int y])=some (HO.lst (ms.map V.ref))):False:=by
 injection h with h
 injection h with h
 cases ms with
 | nil=>cases h
 | cons a r=>cases h
theorem Do {ms:List Addr} {i:Nat} {v:V} (h:TupsAt H ms (Bb due)) (e:(ms.map V.ref)[i]?=some v):∃ b n,v=.ref b/\(AJ due)[i]?=some n/\H b=some (.tup [.str (A2 (AN due) n),.int (n:Int)]):=by
 rw [getElem?_map] at e;obtain ⟨b,hb,rfl⟩:=Option.map_eq_some_iff.mp e;obtain ⟨p,hp,ht⟩:=Bi h hb;unfold Bb at hp;rw [getElem?_map] at hp;obtain ⟨n,hn,rfl⟩:=Option.map_eq_some_iff.mp hp;exact ⟨b,n,rfl,hn,ht⟩
def NY (C EC:Addr):Sp:=fun vs H Q _=>∃ (d:Addr) (a b:Int),vs=[.ref d,.int 7]/\H d=some (.lst [.int a,.int b]) /\
 ∀ (q p k o t u u2:Addr) (rows ad:List (Str × Th)) (r r2:Str) (tab:List Ent) H',SameX d H H'->H' q=some (.tup [.ref p,.ref t,.ref u,.ref u2])->EdAt EC H' p k o (kvT tab)->H' t=some (.dK (kvT tab))->tab=DJ (fun x=>tab.lookup x) (BG (AV rows))->TabN (AV ad) H' tab->KindAt C H' k (AV rows) r->KindAt C H' o (AV ad) r2->r ∈ ruleNames->r2 ∈ ruleNames->DueL H' u (AV rows)->DueL H' u2 (AV ad)->u ≠ d->u2 ≠ d ->
  0 < rows.length->rows.length <= 7->Cn rows->(∀ x ∈ rows.map (·.1),x ∈ wordsL)->0 < ad.length->ad.length <= 7->Cn ad->(∀ x ∈ ad.map (·.1),x ∈ wordsL)->Q (.ref q) H'
abbrev NEd:List Str:=["_law_dice", "_law_high", "_law_rows", "_law_due", "_law_more", "_law_next_due", "_law_kind", "_law_other", "_law_name", "_law_table", "_law_names", "_law_pairs", "_law_bit"]
theorem scEd:AL NEd ["_law_dice", "_law_high"] (defScope C3):=fsc
theorem Pl (F:Fun K "_law_edition" "_law_edition" C3 f fd) (B:Bl mg) (KO:NX P w K mg base C) (EO:QZ P w K mg base C EC) (GR:Fn P w K mg base "_law_roll" 2 ["_law_dice", "_law_many"] F3) (GRu:Fn P w K mg base "_law_rule_of" 3 ["_law_dice"] F4) (GL:Fn P w K mg base "_law_lines" 3 ["_law_dice", "_law_most"] Hs) (GT:Fn P w K mg base "_law_table_of" 2 ["_law_due"] EN) :
  Af P w K mg base CX0 8 f fd ["_law_dice", "_law_high"] (NY C EC):=by
 obtain ⟨fR,dR,GR,mR,kR,bR⟩:=GR.ex;obtain ⟨fU,dU,GU,mU,kU,bU⟩:=GRu.ex;obtain ⟨fL,dL,GL,mL,kL,bL⟩:=GL.ex;obtain ⟨fT,dT,GT,mT,kT,bT⟩:=GT.ex;obtain ⟨fI,dI,MI,GI,⟨gI,kbI⟩,ds,bI,vI⟩:=KO.make;obtain ⟨fE,dE,ME,GE,bE⟩:=EO.make;have mC:=KO.cls;have mE:=EO.cls;refine F.ok scEd (fun vs H Q E h=>?_) (fun ac A outer s H vs Q E hr h=>?_)
 ·obtain ⟨d,a,b,rfl,_⟩:=h;rfl
 ·obtain ⟨d,a,b,rfl,hd,k⟩:=h;have hu:=B5 hr;have hr2:Room 2 _:=hr.mono (by decide);have hr3:Room 3 _:=hr.mono (by decide);have hr5:Room 5 _:=hr.mono (by decide)
  refine ⟨_,AD (CK (AK GL hr3 rfl mL kL bL .nil AM (AA (pv 0) (AA (pv 1) AC))) (BJ rfl (AR (AO (i:=2) scEd.nd rfl (Or.inl rfl)) (AR (AO (i:=3) scEd.nd rfl (Or.inl rfl)) Ay))))
   (AD (CK (AK GL hr3 rfl mL kL bL .nil AM (AA (pv 0) (AA (pv 1) AC))) (BJ rfl (AR (AO (i:=4) scEd.nd rfl (Or.inl rfl)) (AR (AO (i:=5) scEd.nd rfl (Or.inl rfl)) Ay))))
   (AD (Li (i:=6) (j:=7) rfl scEd.nd rfl rfl (by decide) rfl rfl (AA (IV MI GI hr rfl mC kbI (AA (pv 2) AC) (HJ (AK GU hr3 rfl mU kU bU .nil AM (AA (pv 0) AC)) JZ)) (AA (IV MI GI hr rfl mC kbI (AA (pv 4) AC) (HJ (AK GU hr3 rfl mU kU bU .nil AM (AA (pv 0) AC)) JZ)) AC)) (by kernel_rfl))
   (AD (CK (hs:=by kernel_rfl) (hw:=by kernel_rfl) (BQ (AA B4 (AA (Cu [] [] (by kernel_rfl) (by decide +kernel) (by kernel_rfl) (by kernel_rfl) rfl (Al (pv 5)) (fun _ _ _ _ _ _=>A3) (fun _ _ _ _ _ _=>pv 0)) (AA (Bq AC) AC))))
    (BJ rfl (AR (AO (i:=9) scEd.nd rfl (Or.inl rfl)) (AR (AO (i:=10) scEd.nd rfl (Or.inr rfl)) (AR (AO (i:=11) scEd.nd rfl (Or.inl rfl)) Ay)))))
   (AD (BP PassesOwn.never rfl (Al (BA hu (AK GT hr2 rfl mT kT bT .nil AM (AA (pv 3) AC)) A0 (fun _ _=>rfl))) (BJ rfl (AR (AO (i:=8) scEd.nd rfl (Or.inl rfl)) (AR (AO (i:=12) scEd.nd rfl (Or.inl rfl)) Ay)))
    (AE (Ak (Ac KJ (AK GR hr2 rfl mR kR bR .nil AM (AA (pv 0) (AA AI AC))) AI (Ae _))
     (AD (DC hu (pv 9) (pv 8) (BU DK rfl B.tuple B7 (AA (Az ["_law_names", "_law_dice"] [some 10,some 0] (by kernel_rfl) (by decide +kernel) (by kernel_rfl) rfl (CP rfl B.range (AA (AK GR hr2 rfl mR kR bR .nil AM (AA (pv 0) (AA AI AC))) AC)) (fun _ _ _ _ _ _=>A3)
      (fun _ _ _ _ _ _=>BK (A9 K rfl) (pv 1) (AK GR hr2 rfl mR kR bR .nil AM (AA (pv 2) (AA (AW (Ax K rfl) rfl B.len PySem.boot_len (AA (pv 1) AC)) AC))) (fun _ _=>rfl))) AC)) rfl)
     (AE (Dp (IN PySem.F.plainAttrs_list PySem.F.slot_list_insert PySem.F.type_list_insert LC (pv 11) (AA (AK GR hr2 rfl mR kR bR .nil AM (AA (pv 0) (AA (AY Ca (AW (Ax K rfl) rfl B.len PySem.boot_len (AA (pv 11) AC)) AI) AC))) (AA (BQ (AA (pv 8) (AA (BA hu (pv 9) (pv 8) (fun _ _=>rfl)) AC))) AC))))))
     AT)))
   (AE (AS (BQ (AA (FB ME GE hr5 rfl mE bE .nil AM (AA (pv 6) (AA (pv 7) (AA (pv 11) AC)))) (AA (pv 9) (AA (pv 3) (AA (pv 5) AC))))))))))),?_⟩
  refine ⟨_,rfl,_,rfl,d,a,b,7,rfl,by decide,by decide,hd,fun q1 f1 u1 fs1 bs1 rows Ha sXa hq1 hf1n hu1n hf1 hP1 hu1 hbs1 r0 r6 RO ar=>?_⟩;refine ⟨q1,_,rfl,SqT.of hq1,rfl,_,_,rfl,_,_,rfl,rfl,?_⟩;obtain ⟨xa,ya,hda⟩:=sXa.dice;have f1d:f1 ≠ d:=fun z=>by rw [z,hd] at hf1n; cases hf1n
  have u1d:u1 ≠ d:=fun z=>by rw [z,hd] at hu1n; cases hu1n
  refine ⟨_,rfl,_,rfl,d,xa,ya,7,rfl,by decide,by decide,hda,fun q2 f2 u2 fs2 bs2 ad Hb sXb hq2 hf2n hu2n hf2 hP2 hu2 hbs2 r0' r6' RO2 hwd2=>?_⟩;refine ⟨q2,_,rfl,SqT.of hq2,rfl,_,_,rfl,_,_,rfl,rfl,?_⟩;have f2d:f2 ≠ d:=fun z=>by rw [z,hda] at hf2n; cases hf2n
  have u2d:u2 ≠ d:=fun z=>by rw [z,hda] at hu2n; cases hu2n
  obtain ⟨xb,yb,hdb⟩:=sXb.dice;have hf1b:=sXb.old _ _ hf1 f1d;have hP1b:Paired (RowAt Hb) fs1 rows:=BB (fun b xs e=>KeepL.sameX hda sXb _ _ e (fun _ z=>nomatch z)) hP1;have D1b:DueL Hb u1 (AV rows):=DueL.sameX hda u1d sXb ⟨bs1,hu1,hbs1⟩;have D2b:DueL Hb u2 (AV ad):=⟨bs2,hu2,hbs2⟩;refine ⟨_,rfl,_,rfl,d,xb,yb,rfl,hdb,fun ra Hc hra sXc=>?_⟩;intro k1 dx1 hk1 hdx1 hne1;have sN1:=CW (D:=C) hk1 hdx1 hne1;refine ⟨k1,dx1,f1,rows,ra,rfl,AB,⟨fs1,sN1 _ _ (sXc.old _ _ hf1b f1d),BB (SameT.of sN1) (BB (fun b xs e=>KeepL.sameX hdb sXc _ _ e (fun _ z=>nomatch z)) hP1b)⟩,r0,by omega,RO,hra,fun Hd sd KA=>⟨rfl,?_⟩⟩;have SXd:SameX d Hb Hd:=sXc.step (By sN1 hk1 sd);obtain ⟨xd,yd,hdd⟩:=SXd.dice;refine ⟨_,rfl,_,rfl,d,xd,yd,rfl,hdd,fun rb He hrb sXe=>?_⟩;intro k2 dx2 hk2 hdx2 hne2;have sN2:=CW (D:=C) hk2 hdx2 hne2;have SXe:=SXd.trans sXe;refine ⟨k2,dx2,f2,ad,rb,rfl,AB,⟨fs2,sN2 _ _ (SXe.old _ _ hf2 f2d),BB (SameT.of sN2) (BB (fun b xs e=>KeepL.sameX hdb SXe _ _ e (fun _ z=>nomatch z)) hP2)⟩,r0',by omega,RO2,hrb,fun Hf sf KB=>⟨rfl,?_⟩⟩;have sE2:Same He Hf:=By sN2 hk2 sf;have SXf:SameX d Hb Hf:=SXe.step sE2;have KA1:KindAt C Hf k1 (AV rows) ra:=(KA.keepL (KeepL.sameX hdd sXe)).same sE2;have D1f:=D1b.sameX hdb u1d SXf;have D2f:=D2b.sameX hdb u2d SXf;have SXH:SameX d H Hf:=(sXa.trans sXb).trans SXf;obtain ⟨xf,yf,hdf⟩:=SXf.dice;refine ⟨_,_,rfl,?_⟩;clear sN1 sN2 sd sf SXe SXd hP1 hP2 hP1b hf1b hk1 hk2 hdx1 hdx2 sXc sXe KA sE2 SXf hdd hdb D1b D2b;refine fun t ht=>?_;have st:=AF (Same.refl _) ht (o:=HO.dK []);have htt:=AB (H:=Hf) (a:=t) (o:=HO.dK []);generalize upd Hf t (HO.dK [])=Hg at st htt ⊢;obtain ⟨cs,bc,ba⟩:=D2f.same st;have ag:=Bx ba;refine ⟨_,rfl,u2,rfl,⟨_,SqL.of bc⟩,A8 (K:=K) (a:=u2) (xs:=cs.map V.ref) (fun j ys H3=>ys=(((AV ad).take j).map (·.1)).map V.str/\H3=Hg) ⟨by rfl,rfl⟩ (fun j ys H3 _ ⟨_,e⟩=>e ▸ SqL.of bc) (fun j ys H3 ⟨e,_⟩=>?_) ?_ ?_⟩
  ·rw [e,length_map,length_map,length_take,Ao]; omega
  ·rintro j v ys H3 hj ⟨rfl,rfl⟩;obtain ⟨bb,p,rfl,hb1,al,ak⟩:=Bw ba hj;refine ⟨bb,_,rfl,SqT.of ak,rfl,_,_,rfl,_,_,rfl,rfl,?_⟩;refine ⟨_,rfl,?_,rfl⟩;rw [take_add_one,al,Option.toList_some,map_append,map_append];rfl
  rintro ys H3 ⟨rfl,rfl⟩ nl hnl;rw [show (AV ad).take (cs.map V.ref).length=AV ad by rw [length_map,ag,← Ao,take_length]];generalize hnm:(AV ad).map (·.1)=nms2;have sn:=AF (Same.refl _) hnl (o:=HO.lst (nms2.map V.str));have hnn:=AB (H:=H3) (a:=nl) (o:=HO.lst (nms2.map V.str));generalize upd H3 nl (HO.lst (nms2.map V.str))=Hh at sn hnn ⊢;refine ⟨Nat.zero_le _,fun pl hpl=>⟨sl3,fun tq htq=>⟨tq,_,rfl,SqT.of AB,rfl,_,_,rfl,_,_,rfl,_,_,rfl,rfl,?_⟩⟩⟩;have sp:=AF (Same.refl _) hpl (o:=HO.lst []);have hpp:=AB (H:=Hh) (a:=pl) (o:=HO.lst []);have sq:=AF (Same.refl _) htq (o:=HO.tup [.ref t,.ref nl,.ref pl]);have sf5:=st.trans (sn.trans (sp.trans sq));have ht5:=sq _ _ (sp _ _ (sn _ _ htt));have hn5:=sq _ _ (sp _ _ hnn);have hp5:=sq _ _ hpp;have td:t ≠ d:=Ne.symm (AG hdf ht);have nld:nl ≠ d:=Ne.symm (AG (st _ _ hdf) hnl);have pd:pl ≠ d:=Ne.symm (AG (sn _ _ (st _ _ hdf)) hpl);have tp:t ≠ pl:=AG (sn _ _ htt) hpl;have nt:nl ≠ t:=Ne.symm (AG htt hnl);have np:nl ≠ pl:=AG hnn hpl;have hpf:Hf pl=none:=none_of (st.trans sn) hpl;generalize upd (upd Hh pl (HO.lst [])) tq (HO.tup [.ref t,.ref nl,.ref pl])=H5 at sf5 ht5 hn5 hp5 ⊢;clear sp sq sn st hnn htt hpp ba bc hnl hpl htq;have DO:=EL RO (show rows.length <= 10 by omega);obtain ⟨bs,hu5,hbs5⟩:=D1f.same sf5;refine ⟨_,rfl,u1,bs,AV rows,rfl,hu5,hbs5,by rw [Ao]; omega,DO.lt,fun tb e m ms H6 s6 ay he hm az=>?_⟩;have s56:=sf5.trans s6;have hd6:=s56 _ _ hdf;have md:m ≠ d:=fun z=>by rw [z,hd6] at hm; exact OW hm
  have mt:m ≠ t:=fun z=>by rw [z,s6 _ _ ht5] at hm; cases hm
  have hmp:m=pl->ms=[]:=fun z=>by rw [z,s6 _ _ hp5] at hm; cases ms with | nil=>rfl | cons a r=>cases hm
  have W0:EW d t pl (AV ad) H6 H6 [] [] []:=⟨fun b o e _ _ _=>e,fun _ _ e=>e,⟨_,_,hd6⟩,s6 _ _ ht5,s6 _ _ hp5,.nil,fun q hq=>by cases hq⟩;have hmn:=G6 DO.nd;have I0:EI (BG (AV rows)) 0 [] []:=⟨nodup_nil,Nat.le_refl _,Nat.le_refl _,fun _=>rfl,rfl,fun q hq=>by cases hq⟩
  refine ⟨tb,_,rfl,.inl ⟨_,Sum.inr "marks", .inl ay,rfl,(Ex _ _ _).symm⟩,m,rfl,⟨_,SqL.of hm⟩,BD (K:=K) (a:=m) (xs:=ms.map V.ref) (fun i σ H7=>(∃ v8 v12:Option V,σ=[some (.ref d),some (.int 7),some (.ref f1),some (.ref u1),some (.ref f2),some (.ref u2),some (.ref k1),some (.ref k2),v8,some (.ref t),some (.ref nl),some (.ref pl),v12])/\(∃ tab es as,EI (BG (AV rows)) i tab es/\EW d t pl (AV ad) H6 H7 tab es as)/\(i=0->H7=H6))
   ⟨⟨none,none,rfl⟩,⟨[],[],[],I0,W0⟩,fun _=>rfl⟩ (fun i σ H7 hi ⟨_,⟨_,_,_,_,W⟩,hz⟩=>?_) ?_ ?_⟩
  ·by_cases z:i=0
   ·rw [hz z];exact SqL.of hm
   ·refine SqL.of (W.old _ _ hm md mt fun q=>?_);rw [hmp q] at hi;exact z (Nat.le_zero.mp hi)
  ·rintro i v σ H7 hi ⟨⟨v8,v12,rfl⟩,⟨tab,es,as,EI0,W⟩,hz⟩;obtain ⟨bb,n,rfl,hn,ak⟩:=Do (TupsAt.sameT W.tup az) hi;have hxi:(BG (AV rows))[i]?=some (A2 (AN (AV rows)) n):=by unfold BG; rw [getElem?_map,hn]; rfl
   have hi10:i < 10:=by
    have h1:=(List.getElem?_eq_some_iff.mp hn).1;have h2:=BC (AV rows);rw [Ao] at h2;omega
   generalize A2 (AN (AV rows)) n=x at ak hxi;refine ⟨bb,_,rfl,SqT.of ak,rfl,_,_,rfl,_,_,rfl,rfl,?_⟩;obtain ⟨x7,y7,hd7⟩:=W.dice;refine ⟨_,rfl,d,x7,y7,6,rfl,hd7,by decide,by decide,fun rr a1 b1 rr0 rr6=>?_⟩;have W8:=W.roll td pd a1 b1;refine ⟨_,_,rfl,rfl,_,rfl,?_⟩;refine Bc (fun _=>?_) (fun _=>⟨⟨_,_,rfl⟩,⟨tab,es,as,EI0.skip hmn hxi,W8⟩,fun z=>by cases z⟩);obtain ⟨x8,y8,hd8⟩:=W8.dice;refine ⟨_,rfl,d,x8,y8,3,rfl,hd8,by decide,by decide,fun r1 a2 b2 r10 r13=>?_⟩;have W9:=W8.roll td pd a2 b2;refine ⟨_,rfl,by omega,by omega,?_⟩;refine Cd (lo:=0) (n:=r1.toNat) (fun j ys H9=>∃ ns:List Str,ys=ns.map V.str/\ns.length=j/\j <= 3/\(∀ x ∈ ns,x ∈ nms2)/\EW d t pl (AV ad) H6 H9 tab es as) ⟨[],rfl,rfl,by decide,(fun x hx=>nomatch hx),W9⟩ ?_ ?_ ?_
   ·rintro j ys H9 ⟨ns,rfl,e,h3,_⟩;rw [length_map]; omega
   ·rintro j ys H9 hj ⟨ns,rfl,e,h3,hin,L9⟩;obtain ⟨x2,y2,e2⟩:=L9.dice;have hn9:H9 nl=some (.lst (nms2.map V.str)):=L9.old _ _ (s6 _ _ hn5) nld nt np;have hn0:0 < (nms2.map V.str).length:=by rw [length_map,← hnm,length_map,Ao]; exact r0'
    have hn6:(nms2.map V.str).length <= 8:=by rw [length_map,← hnm,length_map,Ao]; omega
    refine ⟨_,rfl,_,rfl,_,rfl,nl,_,rfl,.inl (SqL.of hn9),d,x2,y2,_,rfl,e2,by omega,by omega,fun r2 a2 b2 r20 r21=>?_⟩;have hn10:(upd H9 d (.lst [.int a2,.int b2])) nl=some (.lst (nms2.map V.str)):=by rw [AH nld]; exact hn9
    obtain ⟨v,hv,hv2⟩:=F2 (xs:=nms2.map V.str) r20 (by exact r21);rw [getElem?_map] at hv2;obtain ⟨y,hy,rfl⟩:=Option.map_eq_some_iff.mp hv2;refine ⟨nl,_,r2,_,rfl,rfl,SqL.of hn10,hv,?_⟩;refine ⟨ns++[y],by rw [map_append]; rfl,by rw [length_append,e]; rfl,by omega,fun x hx=>?_,L9.roll td pd a2 b2⟩;rcases mem_append.mp hx with z | z
    ·exact hin x z
    ·rw [mem_singleton] at z;subst z;exact mem_of_getElem? hy
   ·rintro ys H9 ⟨ns,rfl,e,h3,hin,L9⟩ l hl;have L10:=L9.same (AF (Same.refl _) hl (o:=HO.lst (ns.map V.str)));refine ⟨l,_,rfl,.inl ⟨SqL.of AB,fun c hc=>?_⟩⟩;have L11:=L10.same (AF (Same.refl _) hc (o:=HO.tup (ns.map V.str)));have hc11:=AB (H:=upd H9 l (.lst (ns.map V.str))) (a:=c) (o:=HO.tup (ns.map V.str));generalize upd (upd H9 l (.lst (ns.map V.str))) c (.tup (ns.map V.str))=H11 at L11 hc11 ⊢;have hk11:=L11.ht;have hkl:(kvT tab).length <= i:=by have:=EI0.tlen; unfold kvT; rw [length_map]; exact this
    have hxo:=EI0.out hmn hxi;refine ⟨_,rfl,_,rfl,t,_,rfl,.inl ⟨kvT tab,Sum.inr x,hk11,rfl,AU (by omega),rfl⟩,?_⟩;rw [OV (q:=(c,ns)) hxo]
    have tn:TabN (AV ad) H11 (tab++[(x,c,ns)]):=fun q hq=>by
     rcases mem_append.mp hq with z | z
     ·exact L11.tn q z
     ·rw [mem_singleton] at z;subst z;exact ⟨hc11,by show ns.length <= 3; omega,fun y hy=>by rw [hnm]; exact hin y hy⟩
    have L12:=L11.put td tp tn;generalize upd H11 t (.dK (kvT (tab++[(x,c,ns)])))=H12 at L12 ⊢;have ax:as.length=es.length:=L12.he.length;have aw:=EI0.len;obtain ⟨x12,y12,hd12⟩:=L12.dice;refine ⟨_,rfl,.inl ⟨rfl,_,SqL.of L12.hp⟩,_,rfl,_,rfl,pl,_,rfl,.inl (SqL.of L12.hp),_,_,rfl,rfl,d,x12,y12,_,rfl,hd12,by rw [length_map]; omega,by rw [length_map]; omega,fun r3 a3 b3 r30 r31=>?_⟩;obtain ⟨j,rfl⟩:=Int.eq_ofNat_of_zero_le r30;rw [length_map] at r31;have L13:=L12.roll td pd a3 b3;generalize upd H12 d (.lst [.int a3,.int b3])=H13 at L13 ⊢
    have hlk:(tab++[(x,c,ns)]).lookup x=some (c,ns):=by
     rw [BN,Bp hxo,show List.lookup x [(x,c,ns)]=some (c,ns) by rw [lookup_cons]; simp];rfl
    refine ⟨_,rfl,_,rfl,_,rfl,t,_,rfl,.inl ⟨_,Sum.inr x,.inl L13.ht,rfl,by rw [Bs,hlk]; rfl⟩,sl2,fun ea hea=>?_⟩;have s14:=AF (Same.refl _) hea (o:=HO.tup [.str x,.ref c]);have he14:=AB (H:=H13) (a:=ea) (o:=HO.tup [.str x,.ref c]);have L14:=L13.same s14;generalize upd H13 ea (.tup [.str x,.ref c])=H14 at s14 he14 L14 ⊢;refine ⟨pl,_,j,_,rfl,rfl,L14.hp,by rw [length_map]; omega,by rw [length_map]; omega,?_⟩;exact ⟨⟨_,_,rfl⟩,⟨_,_,_,EI0.put (q:=(c,ns)) hmn hxi,L14.ins (q:=(x,c,ns)) pd tp ⟨he14,(L14.tn (x,c,ns) (mem_append_right _ (mem_singleton.mpr rfl))).1⟩⟩,fun z=>by cases z⟩
  ·rintro σ H7 ⟨⟨v8,v12,rfl⟩,⟨tab,es,as,EI0,W⟩,_⟩;have SX7:SameX d Hf H7:=⟨fun b o e hb=>W.old b o (s56 _ _ e) hb (AG e ht) (AG e hpf),W.dice⟩;have kl:=KeepL.sameX hdf SX7;have KA7:=KA1.keepL kl;have KB7:=KB.keepL kl;have ax:as.length=es.length:=W.he.length
   have av:(ms.map V.ref).length <= 8/\(BG (AV rows)).length=(ms.map V.ref).length:=by
    have h1:=az.length;have h2:=BC (AV rows);rw [Ao] at h2;unfold Bb at h1;rw [length_map] at h1;unfold BG;rw [length_map,length_map];omega
   have aw:=EI0.len
   have ah:tab=DJ (fun x=>tab.lookup x) (BG (AV rows)):=by
    have:=EI0.pk;rw [List.take_of_length_le (by omega)] at this;exact this
   refine ⟨_,rfl,_,rfl,_,rfl,?_⟩;intro p dx a6 a5 a0;have sN:=CW (D:=EC) a6 a5 a0;have W7:=W.same sN
   have PR:Prs (AV rows) (AV ad) (upd (upd H7 dx (.own p)) p (.ins EC dx [])) pl es:=⟨⟨as,W7.hp,W7.he⟩,by omega,EI0.nd,fun q hq=>by
    have h1:=EI0.sub q hq;rw [ah] at h1;rw [QX,decide_eq_true (Hz h1)],fun q hq=>by
    have h1:=W.tn q (EI0.sub q hq)
    exact ⟨h1.2.1,fun y hy=>by rw [QY,decide_eq_true (h1.2.2 y hy)]⟩⟩
   refine ⟨p,dx,k1,k2,pl,AV rows,AV ad,ra,rb,es,rfl,AB,KA7.same sN,by rw [Ao]; omega,KB7.same sN,by rw [Ao]; omega,PR,fun H8 s8 ED=>⟨rfl,?_⟩⟩;have s78:Same H7 H8:=By sN a6 s8;refine ⟨_,rfl,_,rfl,_,rfl,sl4,fun q hq=>?_⟩;have s9:=s78.trans (AF (Same.refl _) hq (o:=HO.tup [.ref p,.ref t,.ref u1,.ref u2]))
   have ED9:EdAt EC H8 p k1 k2 (kvT tab):=by
    have h:=ED;rw [NW DO.nd,GH (fun x _=>EI0.lk x),← ah] at h;exact h
   exact k q p k1 k2 t u1 u2 rows ad ra rb tab _ ((SXH.trans SX7).step s9) AB (ED9.same (AF (Same.refl _) hq)) (s9 _ _ W.ht) ah (W.tn.same (SameT.of s9)) (KA7.same s9) (KB7.same s9) hra hrb ((D1f.sameX hdf u1d SX7).same s9) ((D2f.sameX hdf u2d SX7).same s9) u1d u2d r0 (by omega) RO ar r0' (by omega) RO2 hwd2
end
theorem OX {α:Type} {p:α->Bool} {l:List α} {i:Nat} {m:α} (h:l[i]?=some m) (hp:p m=true):(l.filter p)[((l.take i).filter p).length]?=some m/\(l.filter p).take ((l.take i).filter p).length=(l.take i).filter p:=by
 have hi:=(List.getElem?_eq_some_iff.mp h).1
 have e:l=l.take i++m :: l.drop (i + 1):=by
  have h1:=take_append_drop i l
  have h2:l.drop i=m :: l.drop (i + 1):=by
   rw [List.drop_eq_getElem_cons hi,(List.getElem?_eq_some_iff.mp h).2]
  rw [h2] at h1;exact h1.symm
 have e2:l.filter p=(l.take i).filter p++m :: (l.drop (i + 1)).filter p:=by
  have h3:=congrArg (List.filter p) e;rw [filter_append,List.filter_cons_of_pos hp] at h3;exact h3
 rw [e2];generalize (l.take i).filter p=xs;refine ⟨?_,?_⟩
 ·rw [List.getElem?_append_right (Nat.le_refl _),Nat.sub_self];rfl
 ·rw [List.take_append_of_le_length (Nat.le_refl _),take_length]
def vmN (due:LN) (n:Nat) (l:List Nat):List Str:=(l.filter fun m=>decide (m &&& n ≠ 0)).map (A2 (AN due))
theorem Qa {n i m:Nat} (h:(AJ due)[i]?=some m) (hb:m &&& n ≠ 0):(An due n)[(vmN due n ((AJ due).take i)).length]?=some (A2 (AN due) m)/\(An due n).take (vmN due n ((AJ due).take i)).length=vmN due n ((AJ due).take i):=by
 obtain ⟨h1,h2⟩:=OX (p:=fun m=>decide (m &&& n ≠ 0)) h (decide_eq_true hb);unfold An vmN;rw [length_map];refine ⟨?_,?_⟩
 ·rw [getElem?_map,h1];rfl
 ·rw [← List.map_take,h2]
theorem OY {n i m:Nat} (h:(AJ due)[i]?=some m) (hb:m &&& n ≠ 0):vmN due n ((AJ due).take (i + 1))=vmN due n ((AJ due).take i)++[A2 (AN due) m]:=by
 unfold vmN;rw [take_add_one,h,filter_append];show List.map _ (_++List.filter _ [m])=_;rw [List.filter_cons_of_pos (p:=fun m=>decide (m &&& n ≠ 0)) (decide_eq_true hb),map_append];rfl
theorem OZ {n i m:Nat} (h:(AJ due)[i]?=some m) (hb:¬ m &&& n ≠ 0):vmN due n ((AJ due).take (i + 1))=vmN due n ((AJ due).take i):=by
 unfold vmN;rw [take_add_one,h,filter_append];show List.map _ (_++List.filter _ [m])=_;rw [List.filter_cons_of_neg (by simpa using hb)];rw [filter_nil,append_nil]
section
variable {cP:Addr}
def J8:Sp:=fun vs H Q _=>∃ (t u u2:Addr) (n:Nat) (due ab:LN) (tab:List Ent),vs=[.ref t,.ref u,.ref u2,.int (n:Int)]/\H t=some (.dK (kvT tab))/\TabN ab H tab/\DueL H u due/\DueL H u2 ab/\due.length <= 10/\(∀ p ∈ due,p.2 < 2 ^ 20)/\ab.length <= 10/\(ab.map (·.1)).Nodup /\
 (∀ x p H',QU tab (An due n) x->Same H H'->H' p=some (.tup [.str "refused", .str "Unled", .str x])->Q (.ref p) H')/\(Has tab (An due n)->∀ H',Same H H'->Q (.int (CJ tab due ab n:Nat)) H')
abbrev Qb:List Str:=["_law_table", "_law_due", "_law_next_due", "_law_number", "_law_own", "_law_found", "_law_numbers", "_law_name", "_law_more", "_law_bit", "_law_one"]
theorem scGoal:AL Qb ["_law_table", "_law_due", "_law_next_due", "_law_number"] (defScope Ft):=fsc
theorem Oa (F:Fun K "_law_goal" "_law_goal" Ft f fd) (GT:Fn P w K mg base "_law_table_of" 2 ["_law_due"] EN):Af P w K mg base CX0 3 f fd ["_law_table", "_law_due", "_law_next_due", "_law_number"] J8:=by
 obtain ⟨fT,dT,GT,mT,kT,bT⟩:=GT.ex;refine F.ok scGoal (fun vs H Q E h=>?_) (fun ac A outer s H vs Q E hr h=>?_)
 ·obtain ⟨t,u,u2,n,due,ab,tab,rfl,_⟩:=h;rfl
 ·obtain ⟨t,u,u2,n,due,ab,tab,rfl,ht,TN,D1,D2,h10,hlt,h10',nd2,kL,kH⟩:=h;have hu:=B5 hr
  refine ⟨_,AD (N7 (i:=4) (j:=5) (k:=6) rfl scGoal.nd rfl rfl rfl rfl rfl rfl (AA (AK GT hr rfl mT kT bT .nil AM (AA (pv 1) AC)) (AA AI (AA B4 AC))) (by kernel_rfl))
   (AD (BP PassesOwn.never rfl (Al (pv 2)) (BJ rfl (AR (AO (i:=7) scGoal.nd rfl (Or.inl rfl)) (AR (AO (i:=8) scGoal.nd rfl (Or.inl rfl)) Ay)))
    (AE (DC hu (pv 6) (pv 7) (pv 8) rfl)))
   (AD (BP PassesOwn.never rfl (Al (BA hu (pv 4) A0 (fun _ _=>rfl))) (BJ rfl (AR (AO (i:=7) scGoal.nd rfl (Or.inl rfl)) (AR (AO (i:=9) scGoal.nd rfl (Or.inl rfl)) Ay)))
    (AE (Ak (Ac Ds (AY DQ (pv 3) (pv 9)) AI (Ae _))
     (AD (Ak (BO (DB hu (pv 7) (pv 0))) (AE (AS (BQ (AA A0 (AA A0 (AA (pv 7) AC)))))) AT)
     (AE (BP PassesOwn.never rfl (HG (BA hu (pv 0) (pv 7) (fun _ _=>rfl))) (AO (i:=10) scGoal.nd rfl (Or.inl rfl))
      (AE (Ad (i:=5) scGoal.nd rfl (Or.inl rfl) (AY FO (pv 5) (BA hu (pv 6) (pv 10) (fun _ _=>rfl))))))))
     AT)))
   (AE (AS (AY FO (pv 5) (AY JS (pv 3) (AY DQ (pv 3) (BA hu (pv 4) A0 (fun _ _=>rfl))))))))),?_⟩
  obtain ⟨bs,hu0,ap⟩:=D1;refine ⟨_,rfl,u,bs,due,rfl,hu0,ap,h10,hlt,fun tb e m ms H1 s1 ay he hm az=>?_⟩;refine fun d hd=>⟨_,_,_,rfl,?_⟩;have s12:=AF (Same.refl _) hd (o:=HO.dK []);have hd2:=AB (H:=H1) (a:=d) (o:=HO.dK []);have s02:=s1.trans s12;have hdH:H d=none:=none_of s1 hd;have dtb:tb ≠ d:=AG ay hd;have dm:m ≠ d:=AG hm hd;generalize upd H1 d (HO.dK [])=H2 at s12 hd2 s02 ⊢;obtain ⟨cs,bc,ba⟩:=D2.same s02;have u2d:u2 ≠ d:=fun z=>by rw [z,hd2] at bc; cases bc
  have ag:cs.length=ab.length:=by rw [ba.length]; unfold Cq; rw [length_map]
  refine ⟨_,rfl,u2,rfl,⟨_,SqL.of bc⟩,BD (K:=K) (a:=u2) (xs:=cs.map V.ref) (fun i σ H3=>(∃ v7 v8:Option V,σ=[some (.ref t),some (.ref u),some (.ref u2),some (.int (n:Int)),some (.ref tb),some (.int 0),some (.ref d),v7,v8,none,none])/\(∀ b o,H2 b=some o->b ≠ d->H3 b=some o)/\H3 d=some (.dK (As (ab.take i))))
   ⟨⟨none,none,rfl⟩,fun _ _ e _=>e,hd2⟩ (fun i σ H3 _ ⟨_,e,_⟩=>SqL.of (e _ _ bc u2d)) ?_ ?_⟩
  ·rintro i v σ H3 hi ⟨⟨v7,v8,rfl⟩,e3,hd3⟩;obtain ⟨bb,p,rfl,hb1,al,ak⟩:=Bw (TupsAt.sameT (fun b xs e=>e3 b _ e (fun z=>by rw [z,hd2] at e; cases e)) ba) hi;refine ⟨bb,_,rfl,SqT.of ak,rfl,_,_,rfl,_,_,rfl,rfl,?_⟩
   have hn:p.1 ∉ (ab.take i).map (·.1):=fun z=>by
    have h7:=nd2.sublist ((take_sublist (i + 1) ab).map (·.1));rw [take_add_one,al,map_append,nodup_append] at h7;exact h7.2.2 _ z _ (mem_singleton.mpr rfl) rfl
   refine ⟨_,rfl,_,rfl,_,rfl,d,_,rfl,DPut.k (k:=Sum.inr p.1) hd3 (AU (by rw [DF,length_take]; omega)),?_⟩;refine ⟨⟨_,_,rfl⟩,fun b o e hb=>by rw [AH hb]; exact e3 b o e hb,?_⟩;rw [AB,KY hn,take_add_one,al];rfl
  ·rintro σ H3 ⟨⟨v7,v8,rfl⟩,e3,hd3⟩;rw [show ab.take (cs.map V.ref).length=ab by rw [length_map,ag,take_length]] at hd3;have s03:Same H H3:=fun b o e=>e3 b o (s02 _ _ e) (AG e hdH);have htb3:=e3 _ _ (s12 _ _ ay) dtb;have hm3:=e3 _ _ (s12 _ _ hm) dm;have hms3:TupsAt H3 ms (Bb due):=TupsAt.sameT (fun b xs e=>e3 b _ (s12 _ _ e) (AG e hd)) az;have ht3:=s03 _ _ ht;have TN3:=TN.same (fun b xs e=>s03 _ _ e);clear e3 ba bc ag s12 hd2 s02 ay hm az
   have av:(ms.map V.ref).length=(AJ due).length:=by
    have h1:=hms3.length;unfold Bb at h1;rw [length_map] at h1;rw [length_map];exact h1
   refine ⟨_,rfl,tb,_,rfl,.inl ⟨_,Sum.inr "marks", .inl htb3,rfl,(Ex _ _ _).symm⟩,m,rfl,⟨_,SqL.of hm3⟩,BD (K:=K) (a:=m) (xs:=ms.map V.ref) (fun i σ H4=>(∃ v7 v8 v9 v10:Option V,σ=[some (.ref t),some (.ref u),some (.ref u2),some (.int (n:Int)),some (.ref tb),some (.int (AX ((fl tab (vmN due n ((AJ due).take i))).map (look ab)):Nat)),some (.ref d),v7,v8,v9,v10])/\Has tab (vmN due n ((AJ due).take i))/\H4=H3)
    ⟨⟨_,_,_,_,rfl⟩,(fun x hx=>by cases hx),rfl⟩ (fun i σ H4 _ ⟨_,_,e⟩=>e ▸ SqL.of hm3) ?_ ?_⟩
   ·rintro i v σ H4 hi ⟨⟨v7,v8,v9,v10,rfl⟩,hH,rfl⟩;obtain ⟨bb,nn,rfl,hn,ak⟩:=Do hms3 hi;refine ⟨bb,_,rfl,SqT.of ak,rfl,_,_,rfl,_,_,rfl,rfl,?_⟩;refine ⟨_,rfl,_,rfl,_,_,rfl,rfl,rfl,_,rfl,?_⟩
    have ed:(!decide (V.int (Builtin.bitAnd (n:Int) (nn:Int))=V.int 0))=decide (nn &&& n ≠ 0):=by
     rw [Cf,Nat.and_comm];by_cases z:nn &&& n=0
     ·rw [z]; rfl
     ·rw [decide_eq_true z,decide_eq_false (fun y=>z (by have:=V.int.inj y; omega))]; rfl
    show if (!decide (V.int (Builtin.bitAnd (n:Int) (nn:Int))=V.int 0))=true then _ else _
    rw [ed];refine Bc (fun hq=>?_) (fun hq=>?_)
    ·have hb:=of_decide_eq_true hq;obtain ⟨hx1,hx2⟩:=Qa hn hb;have hsn:=OY hn hb;generalize A2 (AN due) nn=x at ak hx1 hsn ⊢;refine ⟨_,rfl,_,rfl,t,_,rfl,.inl ⟨_,Sum.inr x,.inl ht3,rfl,rfl⟩,_,rfl,?_⟩;rw [Bs];cases eq:tab.lookup x with
     | none =>
      refine CA ⟨_,rfl,sl3,fun p hp=>?_⟩;exact kL x p _ ⟨_,hx1,by rw [hx2]; exact hH,eq⟩ (s03.trans (AF (Same.refl _) hp)) AB
     | some q =>
      refine Aw ?_;have hq1:=TN3 _ (EY eq)
      refine ⟨_,rfl,_,rfl,t,_,rfl,.inl ⟨_,Sum.inr x,.inl ht3,rfl,by rw [Bs,eq]; rfl⟩,q.1,rfl,⟨_,SqT.of hq1.1⟩,Nm (K:=K) (a:=q.1) (xs:=q.2.map V.str) (fun j σ H5=>(∃ v10:Option V,σ=[some (.ref t),some (.ref u),some (.ref u2),some (.int (n:Int)),some (.ref tb),some (.int (AX ((fl tab (vmN due n ((AJ due).take i))++q.2.take j).map (look ab)):Nat)),some (.ref d),some (.str x),v8,some (.int (nn:Int)),v10])/\H5=H4)
       ⟨⟨_,by rw [List.take_zero,append_nil]; rfl⟩,rfl⟩ (fun j σ H5 _ ⟨_,e⟩=>e ▸ SqT.of hq1.1) ?_ ?_⟩
      ·rintro j v σ H5 hj ⟨⟨v10,rfl⟩,rfl⟩;rw [getElem?_map] at hj;obtain ⟨y,hy,rfl⟩:=Option.map_eq_some_iff.mp hj;have au:=hq1.2.2 y (mem_of_getElem? hy);refine ⟨_,rfl,_,rfl,_,rfl,d,_,rfl,.inl ⟨_,Sum.inr y,.inl hd3,rfl,(Bo au).symm⟩,_,_,rfl,rfl,⟨some (.str y),?_⟩,rfl⟩
       have eo:(fun i j=>V.int (Builtin.bitOr i j)) ((AX ((fl tab (vmN due n ((AJ due).take i))++q.2.take j).map (look ab)):Nat):Int) ((look ab y:Nat):Int)=V.int ((AX ((fl tab (vmN due n ((AJ due).take i))++q.2.take (j + 1)).map (look ab)):Nat):Int):=by
        show V.int (Builtin.bitOr _ _)=_;rw [CL,take_add_one,hy,← List.append_assoc,map_append (l₂:=Option.toList (some y))];show _=V.int ((AX (_++[look ab y]):Nat):Int);rw [Cg]
       rw [← eo];rfl
      ·rintro σ H5 ⟨⟨v10,rfl⟩,rfl⟩;refine ⟨⟨some (.str x),v8,some (.int (nn:Int)),v10,?_⟩,?_,rfl⟩
       ·rw [hsn,length_map,take_length]
        have ef:fl tab (vmN due n ((AJ due).take i)++[x])=fl tab (vmN due n ((AJ due).take i))++q.2:=by
         unfold fl;rw [List.flatMap_append,List.flatMap_singleton,eq];rfl
        rw [ef]
       ·intro y hy;rw [hsn] at hy;rcases mem_append.mp hy with z | z
        ·exact hH y z
        ·rw [mem_singleton.mp z,eq];rfl
    ·have hb:¬ nn &&& n ≠ 0:=fun z=>hq (decide_eq_true z);rw [← OZ hn hb] at hH ⊢;exact ⟨⟨_,_,_,_,rfl⟩,hH,rfl⟩
   ·rintro σ H4 ⟨⟨v7,v8,v9,v10,rfl⟩,hH,rfl⟩;rw [av,take_length] at hH ⊢;refine ⟨_,rfl,_,rfl,_,rfl,_,rfl,tb,_,rfl,.inl ⟨_,Sum.inr "bits", .inl htb3,rfl,(NC _ _ _).symm⟩,_,_,rfl,rfl,_,_,rfl,rfl,_,_,rfl,rfl,?_⟩
    have eg:(fun i j=>V.int (Builtin.bitOr i j)) ((AX ((fl tab (vmN due n (AJ due))).map (look ab)):Nat):Int) ((n:Int) - Builtin.bitAnd (n:Int) ((AX (AJ due):Nat):Int))=V.int ((CJ tab due ab n:Nat):Int):=by
     show V.int (Builtin.bitOr _ _)=_;rw [Cf];have h1:=Nat.and_le_left (n:=n) (m:=AX (AJ due));rw [show ((n:Int) - ((n &&& AX (AJ due):Nat):Int))=((n - (n &&& AX (AJ due)):Nat):Int) by omega,CL];rfl
    have:=kH hH H4 s03;rw [← eg] at this;exact this
end
end Mk
end
section
namespace MK
def IA:List Nat->List Nat->List Nat
 | us,[]=>us
 | us,m :: r=>IA (us++us.map (· ||| m)) r
def uns (ms:List Nat):List Nat:=IA [0] ms
theorem JI:∀ (us a b:List Nat),IA us (a++b)=IA (IA us a) b
 | us,[],b=>rfl
 | us,m :: r,b=>JI _ r b
theorem JJ (ms:List Nat) (m:Nat):uns (ms++[m])=uns ms++(uns ms).map (· ||| m):=JI [0] ms [m]
theorem JK:∀ (us ms:List Nat),(IA us ms).length=us.length * 2 ^ ms.length
 | us,[]=>(Nat.mul_one _).symm
 | us,m :: r=>by
  show (IA _ r).length=_;rw [JK,length_append,length_map,length_cons,Nat.pow_succ,← Nat.mul_two,Nat.mul_assoc,Nat.mul_comm 2]
theorem FF (ms:List Nat):(uns ms).length=2 ^ ms.length:=by unfold uns; rw [JK,length_singleton,Nat.one_mul]
theorem JL {k:Nat}:∀ {ms us:List Nat} {u:Nat},u ∈ IA us ms->u.testBit k=true->(∃ v ∈ us,v.testBit k=true)\/∃ m ∈ ms,m.testBit k=true
 | [],us,u,h,hb=>.inl ⟨u,h,hb⟩
 | m :: r,us,u,h,hb=>by
  rcases JL (ms:=r) h hb with ⟨v,hv,hvb⟩ | ⟨m',h1,h2⟩
  ·rcases mem_append.mp hv with z | z
   ·exact .inl ⟨v,z,hvb⟩
   ·obtain ⟨x,hx,rfl⟩:=mem_map.mp z;rw [Nat.testBit_or,Bool.or_eq_true] at hvb;rcases hvb with y | y
    ·exact .inl ⟨x,hx,y⟩
    ·exact .inr ⟨m,mem_cons_self ..,y⟩
  ·exact .inr ⟨m',mem_cons_of_mem _ h1,h2⟩
theorem IB {k:Nat} {ms:List Nat} {u:Nat} (h:u ∈ uns ms) (hb:u.testBit k=true):∃ m ∈ ms,m.testBit k=true:=by
 rcases JL h hb with ⟨v,hv,hvb⟩ | z
 ·rw [mem_singleton.mp hv,Nat.zero_testBit] at hvb;cases hvb
 ·exact z
theorem FH {u k:Nat} (h:u < 2 ^ k):u ||| 2 ^ k=u + 2 ^ k:=by
 have:=Nat.two_pow_add_eq_or_of_lt h 1;rw [Nat.mul_one] at this;rw [Nat.or_comm,← this,Nat.add_comm]
theorem G8:∀ {ms us:List Nat},us.Pairwise (· < ·)->(∀ u ∈ us,∀ m ∈ ms,u < m)->(∀ m ∈ ms,Ar m=true)->ms.Pairwise (· < ·)->(IA us ms).Pairwise (· < ·)
 | [],us,h,_,_,_=>h
 | m :: r,us,h,hu,hm,hp=>by
  obtain ⟨k,rfl⟩:=Av (hm m (mem_cons_self ..));have hb:∀ u ∈ us,u < 2 ^ k:=fun u h=>hu u h _ (mem_cons_self ..);have hp':=List.pairwise_cons.mp hp;refine G8 (ms:=r) ?_ ?_ (fun m h=>hm m (mem_cons_of_mem _ h)) hp'.2
  ·refine List.pairwise_append.mpr ⟨h,?_,fun u hu' v hv=>?_⟩
   ·rw [List.pairwise_map];refine h.imp_of_mem fun {a b} ha hb' hab=>?_;rw [FH (hb a ha),FH (hb b hb')];omega
   ·obtain ⟨x,hx,rfl⟩:=mem_map.mp hv;rw [FH (hb x hx)];have:=hb u hu';omega
  ·intro u hu' m' hm';have hlt:=hp'.1 m' hm';obtain ⟨k',rfl⟩:=Av (hm m' (mem_cons_of_mem _ hm'));rcases mem_append.mp hu' with z | z
   ·exact Nat.lt_trans (hb u z) hlt
   ·obtain ⟨x,hx,rfl⟩:=mem_map.mp z;rw [FH (hb x hx)];have h1:=hb x hx;have h2:k < k':=(Nat.pow_lt_pow_iff_right (by decide)).mp hlt;have h3:2 ^ (k + 1) <= 2 ^ k':=Nat.pow_le_pow_right (by decide) h2;rw [Nat.pow_succ] at h3;omega
theorem NZ {ms:List Nat} (hm:∀ m ∈ ms,Ar m=true) (hp:ms.Pairwise (· < ·)):(uns ms).Pairwise (· < ·):=by
 refine G8 (List.pairwise_singleton _ _) (fun u hu m h=>?_) hm hp;rw [mem_singleton.mp hu];obtain ⟨k,rfl⟩:=Av (hm m h);exact Nat.two_pow_pos k
theorem G9 {u n:Nat} (h:∀ k,u.testBit k=true->n.testBit k=true):u &&& n=u:=by
 refine Nat.eq_of_testBit_eq fun k=>?_;rw [Nat.testBit_and];cases e:u.testBit k with
 | false=>rfl
 | true=>rw [h k e]; rfl
def fmx (g:Nat->Nat):List Nat->List Nat->Option (Nat × Nat)
 | _,[]=>none
 | seen,n :: r=>match seen.find? (fun m=>decide (g m=g n)) with
  | some m=>some (m,n)
  | none=>fmx g (seen++[n]) r
theorem JM {g:Nat->Nat} {seen r:List Nat} {n:Nat} (h:seen.find? (fun m=>decide (g m=g n))=none):fmx g seen (n :: r)=fmx g (seen++[n]) r:=by
 rw [fmx,h]
theorem JN {g:Nat->Nat} {seen r:List Nat} {n m:Nat} (h:seen.find? (fun m=>decide (g m=g n))=some m):fmx g seen (n :: r)=some (m,n):=by
 rw [fmx,h]
end MK
end
section
namespace Mk
open PySem L2 MK
def Ea (tab:List Ent) (due:LN) (m:Nat):Bool:=(tab.lookup (A2 (AN due) m)).isSome
def tms (tab:List Ent) (due:LN):List Nat:=(AJ due).filter (Ea tab due)
theorem Na {tab:List Ent} (nd:(due.map (·.1)).Nodup) (h:tab=DJ (fun x=>tab.lookup x) (BG due)):tab.map (fun e=>look due e.1)=tms tab due:=by
 have key:∀ l:List Nat,(∀ m ∈ l,look due (A2 (AN due) m)=m)->(DJ (fun x=>tab.lookup x) (l.map (A2 (AN due)))).map (fun e=>look due e.1)=l.filter (Ea tab due):=by
  intro l hl;induction l with
  | nil=>rfl
  | cons m r ih =>
   have ih:=ih fun x hx=>hl x (mem_cons_of_mem _ hx);unfold DJ at ih ⊢;rw [map_cons,filterMap_cons];cases e:tab.lookup (A2 (AN due) m) with
   | none =>
    rw [List.filter_cons_of_neg (by unfold Ea; rw [e]; simp)];simp only [e,Option.map_none];exact ih
   | some q =>
    rw [List.filter_cons_of_pos (by unfold Ea; rw [e]; rfl)];simp only [e,Option.map_some,map_cons];rw [hl m (mem_cons_self ..)];exact congrArg _ ih
 refine (congrArg (List.map fun e=>look due e.1) h).trans (key _ fun m hm=>?_);exact EK nd (CY hm)
theorem IC {tab:List Ent} {m:Nat} (h:m ∈ tms tab due):m ∈ AJ due:=(mem_filter.mp h).1
theorem Nb (tab:List Ent) (due:LN):(uns (tms tab due)).Pairwise (· < ·):=NZ (fun m h=>(Co (IC h)).2) ((G3 due).filter _)
theorem FI (tab:List Ent) (due:LN):(tms tab due).length <= due.length:=Nat.le_trans (length_filter_le _ _) (BC due)
theorem HA {tab:List Ent} {u:Nat} (h:u ∈ uns (tms tab due)):u &&& AX (AJ due)=u:=G9 fun k hk=>by
 obtain ⟨m,hm,hb⟩:=IB h hk;rw [BW];exact any_eq_true.mpr ⟨m,IC hm,hb⟩
theorem Nd {tab:List Ent} {u:Nat} (h:u ∈ uns (tms tab due)):u &&& kn due=u:=G9 fun k hk=>by
 obtain ⟨m,hm,hb⟩:=IB h hk;unfold kn;rw [BW];exact any_eq_true.mpr ⟨m,mem_map.mpr ⟨_,CY (IC hm),rfl⟩,hb⟩
theorem Kg {tab:List Ent} {u:Nat} (h:u ∈ uns (tms tab due)):Has tab (An due u):=fun x hx=>by
 unfold An at hx;obtain ⟨m,hm,rfl⟩:=mem_map.mp hx;obtain ⟨hm1,hm2⟩:=mem_filter.mp hm;have a0:=of_decide_eq_true hm2;obtain ⟨k,rfl⟩:=Av (Co hm1).2
 have hb:u.testBit k=true:=by
  cases e:u.testBit k with
  | true=>rfl
  | false =>
   refine absurd ?_ a0;refine Nat.eq_of_testBit_eq fun j=>?_;rw [Nat.testBit_and,Nat.testBit_two_pow,Nat.zero_testBit];by_cases q:k=j
   ·subst q; rw [e,Bool.and_false]
   ·rw [decide_eq_false q,Bool.false_and]
 obtain ⟨m',h1,h2⟩:=IB h hb;obtain ⟨k',e⟩:=Av (Co (IC h1)).2;rw [e,Nat.testBit_two_pow] at h2;have:=of_decide_eq_true h2;subst this;rw [← e];exact (mem_filter.mp h1).2
theorem Pm {tab:List Ent} {u:Nat} (hlt:∀ p ∈ due,p.2 < 2 ^ 20) (h:u ∈ uns (tms tab due)):u < 2 ^ 20:=by
 have h1:=QS hlt;have h2:=Nd h;have h3:=Nat.and_le_right (n:=u) (m:=kn due);omega
section
def Nf (K:FG):Sp:=fun vs H Q _=>∃ (a:Addr) (ms:List Nat),vs=[.ref a]/\SqL K H a (AZ ms)/\ms.length <= 8/\∀ l H',Same H H'->H' l=some (.lst (AZ (uns ms)))->Q (.ref l) H'
theorem scUnions:AL ["marks", "unions", "mark"] ["marks"] (defScope Ei):=fsc
theorem Ob {n:Nat} (h:n <= 8):2 ^ n <= 256:=Nat.pow_le_pow_right (by decide) h
theorem BE (l:List Nat):(AZ l).length=l.length:=length_map _
theorem Pn (F:Fun K "unions_of" "unions_of" Ei f fd):Af P w K mg base CX0 1 f fd ["marks"] (Nf K):=by
 refine F.ok scUnions (fun vs H Q E h=>?_) (fun ac A outer s H vs Q E hr h=>?_)
 ·obtain ⟨a,ms,rfl,_⟩:=h;rfl
 ·obtain ⟨a,ms,rfl,hS,h8,k⟩:=h
  refine ⟨_,AD (Ad (i:=1) scUnions.nd rfl (Or.inl rfl) (Bq (AA AI AC)))
   (AD (BP PassesOwn.never rfl (Al (pv 0)) (AO (i:=2) scUnions.nd rfl (Or.inr rfl))
    (AE (Ad (i:=1) scUnions.nd rfl (Or.inl rfl) (AY L1 (pv 1) (Az ["mark"] [some 2] (by kernel_rfl) (by decide +kernel) (by kernel_rfl) rfl (Al (pv 1)) (fun _ _ _ _ _ _=>A3) (fun _ _ _ _ _ _=>AY FO (pv 0) (pv 1))))))) (AE (AS (pv 1)))),?_⟩
  refine ⟨sl1,fun l hl=>?_⟩;have s1:=AF (Same.refl _) hl (o:=HO.lst [V.int 0]);have hl1:=AB (H:=H) (a:=l) (o:=HO.lst [V.int 0]);generalize upd H l (HO.lst [V.int 0])=H1 at s1 hl1 ⊢;refine ⟨_,rfl,a,rfl,⟨_,s1.seq hS⟩,BD (K:=K) (a:=a) (xs:=AZ ms) (fun i σ H2=>(∃ (l:Addr) (v:Option V),σ=[some (.ref a),some (.ref l),v]/\H2 l=some (.lst (AZ (uns (ms.take i)))))/\Same H H2) ⟨⟨l,none,rfl,hl1⟩,s1⟩ (fun i σ H2 _ ⟨_,e⟩=>e.seq hS) ?_ ?_⟩
  ·rintro i x σ H2 hi ⟨⟨l2,v,rfl,hl2⟩,s2⟩;unfold AZ at hi;rw [getElem?_map] at hi;obtain ⟨m,hm,rfl⟩:=Option.map_eq_some_iff.mp hi;have hi8:=(List.getElem?_eq_some_iff.mp hm).1;have bd:(uns (ms.take i)).length <= 256:=by rw [FF]; exact Ob (by rw [length_take]; omega)
   refine ⟨_,rfl,_,rfl,l2,rfl,⟨_,SqL.of hl2⟩,A8 (K:=K) (a:=l2) (xs:=AZ (uns (ms.take i))) (fun j ys H3=>ys=AZ (((uns (ms.take i)).take j).map (· ||| m))/\H3=H2) ⟨rfl,rfl⟩ (fun j ys H3 _ ⟨_,e⟩=>e ▸ SqL.of hl2) (fun j ys H3 ⟨e,_⟩=>by rw [e,BE,length_map,length_take]; omega) ?_ ?_⟩
   ·rintro j v ys H3 hj ⟨rfl,rfl⟩;unfold AZ at hj;rw [getElem?_map] at hj;obtain ⟨u,hu,rfl⟩:=Option.map_eq_some_iff.mp hj;refine ⟨_,rfl,_,rfl,_,_,rfl,rfl,?_,rfl⟩;rw [take_add_one,hu];unfold AZ;rw [map_append,map_append];show _++[V.int (Builtin.bitOr _ _)]=_++[V.int _];rw [CL]
   ·rintro ys H3 ⟨rfl,rfl⟩ p hp;rw [BE,take_length] at *;have s3:=AF (Same.refl _) hp (o:=HO.lst (AZ ((uns (ms.take i)).map (· ||| m))));refine ⟨l2,p,_,_,rfl,rfl,s3 _ _ hl2,AB,Nat.le_of_lt (AU (by rw [BE,BE,length_map]; omega)),fun q hq=>?_⟩;refine ⟨⟨q,_,rfl,?_⟩,s2.trans (AF s3 hq)⟩;rw [AB,take_add_one,hm];show _=some (HO.lst (AZ (uns (ms.take i++[m]))));rw [JJ];unfold AZ;rw [map_append]
  ·rintro σ H2 ⟨⟨l2,v,rfl,hl2⟩,s2⟩;rw [BE,take_length] at hl2;exact ⟨_,rfl,k l2 _ s2 hl2⟩
end
def kvG (g:Nat->Nat) (L:List (Nat × V)):LK:=L.map fun p=>((Sum.inl ((g p.1:Nat):Int):Key),p.2)
theorem DI (g:Nat->Nat) (n:Nat):∀ L:List (Nat × V),Ah (kvG g L) (Sum.inl ((g n:Nat):Int):Key)=(L.find? fun p=>decide (g p.1=g n)).map (·.2)
 | []=>rfl
 | p :: r=>by
  have ih:=DI g n r;unfold kvG Ah at ih ⊢;rw [map_cons,find?_cons,find?_cons];by_cases h:g p.1=g n
  ·rw [decide_eq_true (show (Sum.inl ((g p.1:Nat):Int):Key)=Sum.inl ((g n:Nat):Int) by rw [h]),decide_eq_true h];rfl
  ·rw [decide_eq_false (show ¬ (Sum.inl ((g p.1:Nat):Int):Key)=Sum.inl ((g n:Nat):Int) from fun z=>h (Int.ofNat.inj (Sum.inl.inj z))),decide_eq_false h];exact ih
theorem HB (g:Nat->Nat) (n:Nat) (L:List (Nat × V)):(L.map (·.1)).find? (fun m=>decide (g m=g n))=(L.find? fun p=>decide (g p.1=g n)).map (·.1):=by
 rw [List.find?_map];rfl
theorem Kh {ns:List Nat} {i u:Nat} (h:ns[i]?=some u):ns.drop i=u :: ns.drop (i + 1):=by
 obtain ⟨hi,e⟩:=List.getElem?_eq_some_iff.mp h;rw [List.drop_eq_getElem_cons hi,e]
section
def Po (C VC EC:Addr):Sp:=fun vs H Q _=>∃ (p k o:Addr) (due ab:LN) (r r2:Str) (tab:List Ent),vs=[.ref p]/\EdAt EC H p k o (kvT tab)/\TabN ab H tab/\tab=DJ (fun x=>tab.lookup x) (BG due)/\KindAt C H k due r/\Asc due/\(due.map (·.1)).Nodup/\due.length <= 8/\(∀ q ∈ due,q.2 < 2 ^ 20)/\KindAt C H o ab r2/\(∀ q ∈ ab,q.2 < 2 ^ 20) /\
 (fmx (CJ tab due ab) [] (uns (tms tab due))=none->∀ H',Same H H'->Q .non H') /\
 ∀ m n,fmx (CJ tab due ab) [] (uns (tms tab due))=some (m,n)->∀ t q1 q2 H',Same H H'->H' t=some (.tup [.ref q1,.ref q2])->ValAt VC H' q1 k m->ValAt VC H' q2 k n->Q (.ref t) H'
theorem scFm:AL ["self", "least", "number", "value", "end"] ["self"] (defScope BS):=fsc
theorem Qc (F:Fun K "first_mixed" "Edition.first_mixed" BS f fd) (T:Cp K C) (ET:JH K EC) (VO:JA P w K mg base C VC)
  (GVN:Mt P w K mg base VC "number" 1 ["self"] (CV VC)) (GKN:Mt P w K mg base C "number" 2 ["self", "name"] (EM C)) (GL:Mt P w K mg base EC "led" 7 ["self", "value"] (Ke C VC EC)) (GU:Fn P w K mg base "unions_of" 1 ["marks"] (Nf K)) :
  Af P w K mg base CX0 8 f fd ["self"] (Po C VC EC):=by
 obtain ⟨fN,dN,GVN,mN,bN⟩:=GVN.ex;obtain ⟨fK,dK,GKN,mK,bK⟩:=GKN.ex;obtain ⟨fL,dL,GL,mL,bL⟩:=GL.ex;obtain ⟨fU,dU,GU,mU,kU,bU⟩:=GU.ex;obtain ⟨fI,dI,MI,GI,bI⟩:=VO.make;have mV:=VO.cls;refine F.ok scFm (fun vs H Q E h=>?_) (fun ac A outer s H vs Q E hr h=>?_)
 ·obtain ⟨p,k,o,due,ab,r,r2,tab,rfl,_⟩:=h;rfl
 ·obtain ⟨p,k,o,due,ab,r,r2,tab,rfl,ED,TN,b0,KA,asc,nd,h8,hlt,KB,ce,kN,kS⟩:=h;have hu:=B5 hr;have hr1:Room 1 _:=hr.mono (by decide);have hr2:Room 2 _:=hr.mono (by decide);have hr5:Room 5 _:=hr.mono (by decide);obtain ⟨dx,d,ob,hp,hd⟩:=id ED
  refine ⟨_,AD (Ad (i:=1) scFm.nd rfl (Or.inl rfl) B4)
   (AD (BP PassesOwn.never rfl (Al (AK GU hr1 rfl mU kU bU .nil AM (AA (Az ["self"] [some 0] (by kernel_rfl) (by decide +kernel) (by kernel_rfl) rfl (KU (Aq (pv 0) rfl)) (fun _ _ _ _ _ _=>A3) (fun _ _ _ _ _ _=>DA (Hl K rfl (pv 1) rfl) T.cl mK GKN hr2 bK .nil AM (AA (pv 0) AC))) AC))) (AO (i:=2) scFm.nd rfl (Or.inl rfl))
    (AD (Ad (i:=3) scFm.nd rfl (Or.inl rfl) (FB MI GI hr5 rfl mV bI .nil AM (AA (Aq (pv 0) rfl) (AA (pv 2) AC))))
    (AD (Ad (i:=4) scFm.nd rfl (Or.inl rfl) (Ai (DA (pv 0) ET.cl mL GL hr bL .nil AM (AA (pv 3) AC)) VO.VT.cl mN GVN hr1 bN .nil AM))
    (AD (Ak (BO (Eg hu (pv 4) (pv 1))) (AE (AS (BQ (AA (BA hu (pv 1) (pv 4) (fun _ _=>rfl)) (AA (pv 3) AC))))) AT)
    (AE (DC hu (pv 1) (pv 4) (pv 3) rfl))))))
   (AE (AS JO))),?_⟩
  refine fun ld hld=>?_;have s1:=AF (Same.refl _) hld (o:=HO.dK []);have hl1:(upd H ld (HO.dK [])) ld=some (.dK []):=AB;generalize upd H ld (HO.dK [])=H1 at s1 hl1 ⊢;obtain ⟨dxk,d1,d2,hk⟩:=KA.ins;have hkl:(kvT tab).length=tab.length:=length_map _;have az:=Na nd b0
  have htl:tab.length <= 8:=by
   have h1:=congrArg List.length az;have h2:=FI tab due;rw [length_map] at h1;omega
  refine ⟨_,rfl,p,EC,dx,_,_,rfl,s1 _ _ hp,ET.cl,ET.nT,J4 _ _ _,d,ob,kvT tab,rfl,s1 _ _ hd,LB (a:=d) (o:=ob) (kvs:=kvT tab) (fun i ys H2=>ys=AZ ((tab.take i).map fun e=>look due e.1)/\H2=H1) ⟨rfl,rfl⟩ (fun i ys H2 ⟨_,e⟩=>e ▸ s1 _ _ hd) (fun i ys H2 ⟨e,_⟩=>by rw [e,BE,length_map,length_take]; omega) ?_ ?_⟩
  ·rintro i kv ys H2 hi ⟨rfl,rfl⟩;unfold kvT at hi;rw [getElem?_map] at hi;obtain ⟨e,he,rfl⟩:=Option.map_eq_some_iff.mp hi
   have hin:e.1 ∈ due.map (·.1):=by
    have h1:=mem_of_getElem? he;rw [b0] at h1;exact Lf (Hz h1)
   refine ⟨_,rfl,p,EC,dx,_,_,rfl,s1 _ _ hp,ET.cl,ET.nK,FE _ _ _,k,dxk,_,rfl,s1 _ _ hk,(Ba _ _ _),_,rfl,k,due,r,e.1,rfl,KA.same s1,hin,?_,rfl⟩;rw [take_add_one,he];unfold AZ;rw [map_append,map_append];rfl
  rintro ys H2 ⟨rfl,rfl⟩ a ha;rw [hkl,take_length,az];have sa:=AF (Same.refl _) ha (o:=HO.lst (AZ (tms tab due)));refine ⟨a,_,rfl,SqL.of AB,Nat.le_trans (FI tab due) h8,fun l H3 s3 hl3=>?_⟩;have s13:Same H H3:=s1.trans (sa.trans s3);have hl3':H3 ld=some (.dK []):=s3 _ _ (sa _ _ hl1);have hne3:l ≠ ld:=fun z=>by subst z; rw [hl3] at hl3'; cases hl3'
  clear sa s3 ha hl1 s1;have hnl:(uns (tms tab due)).length <= 256:=by rw [FF]; exact Ob (Nat.le_trans (FI tab due) h8)
  have be:∀ u ∈ uns (tms tab due),Has tab (An due u)/\u - (u &&& AX (AJ due))=0/\u - (u &&& kn due)=0/\u < 2 ^ 40:=fun u hu=>by
   have h1:=HA hu;have h2:=Nd hu;have h3:=Pm hlt hu;have h4:(2:Nat) ^ 20 < 2 ^ 40:=by decide
   exact ⟨Kg hu,by omega,by omega,by omega⟩
  generalize uns (tms tab due)=ns at *;generalize hg:CJ tab due ab=g at *
  refine ⟨l,rfl,⟨_,SqL.of hl3⟩,BD (K:=K) (a:=l) (xs:=AZ ns) (fun i σ H4=>(∃ v2 v3 v4:Option V,σ=[some (.ref p),some (.ref ld),v2,v3,v4])/\(∀ b u,H3 b=some u->b ≠ ld->H4 b=some u)/\(∃ L:List (Nat × V),L.map (·.1)=ns.take i/\H4 ld=some (.dK (kvG g L))/\∀ q ∈ L,∃ b,q.2=.ref b/\ValAt VC H4 b k q.1)/\fmx g [] ns=fmx g (ns.take i) (ns.drop i))
   ⟨⟨none,none,none,rfl⟩,fun _ _ e _=>e,⟨[],rfl,hl3',fun q hq=>by cases hq⟩,rfl⟩ (fun i σ H4 _ ⟨_,e,_⟩=>SqL.of (e _ _ hl3 hne3)) ?_ ?_⟩
  ·rintro i x σ H4 hi ⟨⟨v2,v3,v4,rfl⟩,e4,⟨L,hL,hld4,hV4⟩,hfm⟩;unfold AZ at hi;rw [getElem?_map] at hi;obtain ⟨u,hu',rfl⟩:=Option.map_eq_some_iff.mp hi;obtain ⟨hH,h0,hkn,h40⟩:=be u (mem_of_getElem? hu');have hi256:=(List.getElem?_eq_some_iff.mp hu').1;have s14:Same H H4:=fun b u e=>e4 b u (s13 _ _ e) (AG e hld);refine ⟨_,rfl,p,EC,dx,_,_,rfl,s14 _ _ hp,ET.cl,ET.nK,FE _ _ _,_,rfl,?_⟩;intro v dv hv hdv a0;have sN:=CW (D:=VC) hv hdv a0;refine ⟨v,dv,k,due,r,u,rfl,AB,(KA.same s14).same sN,h40,.inr hkn,fun H5 s5 hV=>⟨rfl,?_⟩⟩;have s45:Same H4 H5:=By sN hv s5;have s15:=s14.trans s45;refine ⟨_,rfl,p,dx,_,rfl,s15 _ _ hp,G5 _ _ _,_,rfl,p,v,k,o,u,due,ab,r,r2,tab,rfl,ED.same s15,TN.same (fun b xs e=>s15 _ _ e),hV,KA.same s15,asc,by omega,KB.same s15,ce,hH,h0,fun q1 H6 s6 hq1=>?_⟩;rw [congrFun hg u] at hq1;obtain ⟨dq,hq⟩:=id hq1;have s46:=s45.trans s6;have b5:=s46 _ _ hld4;refine ⟨q1,dq,_,rfl,hq,E6 _ _ (by decide +kernel) (by decide +kernel),q1,o,_,rfl,hq1,?_⟩;refine ⟨_,rfl,_,rfl,ld,_,rfl,.inl ⟨_,Sum.inl _,.inl b5,rfl,rfl⟩,_,rfl,?_⟩;rw [DI];have hsf:=HB g u L;rw [hL] at hsf;have hdr:=Kh hu';cases hf:L.find? fun p=>decide (g p.1=g u) with
   | some e =>
    rw [hf] at hsf;obtain ⟨b,eb,hVb⟩:=hV4 e (mem_of_find?_eq_some hf);rw [hdr,JN hsf] at hfm;refine CA ⟨_,rfl,_,rfl,ld,e.2,rfl,.inl ⟨_,Sum.inl _,.inl b5,rfl,?_⟩,_,rfl,sl2,fun t ht=>?_⟩
    ·rw [DI,hf];rfl
    ·rw [eb];have st:=AF (Same.refl _) ht (o:=HO.tup [V.ref b,V.ref v]);refine kS _ _ hfm t b v _ ((s14.trans s46).trans st) AB ((hVb.same s46).same st) ((hV.same s6).same st)
   | none =>
    rw [hf] at hsf;refine Aw ⟨_,rfl,_,rfl,_,rfl,ld,_,rfl,DPut.k (k:=Sum.inl ((g u:Nat):Int)) b5 (AU ?_),?_⟩
    ·have:=congrArg List.length hL;rw [length_map,length_take] at this;unfold kvG;rw [length_map];omega
    ·have hnn:Ah (kvG g L) (Sum.inl ((g u:Nat):Int):Key)=none:=by rw [DI,hf]; rfl
     have old:∀ b q,ValAt VC H6 b k q->ValAt VC (upd H6 ld (.dK (A1 (kvG g L) (Sum.inl ((g u:Nat):Int)) (V.ref v)))) b k q:=fun b q ⟨db,hb⟩=>⟨db,by rw [AH (fun z=>by subst z; rw [b5] at hb; cases hb)]; exact hb⟩;refine ⟨⟨_,_,_,rfl⟩,fun b o' e hb=>by rw [AH hb]; exact s46 _ _ (e4 b o' e hb),⟨L++[(u,V.ref v)],?_,?_,fun q hq=>?_⟩,?_⟩
     ·rw [map_append,hL,take_add_one,hu'];rfl
     ·rw [AB,Bn _ hnn];unfold kvG;rw [map_append];rfl
     ·rcases mem_append.mp hq with z | z
      ·obtain ⟨b,eb,hVb⟩:=hV4 q z;exact ⟨b,eb,old _ _ (hVb.same s46)⟩
      ·rw [mem_singleton.mp z];exact ⟨v,rfl,old _ _ (hV.same s6)⟩
     ·rw [hfm,hdr,JM hsf,take_add_one,hu'];rfl
  ·rintro σ H4 ⟨⟨v2,v3,v4,rfl⟩,e4,_,hfm⟩;rw [BE,take_length,drop_length] at hfm;exact kN hfm _ fun b u e=>e4 b u (s13 _ _ e) (AG e hld)
end
theorem Ng {b:Addr} {m n:Int} (h:H b=some (.tup [.int m,.int n])):B6 K H (.tuple [.int m,.int n]) (.ref b):=by
 rw [B6];refine ⟨b,_,rfl,SqT.of h,?_⟩;rw [BV];refine ⟨_,_,rfl,by rw [B6],?_⟩;rw [BV];refine ⟨_,_,rfl,by rw [B6],?_⟩;rw [BV]
theorem HC {m n:Int}:SeqAt.shaped (.tuple [.int m,.int n])=true:=by
 unfold SeqAt.shaped;simp only [Bool.and_eq_true,decide_eq_true_eq];refine ⟨?_,?_⟩
 ·rw [PyData.canLay0];refine Jw fun d hd=>?_;simp only [mem_cons,not_mem_nil,or_false] at hd;rcases hd with rfl | rfl
  ·rw [PyData.canLay0]
  ·rw [PyData.canLay0]
 ·simp only [PyData.depth,PyData.depthAll];omega
theorem Pp (m n:Int):PyData.eqv (.tuple [.int m,.int n]) (.tuple [.int m,.int n])=true:=Hu fun d hd=>by
 simp only [mem_cons,not_mem_nil,or_false] at hd;rcases hd with rfl | rfl
 ·exact EQ _
 ·exact EQ _
theorem Nh {g:Nat->Nat}:∀ {r seen:List Nat} {m n:Nat},fmx g seen r=some (m,n)->(m ∈ seen\/m ∈ r)/\n ∈ r/\g m=g n
 | [],seen,m,n,h=>by cases h
 | x :: r,seen,m,n,h=>by
  rw [fmx] at h;cases e:seen.find? (fun m=>decide (g m=g x)) with
  | some y =>
   rw [e] at h;cases h;exact ⟨.inl (mem_of_find?_eq_some e),mem_cons_self ..,of_decide_eq_true (List.find?_some (p:=fun m=>decide (g m=g x)) e)⟩
  | none =>
   rw [e] at h;obtain ⟨h1,h2,h3⟩:=Nh (r:=r) h;refine ⟨?_,mem_cons_of_mem _ h2,h3⟩;rcases h1 with z | z
   ·rcases mem_append.mp z with y | y
    ·exact .inl y
    ·rw [mem_singleton.mp y];exact .inr (mem_cons_self ..)
   ·exact .inr (mem_cons_of_mem _ z)
def Ki (K:FG):Sp:=fun vs H Q _=>∃ (a:Addr) (ns:List Int),vs=[.ref a]/\SqL K H a (ns.map V.int)/\ns.length <= 63/\∀ H',Q (.bl true) H'
abbrev RB:List Str:=["_law_script", "_law_dice", "_law_edition_here", "_law_table", "_law_due", "_law_next_due", "_law_own", "_law_numbers", "_law_name", "_law_bit", "_law_goals", "_law_due_pair", "_law_number", "_law_goal_here", "_law_found"]
theorem scLaw:AL RB ["_law_script"] (defScope Mc):=fsc
section
theorem Pq {f0:Addr} (F:Fun K "law" "law" Mc f0 fd) (B:Bl mg) (VO:JA P w K mg base C VC) (ET:JH K EC)
  (neK:W.findIn K (.ref C) "__ne__" = some (some (.builtin "object.__ne__"))) (hmo:W.mroIn K C (.type "object")=some true)
  (GRd:Fn P w K mg base "_law_rounds" 2 ["_law_script", "_law_most"] (F5 K)) (GEd:Fn P w K mg base "_law_edition" 8 ["_law_dice", "_law_high"] (NY C EC)) (GT:Fn P w K mg base "_law_table_of" 2 ["_law_due"] EN)
  (GG:Fn P w K mg base "_law_goal" 3 ["_law_table", "_law_due", "_law_next_due", "_law_number"] J8) (GVN:Mt P w K mg base VC "number" 1 ["self"] (CV VC)) (GVK:Mt P w K mg base VC "kind" 1 ["self"] (FD VC))
  (GEk:Mt P w K mg base C "__eq__" 2 ["self", "other"] (Ix C)) (GEK:Mt P w K mg base EC "kind" 1 ["self"] (Hy EC)) (GLd:Mt P w K mg base EC "led" 7 ["self", "value"] (Ke C VC EC)) (GFm:Mt P w K mg base EC "first_mixed" 8 ["self"] (Po C VC EC)) :
  Af P w K mg base CX0 9 f0 fd ["_law_script"] (Ki K):=by
 obtain ⟨fRd,dRd,GRd,mRd,kRd,bRd⟩:=GRd.ex;obtain ⟨fEd,dEd,GEd,mEd,kEd,bEd⟩:=GEd.ex;obtain ⟨fT,dT,GT,mT,kT,bT⟩:=GT.ex;obtain ⟨fG,dG,GG,mG,kG,bG⟩:=GG.ex;obtain ⟨fVN,dVN,GVN,mVN,bVN⟩:=GVN.ex;obtain ⟨fVK,dVK,GVK,mVK,bVK⟩:=GVK.ex;obtain ⟨fEk,dEk,GEk,mEk,bEk⟩:=GEk.ex;obtain ⟨fEK,dEK,GEK,mEK,bEK⟩:=GEK.ex;obtain ⟨fLd,dLd,GLd,mLd,bLd⟩:=GLd.ex;obtain ⟨fFm,dFm,GFm,mFm,bFm⟩:=GFm.ex;obtain ⟨fVE,dVE,GVE,mVE,bVE⟩:=VO.eq;have VT:=VO.VT;refine F.ok scLaw (fun vs H Q E h=>?_) (fun ac A outer s H vs Q E hr h=>?_)
 ·obtain ⟨a,ns,rfl,_⟩:=h;rfl
 ·obtain ⟨a,ns,rfl,hS,h63,k⟩:=h;have hu:=B5 hr;have hu64:=hr.units;have hr1:Room 1 _:=hr.mono (by decide);have hr2:Room 2 _:=hr.mono (by decide);have hr3:Room 3 _:=hr.mono (by decide);have hr4:Room 4 _:=hr.mono (by decide);have hr7:Room 7 _:=hr.mono (by decide);have hr8:Room 8 _:=hr.mono (by decide);have nd:=scLaw.nd
  refine ⟨_,AD (BP PassesOwn.never rfl (Al (AK GRd hr2 rfl mRd kRd bRd .nil AM (AA (pv 0) (AA AI AC)))) (AO (i:=1) nd rfl (Or.inl rfl))
    (AD (CK (AK GEd hr8 rfl mEd kEd bEd .nil AM (AA (pv 1) (AA AI AC))) (BJ rfl (AR (AO (i:=2) nd rfl (Or.inl rfl)) (AR (AO (i:=3) nd rfl (Or.inl rfl)) (AR (AO (i:=4) nd rfl (Or.inl rfl)) (AR (AO (i:=5) nd rfl (Or.inl rfl)) Ay))))))
    (AD (Li (i:=6) (j:=7) rfl nd rfl rfl (by decide) rfl rfl (AA (AK GT hr2 rfl mT kT bT .nil AM (AA (pv 4) AC)) (AA (Bq (AA AI AC)) AC)) (by kernel_rfl))
    (CH (BP PassesOwn.never rfl (Al (BA hu (pv 6) A0 (fun _ _=>rfl))) (BJ rfl (AR (AO (i:=8) nd rfl (Or.inl rfl)) (AR (AO (i:=9) nd rfl (Or.inr rfl)) Ay)))
     (AE (Ak (BO (Eg hu (pv 8) (pv 3))) (AE (Ad (i:=7) nd rfl (Or.inl rfl) (AY L1 (pv 7) (Az ["_law_bit"] [some 9] (by kernel_rfl) (by decide +kernel) (by kernel_rfl) rfl (Al (pv 7)) (fun _ _ _ _ _ _=>A3) (fun _ _ _ _ _ _=>AY FO (pv 0) (pv 1)))))) AT)))
    (AD (Ad (i:=10) nd rfl (Or.inl rfl) B4)
    (AD (Ad (i:=11) nd rfl (Or.inl rfl) JO)
    (CH (BP PassesOwn.never rfl (Al (AW (HV (K:=K) rfl) rfl B.sorted Er (AA (pv 7) AC))) (AO (i:=12) nd rfl (Or.inl rfl))
     (AD (Ad (i:=13) nd rfl (Or.inl rfl) (AK GG hr3 rfl mG kG bG .nil AM (AA (pv 3) (AA (pv 4) (AA (pv 5) (AA (pv 12) AC))))))
     (CH (Ak (PW.pt (Ed (BO (Eg hu (pv 13) (pv 10))) (C9 (BO (Ec (pv 11)))))) (AE (Ad (i:=11) nd rfl (Or.inl rfl) (BQ (AA (BA hu (pv 10) (pv 13) (fun _ _=>rfl)) (AA (pv 12) AC))))) AT)
     (AE (Ak (BO (DB hu (pv 13) (pv 10))) (AE (DC hu (pv 10) (pv 13) (pv 12) rfl)) AT)))))
    (AD (Ad (i:=14) nd rfl (Or.inl rfl) (Ai (pv 2) ET.cl mFm GFm hr8 bFm .nil AM))
    (AE (Ak (BO (Ec (pv 11))) (AE (Ak (BO (Nj (pv 14))) (AE Ag) AT))
     (AE (Ak (PW.pt (CN (BO (Ec (pv 14))) (CN (Ac (MS K rfl hu64) (BQ (AA (Ai (BK (Bj K rfl) (pv 14) AI (fun _ _=>rfl)) VT.cl mVN GVN hr1 bVN .nil AM) (AA (Ai (BK (Bj K rfl) (pv 14) AI (fun _ _=>rfl)) VT.cl mVN GVN hr1 bVN .nil AM) AC))) (pv 11) (Ae _)) (Bz (Ac Ds (AW (Ax K rfl) rfl B.len PySem.boot_len (AA (pv 14) AC)) AI (Ae _)))))) (AE Ag)
      (AE (Ak (PW.pt (CN (Ac (Fc GVE hr4 bVE mVE VO.ne VO.isi.hm) (DA (pv 2) ET.cl mLd GLd hr7 bLd .nil AM (AA (BK (Bj K rfl) (pv 14) AI (fun _ _=>rfl)) AC)) (DA (pv 2) ET.cl mLd GLd hr7 bLd .nil AM (AA (BK (Bj K rfl) (pv 14) AI (fun _ _=>rfl)) AC)) (Ae _)) (Bz (Ac (Fc GEk hr3 bEk mEk neK hmo) (Ai (BK (Bj K rfl) (pv 14) AI (fun _ _=>rfl)) VT.cl mVK GVK hr1 bVK .nil AM) (Ai (pv 2) ET.cl mEK GEK hr1 bEK .nil AM) (Ae _))))) (AE Ag) AT))))))))))))))
   (AE (AS Od)),?_⟩
  refine ⟨_,rfl,a,ns,rfl,hS,h63,fun l as H1 s1 hl nd' hla h5 be=>?_⟩
  refine ⟨l,rfl,⟨_,SqL.of hl⟩,BD (K:=K) (a:=l) (xs:=as.map V.ref) (fun i σ H2=>(∃ v1 v2 v3 v4 v5 v6 v7 v8 v9 v10 v11 v12 v13 v14:Option V,σ=[some (.ref a),v1,v2,v3,v4,v5,v6,v7,v8,v9,v10,v11,v12,v13,v14])/\H2 l=some (.lst (as.map V.ref))/\∀ (j:Nat) b,i <= j->as[j]?=some b->∃ x y:Int,H2 b=some (.lst [.int x,.int y]))
   ⟨⟨none,none,none,none,none,none,none,none,none,none,none,none,none,none,rfl⟩,hl,fun j b _ e=>(be b (mem_of_getElem? e)).2⟩ (fun i σ H2 _ ⟨_,e,_⟩=>SqL.of e) ?_ (fun σ H2 ⟨⟨v1,v2,v3,v4,v5,v6,v7,v8,v9,v10,v11,v12,v13,v14,e⟩,_⟩=>by subst e; exact k _)⟩
  rintro i v σ H2 hi ⟨⟨v1,v2,v3,v4,v5,v6,v7,v8,v9,v10,v11,v12,v13,v14,rfl⟩,hl2,hds⟩;rw [getElem?_map] at hi;obtain ⟨d,hdi,rfl⟩:=Option.map_eq_some_iff.mp hi;obtain ⟨x,y,hd⟩:=hds i d (Nat.le_refl _) hdi;have hld:l ≠ d:=fun z=>hla (z ▸ mem_of_getElem? hdi);refine ⟨_,rfl,d,x,y,rfl,hd,fun q p k' o t u u2 rows ad r r2 tab Ha sX hq ED ht b0 TN KA KB _ _ D1 D2 _ _ _ r7 RO _ _ r7' RO2 _=>?_⟩;refine ⟨q,_,rfl,SqT.of hq,rfl,_,_,rfl,_,_,rfl,_,_,rfl,_,_,rfl,rfl,?_⟩
  have fin:∀ v1 v2 v3 v4 v5 v6 v7 v8 v9 v10 v11 v12 v13 v14:Option V,∀ H',Same Ha H'->(∃ w1 w2 w3 w4 w5 w6 w7 w8 w9 w10 w11 w12 w13 w14:Option V,[some (.ref a),v1,v2,v3,v4,v5,v6,v7,v8,v9,v10,v11,v12,v13,v14]=[some (.ref a),w1,w2,w3,w4,w5,w6,w7,w8,w9,w10,w11,w12,w13,w14])/\H' l=some (.lst (as.map V.ref))/\∀ (j:Nat) b,i + 1 <= j->as[j]?=some b->∃ x y:Int,H' b=some (.lst [.int x,.int y]):=fun v1 v2 v3 v4 v5 v6 v7 v8 v9 v10 v11 v12 v13 v14 H' s'=>by
   refine ⟨⟨v1,v2,v3,v4,v5,v6,v7,v8,v9,v10,v11,v12,v13,v14,rfl⟩,s' _ _ (sX.old _ _ hl2 hld),fun j b hj e=>?_⟩
   have hbd:b ≠ d:=fun z=>by
    subst z;obtain ⟨hj2,ej⟩:=List.getElem?_eq_some_iff.mp e;obtain ⟨hi2,ei⟩:=List.getElem?_eq_some_iff.mp hdi;exact (List.pairwise_iff_getElem.mp nd') i j hi2 hj2 (by omega) (by rw [ei,ej])
   obtain ⟨x5,y5,e5⟩:=hds j b (by omega) e;exact ⟨x5,y5,s' _ _ (sX.old _ _ e5 hbd)⟩
  have DO:=EL RO (by omega);have DO2:=EL RO2 (by omega);have h7:(AV rows).length <= 7:=by rw [Ao]; exact r7
  generalize AV rows=due at *;generalize AV ad=ab at *;have asc:Asc due:=fun p hp=>(DO.nm p hp).2.1;have aj:Asc ab:=fun p hp=>(DO2.nm p hp).2.1;obtain ⟨bs,hu0,ap⟩:=id D1;refine ⟨_,rfl,u,bs,due,rfl,hu0,ap,DO.len,DO.lt,fun own e m ms Hb sb how he hm az=>⟨sl1,fun nl hnl=>⟨_,_,rfl,?_⟩⟩⟩;have sl:=AF (Same.refl _) hnl (o:=HO.lst [V.int 0]);have ci:=AB (H:=Hb) (a:=nl) (o:=HO.lst [V.int 0]);have sac:=sb.trans sl;have cj:=sl _ _ how;have hm1:=sl _ _ hm;have b6:TupsAt _ ms (Bb due):=TupsAt.sameT (fun b xs e=>sl _ _ e) az;generalize upd Hb nl (HO.lst [V.int 0])=Hc at sl ci sac cj hm1 b6 ⊢;clear sl how hm az hnl he sb
  have av:(ms.map V.ref).length=(AJ due).length:=by
   have h1:=b6.length;rw [G0] at h1;rw [length_map,h1]
  have htk:∀ (l:List Nat),l.Sublist (AJ due)->(uns (l.filter (Ea tab due))).length <= 256:=fun l hl=>by
   rw [FF];have h1:=hl.length_le;have h2:=BC due;exact Ob (Nat.le_trans (length_filter_le _ _) (by omega))
  refine ⟨fun σ H'=>∃ (nl:Addr) (v8 v9:Option V),σ=[some (.ref a),some (.ref d),some (.ref p),some (.ref t),some (.ref u),some (.ref u2),some (.ref own),some (.ref nl),v8,v9,v10,v11,v12,v13,v14]/\H' nl=some (.lst (AZ (uns (tms tab due))))/\Same Ha H',fun R hR=>?_,?_⟩
  ·refine ⟨_,rfl,own,_,rfl,.inl ⟨_,Sum.inr "marks", .inl cj,rfl,(Ex _ _ _).symm⟩,m,rfl,⟨_,SqL.of hm1⟩,BD (K:=K) (a:=m) (xs:=ms.map V.ref) (fun i σ H3=>(∃ (nl:Addr) (v8 v9:Option V),σ=[some (.ref a),some (.ref d),some (.ref p),some (.ref t),some (.ref u),some (.ref u2),some (.ref own),some (.ref nl),v8,v9,v10,v11,v12,v13,v14]/\H3 nl=some (.lst (AZ (uns (((AJ due).take i).filter (Ea tab due))))))/\Same Hc H3) ⟨⟨nl,_,_,rfl,ci⟩,Same.refl _⟩ (fun i σ H3 _ ⟨_,s3⟩=>SqL.of (s3 _ _ hm1)) ?_ ?_⟩
   ·rintro i v σ H3 hi ⟨⟨nl,w8,w9,rfl,bg⟩,s3⟩;obtain ⟨bb,n,rfl,hn,ak⟩:=Do (TupsAt.sameT (fun b xs e=>s3 _ _ e) b6) hi;refine ⟨bb,_,rfl,SqT.of ak,rfl,_,_,rfl,_,_,rfl,rfl,?_⟩;refine ⟨_,rfl,_,rfl,t,_,rfl,.inl ⟨_,Sum.inr _,.inl (s3 _ _ (sac _ _ ht)),rfl,rfl⟩,_,rfl,?_⟩;rw [Bs];have ht1:((AJ due).take (i + 1)).filter (Ea tab due)=((AJ due).take i).filter (Ea tab due)++[n].filter (Ea tab due):=by rw [take_add_one,hn,filter_append]; rfl
    have bd:=htk ((AJ due).take i) (take_sublist _ _);cases e:tab.lookup (A2 (AN due) n) with
    | none =>
     refine Aw ⟨⟨nl,_,_,rfl,?_⟩,s3⟩;rw [ht1,List.filter_cons_of_neg (by unfold Ea; rw [e]; simp),filter_nil,append_nil];exact bg
    | some q' =>
     have ht2:((AJ due).take (i + 1)).filter (Ea tab due)=((AJ due).take i).filter (Ea tab due)++[n]:=by rw [ht1,List.filter_cons_of_pos (by unfold Ea; rw [e]; rfl),filter_nil]
     generalize ((AJ due).take i).filter (Ea tab due)=zs at bg ht2 bd;refine CA ⟨_,rfl,_,rfl,nl,rfl,⟨_,SqL.of bg⟩,A8 (K:=K) (a:=nl) (xs:=AZ (uns zs)) (fun j ys H4=>ys=AZ (((uns zs).take j).map (· ||| n))/\H4=H3) ⟨rfl,rfl⟩ (fun j ys H4 _ ⟨_,e⟩=>e ▸ SqL.of bg) (fun j ys H4 ⟨e,_⟩=>by rw [e,BE,length_map,length_take]; omega) ?_ ?_⟩
     ·rintro j v ys H4 hj ⟨rfl,rfl⟩;unfold AZ at hj;rw [getElem?_map] at hj;obtain ⟨z,hz,rfl⟩:=Option.map_eq_some_iff.mp hj;refine ⟨_,rfl,_,rfl,_,_,rfl,rfl,?_,rfl⟩;rw [take_add_one,hz];unfold AZ;rw [map_append,map_append];show _++[V.int (Builtin.bitOr _ _)]=_++[V.int _];rw [CL]
     ·rintro ys H4 ⟨rfl,rfl⟩ c hc;have sc:=AF (Same.refl _) hc (o:=HO.lst (AZ (((uns zs).take (AZ (uns zs)).length).map (· ||| n))));have hcn:=AB (H:=H4) (a:=c) (o:=HO.lst (AZ (((uns zs).take (AZ (uns zs)).length).map (· ||| n))));rw [BE,take_length] at sc hcn ⊢;refine ⟨nl,c,_,_,rfl,rfl,sc _ _ bg,hcn,Nat.le_of_lt (AU (by rw [BE,BE,length_map]; omega)),fun q hq=>?_⟩;refine ⟨⟨q,_,_,rfl,?_⟩,s3.trans (AF sc hq)⟩;rw [AB,ht2,JJ];unfold AZ;rw [map_append]
   ·rintro σ H3 ⟨⟨nl,w8,w9,rfl,bg⟩,s3⟩;rw [av,take_length] at bg;exact hR _ _ ⟨nl,_,_,rfl,bg,sac.trans s3⟩
  rintro σ H3 ⟨nl,w8,w9,rfl,bg,s3⟩;clear av htk b6 hm1 cj sac ci;refine fun gd hgd=>?_;have sg:=AF (Same.refl _) hgd (o:=HO.dK []);have ck:=AB (H:=H3) (a:=gd) (o:=HO.dK []);have hgA:Ha gd=none:=none_of s3 hgd;have s4:=s3.trans sg;have b7:=sg _ _ bg;generalize upd H3 gd (HO.dK [])=H4 at sg ck s4 b7 ⊢;clear sg hgd bg s3;have hrise:=Nb tab due
  have be:∀ z ∈ uns (tms tab due),Has tab (An due z)/\z - (z &&& AX (AJ due))=0:=fun z hz=>by
   have h1:=HA hz;exact ⟨Kg hz,by omega⟩
  have hnl:(uns (tms tab due)).length <= 256:=by rw [FF]; exact Ob (Nat.le_trans (FI tab due) (by omega))
  have hin:=fun m n=>Nh (g:=CJ tab due ab) (r:=uns (tms tab due)) (seen:=[]) (m:=m) (n:=n);generalize hus:uns (tms tab due)=us at hrise be hnl b7 hin;generalize hfx:fmx (CJ tab due ab) [] us=fx at hin;refine ⟨fun σ H'=>∃ (vp:V) (v10 v12 v13:Option V),σ=[some (.ref a),some (.ref d),some (.ref p),some (.ref t),some (.ref u),some (.ref u2),some (.ref own),some (.ref nl),w8,w9,v10,some vp,v12,v13,v14]/\Same Ha H'/\((fx=none/\vp=.non)\/∃ m n q,fx=some (m,n)/\vp=.ref q/\H' q=some (.tup [.int ((m:Nat):Int),.int ((n:Nat):Int)])),fun R hR=>?_,?_⟩
  ·have hle:(us.map fun n:Nat=>(n:Int)).Pairwise (· <= ·):=by
    rw [List.pairwise_map];exact hrise.imp fun h=>by omega
   refine ⟨_,rfl,nl,us.map fun n:Nat=>(n:Int),rfl,SqL.of (by rw [← Cm]; exact b7),hle,by rw [length_map]; omega,fun ls hls=>?_⟩;rw [← Cm];have sl5:=AF (Same.refl _) hls (o:=HO.lst (AZ us));have bt:=AB (H:=H4) (a:=ls) (o:=HO.lst (AZ us));have cm:=sl5 _ _ ck;have s5:=s4.trans sl5;generalize upd H4 ls (HO.lst (AZ us))=H5 at sl5 bt cm s5 ⊢;have hlg:ls ≠ gd:=fun z=>by rw [z,cm] at bt; cases bt
   clear sl5 hls;generalize hg:CJ tab due ab=g at *
   refine ⟨ls,rfl,⟨_,SqL.of bt⟩,BD (K:=K) (a:=ls) (xs:=AZ us) (fun i σ H6=>∃ (vp:V) (v12 v13:Option V) (kvs:LK),σ=[some (.ref a),some (.ref d),some (.ref p),some (.ref t),some (.ref u),some (.ref u2),some (.ref own),some (.ref nl),w8,w9,some (.ref gd),some vp,v12,v13,v14]/\(∀ b u,H5 b=some u->b ≠ gd->H6 b=some u)/\H6 gd=some (.dK kvs)/\kvs.length <= i /\
     ((vp=.non/\kvs=kvG g ((us.take i).map fun n=>(n,V.int (n:Int)))/\fx=fmx g (us.take i) (us.drop i))\/∃ m n q,fx=some (m,n)/\vp=.ref q/\H6 q=some (.tup [.int ((m:Nat):Int),.int ((n:Nat):Int)])))
    ⟨.non,_,_,[],rfl,fun _ _ e _=>e,cm,Nat.le_refl _,.inl ⟨rfl,rfl,hfx.symm⟩⟩ (fun i σ H6 _ ⟨_,_,_,_,_,e,_⟩=>SqL.of (e _ _ bt hlg)) ?_ ?_⟩
   ·rintro i x σ H6 hi ⟨vp,w12,w13,kvs,rfl,e6,hgd6,hkl,hc⟩;unfold AZ at hi;rw [getElem?_map] at hi;obtain ⟨z,hz,rfl⟩:=Option.map_eq_some_iff.mp hi;have hH:=(be z (mem_of_getElem? hz)).1;have hi256:=(List.getElem?_eq_some_iff.mp hz).1;have s6:Same Ha H6:=fun b u e=>e6 b u (s5 _ _ e) (AG e hgA);refine ⟨_,rfl,_,rfl,_,rfl,_,rfl,t,u,u2,z,due,ab,tab,rfl,s6 _ _ ht,TN.same (fun b xs e=>s6 _ _ e),D1.same s6,D2.same s6,DO.len,DO.lt,DO2.len,DO2.nd,fun x' _ _ ⟨j,e1,_,e2⟩=>?_,fun _ H7 s7=>?_⟩
    ·have:=hH x' (mem_of_getElem? e1);rw [e2] at this;cases this
    rw [congrFun hg z];have bu:=s7 _ _ hgd6;have e7:∀ b u,H5 b=some u->b ≠ gd->H7 b=some u:=fun b u e hb=>s7 _ _ (e6 b u e hb);have hsf:=HB g z ((us.take i).map fun n:Nat=>(n,V.int (n:Int)));rw [map_map,show ((fun p:Nat × V=>p.1) ∘ fun n:Nat=>(n,V.int (n:Int)))=id from rfl,List.map_id] at hsf;have hdr:=Kh hz
    have hL:∀ p ∈ (us.take i).map (fun n:Nat=>(n,V.int (n:Int))),p.2=V.int (p.1:Int):=fun p hp=>by
     obtain ⟨n,_,rfl⟩:=mem_map.mp hp;rfl
    refine ⟨fun σ H8=>∃ vp':V,σ=[some (.ref a),some (.ref d),some (.ref p),some (.ref t),some (.ref u),some (.ref u2),some (.ref own),some (.ref nl),w8,w9,some (.ref gd),some vp',some (.int (z:Int)),some (.int ((g z:Nat):Int)),v14]/\(∀ b u,H5 b=some u->b ≠ gd->H8 b=some u)/\H8 gd=some (.dK kvs) /\
      ((vp'=.non/\kvs=kvG g ((us.take i).map fun n=>(n,V.int (n:Int)))/\fx=fmx g (us.take (i + 1)) (us.drop (i + 1))/\Ah kvs (Sum.inl ((g z:Nat):Int):Key)=none)\/∃ m n q,fx=some (m,n)/\vp'=.ref q/\H8 q=some (.tup [.int ((m:Nat):Int),.int ((n:Nat):Int)])),fun R hR=>?_,?_⟩
    ·refine ⟨_,rfl,_,rfl,gd,_,rfl,.inl ⟨_,Sum.inl _,.inl bu,rfl,rfl⟩,_,rfl,?_⟩;cases hv:Ah kvs (Sum.inl ((g z:Nat):Int):Key) with
     | none =>
      refine Aw (Aw (hR _ _ ⟨vp,rfl,e7,bu,?_⟩));rcases hc with ⟨c1,c2,c3⟩ | ⟨m,n,q,c1,c2,c3⟩
      ·refine .inl ⟨c1,c2,?_,hv⟩;rw [c2,DI] at hv;rw [show List.find? (fun p:Nat × V=>decide (g p.1=g z)) ((us.take i).map fun n:Nat=>(n,V.int (n:Int)))=none from Option.map_eq_none_iff.mp hv] at hsf;rw [c3,hdr,JM hsf,take_add_one,hz];rfl
      ·exact .inr ⟨m,n,q,c1,c2,s7 _ _ c3⟩
     | some v0 =>
      refine CA ⟨_,rfl,_,rfl,?_⟩;rcases hc with ⟨rfl,c2,c3⟩ | ⟨m,n,q,c1,rfl,c3⟩
      ·rw [decide_eq_true rfl];refine CA ⟨_,rfl,_,rfl,gd,v0,rfl,.inl ⟨_,Sum.inl _,.inl bu,rfl,hv.symm⟩,_,rfl,sl2,fun q hq=>?_⟩;rw [c2,DI] at hv;obtain ⟨e,he,hev⟩:=Option.map_eq_some_iff.mp hv;rw [he] at hsf;have h1:=hL e (mem_of_find?_eq_some he);rw [hev] at h1;rw [hdr,JN hsf] at c3;have sq:=AF (Same.refl _) hq (o:=HO.tup [v0,V.int (z:Int)]);refine hR _ _ ⟨.ref q,rfl,fun b u e hb=>sq _ _ (e7 b u e hb),sq _ _ bu,.inr ⟨e.1,z,q,c3,rfl,?_⟩⟩;rw [AB,h1]
      ·rw [decide_eq_false (show ¬ V.ref q=V.non from fun z=>nomatch z)];exact Aw (hR _ _ ⟨.ref q,rfl,e7,bu,.inr ⟨m,n,q,c1,rfl,s7 _ _ c3⟩⟩)
    rintro σ H8 ⟨vp',rfl,e8,b8,hc8⟩;refine ⟨_,rfl,_,rfl,gd,_,rfl,.inl ⟨_,Sum.inl _,.inl b8,rfl,rfl⟩,_,rfl,?_⟩;cases hv:Ah kvs (Sum.inl ((g z:Nat):Int):Key) with
    | some v0 =>
     refine Aw ⟨vp',_,_,kvs,rfl,e8,b8,by omega,?_⟩;rcases hc8 with ⟨_,_,_,c4⟩ | c
     ·rw [hv] at c4;cases c4
     ·exact .inr c
    | none =>
     refine CA ⟨_,rfl,_,rfl,_,rfl,gd,_,rfl,DPut.k (k:=Sum.inl ((g z:Nat):Int)) b8 (AU (by omega)),?_⟩;refine ⟨vp',_,_,_,rfl,fun b u e hb=>by rw [AH hb]; exact e8 b u e hb,AB,?_,?_⟩
     ·rw [Bn _ hv,length_append];show kvs.length + 1 <= _;omega
     ·rcases hc8 with ⟨c1,c2,c3,_⟩ | ⟨m,n,q,c1,c2,c3⟩
      ·refine .inl ⟨c1,?_,c3⟩;rw [Bn _ hv,c2,take_add_one,hz];unfold kvG;rw [map_append,map_append];rfl
      ·refine .inr ⟨m,n,q,c1,c2,?_⟩;rw [AH (fun z=>by rw [z,b8] at c3; cases c3)];exact c3
   ·rintro σ H6 ⟨vp,w12,w13,kvs,rfl,e6,_,_,hc⟩;refine hR _ _ ⟨vp,_,_,_,rfl,fun b u e=>e6 b u (s5 _ _ e) (AG e hgA),?_⟩;rcases hc with ⟨c1,_,c3⟩ | c
    ·rw [BE,take_length,drop_length] at c3;exact .inl ⟨c3,c1⟩
    ·exact .inr c
  rintro σ H6 ⟨vp,w10,w12,w13,rfl,s6,hc⟩;clear s4 ck b7 hgA;obtain ⟨dx,d0,ob,hp,ao⟩:=id ED;obtain ⟨dk,e1,e2,hk⟩:=KA.ins;refine ⟨_,rfl,p,dx,_,rfl,s6 _ _ hp,G5 _ _ _,p,k',o,due,ab,r,r2,tab,rfl,ED.same s6,TN.same (fun b xs e=>s6 _ _ e),b0,KA.same s6,asc,DO.nd,by omega,DO.lt,KB.same s6,DO2.lt,fun e H7 s7=>?_,fun m n e t' q1 q2 H7 s7 ht' V1 V2=>?_⟩
  ·rw [hus,hfx] at e;rcases hc with ⟨_,rfl⟩ | ⟨m,n,q,c1,_⟩
   ·refine ⟨_,rfl,_,rfl,?_⟩;rw [decide_eq_true rfl];refine CA ⟨_,rfl,_,rfl,?_⟩;rw [decide_eq_true rfl];exact Aw (fin _ _ _ _ _ _ _ _ _ _ _ _ _ _ _ (s6.trans s7))
   ·rw [e] at c1;cases c1
  ·rw [hus,hfx] at e;rcases hc with ⟨c1,_⟩ | ⟨m',n',qp,c1,rfl,hqp⟩
   ·rw [e] at c1;cases c1
   rw [e] at c1;cases c1;obtain ⟨i1,i2,hgmn⟩:=hin m n e;have im:m ∈ us:=i1.resolve_left (by intro z; cases z);obtain ⟨dv1,hv1⟩:=id V1;obtain ⟨dv2,hv2⟩:=id V2;have a7:=s6.trans s7;refine ⟨_,rfl,_,rfl,?_⟩;rw [decide_eq_false (show ¬ V.ref qp=V.non from fun z=>nomatch z)];refine Aw ⟨_,rfl,_,rfl,?_⟩;rw [decide_eq_false (show ¬ V.ref t'=V.non from fun z=>nomatch z)];refine Aw ?_;refine ⟨_,rfl,t',_,0,.ref q1,rfl,rfl,SqT.of ht',rfl,q1,dv1,_,rfl,hv1,E6 _ _ (by decide +kernel) (by decide +kernel),q1,k',m,rfl,V1,_,rfl,t',_,1,.ref q2,rfl,rfl,SqT.of ht',rfl,q2,dv2,_,rfl,hv2,E6 _ _ (by decide +kernel) (by decide +kernel),q2,k',n,rfl,V2,sl2,fun c hc=>?_⟩;have sc:=AF (Same.refl _) hc (o:=HO.tup [V.int (m:Int),V.int (n:Int)]);refine ⟨_,rfl,_,_,Ng AB,Ng (sc _ _ (s7 _ _ hqp)),HC,HC,_,rfl,?_⟩;rw [Pp];refine Aw ?_;have a8:=a7.trans sc;have ht8:=sc _ _ ht';have V18:=V1.same sc;have V28:=V2.same sc;generalize upd H7 c (HO.tup [V.int (m:Int),V.int (n:Int)])=H8 at a8 ht8 V18 V28 ⊢;refine ⟨_,rfl,t',_,rfl,.inr (SqT.of ht8),rfl,_,rfl,?_⟩;rw [decide_eq_true (show V.int (([V.ref q1,V.ref q2].length:Nat):Int)=V.int 2 from rfl)];refine Aw ?_;refine ⟨_,rfl,p,dx,_,rfl,a8 _ _ hp,G5 _ _ _,_,rfl,t',_,0,.ref q1,rfl,rfl,SqT.of ht8,rfl,p,q1,k',o,m,due,ab,r,r2,tab,rfl,ED.same a8,TN.same (fun b xs e=>a8 _ _ e),V18,KA.same a8,asc,by omega,KB.same a8,DO2.lt,(be m im).1,(be m im).2,fun w1 H9 s9 hw1=>?_⟩;have a9:=a8.trans s9;refine ⟨_,rfl,p,dx,_,rfl,a9 _ _ hp,G5 _ _ _,_,rfl,t',_,1,.ref q2,rfl,rfl,SqT.of (s9 _ _ ht8),rfl,p,q2,k',o,n,due,ab,r,r2,tab,rfl,ED.same a9,TN.same (fun b xs e=>a9 _ _ e),V28.same s9,KA.same a9,asc,by omega,KB.same a9,DO2.lt,(be n i2).1,(be n i2).2,fun w2 H10 s10 hw2=>?_⟩;have a10:=a9.trans s10;obtain ⟨dw1,hw1'⟩:=hw1.same s10;obtain ⟨dw2,hw2'⟩:=id hw2;refine ⟨w1,dw1,_,w2,dw2,_,rfl,rfl,hw1',hw2',w1,.ref w2,o,_,ab,r2,rfl,hw1.same s10,KB.same a10,aj,.inr ⟨w2,o,_,ab,r2,rfl,hw2,KB.same a10,aj,fun H11 s11=>⟨_,rfl,_,rfl,_,rfl,?_⟩⟩⟩;rw [decide_eq_true (show (ab=ab/\r2=r2)/\CJ tab due ab m=CJ tab due ab n from ⟨⟨rfl,rfl⟩,hgmn⟩)];refine Aw ?_;have s811:=(s9.trans s10).trans s11;have a11:=a10.trans s11;obtain ⟨dv3,hv3⟩:=V18.same s811;refine ⟨_,rfl,t',_,0,.ref q1,rfl,rfl,SqT.of (s811 _ _ ht8),rfl,q1,dv3,_,rfl,hv3,E6 _ _ (by decide +kernel) (by decide +kernel),q1,k',m,rfl,V18.same s811,_,rfl,p,dx,_,rfl,a11 _ _ hp,G5 _ _ _,p,k',o,_,rfl,ED.same a11,k',dk,_,k',dk,_,rfl,rfl,a11 _ _ hk,a11 _ _ hk,k',k',due,r,rfl,KA.same a11,asc,.inr ⟨due,r,KA.same a11,asc,fun H12 s12=>⟨_,rfl,_,rfl,_,rfl,?_⟩⟩⟩;rw [decide_eq_true (show due=due/\r=r from ⟨rfl,rfl⟩)];exact Aw (fin _ _ _ _ _ _ _ _ _ _ _ _ _ _ _ (a11.trans s12))
end
theorem J9 {h:Heap} {N:Addr} {n:Str} {v:Value} (X:K.In h) (G:h.Ns N mg) (e:W.nsIn K N n=some (some v)):mg n=some v:=by
 obtain ⟨o,es,ep,ho,hd,_,hf⟩:=G;unfold W.nsIn at e;split at e
 ·rename_i c d es' n' sl q;have:=X _ _ q;rw [ho] at this;cases this;cases hd;split at e
  ·rename_i he;cases e;rw [← hf];unfold nsFind findBy;rw [← Array.find?_toList,he];rfl
  ·split at e <;> cases e
 ·cases e
theorem Oc {kV doc pm ac ct:Value} {an:Option Addr} :
  Ja K (W.fnOf "__init__" "Kind.__init__" (defArgs BF) (defBody BF) (defScope BF) .none kV doc pm an ac ct) ["self", "rows", "rest"] ["rest"] gU3 gV3:=by
 refine ⟨fun s us ws _ hl=>?_,fun {vs us zs ws} r rz=>?_⟩
 ·unfold gU3 at hl ⊢;split at hl
  ·exact .of_eq (by kernel_rfl)
  ·cases hl
 ·cases r with
  | nil=>exact .nil
  | cons r1 rr =>
   cases rr with
   | nil=>exact .nil
   | cons r2 rr =>
    cases rr with
    | cons _ _=>exact .nil
    | nil =>
     cases rz with
     | nil=>exact .nil
     | cons z1 zz =>
      cases zz with
      | nil=>exact .cons r1 (.cons r2 (.cons z1 .nil))
      | cons _ _=>exact .nil
theorem Pr {kd:Addr} {v doc pm ac ct:Value} {an:Option Addr} (ok:W.nsOkIn K kd=true) (e:W.nsIn K kd "rest" = some (some v)) :
  Binds K (W.fnOf "__init__" "Kind.__init__" (defArgs BF) (defBody BF) (defScope BF) .none (.ref kd) doc pm an ac ct) ["self", "rows", "rest"] [v]:=by
 intro s us hK hl
 have hl2:us.length=2:=by
  rw [length_append] at hl;exact Nat.succ.inj hl
 match us,hl2 with
 | [u1,u2],_ =>
  have G:s.heap.Ns kd (s.heap.nsMap kd):=.of_isNs (W.isNs_of_in hK ok);have hm:s.heap.nsMap kd "rest" = some v:=J9 hK G e;intro M A E Q hq;unfold bindArgs;simp only [W.fnOf]
  repeat (first | (with_reducible refine wpAny_nsGet G ?_; rw [hm]) | wp_step)
  exact Eq.mp (congrArg (fun z=>Q z s) (by kernel_rfl)) hq
end Mk
end
section
namespace Mk
open PySem L2 MK PySem.W
abbrev fO (x q:Str) (s:Stmt):=fnOf x q (defArgs s) (defBody s) (defScope s)
theorem GJ {K:Frag} {C:Addr} {T:String} (h:isClsIn K C=true) (h2:typeIn K (.ref C)=some (.type "type")) (e:subIn K (.type T) (.ref C)=some false):kitOne K (.type T) (.ref C)=some false:=by
 unfold kitOne;rw [if_neg (by simp)];unfold kitCls;show (if _ then _ else _)=_;rw [if_pos (by unfold isClsIn at h; rw [h,h2]; simp)];exact e
section
variable {P:Program} {w:World} {K:Frag} {mg:SV} {base:Heap} {x q:Str} {st:Stmt} {k:Nat} {ps:List Str} {sp:Sp} {f C:Addr} {fd:FuncData} {p1 p2 p3 p4 p5:Str}
theorem fnT (F:Fun K x x st f fd) (ok:Af P w K mg base CX0 k f fd ps sp) (m:mg x=some (.ref f)) (b:Binds K fd ps []):Fn P w K mg base x k ps sp:=⟨⟨f,fd,ok,m,F.kp,b⟩⟩
theorem mtT (a:findIn K (.ref C) x=some (some (.ref f))) (i:isFn K (.ref f)=true) (F:Fun K x q st f fd) (ok:Af P w K mg base CX0 k f fd ps sp) (b:Binds K fd ps []):Mt P w K mg base C x k ps sp:=⟨⟨f,fd,ok,⟨a,i,F.kp⟩,b⟩⟩
abbrev fB (x q:Str) (st:Stmt) (kV doc pm:Value) (an:Option Addr) (ac ct:Value) (us:List Value):Sem (List (Str × Value)):=bindArgs (fO x q st .none kV doc pm an ac ct) ⟨us,[]⟩
theorem bi1 (F:Fun K x q st f fd) (h:∀ a b c d e g u1,fB x q st a b c d e g [u1]=pure [(p1,u1)]):Binds K fd [p1] []:=F.binds fun _ _ _ _ _ _ us hl=>match us,hl with | [_],_=>h ..
theorem bi2 (F:Fun K x q st f fd) (h:∀ a b c d e g u1 u2,fB x q st a b c d e g [u1,u2]=pure [(p1,u1),(p2,u2)]):Binds K fd [p1,p2] []:=F.binds fun _ _ _ _ _ _ us hl=>match us,hl with | [_,_],_=>h ..
theorem bi3 (F:Fun K x q st f fd) (h:∀ a b c d e g u1 u2 u3,fB x q st a b c d e g [u1,u2,u3]=pure [(p1,u1),(p2,u2),(p3,u3)]):Binds K fd [p1,p2,p3] []:=F.binds fun _ _ _ _ _ _ us hl=>match us,hl with | [_,_,_],_=>h ..
theorem bi4 (F:Fun K x q st f fd) (h:∀ a b c d e g u1 u2 u3 u4,fB x q st a b c d e g [u1,u2,u3,u4]=pure [(p1,u1),(p2,u2),(p3,u3),(p4,u4)]):Binds K fd [p1,p2,p3,p4] []:=F.binds fun _ _ _ _ _ _ us hl=>match us,hl with | [_,_,_,_],_=>h ..
end
def DG (K:Frag) (x:Str) (st:Stmt):Prop:=∃ f fd,nsIn K mainGlobals x=some (some (.ref f))/\Fun K x x st f fd
def DM (K:Frag) (C:Addr) (x q:Str) (st:Stmt):Prop:=∃ f fd,findIn K (.ref C) x=some (some (.ref f))/\isFn K (.ref f)=true/\(∃ o,K.lookup f=some o/\o.cls=.type "function")/\Fun K x q st f fd
structure CF (K:Frag) (C:Addr):Prop where
 pg:plainGet K C Str.empty=true
 hd:hasDictIn K C=true
 po:plainOver K C=true
 sa:findIn K (.ref C) "__setattr__" = some (some (.builtin "object.__setattr__"))
 mz:makesIn K C=true
 kc:keepIn K (.ref C)=true
 qa:findIn K (.ref C) "__class__" = some (some (.builtin "object.__class__"))
 qm:mroIn K C (.type "object")=some true
 ql:isClsIn K C=true
 qy:typeIn K (.ref C)=some (.type "type")
 qs:subIn K (.type "list") (.ref C)=some false
 qi:subIn K (.type "int") (.ref C)=some false
 qt:subIn K (.type "tuple") (.ref C)=some false
 ne:findIn K (.ref C) "__ne__" = some (some (.builtin "object.__ne__"))
theorem all_mk {l:OpenLaw} {w:World} {K:Frag} {h:Heap} {mg:SV} {fz C VC EC aR kd fin fla:Addr} (X:K.In h) (G:h.Ns mainGlobals mg) (hfa:mg "law" = some (.ref fz))
  {ocla kVla dcla pmla cdla ctla ocin dcin pmin cdin ctin ocK:Value} {odla anla odin anin odR odK:Option Addr} {slla slin slK slR:Array (Option Value)} {tG tM tL tLi tB t1 t2 t3 t4:Tok} {nRR epK:Nat} {esK:Array DictEntry}
  (aC:nsIn K mainGlobals "Kind" = some (some (.ref C)))
  (aVC:nsIn K mainGlobals "Value" = some (some (.ref VC)))
  (aEC:nsIn K mainGlobals "Edition" = some (some (.ref EC)))
  (hwh:DG K "is_whole" Fh)
  (hnm:DG K "is_name" HW)
  (huo:DG K "union_of" Fi)
  (hnx:DG K "next_mark" Ek)
  (hoo:DG K "is_one_of" Fj)
  (hno:DG K "is_names_of" DV)
  (hth:DG K "thing_number" Ci)
  (hro:DG K "row_number" DW)
  (hnb:DG K "numbered" El)
  (hfi:DG K "first_names" Cy)
  (him:DG K "is_mark" HX)
  (hmR:DM K C "rows" "Kind.rows" Em)
  (hmK:DM K C "known" "Kind.known" DY)
  (hmT:DM K C "rest" "Kind.rest" En)
  (hmM:DM K C "marks" "Kind.marks" DX)
  (hmE:DM K C "__eq__" "Kind.__eq__" HY)
  (hlc:DG K "_law_cell" Fq)
  (hld:DG K "_law_drawn" Ep)
  (hlr:DG K "_law_roll" Fs)
  (hls:DG K "_law_rounds" Dd)
  (hll:DG K "_law_lines" Bh)
  (hxn:DG K "is_number" Eo)
  (hxr:DG K "rest_of" HZ)
  (hxi:DM K VC "__init__" "Value.__init__" DZ)
  (hxN:DM K VC "number" "Value.number" Cj)
  (hxK:DM K VC "kind" "Value.kind" Db)
  (hxE:DM K VC "__eq__" "Value.__eq__" Fk)
  (hmN:DM K C "number" "Kind.number" Cz)
  (hmb:DG K "mark_bits" Ej)
  (huq:DG K "unions_of" Ei)
  (hlb:DG K "_law_bits_of" De)
  (hlu:DG K "_law_rule_of" Df)
  (hlt:DG K "_law_table_of" C2)
  (hxM:DM K VC "marks" "Value.marks" C0)
  (hxR:DM K VC "rest" "Value.rest" Dc)
  (hvo:DG K "value_of" Fl)
  (hmd:DG K "made" Mb)
  (heE:DG K "is_entry" Fo)
  (heT:DG K "table_of" Fp)
  (hek:DM K EC "kind" "Edition.kind" Cl)
  (heN:DM K EC "names_for" "Edition.names_for" Bg)
  (heL:DM K EC "led" "Edition.led" C1)
  (heF:DM K EC "first_mixed" "Edition.first_mixed" BS)
  (hlg:DG K "_law_goal" Ft)
  (heI:DM K EC "__init__" "Edition.__init__" Ck)
  (hle:DG K "_law_edition" C3)
  (ain:findIn K (.ref C) "__init__" = some (some (.ref fin)))
  (iin:isFn K (.ref fin)=true)
  (lin:K.lookup fin=some ⟨ocin,odin,.func (fO "__init__" "Kind.__init__" BF .none (.ref kd) dcin pmin anin cdin ctin),slin⟩)
  (cin:codeIn K cdin "Kind.__init__" = true)
  (kin:keepIn K (.ref fin)=true)
  (ala:nsIn K mainGlobals "law" = some (some (.ref fla)))
  (lla:K.lookup fla=some ⟨ocla,odla,.func (fO "law" "law" Mc .none kVla dcla pmla anla cdla ctla),slla⟩)
  (cla:codeIn K cdla "law" = true)
  (kla:keepIn K (.ref fla)=true)
  (kdl:K.lookup kd=some ⟨ocK,odK,.dict esK epK,slK⟩)
  (kde:(esK.all fun e=>match e.key with | .str _ _=>true | _=>false)=true)
  (kdr:nsIn K kd "rest" = some (some (.str "bar" tB)))
  (vG:nsIn K mainGlobals "GREATEST" = some (some (.int 1048575 tG)))
  (vM:nsIn K mainGlobals "MOST_ROWS" = some (some (.int 10 tM)))
  (vL:nsIn K mainGlobals "LONGEST_NAME" = some (some (.int 6 tL)))
  (vLi:nsIn K mainGlobals "LIMIT" = some (some (.int 1099511627776 tLi)))
  (vR:nsIn K mainGlobals "RULES" = some (some (.ref aR)))
  (qn:specialIn K (.builtin "object.__class__") "__get__" = some (some (.builtin "getset_descriptor.__get__")))
  (qt:takesIn K (.builtin "object.__class__")=some true)
  (fC:CF K C)
  (fVC:CF K VC)
  (fEC:CF K EC)
  (nC_numbers:findIn K (.ref C) "numbers" = some none)
  (nC_firsts:findIn K (.ref C) "firsts" = some none)
  (nC_rule:findIn K (.ref C) "rule" = some none)
  (nVC_own_kind:findIn K (.ref VC) "own_kind" = some none)
  (nVC_bits:findIn K (.ref VC) "bits" = some none)
  (nEC_own_kind:findIn K (.ref EC) "own_kind" = some none)
  (nEC_second_kind:findIn K (.ref EC) "second_kind" = some none)
  (nEC_table:findIn K (.ref EC) "table" = some none)
  (rL:K.lookup aR=some ⟨.type "tuple", odR,.seq #[.str "bar" t1,.str "drop" t2,.str "keep" t3,.str "leave" t4] nRR,slR⟩)
  (z_len:nsIn K mainGlobals "len" = some none)
  (z_isinstance:nsIn K mainGlobals "isinstance" = some none)
  (z_max:nsIn K mainGlobals "max" = some none)
  (z_min:nsIn K mainGlobals "min" = some none)
  (z_range:nsIn K mainGlobals "range" = some none)
  (z_list:nsIn K mainGlobals "list" = some none)
  (z_tuple:nsIn K mainGlobals "tuple" = some none)
  (z_sorted:nsIn K mainGlobals "sorted" = some none)
  (z_sum:nsIn K mainGlobals "sum" = some none)
  (z_all:nsIn K mainGlobals "all" = some none)
  (z_enumerate:nsIn K mainGlobals "enumerate" = some none)
  (z_int:nsIn K mainGlobals "int" = some none)
  (z_bool:nsIn K mainGlobals "bool" = some none)
  (z_str:nsIn K mainGlobals "str" = some none)
  (z_dict:nsIn K mainGlobals "dict" = some none)
  : ∃ fd:FuncData,(∀ (s:Shared) (v:Value),BindsTo s fd ⟨[v],[]⟩ [("_law_script", v)])/\∀ base:Heap,K.In base->base.Ns mainGlobals mg->Af l.prog w K mg base CX0 9 fz fd ["_law_script"] (Ki K):=by
 have MG:∀ {x:Str} {v:Value},nsIn K mainGlobals x=some (some v)->mg x=some v:=fun h=>mg_of X G h;have MN:∀ {x:Str},nsIn K mainGlobals x=some none->mg x=none:=fun h=>mg_none_of X G h;have T:Cp K C:=⟨⟨fC.pg,fC.hd,fC.po,fC.sa⟩,nC_numbers,nC_firsts,nC_rule⟩;have VT:Gb K VC:=⟨⟨fVC.pg,fVC.hd,fVC.po,fVC.sa⟩,nVC_own_kind,nVC_bits⟩;have ET:JH K EC:=⟨⟨fEC.pg,fEC.hd,fEC.po,fEC.sa⟩,nEC_own_kind,nEC_second_kind,nEC_table⟩;have KI:KIsi K C:=⟨⟨fC.pg,fC.hd,fC.po,fC.sa⟩,fC.qa,qn,qt,fC.qm,GJ fC.ql fC.qy fC.qs⟩;have VI:KIsi K VC:=⟨⟨fVC.pg,fVC.hd,fVC.po,fVC.sa⟩,fVC.qa,qn,qt,fVC.qm,GJ fVC.ql fVC.qy fVC.qs⟩;have mCg:=MG aC;have mVg:=MG aVC;have hLi:=MG vLi;have vI:=GJ fVC.ql fVC.qy fVC.qi;have qeC:=fC.ne;have qm:=fC.qm;have B:Bl mg:=⟨MN z_len,MN z_isinstance,MN z_max,MN z_min,MN z_range,MN z_list,MN z_tuple,MN z_sorted,MN z_sum,MN z_all,MN z_enumerate,MN z_int,MN z_bool,MN z_str⟩;have rT:∀ H:Hp,SqT K H aR (ruleNames.map V.str):=fun H=>.inr ⟨_,_,_,rL,rfl,rfl,sl4,.cons ⟨_,rfl⟩ (.cons ⟨_,rfl⟩ (.cons ⟨_,rfl⟩ (.cons ⟨_,rfl⟩ .nil)))⟩
 have kdo:nsOkIn K kd=true:=by
  unfold nsOkIn;rw [kdl];exact kde
 have hG:=MG vG;have hM:=MG vM;have hL:=MG vL;have hR:=MG vR;have Fin:=fun_mk (st:=BF) lin cin kin;have Fla:=fun_mk (st:=Mc) lla cla kla;have e:=hfa.symm.trans (MG ala);cases e;obtain ⟨fwh,dwh,awh,Fwh⟩:=hwh;have bwh:=bi1 (p1 := "thing") Fwh fun _ _ _ _ _ _ _=>rfl;obtain ⟨fnm,dnm,anm,Fnm⟩:=hnm;have bnm:=bi1 (p1 := "thing") Fnm fun _ _ _ _ _ _ _=>rfl;obtain ⟨fuo,duo,auo,Fuo⟩:=huo;have buo:=bi1 (p1 := "numbers") Fuo fun _ _ _ _ _ _ _=>rfl;obtain ⟨fnx,dnx,anx,Fnx⟩:=hnx;have bnx:=bi1 (p1 := "numbers") Fnx fun _ _ _ _ _ _ _=>rfl;obtain ⟨foo,doo,aoo,Foo⟩:=hoo;have boo:=bi2 (p1 := "thing") (p2 := "names") Foo fun _ _ _ _ _ _ _ _=>rfl;obtain ⟨fno,dno,ano,Fno⟩:=hno;have bno:=bi2 (p1 := "parts") (p2 := "ahead") Fno fun _ _ _ _ _ _ _ _=>rfl;obtain ⟨fth,dth,ath,Fth⟩:=hth;have bth:=bi2 (p1 := "thing") (p2 := "ahead") Fth fun _ _ _ _ _ _ _ _=>rfl;obtain ⟨fro,dro,aro,Fro⟩:=hro;have bro:=bi2 (p1 := "row") (p2 := "ahead") Fro fun _ _ _ _ _ _ _ _=>rfl;obtain ⟨fnb,dnb,anb,Fnb⟩:=hnb;have bnb:=bi1 (p1 := "rows") Fnb fun _ _ _ _ _ _ _=>rfl;obtain ⟨ffi,dfi,afi,Ffi⟩:=hfi;have bfi:=bi1 (p1 := "numbers") Ffi fun _ _ _ _ _ _ _=>rfl;obtain ⟨fim,dim,aim,Fim⟩:=him;have bim:=bi1 (p1 := "number") Fim fun _ _ _ _ _ _ _=>rfl;obtain ⟨fmR,dmR,amR,imR,omR,FmR⟩:=hmR;have bmR:=bi1 (p1 := "self") FmR fun _ _ _ _ _ _ _=>rfl;obtain ⟨fmK,dmK,amK,imK,omK,FmK⟩:=hmK;have bmK:=bi1 (p1 := "self") FmK fun _ _ _ _ _ _ _=>rfl;obtain ⟨fmT,dmT,amT,imT,omT,FmT⟩:=hmT;have bmT:=bi1 (p1 := "self") FmT fun _ _ _ _ _ _ _=>rfl;obtain ⟨fmM,dmM,amM,imM,omM,FmM⟩:=hmM;have bmM:=bi1 (p1 := "self") FmM fun _ _ _ _ _ _ _=>rfl;obtain ⟨fmE,dmE,amE,imE,omE,FmE⟩:=hmE;have bmE:=bi2 (p1 := "self") (p2 := "other") FmE fun _ _ _ _ _ _ _ _=>rfl;obtain ⟨flc,dlc,alc,Flc⟩:=hlc;have blc:=bi2 (p1 := "_law_script") (p2 := "_law_k") Flc fun _ _ _ _ _ _ _ _=>rfl;obtain ⟨fld,dld,ald,Fld⟩:=hld;have bld:=bi2 (p1 := "_law_cell_here") (p2 := "_law_k") Fld fun _ _ _ _ _ _ _ _=>rfl;obtain ⟨flr,dlr,alr,Flr⟩:=hlr;have blr:=bi2 (p1 := "_law_dice") (p2 := "_law_many") Flr fun _ _ _ _ _ _ _ _=>rfl;obtain ⟨fls,dls,als,Fls⟩:=hls;have bls:=bi2 (p1 := "_law_script") (p2 := "_law_most") Fls fun _ _ _ _ _ _ _ _=>rfl;obtain ⟨fll,dll,all,Fll⟩:=hll;have bll:=bi2 (p1 := "_law_dice") (p2 := "_law_most") Fll fun _ _ _ _ _ _ _ _=>rfl;obtain ⟨fxn,dxn,axn,Fxn⟩:=hxn;have bxn:=bi1 (p1 := "thing") Fxn fun _ _ _ _ _ _ _=>rfl;obtain ⟨fxr,dxr,axr,Fxr⟩:=hxr;have bxr:=bi2 (p1 := "kind") (p2 := "number") Fxr fun _ _ _ _ _ _ _ _=>rfl;obtain ⟨fxi,dxi,axi,ixi,oxi,Fxi⟩:=hxi;have bxi:=bi3 (p1 := "self") (p2 := "kind") (p3 := "number") Fxi fun _ _ _ _ _ _ _ _ _=>rfl;obtain ⟨fxN,dxN,axN,ixN,oxN,FxN⟩:=hxN;have bxN:=bi1 (p1 := "self") FxN fun _ _ _ _ _ _ _=>rfl;obtain ⟨fxK,dxK,axK,ixK,oxK,FxK⟩:=hxK;have bxK:=bi1 (p1 := "self") FxK fun _ _ _ _ _ _ _=>rfl;obtain ⟨fxE,dxE,axE,ixE,oxE,FxE⟩:=hxE;have bxE:=bi2 (p1 := "self") (p2 := "other") FxE fun _ _ _ _ _ _ _ _=>rfl;obtain ⟨fmN,dmN,amN,imN,omN,FmN⟩:=hmN;have bmN:=bi2 (p1 := "self") (p2 := "name") FmN fun _ _ _ _ _ _ _ _=>rfl;obtain ⟨fmb,dmb,amb,Fmb⟩:=hmb;have bmb:=bi1 (p1 := "kind") Fmb fun _ _ _ _ _ _ _=>rfl;obtain ⟨fuq,duq,auq,Fuq⟩:=huq;have buq:=bi1 (p1 := "marks") Fuq fun _ _ _ _ _ _ _=>rfl;obtain ⟨flb,dlb,alb,Flb⟩:=hlb;have blb:=bi1 (p1 := "_law_number") Flb fun _ _ _ _ _ _ _=>rfl;obtain ⟨flu,dlu,alu,Flu⟩:=hlu;have blu:=bi1 (p1 := "_law_dice") Flu fun _ _ _ _ _ _ _=>rfl;obtain ⟨flt,dlt,alt,Flt⟩:=hlt;have blt:=bi1 (p1 := "_law_due") Flt fun _ _ _ _ _ _ _=>rfl;obtain ⟨fxM,dxM,axM,ixM,oxM,FxM⟩:=hxM;have bxM:=bi1 (p1 := "self") FxM fun _ _ _ _ _ _ _=>rfl;obtain ⟨fxR,dxR,axR,ixR,oxR,FxR⟩:=hxR;have bxR:=bi1 (p1 := "self") FxR fun _ _ _ _ _ _ _=>rfl;obtain ⟨fvo,dvo,avo,Fvo⟩:=hvo;have bvo:=bi2 (p1 := "kind") (p2 := "names") Fvo fun _ _ _ _ _ _ _ _=>rfl;obtain ⟨fmd,dmd,amd,Fmd⟩:=hmd;have bmd:=bi2 (p1 := "kind") (p2 := "number") Fmd fun _ _ _ _ _ _ _ _=>rfl;obtain ⟨feE,deE,aeE,FeE⟩:=heE;have beE:=bi3 (p1 := "thing") (p2 := "marks") (p3 := "names") FeE fun _ _ _ _ _ _ _ _ _=>rfl;obtain ⟨feT,deT,aeT,FeT⟩:=heT;have beT:=bi3 (p1 := "kind") (p2 := "other") (p3 := "pairs") FeT fun _ _ _ _ _ _ _ _ _=>rfl;obtain ⟨fek,dek,aek,iek,oek,Fek⟩:=hek;have bek:=bi1 (p1 := "self") Fek fun _ _ _ _ _ _ _=>rfl;obtain ⟨feN,deN,aeN,ieN,oeN,FeN⟩:=heN;have beN:=bi2 (p1 := "self") (p2 := "value") FeN fun _ _ _ _ _ _ _ _=>rfl;obtain ⟨feL,deL,aeL,ieL,oeL,FeL⟩:=heL;have beL:=bi2 (p1 := "self") (p2 := "value") FeL fun _ _ _ _ _ _ _ _=>rfl;obtain ⟨feF,deF,aeF,ieF,oeF,FeF⟩:=heF;have beF:=bi1 (p1 := "self") FeF fun _ _ _ _ _ _ _=>rfl;obtain ⟨flg,dlg,alg,Flg⟩:=hlg;have blg:=bi4 (p1 := "_law_table") (p2 := "_law_due") (p3 := "_law_next_due") (p4 := "_law_number") Flg fun _ _ _ _ _ _ _ _ _ _=>rfl;obtain ⟨feI,deI,aeI,ieI,oeI,FeI⟩:=heI;have beI:=bi4 (p1 := "self") (p2 := "kind") (p3 := "other") (p4 := "pairs") FeI fun _ _ _ _ _ _ _ _ _ _=>rfl;obtain ⟨fle,dle,ale,Fle⟩:=hle;have ble:=bi2 (p1 := "_law_dice") (p2 := "_law_high") Fle fun _ _ _ _ _ _ _ _=>rfl;refine ⟨fO "law" "law" Mc .none kVla dcla pmla anla cdla ctla,fun s v=>.of_eq rfl,fun base _ _=>?_⟩;have FT:=@fnT l.prog w K mg base;have MT:=@mtT l.prog w K mg base;have Gwh:=FT (sp:=CU) Fwh (Ju Fwh B) (MG awh) bwh;have Gnm:=FT (sp:=Fv) Fnm (LG Fnm B hL) (MG anm) bnm;have Guo:=FT (sp:=(Bu K)) Fuo (Jp Fuo) (MG auo) buo;have Gnx:=FT (sp:=(Dh K)) Fnx (Ii Fnx B) (MG anx) bnx;have Goo:=FT (sp:=(Bv K)) Foo (Jt Foo B) (MG aoo) boo;have Gno:=FT (sp:=C5) Fno (Hm Fno B Goo) (MG ano) bno;have Gth:=FT (sp:=Hn) Fth (Mj Fth B Gnx Gno Guo Gwh) (MG ath) bth;have Gro:=FT (sp:=Mn) Fro (PN Fro B hG Gnm Gth) (MG aro) bro;have Gnb:=FT (sp:=Di) Fnb (Il Fnb B hM Gro) (MG anb) bnb;have Gfi:=FT (sp:=Fz) Ffi (LP Ffi) (MG afi) bfi;have Gim:=FT (sp:=Fu) Fim (LF Fim) (MG aim) bim;have GmR:=MT (sp:=(Ho C)) amR imR FmR (OD FmR B T) bmR;have GmK:=MT (sp:=(Hq C)) amK imK FmK (Mr FmK B T Guo) bmK;have GmT:=MT (sp:=(Ht C)) amT imT FmT (OM FmT T) bmT;have GmM:=MT (sp:=(EF C)) amM imM FmM (Ms FmM B T Gim) bmM;have GmE:=MT (sp:=(Ix C)) amE imE FmE (Pc FmE B T KI mCg GmR) bmE;have Glc:=FT (sp:=(Jv K)) Flc (OG Flc B) (MG alc) blc;have Gld:=FT (sp:=Hr) Fld (Mv Fld) (MG ald) bld;have Glr:=FT (sp:=F3) Flr (OH Flr Gld) (MG alr) blr;have Gls:=FT (sp:=(F5 K)) Fls (LR Fls B Glc) (MG als) bls;have Gll:=FT (sp:=Hs) Fll (M9 Fll B Glr) (MG all) bll;have Gxn:=FT (sp:=Dk) Fxn (Iy Fxn hLi Gwh) (MG axn) bxn;have Gxr:=FT (sp:=(EU C)) Fxr (La Fxr T GmK) (MG axr) bxr;have Gxi:=MT (sp:=(FC C VC)) axi ixi Fxi (Iz Fxi T VT Gxn Gxr GmT) bxi;have GxN:=MT (sp:=(CV VC)) axN ixN FxN (J0 FxN VT) bxN;have GxK:=MT (sp:=(FD VC)) axK ixK FxK (NG FxK VT) bxK;have GxE:=MT (sp:=(NH C VC)) axE ixE FxE (Pf FxE B T VT VI vI mVg GmE) bxE;obtain ⟨fE0,dE0,gE0,mE0,bE0⟩:=GxE.ex;have VO:JA l.prog w K mg base C VC:=⟨VT,mVg,⟨_,_,⟨fVC.mz,axi,ixi,fVC.kc⟩,Iz Fxi T VT Gxn Gxr GmT,bxi⟩,⟨_,_,gE0,mE0,bE0⟩,VI,fVC.ne,fVC.qi⟩;have GmN:=MT (sp:=(EM C)) amN imN FmN (LY FmN T Goo) bmN;have Gmb:=FT (sp:=(Dl C)) Fmb (JB Fmb T GmM Guo) (MG amb) bmb;have Guq:=FT (sp:=(Nf K)) Fuq (Pn Fuq) (MG auq) buq;have Glb:=FT (sp:=F6) Flb (LS Flb B) (MG alb) blb;have Glu:=FT (sp:=F4) Flu (LQ Flu Glr) (MG alu) blu;have Glt:=FT (sp:=EN) Flt (NE Flt B Glb) (MG alt) blt;have GxM:=MT (sp:=(F8 C VC)) axM ixM FxM (Lc FxM T VT GmM) bxM;have GxR:=MT (sp:=(Hv C VC)) axR ixR FxR (NJ FxR VT Gmb) bxR;have Gvo:=FT (sp:=(NK C VC)) Fvo (J2 Fvo B T VO Guo GmN) (MG avo) bvo;have Gmd:=FT (sp:=(J6 C VC)) Fmd (OU Fmd hLi T VO Gwh Gxr GmT) (MG amd) bmd;have GeE:=FT (sp:=NO) FeE (Ph FeE B Goo) (MG aeE) beE;have GeT:=FT (sp:=(NR C)) FeT (Pi FeT B (MN z_dict) T GmM GmR GeE) (MG aeT) beT;have Gek:=MT (sp:=(Hy EC)) aek iek Fek (NT Fek ET) bek;have GeN:=MT (sp:=(Pj C VC EC)) aeN ieN FeN (QV FeN ET VT GxM) beN;have GeL:=MT (sp:=(Ke C VC EC)) aeL ieL FeL (Pk FeL ET VT qeC qm GmE GxK GxN GxR GeN Gvo Gmd) beL;have GeF:=MT (sp:=(Po C VC EC)) aeF ieF FeF (Qc FeF T ET VO GxN GmN GeL Guq) beF;have Glg:=FT (sp:=J8) Flg (Oa Flg Glt) (MG alg) blg;have KO:NX l.prog w K mg base C:=⟨T,mCg,⟨_,_,⟨fC.mz,ain,iin,fC.kc⟩,OC Fin B T hR rT Gnb Gfi Goo,⟨_,Oc⟩,_,Pr kdo kdr,.cons ⟨_,rfl⟩ .nil⟩⟩;have EO:QZ l.prog w K mg base C EC:=⟨ET,MG aEC,⟨_,_,⟨fEC.mz,aeI,ieI,fEC.kc⟩,NS FeI ET GeT,beI⟩⟩;have GEd:=FT (sp:=NY C EC) Fle (Pl Fle B KO EO Glr Glu Gll Glt) (MG ale) ble;exact Pq Fla B VO ET qeC qm Gls GEd Glt Glg GxN GxK GmE Gek GeL GeF
theorem walk {l:OpenLaw} {q:Program} {loose:List Str} {XP:(Str->Option Value)->Heap->Prop} {YP:World->Heap->Prop} {d:DefRec} {K:Params->Frag} (hn:l.most=some 63) (hdf:d.params.defaults=[])
  (hY:∀ (w:World) (h:Heap),YP w h->(K w.params).In h)
  (F:∀ (w:World) (mg:SV) (fa:Addr) (h:Heap),(K w.params).In h->h.Ns mainGlobals mg->mg d.name=some (.ref fa) ->
   ∃ fd:FuncData,(∀ (s:Shared) (u:Value),BindsTo s fd ⟨[u],[]⟩ [("_law_script", u)])/\∀ base:Heap,(K w.params).In base->base.Ns mainGlobals mg->Af l.prog w (K w.params) mg base CX0 9 fa fd ["_law_script"] (Ki (K w.params))) :
  WalkO q loose XP YP l.row.toRowW d [] (fun f vs=>PySem.call f vs) :=
 L2.N0 (n:=63) (k:=9) (x := "_law_script") (CX:=fun _=>CX0) (sp:=fun w=>Ki (K w.params)) hn (by decide) hdf ⟨rfl,by decide,by decide⟩ hY F (fun _ _ a ns hl _ hS=>⟨a,ns,rfl,hS,hl,fun _=>rfl⟩) fun _ _ _ _ _ z=>z
end Mk
end
section
namespace Hd
open PySem PySem.W PySem.Calls PyProof.Rows
def runT (tb : String -> Option Builtin) (p : Program) (w : World) (n₀ : Nat) (ann : Option Value) : Nat -> SharedT -> Thread -> Option SharedT
  | 0,_,_=>none
  | n + 1,s,t=>match through t with
    | true=>some s
    | false=>match stepOk n₀ ann t with
      | false=>none
      | true=>match stepT (denote tb) p w s t with
        | some (s',t')=>runT tb p w n₀ ann n s' t'
        | none=>none
theorem runT_of {tb : String -> Option Builtin} {p : Program} {w : World} {n₀ : Nat} {ann : Option Value} : ∀ {n : Nat} {s s' : SharedT} {t : Thread},runT tb p w n₀ ann n s t = some s' -> topRun tb p w n₀ ann n s.abs t = some s'.abs
  | 0,_,_,_,h=>by cases h
  | n + 1,s,s',t,h=>by
    unfold runT at h
    unfold topRun
    cases ht : through t with
    | true=>rw [ht] at h; cases h; rfl
    | false =>
      rw [ht] at h
      cases hk : stepOk n₀ ann t with
      | false=>rw [hk] at h; cases h
      | true =>
        rw [hk] at h
        cases hs : stepT (denote tb) p w s t with
        | none=>rw [hs] at h; cases h
        | some r=>obtain ⟨s₂,t₂⟩:=r; rw [hs] at h; rw [stepT_spec hs]; exact runT_of h
def looksAt (p q : Program) (loose : List Str) (Xt : Shared -> Bool) (as : List Addr) (h₀ : Heap) (s : Shared) :=
  (staticsOk (importedModules p.main.body) h₀ s.heap && namesBound p s.heap && gensDone s && laidKept h₀ s.heap,openSeen q loose (importedModules p.main.body) Xt true s,as.map s.heap.get?)
theorem left_of {p q : Program} {loose : List Str} {Xt : Shared -> Bool} {as : List Addr} {K : Params -> Frag} {N M m₀ : Nat} {ann : Option Value} {T0 : Params -> BT} {life : Life}
    (open_ : ∀ w : World,(fencedOpening treeTable p w N).map (fun s=>(s.heap,s.gens,s.drawn,s.toks)) = some (boot_heap w.params,#[],boot_drawn,boot_toks))
    (tree : ∀ P : Params,absHeap (T0 P) m₀ life = boot_heap P)
    (size : ∀ w : World,((boot_heap w.params).isNs mainGlobals,(boot_heap w.params).objs.size,(boot_heap w.params).nsMap mainGlobals "__annotations__") = (true,m₀,ann))
    (le : Nat.ble M N = true)
    (run : ∀ (w : World) (os : OsState),(runT treeTable p w m₀ ann M ⟨T0 w.params,m₀,life,#[],boot_drawn,boot_toks,os⟩ (topStub p)).map (fun s=>looksAt p q loose Xt as (boot_heap w.params) s.abs) = some (true,openGood q loose,(K w.params).map fun x=>some x.2)) :
    LeftO p q loose Xt (fun s=>as.map s.heap.get?) (fun w=>(K w.params).map fun x=>some x.2) N:=fun w=>by
  obtain ⟨⟨h,gs,d,k,os⟩,e,e'⟩:=Option.map_eq_some_iff.mp (open_ w)
  obtain ⟨rfl,rfl,rfl,rfl⟩ : h = boot_heap w.params /\ gs = #[] /\ d = boot_drawn /\ k = boot_toks:=by simpa using e'
  obtain ⟨z1,z2,z3⟩ : _ /\ _ /\ _:=by simpa only [Prod.mk.injEq] using size w
  obtain ⟨sT,r1,r2⟩:=Option.map_eq_some_iff.mp (run w os)
  have r3:=runT_of r1
  have r4 : topRun treeTable p w m₀ ann M ⟨boot_heap w.params,#[],boot_drawn,boot_toks,os⟩ (topStub p) = some sT.abs:=by
    rw [← tree w.params]
    exact r3
  have r:=topRun_mono (N - M) _ _ _ _ r4
  rw [show M + (N - M) = N by have:=Nat.le_of_ble_eq_true le; omega] at r
  unfold looksAt at r2
  obtain ⟨l1,l2,l3⟩ : _ /\ _ /\ _:=by simpa only [Prod.mk.injEq] using r2
  have t : topFrom treeTable p w N ⟨boot_heap w.params,#[],boot_drawn,boot_toks,os⟩ = some sT.abs:=by
    unfold topFrom
    dsimp only
    rw [z1,z2,z3,r]
    show (match staticsOk (importedModules p.main.body) (boot_heap w.params) sT.abs.heap && namesBound p sT.abs.heap && gensDone sT.abs && laidKept (boot_heap w.params) sT.abs.heap with | true=>_ | false=>_) = _
    rw [l1]
  unfold openEnds
  rw [e]
  show (topFrom treeTable p w N _).map _ = _
  rw [t]
  exact congrArg some (Prod.ext l2 l3)
end Hd
end
noncomputable section
open PySem PySem.W PySem.Calls PyProof.Rows
abbrev Mk.fS (x q : Str) (s : Stmt) (dV kV doc pm : Value) (an : Option Addr) (cd ct : Value) : FuncData:=fnOf x q (L2.defArgs s) (L2.defBody s) (L2.defScope s) dV kV doc pm an cd ct
abbrev Mk.cO (x : Str) (a : Nat) (q : Str) (b c : Nat) (d e f g h : Int) (i j l m n : Nat) (o p : Int) (r : Nat) : Obj:=⟨.type "code", none,.fields #[.str x a,.str q b,.str "/claim/cut.py" c,.int d 0,.int e 0,.int f 0,.int g 0,.int h 0,.ref i,.bool true,.int 181 0,.ref j,.none,.ref l,.ref m,.ref n,.int o 0,.int p 0,.str "/claim/cut.py" r],#[]⟩
abbrev Mk.dE (P : PySem.Params) (x : Str) (t : Nat) (v : Value) : DictEntry:=⟨PyData.keyHash P x,.str x t,v⟩
abbrev Mk.fN (x q : Str) (s : Stmt) (m : Str) (t c : Nat) : Obj:=⟨.type "function", none,.func (Mk.fS x q s .none .none .none (.str m t) none (.ref c) .none),#[]⟩
abbrev Mk.eC (x : Str) (a b c d e f : Nat) : Obj:=⟨.type "type", none,.cls ⟨x,[.ref a],[.ref b,.ref a,.type "ValueError", .type "Exception", .type "BaseException", .type "object"],c,x,true,[],[],false,none,false⟩,#[some (.ref d),none,some (.str x e),some (.str x f),some (.builtin "ValueError.__new__"),some (.bool true)]⟩
noncomputable def Mk.Kf (P : PySem.Params) : PySem.W.Frag :=
 (nat_lit 2,⟨.none,none,(.dict #[] 0),#[]⟩) ::
 (nat_lit 3,⟨(.type "dict"),none,(.dict #[Mk.dE P "__name__" 165 (.str "law_markworks_k52_whole_first_mixed" 843),Mk.dE P "__doc__" 166 .none,Mk.dE P "__package__" 167 .none,Mk.dE P "__loader__" 168 (.builtin "__main__.__loader__#opaque"),Mk.dE P "__spec__" 169 .none,Mk.dE P "__annotations__" 170 (.ref 6),Mk.dE P "__builtins__" 171 (.ref 4),Mk.dE P "__file__" 173 (.str "/claim/cut.py" 172),Mk.dE P "__cached__" 174 .none,Mk.dE P "_wall" 193 (.ref 21),Mk.dE P "MarkError" 222 (.ref 39),Mk.dE P "BadRows" 247 (.ref 59),Mk.dE P "BadRule" 263 (.ref 71),Mk.dE P "BadName" 279 (.ref 83),Mk.dE P "BadNumber" 295 (.ref 95),Mk.dE P "BadRest" 320 (.ref 114),Mk.dE P "Unlike" 336 (.ref 126),Mk.dE P "BadPairs" 352 (.ref 138),Mk.dE P "Never" 368 (.ref 150),Mk.dE P "Unled" 393 (.ref 169),Mk.dE P "GREATEST" 401 (.int 1048575 400),Mk.dE P "MOST_ROWS" 403 (.int 10 402),Mk.dE P "LONGEST_NAME" 405 (.int 6 404),Mk.dE P "RULES" 410 (.ref 172),Mk.dE P "is_whole" 417 (.ref 179),Mk.dE P "is_name" 423 (.ref 184),Mk.dE P "is_mark" 430 (.ref 191),Mk.dE P "union_of" 439 (.ref 198),Mk.dE P "unions_of" 445 (.ref 203),Mk.dE P "is_one_of" 453 (.ref 210),Mk.dE P "mark_bits" 459 (.ref 215),Mk.dE P "next_mark" 466 (.ref 222),Mk.dE P "is_names_of" 472 (.ref 227),Mk.dE P "thing_number" 478 (.ref 232),Mk.dE P "row_number" 489 (.ref 239),Mk.dE P "numbered" 500 (.ref 246),Mk.dE P "first_names" 510 (.ref 253),Mk.dE P "Kind" 608 (.ref 330),Mk.dE P "LIMIT" 614 (.int 1099511627776 613),Mk.dE P "is_number" 621 (.ref 341),Mk.dE P "rest_of" 629 (.ref 348),Mk.dE P "Value" 703 (.ref 405),Mk.dE P "made" 713 (.ref 416),Mk.dE P "value_of" 719 (.ref 421),Mk.dE P "is_entry" 727 (.ref 426),Mk.dE P "table_of" 733 (.ref 431),Mk.dE P "Edition" 842 (.ref 509),Mk.dE P "_law_cell" 852 (.ref 520),Mk.dE P "_law_drawn" 861 (.ref 527),Mk.dE P "_law_roll" 870 (.ref 534),Mk.dE P "_law_rounds" 876 (.ref 539),Mk.dE P "_law_bits_of" 882 (.ref 544),Mk.dE P "_law_rule_of" 889 (.ref 551),Mk.dE P "_law_lines" 895 (.ref 556),Mk.dE P "_law_table_of" 901 (.ref 561),Mk.dE P "_law_edition" 907 (.ref 566),Mk.dE P "_law_goal" 924 (.ref 573),Mk.dE P "law" 930 (.ref 578)] 58),#[]⟩) ::
 (nat_lit 39,⟨(.type "type"),none,(.cls ⟨"MarkError", [(.type "ValueError")],[(.ref 39),(.type "ValueError"),(.type "Exception"),(.type "BaseException"),(.type "object")],38, "MarkError", true,[],[(.ref 59),(.ref 71),(.ref 83),(.ref 95),(.ref 114),(.ref 126),(.ref 138),(.ref 150),(.ref 169)],false,none,false⟩),#[(some (.ref 22)),none,(some (.str "MarkError" 196)),(some (.str "MarkError" 204)),(some (.builtin "ValueError.__new__")),(some (.bool true))]⟩) ::
 (nat_lit 59,Mk.eC "BadRows" 39 59 58 43 223 231) ::
 (nat_lit 71,Mk.eC "BadRule" 39 71 70 62 248 256) ::
 (nat_lit 83,Mk.eC "BadName" 39 83 82 74 264 272) ::
 (nat_lit 95,Mk.eC "BadNumber" 39 95 94 86 280 288) ::
 (nat_lit 114,Mk.eC "BadRest" 39 114 113 98 296 304) ::
 (nat_lit 126,Mk.eC "Unlike" 39 126 125 117 321 329) ::
 (nat_lit 138,Mk.eC "BadPairs" 39 138 137 129 337 345) ::
 (nat_lit 150,Mk.eC "Never" 39 150 149 141 353 361) ::
 (nat_lit 169,Mk.eC "Unled" 39 169 168 153 369 377) ::
 (nat_lit 172,⟨(.type "tuple"),none,(.seq #[(.str "bar" 406),(.str "drop" 407),(.str "keep" 408),(.str "leave" 409)] 0),#[]⟩) ::
 (nat_lit 178,Mk.cO "is_whole" 411 "is_whole" 412 413 41 1 0 0 3 173 174 175 176 177 415 41 416) ::
 (nat_lit 179,Mk.fN "is_whole" "is_whole" (Mk.top 17) "markworks.kinds" 394 178) ::
 (nat_lit 183,⟨(.type "code"),none,(.fields #[(.str "is_name" 418),(.str "is_name" 419),(.str "/claim/cut.py" 420),(.int 43 0),(.int 1 0),(.int 0 0),(.int 0 0),(.int 3 0),(.ref 180),(.bool true),(.int 181 0),(.ref 181),.none,.none,.none,(.ref 182),(.int 421 0),(.int 43 0),(.str "/claim/cut.py" 422)]),#[]⟩) ::
 (nat_lit 184,Mk.fN "is_name" "is_name" (Mk.top 18) "markworks.kinds" 394 183) ::
 (nat_lit 190,Mk.cO "is_mark" 424 "is_mark" 425 426 47 1 0 0 3 185 186 187 188 189 428 47 429) ::
 (nat_lit 191,Mk.fN "is_mark" "is_mark" (Mk.top 19) "markworks.kinds" 394 190) ::
 (nat_lit 197,Mk.cO "union_of" 431 "union_of" 432 433 49 1 0 0 3 192 193 194 195 196 437 49 438) ::
 (nat_lit 198,Mk.fN "union_of" "union_of" (Mk.top 20) "markworks.kinds" 394 197) ::
 (nat_lit 202,⟨(.type "code"),none,(.fields #[(.str "unions_of" 440),(.str "unions_of" 441),(.str "/claim/cut.py" 442),(.int 54 0),(.int 1 0),(.int 0 0),(.int 0 0),(.int 3 0),(.ref 199),(.bool true),(.int 181 0),(.ref 200),.none,.none,.none,(.ref 201),(.int 443 0),(.int 54 0),(.str "/claim/cut.py" 444)]),#[]⟩) ::
 (nat_lit 203,Mk.fN "unions_of" "unions_of" (Mk.top 21) "markworks.kinds" 394 202) ::
 (nat_lit 209,Mk.cO "is_one_of" 446 "is_one_of" 447 448 59 2 0 0 3 204 205 206 207 208 451 59 452) ::
 (nat_lit 210,Mk.fN "is_one_of" "is_one_of" (Mk.top 22) "markworks.kinds" 394 209) ::
 (nat_lit 214,⟨(.type "code"),none,(.fields #[(.str "mark_bits" 454),(.str "mark_bits" 455),(.str "/claim/cut.py" 456),(.int 61 0),(.int 1 0),(.int 0 0),(.int 0 0),(.int 3 0),(.ref 211),(.bool true),(.int 181 0),(.ref 212),.none,.none,.none,(.ref 213),(.int 457 0),(.int 61 0),(.str "/claim/cut.py" 458)]),#[]⟩) ::
 (nat_lit 215,Mk.fN "mark_bits" "mark_bits" (Mk.top 23) "markworks.kinds" 394 214) ::
 (nat_lit 221,Mk.cO "next_mark" 460 "next_mark" 461 462 63 1 0 0 3 216 217 218 219 220 464 63 465) ::
 (nat_lit 222,Mk.fN "next_mark" "next_mark" (Mk.top 24) "markworks.kinds" 394 221) ::
 (nat_lit 226,⟨(.type "code"),none,(.fields #[(.str "is_names_of" 467),(.str "is_names_of" 468),(.str "/claim/cut.py" 469),(.int 65 0),(.int 2 0),(.int 0 0),(.int 0 0),(.int 3 0),(.ref 223),(.bool true),(.int 181 0),(.ref 224),.none,.none,.none,(.ref 225),(.int 470 0),(.int 65 0),(.str "/claim/cut.py" 471)]),#[]⟩) ::
 (nat_lit 227,Mk.fN "is_names_of" "is_names_of" (Mk.top 25) "markworks.kinds" 394 226) ::
 (nat_lit 231,⟨(.type "code"),none,(.fields #[(.str "thing_number" 473),(.str "thing_number" 474),(.str "/claim/cut.py" 475),(.int 67 0),(.int 2 0),(.int 0 0),(.int 0 0),(.int 3 0),(.ref 228),(.bool true),(.int 181 0),(.ref 229),.none,.none,.none,(.ref 230),(.int 476 0),(.int 67 0),(.str "/claim/cut.py" 477)]),#[]⟩) ::
 (nat_lit 232,Mk.fN "thing_number" "thing_number" (Mk.top 26) "markworks.kinds" 394 231) ::
 (nat_lit 238,Mk.cO "row_number" 479 "row_number" 480 481 75 2 0 0 3 233 234 235 236 237 487 75 488) ::
 (nat_lit 239,Mk.fN "row_number" "row_number" (Mk.top 27) "markworks.kinds" 394 238) ::
 (nat_lit 245,Mk.cO "numbered" 490 "numbered" 491 492 85 1 0 0 3 240 241 242 243 244 498 85 499) ::
 (nat_lit 246,Mk.fN "numbered" "numbered" (Mk.top 28) "markworks.kinds" 394 245) ::
 (nat_lit 252,Mk.cO "first_names" 501 "first_names" 502 503 95 1 0 0 3 247 248 249 250 251 508 95 509) ::
 (nat_lit 253,Mk.fN "first_names" "first_names" (Mk.top 29) "markworks.kinds" 394 252) ::
 (nat_lit 261,⟨(.type "dict"),none,(.dict #[Mk.dE P "rest" 524 (.str "bar" 523)] 1),#[]⟩) ::
 (nat_lit 267,Mk.cO "__init__" 525 "Kind.__init__" 526 527 102 2 0 1 3 262 263 264 265 266 531 102 532) ::
 (nat_lit 268,⟨(.type "function"),none,(.func (Mk.fS "__init__" "Kind.__init__" (L2.inClass (Mk.top 30) 0) .none (.ref 261) .none (.str "markworks.kinds" 394) none (.ref 267) .none)),#[]⟩) ::
 (nat_lit 274,Mk.cO "rows" 534 "Kind.rows" 535 536 109 1 0 0 3 269 270 271 272 273 538 109 539) ::
 (nat_lit 275,Mk.fN "rows" "Kind.rows" (L2.inClass (Mk.top 30) 1) "markworks.kinds" 394 274) ::
 (nat_lit 281,Mk.cO "number" 541 "Kind.number" 542 543 112 2 0 0 3 276 277 278 279 280 546 112 547) ::
 (nat_lit 282,Mk.fN "number" "Kind.number" (L2.inClass (Mk.top 30) 2) "markworks.kinds" 394 281) ::
 (nat_lit 298,⟨(.type "code"),none,(.fields #[(.str "marks" 562),(.str "Kind.marks" 563),(.str "/claim/cut.py" 564),(.int 124 0),(.int 1 0),(.int 0 0),(.int 0 0),(.int 3 0),(.ref 295),(.bool true),(.int 181 0),(.ref 296),.none,.none,.none,(.ref 297),(.int 565 0),(.int 124 0),(.str "/claim/cut.py" 566)]),#[]⟩) ::
 (nat_lit 299,Mk.fN "marks" "Kind.marks" (L2.inClass (Mk.top 30) 5) "markworks.kinds" 394 298) ::
 (nat_lit 305,Mk.cO "known" 568 "Kind.known" 569 570 127 1 0 0 3 300 301 302 303 304 572 127 573) ::
 (nat_lit 306,Mk.fN "known" "Kind.known" (L2.inClass (Mk.top 30) 6) "markworks.kinds" 394 305) ::
 (nat_lit 312,Mk.cO "rest" 575 "Kind.rest" 576 577 130 1 0 0 3 307 308 309 310 311 579 130 580) ::
 (nat_lit 313,Mk.fN "rest" "Kind.rest" (L2.inClass (Mk.top 30) 7) "markworks.kinds" 394 312) ::
 (nat_lit 319,Mk.cO "__eq__" 582 "Kind.__eq__" 583 584 133 2 0 0 3 314 315 316 317 318 587 133 588) ::
 (nat_lit 320,Mk.fN "__eq__" "Kind.__eq__" (L2.inClass (Mk.top 30) 8) "markworks.kinds" 394 319) ::
 (nat_lit 329,⟨(.type "dict"),none,(.dict #[Mk.dE P "__module__" 518 (.str "markworks.kinds" 394),Mk.dE P "__firstlineno__" 522 (.int 100 521),Mk.dE P "__init__" 533 (.ref 268),Mk.dE P "rows" 540 (.ref 275),Mk.dE P "number" 548 (.ref 282),Mk.dE P "names" 555 (.ref 289),Mk.dE P "aliases" 561 (.ref 294),Mk.dE P "marks" 567 (.ref 299),Mk.dE P "known" 574 (.ref 306),Mk.dE P "rest" 581 (.ref 313),Mk.dE P "__eq__" 589 (.ref 320),Mk.dE P "__len__" 596 (.ref 327),Mk.dE P "__static_attributes__" 600 (.ref 328),Mk.dE P "__dict__" 602 (.ref 331),Mk.dE P "__weakref__" 604 (.ref 332),Mk.dE P "__doc__" 605 .none,Mk.dE P "__hash__" 606 .none] 5),#[]⟩) ::
 (nat_lit 330,⟨(.type "type"),none,(.cls ⟨"Kind", [(.type "object")],[(.ref 330),(.type "object")],329, "Kind", true,[],[],false,none,false⟩),#[none,none,(some (.str "Kind" 511)),(some (.str "Kind" 519)),(some (.builtin "object.__new__")),(some (.bool true))]⟩) ::
 (nat_lit 340,Mk.cO "is_number" 615 "is_number" 616 617 140 1 0 0 3 335 336 337 338 339 619 140 620) ::
 (nat_lit 341,Mk.fN "is_number" "is_number" (Mk.top 33) "markworks.values" 609 340) ::
 (nat_lit 347,Mk.cO "rest_of" 622 "rest_of" 623 624 142 2 0 0 3 342 343 344 345 346 627 142 628) ::
 (nat_lit 348,Mk.fN "rest_of" "rest_of" (Mk.top 34) "markworks.values" 609 347) ::
 (nat_lit 361,Mk.cO "__init__" 642 "Value.__init__" 643 644 146 3 0 0 3 356 357 358 359 360 648 146 649) ::
 (nat_lit 362,Mk.fN "__init__" "Value.__init__" (L2.inClass (Mk.top 35) 0) "markworks.values" 609 361) ::
 (nat_lit 368,Mk.cO "number" 651 "Value.number" 652 653 154 1 0 0 3 363 364 365 366 367 655 154 656) ::
 (nat_lit 369,Mk.fN "number" "Value.number" (L2.inClass (Mk.top 35) 1) "markworks.values" 609 368) ::
 (nat_lit 375,Mk.cO "kind" 658 "Value.kind" 659 660 157 1 0 0 3 370 371 372 373 374 662 157 663) ::
 (nat_lit 376,Mk.fN "kind" "Value.kind" (L2.inClass (Mk.top 35) 2) "markworks.values" 609 375) ::
 (nat_lit 380,⟨(.type "code"),none,(.fields #[(.str "marks" 665),(.str "Value.marks" 666),(.str "/claim/cut.py" 667),(.int 160 0),(.int 1 0),(.int 0 0),(.int 0 0),(.int 3 0),(.ref 377),(.bool true),(.int 181 0),(.ref 378),.none,.none,.none,(.ref 379),(.int 668 0),(.int 160 0),(.str "/claim/cut.py" 669)]),#[]⟩) ::
 (nat_lit 381,Mk.fN "marks" "Value.marks" (L2.inClass (Mk.top 35) 3) "markworks.values" 609 380) ::
 (nat_lit 387,Mk.cO "rest" 671 "Value.rest" 672 673 163 1 0 0 3 382 383 384 385 386 675 163 676) ::
 (nat_lit 388,Mk.fN "rest" "Value.rest" (L2.inClass (Mk.top 35) 4) "markworks.values" 609 387) ::
 (nat_lit 394,Mk.cO "__eq__" 678 "Value.__eq__" 679 680 166 2 0 0 3 389 390 391 392 393 683 166 684) ::
 (nat_lit 395,Mk.fN "__eq__" "Value.__eq__" (L2.inClass (Mk.top 35) 5) "markworks.values" 609 394) ::
 (nat_lit 404,⟨(.type "dict"),none,(.dict #[Mk.dE P "__module__" 637 (.str "markworks.values" 609),Mk.dE P "__firstlineno__" 641 (.int 144 640),Mk.dE P "__init__" 650 (.ref 362),Mk.dE P "number" 657 (.ref 369),Mk.dE P "kind" 664 (.ref 376),Mk.dE P "marks" 670 (.ref 381),Mk.dE P "rest" 677 (.ref 388),Mk.dE P "__eq__" 685 (.ref 395),Mk.dE P "__len__" 692 (.ref 402),Mk.dE P "__static_attributes__" 695 (.ref 403),Mk.dE P "__dict__" 697 (.ref 406),Mk.dE P "__weakref__" 699 (.ref 407),Mk.dE P "__doc__" 700 .none,Mk.dE P "__hash__" 701 .none] 5),#[]⟩) ::
 (nat_lit 405,⟨(.type "type"),none,(.cls ⟨"Value", [(.type "object")],[(.ref 405),(.type "object")],404, "Value", true,[],[],false,none,false⟩),#[none,none,(some (.str "Value" 630)),(some (.str "Value" 638)),(some (.builtin "object.__new__")),(some (.bool true))]⟩) ::
 (nat_lit 415,Mk.cO "made" 704 "made" 705 706 171 2 0 0 3 410 411 412 413 414 711 171 712) ::
 (nat_lit 416,Mk.fN "made" "made" (Mk.top 36) "markworks.values" 609 415) ::
 (nat_lit 420,⟨(.type "code"),none,(.fields #[(.str "value_of" 714),(.str "value_of" 715),(.str "/claim/cut.py" 716),(.int 183 0),(.int 2 0),(.int 0 0),(.int 0 0),(.int 3 0),(.ref 417),(.bool true),(.int 181 0),(.ref 418),.none,.none,.none,(.ref 419),(.int 717 0),(.int 183 0),(.str "/claim/cut.py" 718)]),#[]⟩) ::
 (nat_lit 421,Mk.fN "value_of" "value_of" (Mk.top 37) "markworks.values" 609 420) ::
 (nat_lit 425,⟨(.type "code"),none,(.fields #[(.str "is_entry" 722),(.str "is_entry" 723),(.str "/claim/cut.py" 724),(.int 188 0),(.int 3 0),(.int 0 0),(.int 0 0),(.int 3 0),(.ref 422),(.bool true),(.int 181 0),(.ref 423),.none,.none,.none,(.ref 424),(.int 725 0),(.int 188 0),(.str "/claim/cut.py" 726)]),#[]⟩) ::
 (nat_lit 426,Mk.fN "is_entry" "is_entry" (Mk.top 39) "markworks.editions" 720 425) ::
 (nat_lit 430,⟨(.type "code"),none,(.fields #[(.str "table_of" 728),(.str "table_of" 729),(.str "/claim/cut.py" 730),(.int 192 0),(.int 3 0),(.int 0 0),(.int 0 0),(.int 3 0),(.ref 427),(.bool true),(.int 181 0),(.ref 428),.none,.none,.none,(.ref 429),(.int 731 0),(.int 192 0),(.str "/claim/cut.py" 732)]),#[]⟩) ::
 (nat_lit 431,Mk.fN "table_of" "table_of" (Mk.top 40) "markworks.editions" 720 430) ::
 (nat_lit 444,Mk.cO "__init__" 746 "Edition.__init__" 747 748 203 4 0 0 3 439 440 441 442 443 753 203 754) ::
 (nat_lit 445,Mk.fN "__init__" "Edition.__init__" (L2.inClass (Mk.top 41) 0) "markworks.editions" 720 444) ::
 (nat_lit 451,Mk.cO "kind" 756 "Edition.kind" 757 758 208 1 0 0 3 446 447 448 449 450 760 208 761) ::
 (nat_lit 452,Mk.fN "kind" "Edition.kind" (L2.inClass (Mk.top 41) 1) "markworks.editions" 720 451) ::
 (nat_lit 465,Mk.cO "names_for" 770 "Edition.names_for" 771 772 214 2 0 0 3 460 461 462 463 464 777 214 778) ::
 (nat_lit 466,Mk.fN "names_for" "Edition.names_for" (L2.inClass (Mk.top 41) 3) "markworks.editions" 720 465) ::
 (nat_lit 472,Mk.cO "led" 780 "Edition.led" 781 782 222 2 0 0 3 467 468 469 470 471 786 222 787) ::
 (nat_lit 473,Mk.fN "led" "Edition.led" (L2.inClass (Mk.top 41) 4) "markworks.editions" 720 472) ::
 (nat_lit 491,⟨(.type "code"),none,(.fields #[(.str "first_mixed" 807),(.str "Edition.first_mixed" 808),(.str "/claim/cut.py" 809),(.int 234 0),(.int 1 0),(.int 0 0),(.int 0 0),(.int 3 0),(.ref 488),(.bool true),(.int 181 0),(.ref 489),.none,.none,.none,(.ref 490),(.int 810 0),(.int 234 0),(.str "/claim/cut.py" 811)]),#[]⟩) ::
 (nat_lit 492,Mk.fN "first_mixed" "Edition.first_mixed" (L2.inClass (Mk.top 41) 7) "markworks.editions" 720 491) ::
 (nat_lit 508,⟨(.type "dict"),none,(.dict #[Mk.dE P "__module__" 741 (.str "markworks.editions" 720),Mk.dE P "__firstlineno__" 745 (.int 201 744),Mk.dE P "__init__" 755 (.ref 445),Mk.dE P "kind" 762 (.ref 452),Mk.dE P "other" 769 (.ref 459),Mk.dE P "names_for" 779 (.ref 466),Mk.dE P "led" 788 (.ref 473),Mk.dE P "is_led_to_let" 797 (.ref 480),Mk.dE P "first_unled" 806 (.ref 487),Mk.dE P "first_mixed" 812 (.ref 492),Mk.dE P "pairs" 819 (.ref 499),Mk.dE P "behind" 831 (.ref 506),Mk.dE P "__static_attributes__" 835 (.ref 507),Mk.dE P "__dict__" 837 (.ref 510),Mk.dE P "__weakref__" 839 (.ref 511),Mk.dE P "__doc__" 840 .none] 4),#[]⟩) ::
 (nat_lit 509,⟨(.type "type"),none,(.cls ⟨"Edition", [(.type "object")],[(.ref 509),(.type "object")],508, "Edition", true,[],[],false,none,false⟩),#[none,none,(some (.str "Edition" 734)),(some (.str "Edition" 742)),(some (.builtin "object.__new__")),(some (.bool true))]⟩) ::
 (nat_lit 519,Mk.cO "_law_cell" 845 "_law_cell" 846 847 258 2 0 0 3 514 515 516 517 518 850 258 851) ::
 (nat_lit 520,Mk.fN "_law_cell" "_law_cell" (Mk.top 43) "law_markworks_k52_whole_first_mixed" 843 519) ::
 (nat_lit 526,Mk.cO "_law_drawn" 853 "_law_drawn" 854 855 262 2 0 0 3 521 522 523 524 525 859 262 860) ::
 (nat_lit 527,Mk.fN "_law_drawn" "_law_drawn" (Mk.top 44) "law_markworks_k52_whole_first_mixed" 843 526) ::
 (nat_lit 533,Mk.cO "_law_roll" 862 "_law_roll" 863 864 267 2 0 0 3 528 529 530 531 532 868 267 869) ::
 (nat_lit 534,Mk.fN "_law_roll" "_law_roll" (Mk.top 45) "law_markworks_k52_whole_first_mixed" 843 533) ::
 (nat_lit 538,⟨(.type "code"),none,(.fields #[(.str "_law_rounds" 871),(.str "_law_rounds" 872),(.str "/claim/cut.py" 873),(.int 274 0),(.int 2 0),(.int 0 0),(.int 0 0),(.int 3 0),(.ref 535),(.bool true),(.int 181 0),(.ref 536),.none,.none,.none,(.ref 537),(.int 874 0),(.int 274 0),(.str "/claim/cut.py" 875)]),#[]⟩) ::
 (nat_lit 539,Mk.fN "_law_rounds" "_law_rounds" (Mk.top 46) "law_markworks_k52_whole_first_mixed" 843 538) ::
 (nat_lit 543,⟨(.type "code"),none,(.fields #[(.str "_law_bits_of" 877),(.str "_law_bits_of" 878),(.str "/claim/cut.py" 879),(.int 276 0),(.int 1 0),(.int 0 0),(.int 0 0),(.int 3 0),(.ref 540),(.bool true),(.int 181 0),(.ref 541),.none,.none,.none,(.ref 542),(.int 880 0),(.int 276 0),(.str "/claim/cut.py" 881)]),#[]⟩) ::
 (nat_lit 544,Mk.fN "_law_bits_of" "_law_bits_of" (Mk.top 47) "law_markworks_k52_whole_first_mixed" 843 543) ::
 (nat_lit 550,Mk.cO "_law_rule_of" 883 "_law_rule_of" 884 885 278 1 0 0 3 545 546 547 548 549 887 278 888) ::
 (nat_lit 551,Mk.fN "_law_rule_of" "_law_rule_of" (Mk.top 48) "law_markworks_k52_whole_first_mixed" 843 550) ::
 (nat_lit 555,⟨(.type "code"),none,(.fields #[(.str "_law_lines" 890),(.str "_law_lines" 891),(.str "/claim/cut.py" 892),(.int 280 0),(.int 2 0),(.int 0 0),(.int 0 0),(.int 3 0),(.ref 552),(.bool true),(.int 181 0),(.ref 553),.none,.none,.none,(.ref 554),(.int 893 0),(.int 280 0),(.str "/claim/cut.py" 894)]),#[]⟩) ::
 (nat_lit 556,Mk.fN "_law_lines" "_law_lines" (Mk.top 49) "law_markworks_k52_whole_first_mixed" 843 555) ::
 (nat_lit 560,⟨(.type "code"),none,(.fields #[(.str "_law_table_of" 896),(.str "_law_table_of" 897),(.str "/claim/cut.py" 898),(.int 299 0),(.int 1 0),(.int 0 0),(.int 0 0),(.int 3 0),(.ref 557),(.bool true),(.int 181 0),(.ref 558),.none,.none,.none,(.ref 559),(.int 899 0),(.int 299 0),(.str "/claim/cut.py" 900)]),#[]⟩) ::
 (nat_lit 561,Mk.fN "_law_table_of" "_law_table_of" (Mk.top 50) "law_markworks_k52_whole_first_mixed" 843 560) ::
 (nat_lit 565,⟨(.type "code"),none,(.fields #[(.str "_law_edition" 902),(.str "_law_edition" 903),(.str "/claim/cut.py" 904),(.int 307 0),(.int 2 0),(.int 0 0),(.int 0 0),(.int 3 0),(.ref 562),(.bool true),(.int 181 0),(.ref 563),.none,.none,.none,(.ref 564),(.int 905 0),(.int 307 0),(.str "/claim/cut.py" 906)]),#[]⟩) ::
 (nat_lit 566,Mk.fN "_law_edition" "_law_edition" (Mk.top 51) "law_markworks_k52_whole_first_mixed" 843 565) ::
 (nat_lit 572,Mk.cO "_law_goal" 908 "_law_goal" 909 910 317 4 0 0 3 567 568 569 570 571 922 317 923) ::
 (nat_lit 573,Mk.fN "_law_goal" "_law_goal" (Mk.top 52) "law_markworks_k52_whole_first_mixed" 843 572) ::
 (nat_lit 577,⟨(.type "code"),none,(.fields #[(.str "law" 925),(.str "law" 926),(.str "/claim/cut.py" 927),(.int 328 0),(.int 1 0),(.int 0 0),(.int 0 0),(.int 3 0),(.ref 574),(.bool true),(.int 181 0),(.ref 575),.none,.none,.none,(.ref 576),(.int 928 0),(.int 328 0),(.str "/claim/cut.py" 929)]),#[]⟩) ::
 (nat_lit 578,Mk.fN "law" "law" (Mk.top 53) "law_markworks_k52_whole_first_mixed" 843 577) ::
 []
noncomputable def Mk.Kas : List Nat:=2 :: 3 :: 39 :: 59 :: 71 :: 83 :: 95 :: 114 :: 126 :: 138 :: 150 :: 169 :: 172 :: 178 :: 179 :: 183 :: 184 :: 190 :: 191 :: 197 :: 198 :: 202 :: 203 :: 209 :: 210 :: 214 :: 215 :: 221 :: 222 :: 226 :: 227 :: 231 :: 232 :: 238 :: 239 :: 245 :: 246 :: 252 :: 253 :: 261 :: 267 :: 268 :: 274 :: 275 :: 281 :: 282 :: 298 :: 299 :: 305 :: 306 :: 312 :: 313 :: 319 :: 320 :: 329 :: 330 :: 340 :: 341 :: 347 :: 348 :: 361 :: 362 :: 368 :: 369 :: 375 :: 376 :: 380 :: 381 :: 387 :: 388 :: 394 :: 395 :: 404 :: 405 :: 415 :: 416 :: 420 :: 421 :: 425 :: 426 :: 430 :: 431 :: 444 :: 445 :: 451 :: 452 :: 465 :: 466 :: 472 :: 473 :: 491 :: 492 :: 508 :: 509 :: 519 :: 520 :: 526 :: 527 :: 533 :: 534 :: 538 :: 539 :: 543 :: 544 :: 550 :: 551 :: 555 :: 556 :: 560 :: 561 :: 565 :: 566 :: 572 :: 573 :: 577 :: 578 :: []
noncomputable def Mk.loose : List PySem.Str:=Str.ofString "_wall" :: Str.ofString "MarkError" :: Str.ofString "BadRows" :: Str.ofString "BadRule" :: Str.ofString "BadName" :: Str.ofString "BadNumber" :: Str.ofString "BadRest" :: Str.ofString "Unlike" :: Str.ofString "BadPairs" :: Str.ofString "Never" :: Str.ofString "Unled" :: Str.ofString "GREATEST" :: Str.ofString "MOST_ROWS" :: Str.ofString "LONGEST_NAME" :: Str.ofString "RULES" :: Str.ofString "is_whole" :: Str.ofString "is_name" :: Str.ofString "is_mark" :: Str.ofString "union_of" :: Str.ofString "unions_of" :: Str.ofString "is_one_of" :: Str.ofString "mark_bits" :: Str.ofString "next_mark" :: Str.ofString "is_names_of" :: Str.ofString "thing_number" :: Str.ofString "row_number" :: Str.ofString "numbered" :: Str.ofString "first_names" :: Str.ofString "Kind" :: Str.ofString "LIMIT" :: Str.ofString "is_number" :: Str.ofString "rest_of" :: Str.ofString "Value" :: Str.ofString "made" :: Str.ofString "value_of" :: Str.ofString "is_entry" :: Str.ofString "table_of" :: Str.ofString "Edition" :: Str.ofString "_law_cell" :: Str.ofString "_law_drawn" :: Str.ofString "_law_roll" :: Str.ofString "_law_rounds" :: Str.ofString "_law_bits_of" :: Str.ofString "_law_rule_of" :: Str.ofString "_law_lines" :: Str.ofString "_law_table_of" :: Str.ofString "_law_edition" :: Str.ofString "_law_goal" :: []
def Mk.T0 (P : Params) : BT:=.node (boot_o_0 P)
  (.node (boot_o_1 P) (.node (boot_o_3 P) (.node (boot_o_7 P) .nil .nil) .nil) (.node (boot_o_5 P) (.node (boot_o_9 P) .nil .nil) .nil))
  (.node (boot_o_2 P) (.node (boot_o_4 P) (.node (boot_o_8 P) .nil .nil) .nil) (.node (boot_o_6 P) (.node (boot_o_10 P) .nil .nil) .nil))
theorem Mk.tree (P : Params) : absHeap (Mk.T0 P) (nat_lit 11) {} = boot_heap P:=by kernel_rfl
theorem Mk.size (w : World) : ((boot_heap w.params).isNs mainGlobals,(boot_heap w.params).objs.size,(boot_heap w.params).nsMap mainGlobals "__annotations__") = (true,(nat_lit 11),some (.ref (nat_lit 6))):=by kernel_rfl
theorem Mk.opens (w : World) : (fencedOpening treeTable PySem.Challenge.pw_markworks_k52_whole_first_mixed w (nat_lit 9480)).map (fun s=>(s.heap,s.gens,s.drawn,s.toks)) = some (boot_heap w.params,#[],boot_drawn,boot_toks):=boot_open (by kernel_rfl) (by decide) (fun s=>by kernel_rfl) w
theorem Mk.twin : Function.const _ true (@Hd.runT,@Hd.looksAt,PySem.Challenge.pw_markworks_k52_whole_first_mixed,Mk.Kf,Mk.loose) = true:=by k_qdec
abbrev Mk.qv : Program := view PySem.Challenge.pw_markworks_k52_whole_first_mixed [nat_lit 53]
abbrev Mk.Xt (s : Shared) : Bool := xlAt Mk.qv [] s && recOk [] s
theorem Mk.run_q (w : World) (os : OsState) : (Option.map (fun s => Fast.tw8257016192812374322 Fast.tw7747887620258752897 (view Fast.tw7747887620258752897 [nat_lit 53]) Fast.tw2924075613660010442 (fun s => xlAt (view Fast.tw7747887620258752897 [nat_lit 53]) [] s && recOk [] s) Mk.Kas (boot_heap w.params) s.abs)
      (Fast.tw16599536794577742827 Fast.tw14364793385576792824 Fast.tw7747887620258752897 w (nat_lit 11) (some (Value.ref (nat_lit 6))) (nat_lit 4692) ⟨Mk.T0 w.params,nat_lit 11,{},#[],boot_drawn,boot_toks,os⟩ (topStub Fast.tw7747887620258752897))) =
    some (true,openGood (view Fast.tw7747887620258752897 [nat_lit 53]) Fast.tw2924075613660010442,(Fast.tw12104304683883722232 w.params).map fun x=>some x.2):=by kernel_rfl
theorem Mk.left : LeftO PySem.Challenge.pw_markworks_k52_whole_first_mixed Mk.qv Mk.loose Mk.Xt (fun s=>Mk.Kas.map s.heap.get?) (fun w=>(Mk.Kf w.params).map fun x=>some x.2) (nat_lit 9480):=by
  refine Hd.left_of (M:=nat_lit 4692) (T0:=Mk.T0) Mk.opens Mk.tree Mk.size (by decide) fun w os=>?_
  have h:=Mk.run_q w os
  rw [← Fast.te8257016192812374322,← Fast.te7747887620258752897,← Fast.te2924075613660010442,← Fast.te16599536794577742827,← Fast.te14364793385576792824,← Fast.te12104304683883722232] at h
  exact h
def Mk.dL : DefRec:=⟨"law", L2.defArgs (Mk.top (nat_lit 53)),L2.defBody (Mk.top (nat_lit 53)),L2.defScope (Mk.top (nat_lit 53)),match Mk.top (nat_lit 53) with | .FunctionDef _ _ _ _ _ _ _ _ _ p=>p | _=>⟨0,0,0,0⟩⟩
end
open PySem PySem.W PyProof.Rows
set_option maxRecDepth 100000 in
set_option maxHeartbeats 0 in
theorem PySem.Challenge.cw_markworks_k52_whole_first_mixed_holds : PySem.Challenge.rw_markworks_k52_whole_first_mixed.Holds := by
  w_on; o_law
  refine PySem.W.holds_open (r:=PySem.Challenge.rw_markworks_k52_whole_first_mixed.row) (q:=Mk.qv) (loose:=Mk.loose) (Xt:=Mk.Xt) (XP:=XL Mk.qv []) (YP:=InK Mk.Kf) (d:=Mk.dL) (kwd:=[]) Mk.left
    (fun w s e=>InK.of (fun P=>by kernel_rfl) w s e) InK.keeps (fun s e=>xl_of s (Bool.and_eq_true_iff.mp e).1) XL.keeps (by kernel_rfl) (by kernel_rfl) (by kernel_rfl) (fun s e=>recFacts_of (Bool.and_eq_true_iff.mp e).2) (by rfl) (by assumption) (by decide +kernel) ⟨rfl,rfl,rfl,rfl,rfl,by decide +kernel⟩ ?hw ?hc
  case hw=>w_witness2
  k_fill
  refine Mk.walk (l:=PySem.Challenge.rw_markworks_k52_whole_first_mixed) rfl rfl (fun w h Y=>Y) ?F
  case F =>
    intro w mg fa h KX G hmg
    refine' Mk.all_mk KX G hmg ?aC ?aVC ?aEC ?hwh ?hnm ?huo ?hnx ?hoo ?hno ?hth ?hro ?hnb ?hfi ?him ?hmR ?hmK ?hmT ?hmM ?hmE ?hlc ?hld ?hlr ?hls ?hll ?hxn ?hxr ?hxi ?hxN ?hxK ?hxE ?hmN ?hmb ?huq ?hlb ?hlu ?hlt ?hxM ?hxR ?hvo ?hmd ?heE ?heT ?hek ?heN ?heL ?heF ?hlg ?heI ?hle ?ain ?iin ?lin ?cin ?kin ?ala ?lla ?cla ?kla ?kdl ?kde ?kdr ?vG ?vM ?vL ?vLi ?vR ?qn ?qt ?fC ?fVC ?fEC ?nC_numbers ?nC_firsts ?nC_rule ?nVC_own_kind ?nVC_bits ?nEC_own_kind ?nEC_second_kind ?nEC_table ?rL ?z_len ?z_isinstance ?z_max ?z_min ?z_range ?z_list ?z_tuple ?z_sorted ?z_sum ?z_all ?z_enumerate ?z_int ?z_bool ?z_str ?z_dict
    case aC | aVC | aEC=>k_is
    case hwh | hnm | huo | hnx | hoo | hno | hth | hro | hnb | hfi | him =>
      refine' ⟨_,_,?a,L2.fun_mk ?b ?c ?d⟩
      case a | b | c | d=>k_is
    case hmR | hmK | hmT | hmM | hmE =>
      refine' ⟨_,_,?a,?i,⟨_,?o,?q⟩,L2.fun_mk ?b ?c ?d⟩
      case a | i | b=>k_is
      case o | q=>first | rfl | k_is
      case c | d=>k_is
    case hlc | hld | hlr | hls | hll | hxn | hxr =>
      refine' ⟨_,_,?a,L2.fun_mk ?b ?c ?d⟩
      case a | b | c | d=>k_is
    case hxi | hxN | hxK | hxE | hmN =>
      refine' ⟨_,_,?a,?i,⟨_,?o,?q⟩,L2.fun_mk ?b ?c ?d⟩
      case a | i | b=>k_is
      case o | q=>first | rfl | k_is
      case c | d=>k_is
    case hmb | huq | hlb | hlu | hlt =>
      refine' ⟨_,_,?a,L2.fun_mk ?b ?c ?d⟩
      case a | b | c | d=>k_is
    case hxM | hxR =>
      refine' ⟨_,_,?a,?i,⟨_,?o,?q⟩,L2.fun_mk ?b ?c ?d⟩
      case a | i | b=>k_is
      case o | q=>first | rfl | k_is
      case c | d=>k_is
    case hvo | hmd | heE | heT =>
      refine' ⟨_,_,?a,L2.fun_mk ?b ?c ?d⟩
      case a | b | c | d=>k_is
    case hek | heN | heL | heF =>
      refine' ⟨_,_,?a,?i,⟨_,?o,?q⟩,L2.fun_mk ?b ?c ?d⟩
      case a | i | b=>k_is
      case o | q=>first | rfl | k_is
      case c | d=>k_is
    case hlg =>
      refine' ⟨_,_,?a,L2.fun_mk ?b ?c ?d⟩
      case a | b | c | d=>k_is
    case heI =>
      refine' ⟨_,_,?a,?i,⟨_,?o,?q⟩,L2.fun_mk ?b ?c ?d⟩
      case a | i | b=>k_is
      case o | q=>first | rfl | k_is
      case c | d=>k_is
    case hle =>
      refine' ⟨_,_,?a,L2.fun_mk ?b ?c ?d⟩
      case a | b | c | d=>k_is
    case ain | iin | lin | cin | kin | ala | lla | cla | kla | kdl=>k_is
    case kde=>simp
    case kdr | vG | vM | vL | vLi | vR | qn | qt=>k_is
    case fC | fVC | fEC =>
      refine' ⟨?_,?_,?_,?_,?_,?_,?_,?_,?_,?_,?_,?_,?_,?_⟩ <;> k_is
    case nC_numbers | nC_firsts | nC_rule | nVC_own_kind | nVC_bits | nEC_own_kind | nEC_second_kind | nEC_table | rL | z_len | z_isinstance | z_max | z_min | z_range | z_list | z_tuple | z_sorted | z_sum | z_all | z_enumerate | z_int | z_bool | z_str | z_dict=>k_is
