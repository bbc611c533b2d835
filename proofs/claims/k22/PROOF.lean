import PyProof.Rows.All
import Wide.All
import OpenK.AllK
import Wide.FinOn
import PyProof.EqAt
import PyProof.EqKinds
import PyProof.TupleCall
import Lean
import PyProof.Rows.BitMore
import PyProof.ExcBaseAll.ValueError
import PyProof.ExcArgsOwn
import KE.KLam
import PyProof.InstStoreFacts
import PyProof.FString
import PyProof.FString2
import PyProof.Rows.FStr
import PyProof.FitsInt
import PyProof.ZipIter
import PyProof.Rows.ZipGen
import PyProof.AttrMissHeap
import KE.KDictOf
import PyProof.DictCompW
import PyProof.DictWalks
import PyProof.AutoSeq1
import PyProof.Rows.SeqMore
import PyProof.Rows.SetFrom
import PyProof.ListNew
import PyProof.CollectStr
import PySem.Challenge.RW_markworks_k22_whole_sets
set_option Elab.async false
set_option linter.all false
set_option maxRecDepth 100000
set_option maxHeartbeats 4000000
theorem AK {α:Type u} {β:Type v} {as:List α} (f:α->β):(as.map f).length=as.length:=List.length_map f
abbrev Aa:=List (PySem.Str × Nat)
abbrev VS:=PySem.Value->PySem.Shared->Prop
abbrev LO:=List (PySem.Addr × PySem.Obj)
abbrev SV:=PySem.Str->Option PySem.Value
open PySem in
abbrev FG:=W.Frag
open List (all_map any_cons any_eq_true any_map append_nil contains_cons filterMap_cons filter_append filter_cons find?_cons foldl_append foldl_cons getD_eq_getElem?_getD getElem?_map getElem_mem length_append length_cons length_filter_le length_nil length_singleton length_take lookup_cons map_append map_cons map_id map_map map_nil mem_append mem_append_left mem_append_right mem_cons mem_cons_of_mem mem_cons_self mem_filter mem_map mem_of_getElem? mem_range mem_singleton nodup_cons nodup_nil not_mem_nil of_mem_zip pairwise_map size_toArray sum_append sum_cons take_add_one take_length)
open PySem.Heap (get?_push_of_some get?_push_size get?_update_other get?_update_self lt_size)
section
namespace L2
open PySem
theorem sl1:1 <= sizeLine:=by decide
theorem sl2:2 <= sizeLine:=by decide
theorem sl3:3 <= sizeLine:=by decide
theorem sl4:4 <= sizeLine:=by decide
theorem sl6:6 <= sizeLine:=by decide
theorem sl7:7 <= sizeLine:=by decide
theorem sl9:9 <= sizeLine:=by decide
end L2
end
section
namespace L2
open PySem PySem.Spec PyProof.Rows
abbrev Key:=Sum Int Str
noncomputable def Fe:Key->Value->Bool
 | .inl k,v=>Value.isInt k v
 | .inr x,v=>Value.isStrOf x v
noncomputable def Tc (w:World):Key->Int
 | .inl k=>hashInt k
 | .inr x=>hashStr w x
theorem As:∀ {k:Key} {v:Value},Fe k v=true->(∃ i t,k=Sum.inl i/\v=Value.int i t)\/(∃ x t,k=Sum.inr x/\v=Value.str x t)
 | .inl i,v,h=>by
  obtain ⟨t,e⟩:=Value.isInt_shape (k:=i) (v:=v) h;exact .inl ⟨i,t,rfl,e⟩
 | .inr x,v,h=>by
  obtain ⟨t,e⟩:=Value.isStrOf_shape (x:=x) (v:=v) h;exact .inr ⟨x,t,rfl,e⟩
theorem Mg (i:Int) (t:Tok):Fe (.inl i) (.int i t)=true:=by simp [Fe,Value.isInt]
theorem Mh (x:Str) (t:Tok):Fe (.inr x) (.str x t)=true:=by simp [Fe,Value.isStrOf]
theorem Ra (a b:Int):decide ((Sum.inl a:Key)=Sum.inl b)=(a == b):=by
 by_cases e:a=b
 ·subst e; simp
 ·have h:¬ (Sum.inl a:Key)=Sum.inl b:=fun q=>e (Sum.inl.inj q);rw [decide_eq_false h];exact (beq_eq_false_iff_ne.mpr e).symm
theorem Rb (a b:Str):decide ((Sum.inr a:Key)=Sum.inr b)=decide (a=b):=by
 by_cases e:a=b
 ·subst e; simp
 ·have h:¬ (Sum.inr a:Key)=Sum.inr b:=fun q=>e (Sum.inr.inj q);rw [decide_eq_false h,decide_eq_false e]
theorem Rc (a:Int) (b:Str):decide ((Sum.inl a:Key)=Sum.inr b)=false:=decide_eq_false (fun q=>nomatch q)
theorem Re (a:Str) (b:Int):decide ((Sum.inr a:Key)=Sum.inl b)=false:=decide_eq_false (fun q=>nomatch q)
noncomputable def AU (prog:Program) (w:World):PySem.KeyKind prog w Key where
 is:=Fe
 hash:=Tc w
 inj:=fun v a b ha hb=>by
  rcases As ha with ⟨i,t,rfl,rfl⟩ | ⟨x,t,rfl,rfl⟩
  ·rcases As hb with ⟨j,u,rfl,e⟩ | ⟨y,u,rfl,e⟩
   ·injection e with e1 _; rw [e1]
   ·exact nomatch e
  ·rcases As hb with ⟨j,u,rfl,e⟩ | ⟨y,u,rfl,e⟩
   ·exact nomatch e
   ·injection e with e1 _; rw [e1]
 byValue:=fun k v h=>by
  rcases As h with ⟨i,t,rfl,rfl⟩ | ⟨x,t,rfl,rfl⟩ <;> rfl
 pyHash:=fun hv h=>by
  rcases As hv with ⟨i,t,rfl,rfl⟩ | ⟨x,t,rfl,rfl⟩
  ·exact wpAny_pyHash_int h
  ·exact wpAny_pyHash_str h
 eqBool:=fun hu hv h=>by
  rcases As hu with ⟨i,t,rfl,rfl⟩ | ⟨x,t,rfl,rfl⟩
  ·rcases As hv with ⟨j,u,rfl,rfl⟩ | ⟨y,u,rfl,rfl⟩
   ·rw [Ra] at h; exact wpAny_eqBool_int h
   ·rw [Rc] at h; exact SeqAt.EqAt.int_str i t y u _ _ _ _ h
  ·rcases As hv with ⟨j,u,rfl,rfl⟩ | ⟨y,u,rfl,rfl⟩
   ·rw [Re] at h; exact SeqAt.EqAt.str_int x t j u _ _ _ _ h
   ·rw [Rb] at h; exact wpAny_eqBool_str h
 «strs»:=fun k x t v h=>by
  rcases As h with ⟨i,u,rfl,e⟩ | ⟨y,u,rfl,e⟩
  ·exact nomatch e
  ·injection e with e1 _
   subst e1;cases v <;> rfl
theorem Iv (prog:Program) (w:World) (i:Int) (t:Tok):(AU prog w).is (.inl i) (.int i t)=true:=Mg i t
theorem Ix (prog:Program) (w:World) (x:Str) (t:Tok):(AU prog w).is (.inr x) (.str x t)=true:=Mh x t
end L2
namespace L2
open PySem PySem.Spec PyProof.Rows
inductive V where
 | non | bl (b:Bool) | int (i:Int) | str (x:Str) | byt (b:Array UInt8) | flt (b:UInt64) | ref (a:Addr) | ty (n:String)
 deriving DecidableEq
def RelV:V->Value->Prop
 | .non,u=>u=Value.none
 | .bl b,u=>u=Value.bool b
 | .int i,u=>∃ t,u=Value.int i t
 | .str x,u=>∃ t,u=Value.str x t
 | .byt b,u=>∃ t,u=Value.bytes b t
 | .flt b,u=>∃ t,u=Value.float b t
 | .ref a,u=>u=Value.ref a
 | .ty n,u=>u=Value.type n
abbrev Vals:List V->List Value->Prop:=Paired RelV
theorem Vals.length {xs:List V} {us:List Value} (r:Vals xs us):xs.length=us.length:=Paired.length r
theorem Vals.get:∀ {xs:List V} {us:List Value} {i:Nat} {x:V},Vals xs us->xs[i]?=some x->∃ u,us[i]?=some u/\RelV x u
 | _,_,_,_,.nil,e=>by simp at e
 | _,_,0,_,.cons r _,e=>by simp at e; subst e; exact ⟨_,rfl,r⟩
 | _,_,i + 1,x,.cons _ t,e=>by
  obtain ⟨u,h1,h2⟩:=Vals.get (i:=i) (x:=x) t (by simpa using e);exact ⟨u,by simpa using h1,h2⟩
theorem Vals.set {x:V} {u:Value} (r:RelV x u):∀ {xs:List V} {us:List Value} (i:Nat),Vals xs us->Vals (xs.set i x) (us.set i u)
 | _,_,_,.nil=>.nil
 | _,_,0,.cons _ t=>.cons r t
 | _,_,i + 1,.cons q t=>.cons q (Vals.set r i t)
theorem Vals.append:∀ {xs ys:List V} {us ws:List Value},Vals xs us->Vals ys ws->Vals (xs++ys) (us++ws)
 | _,_,_,_,.nil,s=>s
 | _,_,_,_,.cons r t,s=>.cons r (Vals.append t s)
def RelO:Option V->Option Value->Prop
 | some v,some u=>RelV v u
 | none,none=>True
 | _,_=>False
def KV {κ:Type}:List (κ × V)->List (κ × Value)->Prop:=Paired fun (p:κ × V) (q:κ × Value)=>p.1=q.1/\RelV p.2 q.2
noncomputable def kV:Key->V
 | .inl i=>.int i
 | .inr x=>.str x
abbrev LK:=List (Key × V)
inductive HO where
 | lst (xs:List V)
 | tup (xs:List V)
 | dK (kvs:LK) | dT (kvs:List (List Key × V))
 | set (S:Int->Bool) (n:Nat)
 | ins (C dx:Addr) (fs:List (Str × V))
 | own (x:Addr)
 | xd (fs:List (Str × V))
 | met (f x:Addr)
 | rng (lo hi:Int)
 | frz (o:Obj) (u:HO)
 | tbl (ps:Array Value)
 | ext (φ:Heap->Prop)
abbrev Hp:=Addr->Option HO
noncomputable def upd (H:Hp) (a:Addr) (o:HO):Hp:=fun b=>if b=a then some o else H b
theorem AB {H:Hp} {a:Addr} {o:HO}:upd H a o a=some o:=by unfold upd; rw [if_pos rfl]
theorem AG {H:Hp} {a b:Addr} {o:HO} (h:b ≠ a):upd H a o b=H b:=by unfold upd; rw [if_neg h]
theorem Ll {H:Hp} {a:Addr} {o u:HO}:upd (upd H a o) a u=upd H a u:=by
 funext b; unfold upd; split <;> rfl
theorem Si {H:Hp} {a b:Addr} {o u:HO} (h:H a=some o) (h':H b=some u) (d:o ≠ u):a ≠ b:=by
 intro e; subst e; rw [h] at h'; exact d (Option.some.inj h')
theorem AJ {H:Hp} {a b:Addr} {o:HO} (h:H a=some o) (h':H b=none):a ≠ b:=by
 intro e; subst e; rw [h] at h'; cases h'
section
variable (P:Program) (w:World)
def ObjOk (H:Hp) (h:Heap) (a:Addr):HO->Prop
 | .lst xs=>xs.length <= sizeLine/\∃ (its:List Value) (n:Nat),Vals xs its/\h.get? a=some { cls:=.type "list", data:=.seq its.toArray n }
 | .tup xs=>xs.length <= sizeLine/\∃ its:List Value,Vals xs its/\IsTup h a its.toArray
 | .dK kvs=>kvs.length <= sizeLine/\(a == sysModules)=false/\∃ vs,KV kvs vs/\h.DictOf (AU P w) a vs
 | .dT kvs=>kvs.length <= sizeLine/\(a == sysModules)=false/\∃ xs:List (List Key × Addr × Value),
   Paired (fun (p:List Key × V) (q:List Key × Addr × Value)=>p.1=q.1/\H q.2.1=some (.tup (p.1.map kV))/\RelV p.2 q.2.2) kvs xs /\
   ∃ o es ep,h.get? a=some o/\o.ExactDict/\o.data=.dict es ep/\es.toList=xs.map (entryOfKey (tupleKind (AU P w)))/\(xs.map (·.1)).Nodup
 | .set S n=>h.SetOf (intKind P w) a S n
 | .ins C dx fs=>H dx=some (.own a)/\fs.length <= 1000/\dx ≠ a/\h.get? a=some (W.instObj C dx) /\
   ∃ mA,h.Ns1 dx mA/\(∀ f,RelO (fs.lookup f) (mA f))/\PySem.Within mA (fs.map (·.1))
 | .own _=>∃ o,h.get? a=some o
 | .xd fs=>∃ mA,h.Ns1 a mA/\∀ f,RelO (fs.lookup f) (mA f)
 | .rng lo hi=>∃ t u v,h.get? a=some { cls:=.type "range", data:=.fields #[.int lo t,.int hi u,.int 1 v] }
 | .frz o u=>h.get? a=some o/\ObjOk H h a u
 | .tbl ps=>h.get? a=some { cls:=.none,data:=.fields ps }
 | .met f x=>h.get? a=some (W.methodObj (.ref f) (.ref x))
 | .ext φ=>φ h/\(∃ o,h.get? a=some o)/\∀ h1 h2:Heap,φ h1->(∀ o,h1.get? a=some o->h2.get? a=some o)->φ h2
def HOk (H:Hp) (h:Heap):Prop:=∀ a o,H a=some o->ObjOk P w H h a o
end
section
variable {P:Program} {w:World} {H H':Hp} {h h':Heap} {a:Addr} {o:HO}
theorem ObjOk.lt (x:ObjOk P w H h a o):a < h.objs.size:=by
 cases o with
 | lst xs=>obtain ⟨_,_,_,_,e⟩:=x; exact lt_size e
 | tup xs=>obtain ⟨_,_,_,p⟩:=x; exact p.lt
 | dK kvs=>obtain ⟨_,_,_,_,o,_,_,e,_⟩:=x; exact lt_size e
 | dT kvs=>obtain ⟨_,_,_,_,o,_,_,e,_⟩:=x; exact lt_size e
 | set S n=>obtain ⟨o,_,_,_,e,_⟩:=x; exact lt_size e
 | ins C dx fs=>obtain ⟨_,_,_,e,_⟩:=x; exact lt_size e
 | own y=>obtain ⟨_,e⟩:=x; exact lt_size e
 | xd fs=>obtain ⟨_,⟨_,_,_,e,_⟩,_⟩:=x; exact lt_size e
 | rng lo hi=>obtain ⟨_,_,_,e⟩:=x; exact lt_size e
 | frz ob u=>obtain ⟨e,_⟩:=x; exact lt_size e
 | tbl ps=>exact lt_size (show h.get? a=some _ from x)
 | met f y=>exact lt_size (show h.get? a=some _ from x)
 | ext φ=>obtain ⟨_,⟨_,e⟩,_⟩:=x; exact lt_size e
theorem Paired.mapP {α β:Type} {F G:α->β->Prop}:∀ {l₁:List α} {l₂:List β},Paired F l₁ l₂->(∀ a b,F a b->G a b)->Paired G l₁ l₂
 | _,_,.nil,_=>.nil
 | _,_,.cons r t,f=>.cons (f _ _ r) (Paired.mapP t f)
theorem ObjOk.stay (x:ObjOk P w H h a o) (k:∀ b u,(b=a\/H b=some (.own a))->h.get? b=some u->h'.get? b=some u)
  (ho:∀ b,H b=some (.own a)->H' b=some (.own a)) (ht:∀ b xs,H b=some (.tup xs)->H' b=some (.tup xs)):ObjOk P w H' h' a o:=by
 induction o with
 | lst xs=>obtain ⟨z,its,n,r,e⟩:=x; exact ⟨z,its,n,r,k _ _ (.inl rfl) e⟩
 | tup xs=>obtain ⟨z,its,r,ob,e,c⟩:=x; exact ⟨z,its,r,ob,k _ _ (.inl rfl) e,c⟩
 | dK kvs=>obtain ⟨z,y,vs,r,ob,es,ep,e,c⟩:=x; exact ⟨z,y,vs,r,ob,es,ep,k _ _ (.inl rfl) e,c⟩
 | dT kvs =>
  obtain ⟨z,y,xs,r,ob,es,ep,e,c⟩:=x;exact ⟨z,y,xs,Paired.mapP r fun p q z=>⟨z.1,ht _ _ z.2.1,z.2.2⟩,ob,es,ep,k _ _ (.inl rfl) e,c⟩
 | set S n=>obtain ⟨ob,es,ep,t,e,c⟩:=x; exact ⟨ob,es,ep,t,k _ _ (.inl rfl) e,c⟩
 | ins C dx fs =>
  obtain ⟨d,z,ne,e,mA,⟨od,es,ep,e2,c⟩,r⟩:=x;exact ⟨ho _ d,z,ne,k _ _ (.inl rfl) e,mA,⟨od,es,ep,k _ _ (.inr d) e2,c⟩,r⟩
 | own y=>obtain ⟨ob,e⟩:=x; exact ⟨ob,k _ _ (.inl rfl) e⟩
 | xd fs=>obtain ⟨mA,⟨od,es,ep,e,c⟩,r⟩:=x; exact ⟨mA,⟨od,es,ep,k _ _ (.inl rfl) e,c⟩,r⟩
 | rng lo hi=>obtain ⟨t,u,v,e⟩:=x; exact ⟨t,u,v,k _ _ (.inl rfl) e⟩
 | frz ob u ih=>obtain ⟨e,q⟩:=x; exact ⟨k _ _ (.inl rfl) e,ih q⟩
 | tbl ps =>
  have e:h.get? a=some { cls:=.none,data:=.fields ps }:=x;show h'.get? a=some { cls:=.none,data:=.fields ps };exact k a _ (.inl rfl) e
 | met f y =>
  have e:h.get? a=some (W.methodObj (.ref f) (.ref y)):=x;show h'.get? a=some (W.methodObj (.ref f) (.ref y));exact k a _ (.inl rfl) e
 | ext φ=>obtain ⟨p,⟨o,e⟩,st⟩:=x; exact ⟨st _ _ p fun o q=>k _ _ (.inl rfl) q,⟨o,k _ _ (.inl rfl) e⟩,st⟩
theorem HOk.lt (x:HOk P w H h) (e:H a=some o):a < h.objs.size:=(x a o e).lt
theorem HOk.fresh (x:HOk P w H h) (e:h.objs.size <= a):H a=none:=by
 cases q:H a with
 | none=>rfl
 | some u=>exact absurd (Nat.lt_of_lt_of_le (x.lt q) e) (Nat.lt_irrefl _)
theorem HOk.kept (x:HOk P w H h) (k:∀ b u,h.get? b=some u->h'.get? b=some u):HOk P w H h':=fun a o e =>
 (x a o e).stay (fun b u _ q=>k b u q) (fun _ q=>q) fun _ _ q=>q
theorem HOk.laid (x:HOk P w H h) (k:∀ b u,h.get? b=some u->h'.get? b=some u) (hp:h.objs.size <= a) (new:ObjOk P w (upd H a o) h' a o):HOk P w (upd H a o) h':=fun b u e=>by
 have hn:=x.fresh hp;by_cases hb:b=a
 ·subst hb; rw [AB] at e; cases e; exact new
 ·rw [AG hb] at e;exact (x b u e).stay (fun c v _ q=>k c v q) (fun c q=>by rw [AG (AJ q hn)]; exact q) fun c xs q=>by rw [AG (AJ q hn)]; exact q
end
def Rd (H:Hp) (a:Addr) (u:HO):Prop:=H a=some u\/∃ o,H a=some (.frz o u)
theorem Rd.ok {P:Program} {w:World} {H:Hp} {h:Heap} {a:Addr} {u:HO} (r:Rd H a u) (x:HOk P w H h):ObjOk P w H h a u:=by
 rcases r with r | ⟨o,r⟩
 ·exact x a u r
 ·obtain ⟨_,q⟩:=x a _ r;exact q
def Mut:Option HO->Prop
 | some (.lst _)=>True
 | some (.dK _)=>True
 | some (.dT _)=>True
 | some (.set _ _)=>True
 | some (.ins _ _ _)=>True
 | some (.ext _)=>True
 | _=>False
section
variable {P:Program} {w:World} {H:Hp} {h h':Heap} {x e:Addr} {o':HO}
theorem HOk.write (ok:HOk P w H h) (mu:Mut (H x)) (he:e=x\/H e=some (.own x)) (k:∀ b u,b ≠ e->h.get? b=some u->h'.get? b=some u) (heo:∃ u,h'.get? e=some u)
  (new:ObjOk P w (upd H x o') h' x o'):HOk P w (upd H x o') h':=fun b u q=>by
 have nown:∀ c y,H c=some (.own y)->c ≠ x:=fun c y r z=>by subst z; rw [r] at mu; exact mu
 have ntup:∀ c xs,H c=some (.tup xs)->c ≠ x:=fun c xs r z=>by subst z; rw [r] at mu; exact mu
 by_cases hb:b=x
 ·subst hb; rw [AB] at q; cases q; exact new
 ·rw [AG hb] at q;by_cases hbe:b=e
  ·have q':H b=some (.own x):=by
    rcases he with z | z
    ·exact absurd (hbe.trans z) hb
    ·rw [hbe]; exact z
   rw [q] at q'; cases q';obtain ⟨v,hv⟩:=heo;exact ⟨v,by rw [hbe]; exact hv⟩
  ·refine (ok b u q).stay (fun c v hc r=>k c v ?_ r) (fun c r=>by rw [AG (nown c b r)]; exact r) fun c xs r=>by rw [AG (ntup c xs r)]; exact r
   rcases hc with rfl | hc
   ·exact hbe
   ·rintro rfl;rcases he with z | z
    ·exact nown c b hc z
    ·rw [hc] at z; cases z; exact hb rfl
end
structure Un (fs ex:List Addr) (H H':Hp) (h h':Heap):Prop where
 keep:∀ b o,h.get? b=some o->H b=none->b ∉ fs->b ∉ ex->h'.get? b=some o
 slot:∀ b o,h.get? b=some o->H b=none->b ∈ fs->b ∉ ex->∃ sl,h'.get? b=some { o with slots:=sl }
 free:∀ b o,h.get? b=some o->H b=none->b ∉ ex->H' b=none
 there:∀ b o,h.get? b=some o->b ∉ ex->∃ o',h'.get? b=some o'
 tups:∀ b xs,H b=some (.tup xs)->H' b=some (.tup xs)
 frzs:∀ b o u,H b=some (.frz o u)->H' b=some (.frz o u)
 tbls:∀ b ps,H b=some (.tbl ps)->∃ more,H' b=some (.tbl (ps++more))
section
variable {fs fs' ex ex':List Addr} {H H1 H2:Hp} {h h1 h2 h':Heap} {a x e:Addr} {o:HO}
theorem Un.any (u:Un fs ex H H1 h h1) {b:Addr} {ob:Obj} (q:h.get? b=some ob) (n:H b=none) (hx:b ∉ ex):∃ sl,h1.get? b=some { ob with slots:=sl }:=by
 by_cases hb:b ∈ fs
 ·exact u.slot b ob q n hb hx
 ·exact ⟨ob.slots,u.keep b ob q n hb hx⟩
theorem Un.kept (k:∀ b u,h.get? b=some u->h'.get? b=some u):Un fs ex H H h h' :=
 ⟨fun b ob q _ _ _=>k b ob q,fun b ob q _ _ _=>⟨ob.slots,k b ob q⟩,fun _ _ _ n _=>n,fun b ob q _=>⟨ob,k b ob q⟩,fun _ _ q=>q,fun _ _ _ q=>q,fun _ ps q=>⟨#[],by rw [q]; simp⟩⟩
theorem Un.refl:Un fs ex H H h h:=Un.kept fun _ _ q=>q
theorem Un.laid (k:∀ b u,h.get? b=some u->h'.get? b=some u) (hp:h.objs.size <= a) (hn:H a=none):Un fs ex H (upd H a o) h h' where
 keep:=fun b u q _ _ _=>k b u q
 slot:=fun b u q _ _ _=>⟨u.slots,k b u q⟩
 free:=fun b u q n _=>by rw [AG (Nat.ne_of_lt (Nat.lt_of_lt_of_le (lt_size q) hp))]; exact n
 there:=fun b u q _=>⟨u,k b u q⟩
 tups:=fun b xs q=>by rw [AG (AJ q hn)]; exact q
 frzs:=fun b u xs q=>by rw [AG (AJ q hn)]; exact q
 tbls:=fun b ps q=>⟨#[],by rw [AG (AJ q hn),q]; simp⟩
theorem Un.write (mu:Mut (H x)) (he:e=x\/H e=some (.own x)) (k:∀ b u,b ≠ e->h.get? b=some u->h'.get? b=some u) (heo:∃ u,h'.get? e=some u):Un fs ex H (upd H x o) h h':=by
 have hx:∀ b,H b=none->b ≠ x:=fun b n z=>by subst z; rw [n] at mu; exact mu
 have hb:∀ b,H b=none->b ≠ e:=fun b n z=>by
  subst z;rcases he with r | r
  ·exact hx b n r
  ·rw [n] at r; cases r
 have hm:∀ b u,H b=some u->¬ Mut (some u)->b ≠ x:=fun b u q nm z=>by subst z; rw [q] at mu; exact nm mu
 refine ⟨fun b u q n _ _=>k b u (hb b n) q,fun b u q n _ _=>⟨u.slots,k b u (hb b n) q⟩,fun b u q n _=>by rw [AG (hx b n)]; exact n,fun b u q _=>?_,
  fun b xs q=>by rw [AG (hm b _ q fun z=>z)]; exact q,fun b u xs q=>by rw [AG (hm b _ q fun z=>z)]; exact q,fun b ps q=>⟨#[],by rw [AG (hm b _ q fun z=>z),q]; simp⟩⟩
 by_cases hbe:b=e
 ·subst hbe; exact heo
 ·exact ⟨u,k b u hbe q⟩
end
noncomputable def trk (h:Heap) (H:Hp):List Addr:=(List.range h.objs.size).filter fun a=>(H a).isSome
noncomputable def Ff (h:Heap) (H:Hp):Heap:=W.hideAll h (trk h H)
theorem Mi (h:Heap) (H:Hp):(Ff h H).objs.size=h.objs.size:=W.hideAll_size _ _
theorem Nv {h:Heap} {H:Hp} {b:Addr} {o:Obj} (e:h.get? b=some o) (n:H b=none):(Ff h H).get? b=some o :=
 W.hideAll_get _ e fun hm=>by
  have q:(H b).isSome=true:=(mem_filter.mp hm).2;rw [n] at q; simp at q
theorem P5 {h:Heap} {H:Hp} {b:Addr} {o:Obj} (e:(Ff h H).get? b=some o):h.get? b=some o/\H b=none:=by
 have e':h.get? b=some o:=W.of_hideAll (trk h H) e;refine ⟨e',?_⟩;cases q:H b with
 | none=>rfl
 | some x =>
  have hm:b ∈ trk h H:=mem_filter.mpr ⟨mem_range.mpr (lt_size e'),by simp [q]⟩;have z:(Ff h H).get? b=none:=W.hideAll_none (trk h H) hm;rw [z] at e; cases e
end L2
namespace L2
open PySem PySem.Spec PyProof.Rows
structure Mod (K:FG) (mg:SV) (base:Heap):Prop where
 kin:K.In base
 glob:base.Ns mainGlobals mg
 blt:∃ mb,base.Ns builtinsNs mb/\∀ x:Str,x ≠ "__name__" -> mb x=bootBuiltins x
 nolimit:base.NoLimit
structure Cx where
 prog:Program
 w:World
 K:FG
 mg:Str->Option Value
 base:Heap
 A:Around
 N:List Str
 s₀:Shared
 H₀:Hp
 env:Env
 outer:List Env
 stack:List Env
 ex:List Addr
 fn:Str->Bool
 calm:Bool
 pn:LO
 xe:Value->Shared->Prop
noncomputable def frs (l:List Env):List Addr:=l.filterMap (·.frame)
noncomputable abbrev Cx.fs (X:Cx):List Addr:=frs X.outer
def Vis (sc:Scope) (x:Str):Prop:=sc.names.lookup x=some .local\/sc.names.lookup x=some .cell\/sc.names.lookup x=some .free
def Loc (sc:Scope) (x:Str):Prop:=sc.names.lookup x=some .local\/sc.names.lookup x=some .cell
def Td (env:Env) (h:Heap) (m:SV) (x:Str) (u:Value):Prop :=
 (env.kindOf x=some .local/\m x=some u)\/((env.kindOf x=some .cell\/env.kindOf x=some .free)/\∃ c,env.cells.lookup x=some c/\h.IsCell c (some u))
structure Cx.Ok (X:Cx):Prop where
 mod:Mod X.K X.mg X.base
 kind:X.env.scope.kind=.function
 glob:X.env.globals=mainGlobals
 blt:X.env.builtins=builtinsNs
 above:X.s₀.heap.objs.size <= X.env.locals
 inj:∀ x y c,X.env.cells.lookup x=some c->X.env.cells.lookup y=some c->x=y
 has:∀ x,(X.env.kindOf x=some .cell\/X.env.kindOf x=some .free)->∃ c,X.env.cells.lookup x=some c
 cab:∀ x c,X.fn x=true->X.env.cells.lookup x=some c->X.s₀.heap.objs.size <= c
 hd:X.calm=true->X.A.handled=none
 frames:X.A.frames=some X.stack
 stk:X.stack=X.outer\/(X.stack=X.env :: X.outer/\X.env.frame=some X.env.locals)
 exf:∀ b ∈ X.ex,b ≠ X.env.locals/\∀ x c,X.env.cells.lookup x=some c->c ≠ b
 bs:∀ b o,X.base.get? b=some o->X.s₀.heap.get? b=some o/\X.H₀ b=none
 bsz:X.base.objs.size <= X.s₀.heap.objs.size
 noex:∀ b o,X.base.get? b=some o->b ∉ X.ex
 exfs:∀ b ∈ X.ex,b ∉ X.fs
 funs:X.s₀.heap.FunFrames X.base X.outer
 frf:∀ b ∈ X.fs,X.H₀ b=none
structure Inv (X:Cx) (aa:LO) (σ:List (Option V)) (H:Hp) (s:Shared):Prop where
 ok:X.Ok
 os:s.os=X.s₀.os
 bare:AllBare s.gens
 base:Un X.fs X.ex X.H₀ H X.s₀.heap s.heap
 loc:∃ m,s.heap.Ns X.env.locals m/\∀ (i:Nat) (x:Str) (v:V),X.N[i]?=some x->σ[i]?=some (some v)->Vis X.env.scope x->∃ u,RelV v u/\Td X.env s.heap m x u
 cell:∀ x c,X.env.cells.lookup x=some c->∃ v,s.heap.IsCell c v
 free:H X.env.locals=none
 freeC:∀ x c,X.env.cells.lookup x=some c->H c=none
 pin:∀ p ∈ X.pn++aa,s.heap.get? p.1=some p.2/\H p.1=none/\p.1 ≠ X.env.locals/\p.1 ∉ X.fs/\∀ v,p.2.data ≠ .cell v
 hok:HOk X.prog X.w H s.heap
 len:σ.length=X.N.length
section
variable {X:Cx} {aa:LO} {σ:List (Option V)} {H H':Hp} {s:Shared} {h':Heap}
theorem Cx.Ok.nofr (ok:X.Ok) {b:Addr} {o:Obj} (e:X.base.get? b=some o):b ∉ X.fs:=fun hb=>by
 have:=(ok.funs.mem hb).1;rw [e] at this; cases this
theorem Inv.bs (I:Inv X aa σ H s):∀ b o,X.base.get? b=some o->s.heap.get? b=some o/\H b=none:=fun b o e =>
 ⟨I.base.keep b o (I.ok.bs b o e).1 (I.ok.bs b o e).2 (I.ok.nofr e) (I.ok.noex b o e),I.base.free b o (I.ok.bs b o e).1 (I.ok.bs b o e).2 (I.ok.noex b o e)⟩
theorem Inv.bk (I:Inv X aa σ H s):∀ b o,X.base.get? b=some o->s.heap.get? b=some o:=fun b o e=>(I.bs b o e).1
theorem Inv.mod (I:Inv X aa σ H s):Mod X.K X.mg X.base:=I.ok.mod
theorem Inv.kIn (I:Inv X aa σ H s):X.K.In s.heap:=I.ok.mod.kin.keeps I.bk
theorem Inv.fr (I:Inv X aa σ H s):∃ m,Fr X.base X.env.locals s.heap m :=
 let ⟨m,hn,_⟩:=I.loc
 ⟨m,hn,I.bk,Nat.le_trans I.ok.bsz I.ok.above⟩
theorem Inv.lt (I:Inv X aa σ H s):X.env.locals < s.heap.objs.size:=let ⟨_,hn,_⟩:=I.loc; hn.lt
theorem Inv.sz (I:Inv X aa σ H s):X.s₀.heap.objs.size <= s.heap.objs.size:=Nat.le_trans I.ok.above (Nat.le_of_lt I.lt)
theorem Inv.nofs (I:Inv X aa σ H s) {a:Addr} (h:s.heap.objs.size <= a):a ∉ X.fs:=fun hb=>by
 obtain ⟨_,o,ho,_⟩:=I.ok.funs.mem hb;exact absurd (Nat.lt_of_lt_of_le (lt_size ho) (Nat.le_trans I.sz h)) (Nat.lt_irrefl _)
theorem Inv.cne (I:Inv X aa σ H s):∀ x c,X.env.cells.lookup x=some c->c ≠ X.env.locals:=fun x c e z=>by
 obtain ⟨v,o,ho,hd⟩:=I.cell x c e;obtain ⟨m,⟨o',es,ep,ho',hd',_⟩,_⟩:=I.loc;rw [z,ho'] at ho; cases ho; rw [hd'] at hd; cases hd
theorem Inv.funs (I:Inv X aa σ H s):s.heap.FunFrames X.base X.outer:=by
 have all:∀ (l:List Env),(∀ b ∈ frs l,b ∈ X.fs)->X.s₀.heap.FunFrames X.base l->s.heap.FunFrames X.base l:=by
  intro l;induction l with
  | nil=>intro _ _; trivial
  | cons env r ih =>
   intro hs hl;obtain ⟨hk,⟨L,o,hf,hn,ho,hd⟩,hr⟩:=hl;have hL:L ∈ X.fs:=hs L (by unfold frs; rw [filterMap_cons,hf]; exact mem_cons_self);obtain ⟨sl,e⟩:=I.base.slot L o ho (I.ok.frf L hL) hL fun z=>I.ok.exfs L z hL;exact ⟨hk,⟨L,_,hf,hn,e,hd⟩,ih (fun b hb=>hs b (by unfold frs; rw [filterMap_cons,hf]; exact mem_cons_of_mem _ hb)) hr⟩
 exact all X.outer (fun _ hb=>hb) I.ok.funs
theorem Inv.stack (I:Inv X aa σ H s):s.heap.FunFrames X.base X.stack:=by
 rcases I.ok.stk with e | ⟨e,hf⟩
 ·rw [e]; exact I.funs
 ·rw [e];obtain ⟨m,hn,_⟩:=I.loc;refine .cons (by rw [I.ok.kind]; decide) hf hn ?_ I.funs;exact Heap.get?_none_of_le (Nat.le_trans I.ok.bsz I.ok.above)
theorem Inv.stkSub (I:Inv X aa σ H s):∀ b ∈ frs X.stack,b ∈ X.env.locals :: X.fs:=fun b hb=>by
 rcases I.ok.stk with e | ⟨e,hf⟩
 ·rw [e] at hb; exact mem_cons_of_mem _ hb
 ·rw [e] at hb;unfold frs at hb;rw [filterMap_cons,hf] at hb;exact hb
theorem Inv.stkFree (I:Inv X aa σ H s):∀ b ∈ frs X.stack,H b=none:=fun b hb=>by
 rcases mem_cons.mp (I.stkSub b hb) with e | hb
 ·rw [e]; exact I.free
 ·obtain ⟨_,o,ho,_⟩:=I.ok.funs.mem hb;exact I.base.free b o ho (I.ok.frf b hb) fun z=>I.ok.exfs b z hb
theorem Inv.step {g':Array GenState} {t':Nat} {d':Drawn} {ch:List Addr} (I:Inv X aa σ H s)
  (hch:∀ b ∈ ch,(b ∈ X.ex\/X.s₀.heap.objs.size <= b)/\b ≠ X.env.locals/\(∀ x c,X.env.cells.lookup x=some c->c ≠ b)/\∀ p ∈ X.pn++aa,p.1 ≠ b)
  (keep:∀ b o,b ≠ X.env.locals->b ∉ X.fs->b ∉ ch->s.heap.get? b=some o->H b=none->h'.get? b=some o)
  (slot:∀ b o,b ≠ X.env.locals->b ∈ X.fs->b ∉ ch->s.heap.get? b=some o->H b=none->∃ sl,h'.get? b=some { o with slots:=sl }) (free:∀ b o,b ∉ ch->s.heap.get? b=some o->H b=none->H' b=none)
  (there:∀ b o,b ∉ ch->s.heap.get? b=some o->∃ o',h'.get? b=some o')
  (tups:∀ b xs,H b=some (.tup xs)->H' b=some (.tup xs)) (frzs:∀ b o u,H b=some (.frz o u)->H' b=some (.frz o u)) (tbls:∀ b ps,H b=some (.tbl ps)->∃ more,H' b=some (.tbl (ps++more)))
  (ns:∀ m,s.heap.Ns X.env.locals m->h'.Ns X.env.locals m) (hok:HOk X.prog X.w H' h') (hg:AllBare g') :
  Inv X aa σ H' { s with heap:=h',gens:=g',drawn:=d',toks:=t' }:=by
 have neL:∀ b o,X.s₀.heap.get? b=some o->b ≠ X.env.locals:=fun b o e=>Nat.ne_of_lt (Nat.lt_of_lt_of_le (lt_size e) I.ok.above)
 have neC:∀ b o,X.s₀.heap.get? b=some o->b ∉ X.ex->b ∉ ch:=fun b o e hx hb=>by
  rcases (hch b hb).1 with z | z
  ·exact hx z
  ·exact absurd (Nat.lt_of_lt_of_le (lt_size e) z) (Nat.lt_irrefl _)
 have cellK:∀ x c,X.env.cells.lookup x=some c->∀ v,s.heap.IsCell c v->h'.IsCell c v:=fun x c e v ⟨o,ho,hd⟩=>by
  have nch:c ∉ ch:=fun z=>(hch c z).2.2.1 x c e rfl;by_cases hc:c ∈ X.fs
  ·obtain ⟨sl,q⟩:=slot c o (I.cne x c e) hc nch ho (I.freeC x c e);exact ⟨_,q,hd⟩
  ·exact ⟨o,keep c o (I.cne x c e) hc nch ho (I.freeC x c e),hd⟩
 refine ⟨I.ok,I.os,hg,⟨fun b o e n hb hx=>?_,fun b o e n hb hx=>?_,fun b o e n hx=>?_,fun b o e hx=>?_,fun b xs e=>tups b xs (I.base.tups b xs e),fun b o xs e=>frzs b o xs (I.base.frzs b o xs e),fun b ps e=>?_⟩,?_,fun x c e=>?_,?_,fun x c e=>?_,fun p hp=>?_,hok,I.len⟩
 ·exact keep b o (neL b o e) hb (neC b o e hx) (I.base.keep b o e n hb hx) (I.base.free b o e n hx)
 ·obtain ⟨sl,e1⟩:=I.base.slot b o e n hb hx;obtain ⟨sl',e2⟩:=slot b _ (neL b o e) hb (neC b o e hx) e1 (I.base.free b o e n hx);exact ⟨sl',e2⟩
 ·obtain ⟨o',e1⟩:=I.base.there b o e hx;exact free b o' (neC b o e hx) e1 (I.base.free b o e n hx)
 ·obtain ⟨o',e1⟩:=I.base.there b o e hx;exact there b o' (neC b o e hx) e1
 ·obtain ⟨m1,e1⟩:=I.base.tbls b ps e;obtain ⟨m2,e2⟩:=tbls b _ e1;exact ⟨m1++m2,by rw [e2,Array.append_assoc]⟩
 ·obtain ⟨m,hn,hl⟩:=I.loc;refine ⟨m,ns m hn,fun i x v e1 e2 e3=>?_⟩;obtain ⟨u,r,l⟩:=hl i x v e1 e2 e3;refine ⟨u,r,?_⟩;rcases l with l | ⟨k,c,e,z⟩
  ·exact .inl l
  ·exact .inr ⟨k,c,e,cellK x c e _ z⟩
 ·obtain ⟨v,z⟩:=I.cell x c e;exact ⟨v,cellK x c e v z⟩
 ·obtain ⟨m,⟨o,_,_,ho,_⟩,_⟩:=I.loc;exact free _ o (fun z=>(hch _ z).2.1 rfl) ho I.free
 ·obtain ⟨v,o,ho,hd⟩:=I.cell x c e;exact free c o (fun z=>(hch c z).2.2.1 x c e rfl) ho (I.freeC x c e)
 ·obtain ⟨e,n,ne,nf,d⟩:=I.pin p hp;have nch:p.1 ∉ ch:=fun z=>(hch p.1 z).2.2.2 p hp rfl;exact ⟨keep p.1 p.2 ne nf nch e n,free p.1 p.2 nch e n,ne,nf,d⟩
theorem Inv.un {t':Nat} (I:Inv X aa σ H s) (u:Un X.fs [] H H' s.heap h') (hok:HOk X.prog X.w H' h'):Inv X aa σ H' { s with heap:=h',toks:=t' }:=by
 obtain ⟨m,⟨o,es,ep,ho,r⟩,_⟩:=id I.loc;obtain ⟨sl,hL⟩:=u.any ho I.free (by simp)
 exact I.step (g':=s.gens) (d':=s.drawn) (ch:=[]) (fun _ z=>nomatch z) (fun b o _ hb _ e n=>u.keep b o e n hb (by simp)) (fun b o _ hb _ e n=>u.slot b o e n hb (by simp)) (fun b o _ e n=>u.free b o e n (by simp)) (fun b o _ e=>u.there b o e (by simp)) u.tups u.frzs u.tbls (fun m' hm=>by
  obtain ⟨o',es',ep',ho',r'⟩:=hm;rw [ho] at ho'; cases ho'
  exact ⟨_,es',ep',hL,r'⟩) hok I.bare
theorem Inv.call {g':Array GenState} {t':Nat} {d':Drawn} {ch:List Addr} (I:Inv X aa σ H s) (u:Un (frs X.stack) ch H H' s.heap h') (hok:HOk X.prog X.w H' h') (hg:AllBare g')
  (hch:∀ b ∈ ch,(b ∈ X.ex\/X.s₀.heap.objs.size <= b)/\b ≠ X.env.locals/\(∀ x c,X.env.cells.lookup x=some c->c ≠ b)/\∀ p ∈ X.pn++aa,p.1 ≠ b) :
  Inv X aa σ H' { s with heap:=h',gens:=g',drawn:=d',toks:=t' }:=by
 obtain ⟨m,⟨o,es,ep,ho,r⟩,_⟩:=id I.loc;obtain ⟨sl,hL⟩:=u.any ho I.free fun z=>(hch _ z).2.1 rfl
 exact I.step (ch:=ch) hch (fun b o hL hb hc e n=>u.keep b o e n (fun z=>(mem_cons.mp (I.stkSub b z)).elim hL hb) hc) (fun b o _ _ hc e n=>u.any e n hc) (fun b o hc e n=>u.free b o e n hc) (fun b o hc e=>u.there b o e hc) u.tups u.frzs u.tbls (fun m' hm=>by
  obtain ⟨o',es',ep',ho',r'⟩:=hm;rw [ho] at ho'; cases ho'
  exact ⟨_,es',ep',hL,r'⟩) hok hg
theorem Inv.turned {t':Nat} {it:Addr} (I:Inv X aa σ H s) (k:∀ b o,b ≠ it->s.heap.get? b=some o->h'.get? b=some o) (hn:H it=none) (hL:it ≠ X.env.locals)
  (h1:it ∈ X.ex\/X.s₀.heap.objs.size <= it) (h2:∀ x c,X.env.cells.lookup x=some c->c ≠ it) (h3:∀ p ∈ X.pn++aa,p.1 ≠ it):Inv X aa σ H { s with heap:=h',toks:=t' }:=by
 have nit:∀ b u,H b=some u->b ≠ it:=fun b u e z=>by rw [z,hn] at e; cases e
 refine I.step (g':=s.gens) (d':=s.drawn) (ch:=[it]) (fun b hb=>?_) (fun b o _ _ hc e _=>k b o (fun z=>hc (by simp [z])) e) (fun b o _ _ hc e _=>⟨o.slots,k b o (fun z=>hc (by simp [z])) e⟩) (fun _ _ _ _ n=>n)
  (fun b o hc e=>⟨o,k b o (fun z=>hc (by simp [z])) e⟩) (fun _ _ e=>e) (fun _ _ _ e=>e) (fun b ps e=>⟨#[],by rw [e]; simp⟩) (fun m hm=>?_) (fun b u e=>?_) I.bare
 ·have e:b=it:=by simpa using hb
  subst e;exact ⟨h1,hL,h2,h3⟩
 ·obtain ⟨o,es,ep,ho,r⟩:=hm;exact ⟨o,es,ep,k _ o (Ne.symm hL) ho,r⟩
 ·refine (I.hok b u e).stay (fun c v hc q=>k c v ?_ q) (fun _ q=>q) fun _ _ q=>q;rcases hc with z | z
  ·rw [z]; exact nit b u e
  ·exact nit c _ z
theorem Inv.tok (I:Inv X aa σ H s) (t:Nat):Inv X aa σ H { s with toks:=t }:=I.un (h':=s.heap) (t':=t) Un.refl I.hok
theorem Inv.kept {t':Nat} (I:Inv X aa σ H s) (k:∀ b u,s.heap.get? b=some u->h'.get? b=some u):Inv X aa σ H { s with heap:=h',toks:=t' }:=I.un (Un.kept k) (I.hok.kept k)
theorem Inv.laid {a:Addr} {o:HO} {t':Nat} (I:Inv X aa σ H s) (k:∀ b u,s.heap.get? b=some u->h'.get? b=some u) (hp:s.heap.objs.size <= a) (new:ObjOk X.prog X.w (upd H a o) h' a o) :
  Inv X aa σ (upd H a o) { s with heap:=h',toks:=t' }:=I.un (Un.laid k hp (I.hok.fresh hp)) (I.hok.laid k hp new)
theorem Inv.write {x e:Addr} {o:HO} {t':Nat} (I:Inv X aa σ H s) (mu:Mut (H x)) (he:e=x\/H e=some (.own x)) (k:∀ b u,b ≠ e->s.heap.get? b=some u->h'.get? b=some u) (heo:∃ u,h'.get? e=some u)
  (new:ObjOk X.prog X.w (upd H x o) h' x o):Inv X aa σ (upd H x o) { s with heap:=h',toks:=t' }:=I.un (Un.write mu he k heo) (I.hok.write mu he k heo new)
theorem Inv.weak {σ':List (Option V)} (I:Inv X aa σ H s) (hl:σ'.length=σ.length) (w:∀ (i:Nat) v,σ'[i]?=some (some v)->σ[i]?=some (some v)):Inv X aa σ' H s :=
 ⟨I.ok,I.os,I.bare,I.base,let ⟨m,hn,hl'⟩:=I.loc; ⟨m,hn,fun i x v e1 e2 e3=>hl' i x v e1 (w i v e2) e3⟩,I.cell,I.free,I.freeC,I.pin,I.hok,hl.trans I.len⟩
theorem Inv.pins_of {pins':LO} (I:Inv X aa σ H s) (h:∀ p ∈ pins',s.heap.get? p.1=some p.2/\H p.1=none/\p.1 ≠ X.env.locals/\p.1 ∉ X.fs/\∀ v,p.2.data ≠ .cell v):Inv X pins' σ H s :=
 ⟨I.ok,I.os,I.bare,I.base,I.loc,I.cell,I.free,I.freeC,fun p hp=>(mem_append.mp hp).elim (fun z=>I.pin p (mem_append_left _ z)) (h p),I.hok,I.len⟩
theorem Iy {N:List Str} (hN:N.Nodup) {i j:Nat} {x:Str} (a:N[i]?=some x) (b:N[j]?=some x):i=j:=by
 obtain ⟨h1,e1⟩:=List.getElem?_eq_some_iff.mp a;obtain ⟨h2,e2⟩:=List.getElem?_eq_some_iff.mp b;exact (List.getElem_inj hN).mp (e1.trans e2.symm)
theorem G6 {M:Model} {A:Around} {E:VS} {i:Nat} {x:Str} {v:V} {u:Value} {Q:Unit->Shared->Prop} (I:Inv X aa σ H s) (hN:X.N.Nodup) (hi:X.N[i]?=some x) (hx:Loc X.env.scope x) (r:RelV v u)
  (h:∀ s',Inv X aa (σ.set i (some v)) H s'->(∃ a,Heap.SameBut a s.heap s'.heap/\(a=X.env.locals\/X.env.cells.lookup x=some a))->Q () s') (hf:X.fn x=true\/X.env.scope.names.lookup x=some .local:=by first | exact .inl rfl | exact .inr rfl | assumption):wpAny M A (storeName X.env x u) Q E s:=by
 obtain ⟨m,hn,hl⟩:=id I.loc;have bi:(X.env.scope.kind == .class || (X.env.scope.kind == .module && X.env.locals != X.env.globals))=false:=by rw [I.ok.kind]; rfl
 have hiσ:i < σ.length:=by rw [I.len]; exact (List.getElem?_eq_some_iff.mp hi).1
 have cne:=I.cne
 have tracked:∀ {a:Addr} {h':Heap},(∃ o,s.heap.get? a=some o/\H a=none)->Heap.SameBut a s.heap h'->HOk X.prog X.w H h':=fun {a h'} ha hs b ob e=>by
  obtain ⟨_,_,bx⟩:=ha;refine (I.hok b ob e).stay (fun c w' hc q=>(hs.2 c ?_).trans q) (fun _ q=>q) fun _ _ q=>q;rintro rfl;rcases hc with rfl | hc
  ·rw [bx] at e; cases e
  ·rw [bx] at hc; cases hc
 rcases hx with hk | hk
 ·refine wpAny_storeName_local hk hn (fun h' hn' hs=>?_) bi;obtain ⟨oL,_,_,hoL,_⟩:=id hn;refine h _ ⟨I.ok,I.os,I.bare,⟨fun b o e n hb hx=>?_,fun b o e n hb hx=>?_,I.base.free,fun b o e hx=>?_,I.base.tups,I.base.frzs,I.base.tbls⟩,⟨_,hn',fun j y v' e1 e2 e3=>?_⟩,fun y c e=>?_,I.free,I.freeC,fun p hp=>?_,tracked ⟨oL,hoL,I.free⟩ hs,by simpa using I.len⟩ ⟨_,hs,.inl rfl⟩
  ·exact (hs.2 b (Nat.ne_of_lt (Nat.lt_of_lt_of_le (lt_size e) I.ok.above))).trans (I.base.keep b o e n hb hx)
  ·obtain ⟨sl,e1⟩:=I.base.slot b o e n hb hx;exact ⟨sl,(hs.2 b (Nat.ne_of_lt (Nat.lt_of_lt_of_le (lt_size e) I.ok.above))).trans e1⟩
  ·obtain ⟨o',e1⟩:=I.base.there b o e hx;exact ⟨o',(hs.2 b (Nat.ne_of_lt (Nat.lt_of_lt_of_le (lt_size e) I.ok.above))).trans e1⟩
  ·by_cases hj:j=i
   ·subst hj;rw [hi] at e1; cases e1;rw [List.getElem?_set_self hiσ] at e2;cases e2;exact ⟨u,r,.inl ⟨hk,by simp⟩⟩
   ·rw [List.getElem?_set_ne (Ne.symm hj)] at e2;obtain ⟨u',r',q⟩:=hl j y v' e1 e2 e3;refine ⟨u',r',?_⟩;rcases q with ⟨k,e⟩ | ⟨k,c,e,z⟩
    ·refine .inl ⟨k,?_⟩;have:y ≠ x:=fun e=>hj (Iy hN e1 (e ▸ hi));simp [this,e]
    ·exact .inr ⟨k,c,e,z.sameBut hs (cne y c e)⟩
  ·obtain ⟨w',z⟩:=I.cell y c e;exact ⟨w',z.sameBut hs (cne y c e)⟩
  ·obtain ⟨e,n,ne,nf,d⟩:=I.pin p hp;exact ⟨(hs.2 p.1 ne).trans e,n,ne,nf,d⟩
 ·have hfn:X.fn x=true:=by
   rcases hf with z | z
   ·exact z
   ·rw [z] at hk; cases hk
  obtain ⟨c,hc⟩:=I.ok.has x (.inl hk);obtain ⟨w',z⟩:=I.cell x c hc;refine wpAny_storeName_cell I.ok.kind hk hc z (fun h' hc' hs=>?_);obtain ⟨oc,hoc,hocd⟩:=id z;refine h { s with heap:=h' } ⟨I.ok,I.os,I.bare,⟨fun b o e n hb hx=>?_,fun b o e n hb hx=>?_,I.base.free,fun b o e hx=>?_,I.base.tups,I.base.frzs,I.base.tbls⟩,⟨m,hn.sameBut hs (Ne.symm (cne x c hc)),fun j y v' e1 e2 e3=>?_⟩,fun y c' e=>?_,I.free,I.freeC,fun p hp=>?_,tracked ⟨oc,hoc,I.freeC x c hc⟩ hs,by simpa using I.len⟩ ⟨c,hs,.inr hc⟩
  ·exact (hs.2 b (Nat.ne_of_lt (Nat.lt_of_lt_of_le (lt_size e) (I.ok.cab x c hfn hc)))).trans (I.base.keep b o e n hb hx)
  ·obtain ⟨sl,e1⟩:=I.base.slot b o e n hb hx;exact ⟨sl,(hs.2 b (Nat.ne_of_lt (Nat.lt_of_lt_of_le (lt_size e) (I.ok.cab x c hfn hc)))).trans e1⟩
  ·obtain ⟨o',e1⟩:=I.base.there b o e hx;exact ⟨o',(hs.2 b (Nat.ne_of_lt (Nat.lt_of_lt_of_le (lt_size e) (I.ok.cab x c hfn hc)))).trans e1⟩
  ·by_cases hj:j=i
   ·subst hj;rw [hi] at e1; cases e1;rw [List.getElem?_set_self hiσ] at e2;cases e2;exact ⟨u,r,.inr ⟨.inl hk,c,hc,hc'⟩⟩
   ·rw [List.getElem?_set_ne (Ne.symm hj)] at e2;obtain ⟨u',r',q⟩:=hl j y v' e1 e2 e3;refine ⟨u',r',?_⟩;rcases q with q | ⟨k,c',e,z'⟩
    ·exact .inl q
    ·refine .inr ⟨k,c',e,z'.sameBut hs ?_⟩;rintro rfl;exact hj (Iy hN e1 (I.ok.inj _ _ _ e hc ▸ hi))
  ·by_cases hcc:c'=c
   ·subst hcc; exact ⟨_,hc'⟩
   ·obtain ⟨w2,z2⟩:=I.cell y c' e;exact ⟨w2,z2.sameBut hs hcc⟩
  ·obtain ⟨e,n,ne,nf,d⟩:=I.pin p hp;refine ⟨(hs.2 p.1 ?_).trans e,n,ne,nf,d⟩;intro q;rw [q,hoc] at e;have q':oc=p.2:=Option.some.inj e;exact d w' (by rw [← q']; exact hocd)
theorem CL {M:Model} {A:Around} {E:VS} {i:Nat} {x:Str} {v:V} {u:Value} {Q:Unit->Shared->Prop} (I:Inv X aa σ H s) (hN:X.N.Nodup) (hi:X.N[i]?=some x) (hx:Loc X.env.scope x) (r:RelV v u)
  (h:∀ s',Inv X aa (σ.set i (some v)) H s'->Q () s') (hf:X.fn x=true\/X.env.scope.names.lookup x=some .local:=by first | exact .inl rfl | exact .inr rfl | assumption):wpAny M A (storeName X.env x u) Q E s :=
 G6 I hN hi hx r (fun s' I' _=>h s' I') hf
theorem Inv.call' {s':Shared} {ch:List Addr} (I:Inv X aa σ H s) (ho:s'.os=s.os) (u:Un (frs X.stack) ch H H' s.heap s'.heap) (hok:HOk X.prog X.w H' s'.heap) (hg:AllBare s'.gens)
  (hch:∀ b ∈ ch,(b ∈ X.ex\/X.s₀.heap.objs.size <= b)/\b ≠ X.env.locals/\(∀ x c,X.env.cells.lookup x=some c->c ≠ b)/\∀ p ∈ X.pn++aa,p.1 ≠ b):Inv X aa σ H' s':=by
 obtain ⟨h',g',d',t',o'⟩:=s';have e:o'=s.os:=ho;subst e;exact I.call (g':=g') (t':=t') (d':=d') u hok hg hch
end
abbrev XK:=Value->Option Addr->Hp->Prop
abbrev St:=List (Option V)
abbrev VK:=V->Hp->Prop
abbrev TE:=St->Hp->VK->Prop
abbrev TT:=St->Hp->(Bool->Hp->Prop)->Prop
abbrev TA:=St->Hp->(List V->Hp->Prop)->Prop
structure Db where
 nx:St->Hp->Prop
 rt:VK
 bk:St->Hp->Prop:=fun _ _=>False
 ct:St->Hp->Prop:=fun _ _=>False
abbrev TS:=Db->St->Hp->Prop
inductive EP (X:Cx) (aa:LO) (σ:St) (Q:VK) (u:Value) (s':Shared):Prop where
 | mk (v:V) (H':Hp) (i:Inv X aa σ H' s') (r:RelV v u) (q:Q v H'):EP X aa σ Q u s'
def TP (X:Cx) (aa:LO) (σ:St) (Q:Bool->Hp->Prop) (b:Bool) (s':Shared):Prop:=∃ H',Inv X aa σ H' s'/\Q b H'
inductive AP (X:Cx) (aa:LO) (σ:St) (Q:List V->Hp->Prop) (us:List Value) (s':Shared):Prop where
 | mk (vs:List V) (H':Hp) (i:Inv X aa σ H' s') (r:Vals vs us) (q:Q vs H'):AP X aa σ Q us s'
def SP (X:Cx) (aa:LO) (D:Db) (f:Flow) (s':Shared):Prop :=
 match f with
 | .next=>∃ σ' H',Inv X aa σ' H' s'/\D.nx σ' H'
 | .brk=>∃ σ' H',Inv X aa σ' H' s'/\D.bk σ' H'
 | .cont=>∃ σ' H',Inv X aa σ' H' s'/\D.ct σ' H'
 | .ret u=>∃ v σ' H',Inv X aa σ' H' s'/\RelV v u/\D.rt v H'
def PE (X:Cx) (e:Expr) (t:TE):Prop :=
 ∀ (aa:LO) (s:Shared) (σ:St) (H:Hp) (Q:VK),Inv X aa σ H s->t σ H Q->wpAny (model X.prog X.w) X.A (eval e X.env) (EP X aa σ Q) X.xe s
def PT (X:Cx) (e:Expr) (t:TT):Prop :=
 ∀ (aa:LO) (s:Shared) (σ:St) (H:Hp) (Q:Bool->Hp->Prop),Inv X aa σ H s->t σ H Q->wpAny (model X.prog X.w) X.A (isTrue e X.env (eval e X.env)) (TP X aa σ Q) X.xe s
def PW (X:Cx) (e:Expr) (t:TT):Prop :=
 ∀ (whole:Sem Value) (aa:LO) (s:Shared) (σ:St) (H:Hp) (Q:Bool->Hp->Prop),Inv X aa σ H s->t σ H Q->wpAny (model X.prog X.w) X.A (isTrue e X.env whole) (TP X aa σ Q) X.xe s
theorem PW.pt {X:Cx} {e:Expr} {t:TT} (h:PW X e t):PT X e t:=h _
def PA (X:Cx) (es:List Expr) (t:TA):Prop :=
 ∀ (pos:Pos) (aa:LO) (s:Shared) (σ:St) (H:Hp) (Q:List V->Hp->Prop),Inv X aa σ H s->t σ H Q->wpAny (model X.prog X.w) X.A (spliced (backTo pos (starEach es X.env))) (AP X aa σ Q) X.xe s
def PS (X:Cx) (st:Stmt) (t:TS):Prop :=
 ∀ (aa:LO) (s:Shared) (σ:St) (H:Hp) (D:Db),Inv X aa σ H s->t D σ H->wpAny (model X.prog X.w) X.A (exec st X.env) (SP X aa D) X.xe s
def PSs (X:Cx) (st:List Stmt) (t:TS):Prop :=
 ∀ (aa:LO) (s:Shared) (σ:St) (H:Hp) (D:Db),Inv X aa σ H s->t D σ H->wpAny (model X.prog X.w) X.A (execs st X.env) (SP X aa D) X.xe s
theorem thn {α:Type} {t:Sem α} {Q Q':α->Shared->Prop} {M:Model} {A:Around} {E:VS} {s:Shared} (h:wpAny M A t Q E s) (hQ:∀ a s,Q a s->Q' a s):wpAny M A t Q' E s:=wpAny_mono h hQ fun _ _ x=>x
end L2
variable {X:L2.Cx} {H:L2.Hp} {H':L2.Hp} {s:PySem.Shared} {pos:PySem.Pos} {σ:L2.St} {P:PySem.Program} {w:PySem.World} {A:PySem.Around} {aa:LO} {x:PySem.Str} {a:PySem.Addr} {K:FG} {C:PySem.Addr} {E:VS} {h:PySem.Heap} {us:List PySem.Value} {f:PySem.Addr} {u:PySem.Value} {xs:List L2.V} {e:PySem.Expr} {te:L2.TE} {base:PySem.Heap} {N:List PySem.Str} {mg:SV}
namespace L2
open PySem PySem.Spec PyProof.Rows
section
inductive ExV (o:Option (Option V)) (k:V->Prop):Prop where
 | mk (v:V) (h:o=some (some v)) (q:k v):ExV o k
inductive ExB (x:V) (k:Bool->Prop):Prop where
 | mk (c:Bool) (h:x=.bl c) (q:k c):ExB x k
inductive ExI (x y:V) (k:Int->Int->Prop):Prop where
 | mk (i j:Int) (h:x=.int i) (h':y=.int j) (q:k i j):ExI x y k
def Hw (i:Nat):TE:=fun σ H Q=>ExV σ[i]? fun v=>Q v H
def tC (v:V):TE:=fun _ H Q=>Q v H
theorem KK {i:Nat} (hN:X.N[i]?=some x) (hv:Vis X.env.scope x) (hd:(x == ("__debug__" : Str))=false:=by decide) (hcd:(x == ("__classdict__" : Str))=false:=by decide):PE X (.Name x pos) (Hw i):=by
 intro aa s σ H Q I h;obtain ⟨v,e,h⟩:=h;obtain ⟨m,hn,hl⟩:=I.loc;obtain ⟨u,r,l⟩:=hl i x v hN e hv;have fin:EP X aa σ Q u s:=⟨v,H,I,r,h⟩;rcases l with ⟨hk,hm⟩ | ⟨hk,c,hc,be⟩
 ·exact wpAny_Name (wpAny_loadName_local I.ok.kind hk hn hm fin) hd
 ·rcases hk with hk | hk
  ·exact wpAny_Name (wpAny_loadName_cell I.ok.kind hk hc be fin) hd
  ·exact wpAny_Name (wpAny_loadName_free I.ok.kind hk hc be fin hcd) hd
theorem AI {i j pos}:PE X (.Constant (.int i) j pos) (tC (.int i)):=fun _ _ _ H _ I h=>wpAny_Constant_int ⟨.int i,H,I.tok _,⟨_,rfl⟩,h⟩
theorem Nw {b j pos}:PE X (.Constant (.bool b) j pos) (tC (.bl b)):=fun _ _ _ H _ I h=>Constant_bool ⟨.bl b,H,I,rfl,h⟩
theorem Rg {j pos}:PE X (.Constant .none j pos) (tC .non):=fun _ _ _ H _ I h=>Constant_none ⟨.non,H,I,rfl,h⟩
theorem Af {x j pos}:PE X (.Constant (.str x) j pos) (tC (.str x)):=fun _ _ _ H _ I h=>Calls.Constant_str ⟨.str x,H,I.tok _,⟨_,rfl⟩,h⟩
def Gl (X:Cx) (x:Str):Prop:=X.env.kindOf x=some .globalImplicit
theorem Bp {Q:VS} (I:Inv X aa σ H s) (hg:Gl X x) (hm:X.mg x=some u) (h:Q u s)
  (hd:(x == ("__debug__" : Str))=false:=by decide):wpAny (model X.prog X.w) X.A (eval (.Name x pos) X.env) Q E s :=
 Calls.Name_function_global I.ok.kind hg (Calls.loadGlobal_global (by rw [I.ok.glob]; exact I.mod.glob.keeps I.bk) hm h) hd
theorem Dc {Q:VS} (I:Inv X aa σ H s) (hg:Gl X x) (hm:X.mg x=none) (hv:bootBuiltins x=some u) (h:Q u s)
  (hn:x ≠ "__name__" := by decide) (hd:(x == ("__debug__" : Str))=false:=by decide):wpAny (model X.prog X.w) X.A (eval (.Name x pos) X.env) Q E s:=by
 obtain ⟨mb,h1,h2⟩:=I.mod.blt;exact Calls.Name_function_global I.ok.kind hg (Calls.loadGlobal_builtin (by rw [I.ok.glob]; exact I.mod.glob.keeps I.bk) hm (by rw [I.ok.blt]; exact h1.keeps I.bk) ((h2 x hn).trans hv) h) hd
theorem BE {v:V} (hg:Gl X x) (hm:X.mg x=some u) (r:RelV v u) (hd:(x == ("__debug__" : Str))=false:=by decide):PE X (.Name x pos) (tC v) :=
 fun _ _ _ H _ I h=>Bp I hg hm ⟨v,H,I,r,h⟩ hd
theorem Lm {v:V} (hg:Gl X x) (hm:X.mg x=none) (hv:bootBuiltins x=some u) (r:RelV v u) (hn:x ≠ "__name__" := by decide) (hd:(x == ("__debug__" : Str))=false:=by decide):PE X (.Name x pos) (tC v) :=
 fun _ _ _ H _ I h=>Dc I hg hm hv ⟨v,H,I,r,h⟩ hn hd
variable {a b:Expr} {ta tb:TE}
def PC (X:Cx) (op:CmpOp) (a b:Expr) (t:TE):Prop :=
 ∀ (aa:LO) (s:Shared) (σ:St) (H:Hp) (Q:VK),Inv X aa σ H s->t σ H Q ->
  wpAny (model X.prog X.w) X.A (eval a X.env) (fun v s₁=>wpAny (model X.prog X.w) X.A (eval b X.env) (fun u s₂=>wpAny (model X.prog X.w) X.A (compareOp op v u) (EP X aa σ Q) X.xe s₂) X.xe s₁) X.xe s
theorem Iz (b:Expr) {op:CmpOp} (h:op ≠ .In) (h2:op ≠ .NotIn):behindInMarks op b=false:=by
 have e1:(op == CmpOp.In)=false:=by cases op <;> first | rfl | exact absurd rfl h
 have e2:(op == CmpOp.NotIn)=false:=by cases op <;> first | rfl | exact absurd rfl h2
 cases b <;> simp [behindInMarks,e1,e2]
def Te (ta:TE):TE:=fun σ H Q=>ta σ H fun x H1=>Q (.bl (decide (x=.non))) H1
theorem RelV.none_iff {x:V} {v:Value} (r:RelV x v):(v == Value.none)=decide (x=.non):=by
 cases x with
 | non=>cases r; rfl
 | bl _=>cases r; rfl
 | int _=>obtain ⟨t,rfl⟩:=r; rfl
 | str _=>obtain ⟨t,rfl⟩:=r; rfl
 | byt _=>obtain ⟨t,rfl⟩:=r; rfl
 | flt _=>obtain ⟨t,rfl⟩:=r; rfl
 | ref _=>cases r; rfl
 | ty _=>cases r; rfl
theorem KL {j pos'} (ha:PE X a ta):PC X .Is a (.Constant .none j pos') (Te ta):=by
 intro aa s σ H Q I h;refine thn (ha aa s σ H _ I h) fun v s1 ⟨x,H1,I1,r1,q1⟩=>?_;exact Constant_none (is_none_gen ⟨.bl _,H1,I1,by rw [r1.none_iff]; rfl,q1⟩)
def tB (t:TE):TT:=fun σ H Q=>t σ H fun x H1=>ExB x fun c=>Q c H1
theorem Rh {op:CmpOp} {t:TE} (h:PC X op a b t) (h1:behindInMarks op b=false:=by first | exact Iz _ (by decide) (by decide) | rfl):PE X (.Compare a [op] [b] pos) t:=fun aa s σ H Q I hw=>wpAny_Compare1 (h aa s σ H Q I hw) h1
theorem Fg {op:CmpOp} {t:TE} (h:PC X op a b t) (h1:behindInMarks op b=false:=by first | exact Iz _ (by decide) (by decide) | rfl):PT X (.Compare a [op] [b] pos) (tB t):=by
 intro aa s σ H Q I hw;refine wpAny_isTrue_Compare1 (thn (h aa s σ H _ I hw) fun v s1 h1=>thn h1 fun u s2 h2=>thn h2 fun c s3 ⟨x,H1,I1,r1,q1⟩=>?_) h1;obtain ⟨d,rfl,q⟩:=q1;cases r1;exact wpAny_truthy_bool ⟨H1,I1,q⟩
theorem Bd {t:TE} (h:PE X e t) (he:∀ whole,isTrue e X.env whole=(do let v ← whole; standAt e.pos; holding [v] (truthy v)):=by intro _; rfl):PT X e (tB t):=by
 intro aa s σ H Q I hw;refine isTrue_plain (thn (h aa s σ H _ I hw) fun v s1 ⟨x,H1,I1,r1,q1⟩=>?_) (he _);obtain ⟨d,rfl,q⟩:=q1;cases r1;exact wpAny_truthy_bool ⟨H1,I1,q⟩
variable {tA tB':TT} {rest:List Expr}
def Sj (t u:TT):TT:=fun σ H Q=>t σ H fun c H1=>if c=true then u σ H1 Q else Q false H1
def tOr (t u:TT):TT:=fun σ H Q=>t σ H fun c H1=>if c=true then Q true H1 else u σ H1 Q
def Tf (t:TT):TT:=fun σ H Q=>t σ H fun c H1=>Q (!c) H1
theorem FS (ha:PT X a tA):PW X (.BoolOp .And [a] pos) tA:=by
 intro wh aa s σ H Q I h;refine isTrue_and (thn (ha aa s σ H Q I h) fun c s1 e=>?_);cases c with
 | true=>exact isTrue_and_nil e
 | false=>exact e
theorem Cq (ha:PT X a tA):PW X (.BoolOp .Or [a] pos) tA:=by
 intro wh aa s σ H Q I h;refine isTrue_or (thn (ha aa s σ H Q I h) fun c s1 e=>?_);cases c with
 | false=>exact isTrue_or_nil e
 | true=>exact e
theorem Hx (ha:PT X a tA) (hb:PW X (.BoolOp .And (b :: rest) pos) tB'):PW X (.BoolOp .And (a :: b :: rest) pos) (Sj tA tB'):=by
 intro wh aa s σ H Q I h;refine isTrue_and (thn (ha aa s σ H _ I h) fun c s1 ⟨H1,I1,q1⟩=>?_);cases c with
 | true=>exact hb wh aa s1 σ H1 Q I1 q1
 | false=>exact ⟨H1,I1,q1⟩
theorem FA (ha:PT X a tA) (hb:PW X (.BoolOp .Or (b :: rest) pos) tB'):PW X (.BoolOp .Or (a :: b :: rest) pos) (tOr tA tB'):=by
 intro wh aa s σ H Q I h;refine isTrue_or (thn (ha aa s σ H _ I h) fun c s1 ⟨H1,I1,q1⟩=>?_);cases c with
 | true=>exact ⟨H1,I1,q1⟩
 | false=>exact hb wh aa s1 σ H1 Q I1 q1
theorem Bn (ha:PT X a tA):PT X (.UnaryOp .Not a pos) (Tf tA):=by
 intro aa s σ H Q I h;exact isTrue_not (ha aa s σ H (fun c H1=>Q (!c) H1) I h)
def Sk (ta tb:TE):TE:=fun σ H Q=>ta σ H fun x H1=>ExB x fun c=>if c=true then tb σ H1 Q else Q (.bl false) H1
def Sl (ta:TE):TE:=fun σ H Q=>ta σ H fun x H1=>ExB x fun c=>Q (.bl (!c)) H1
theorem Cr {op} {t:TE} (h:PE X a t):PE X (.BoolOp op [a] pos) t:=fun aa s σ H Q I hw=>BoolOp_one (h aa s σ H Q I hw)
theorem CG (ha:PE X a ta) (hb:PE X (.BoolOp .And (b :: rest) pos) tb):PE X (.BoolOp .And (a :: b :: rest) pos) (Sk ta tb):=by
 intro aa s σ H Q I h;refine BoolOp_and (thn (ha aa s σ H _ I h) fun v s1 ⟨x,H1,I1,r1,q1⟩=>?_);obtain ⟨c,rfl,q1⟩:=q1;cases r1;refine wpAny_truthy_bool ?_;cases c with
 | true=>exact hb aa s1 σ H1 Q I1 q1
 | false=>exact ⟨.bl false,H1,I1,rfl,q1⟩
theorem Ri (ha:PE X a ta):PE X (.UnaryOp .Not a pos) (Sl ta):=by
 intro aa s σ H Q I h;refine UnaryOp_ (thn (ha aa s σ H _ I h) fun v s1 ⟨x,H1,I1,r1,q1⟩=>?_);obtain ⟨c,rfl,q1⟩:=q1;cases r1;exact not_of (wpAny_truthy_bool ⟨.bl (!c),H1,I1,rfl,q1⟩)
def tIf (t:TT) (ta tb:TE):TE:=fun σ H Q=>t σ H fun c H1=>if c=true then ta σ H1 Q else tb σ H1 Q
theorem Nx {c:Expr} (hc:PT X c tA) (ha:PE X a ta) (hb:PE X b tb):PE X (.IfExp c a b pos) (tIf tA ta tb):=by
 intro aa s σ H Q I h;refine wpAny_IfExp (thn (hc aa s σ H _ I h) fun d s1 ⟨H1,I1,q1⟩=>?_);cases d with
 | true=>exact ha aa s1 σ H1 Q I1 q1
 | false=>exact hb aa s1 σ H1 Q I1 q1
end
end L2
namespace L2
open PySem PySem.Spec PyProof.Rows
def SqL (K:FG) (H:Hp) (a:Addr) (xs:List V):Prop :=
 Rd H a (.lst xs) \/
  ∃ (o:Obj) (its:Array Value) (n:Nat),K.lookup a=some o/\o.cls=.type "list" /\ o.dict=none/\o.data=.seq its n/\its.size <= sizeLine/\Vals xs its.toList
def SqT (K:FG) (H:Hp) (a:Addr) (xs:List V):Prop :=
 Rd H a (.tup xs) \/
  ∃ (o:Obj) (its:Array Value) (n:Nat),K.lookup a=some o/\o.cls=.type "tuple" /\ o.data=.seq its n/\its.size <= sizeLine/\Vals xs its.toList
noncomputable def Tg:Value->Option V
 | .none=>some .non
 | .bool b=>some (.bl b)
 | .int i _=>some (.int i)
 | .str x _=>some (.str x)
 | .bytes b _=>some (.byt b)
 | .float b _=>some (.flt b)
 | .ref a=>some (.ref a)
 | .type n=>some (.ty n)
 | _=>none
theorem RelV.abs {x:V} (r:RelV x u):Tg u=some x:=by
 cases x with
 | non=>cases r; rfl
 | bl _=>cases r; rfl
 | int _=>obtain ⟨t,rfl⟩:=r; rfl
 | str _=>obtain ⟨t,rfl⟩:=r; rfl
 | byt _=>obtain ⟨t,rfl⟩:=r; rfl
 | flt _=>obtain ⟨t,rfl⟩:=r; rfl
 | ref _=>cases r; rfl
 | ty _=>cases r; rfl
theorem RelV.inj {x y:V} {u:Value} (r:RelV x u) (q:RelV y u):x=y:=Option.some.inj (r.abs.symm.trans q.abs)
theorem Vals.inj:∀ {xs ys:List V} {us:List Value},Vals xs us->Vals ys us->xs=ys
 | _,_,_,.nil,.nil=>rfl
 | _,_,_,.cons r t,.cons r' t'=>by rw [r.inj r',Vals.inj t t']
section
variable {ys:List V}
theorem SqL.of (h:H a=some (.lst xs)):SqL K H a xs:=.inl (.inl h)
theorem SqT.of (h:H a=some (.tup xs)):SqT K H a xs:=.inl (.inl h)
theorem Inv.list (I:Inv X aa σ H s) (h:SqL X.K H a xs):∃ its:List Value,Vals xs its/\PlainL s.heap a its.toArray/\xs.length <= sizeLine:=by
 rcases h with h | ⟨o,its,n,hk,hc,hd,hs,hz,r⟩
 ·obtain ⟨z,its,n,r,e⟩:=h.ok I.hok;exact ⟨its,r,⟨_,n,e,rfl,rfl,rfl⟩,z⟩
 ·refine ⟨its.toList,r,⟨o,n,I.kIn a o hk,hc,hd,by simpa using hs⟩,?_⟩;have e:=r.length;simp only [Array.length_toList] at e;omega
theorem Inv.tuple (I:Inv X aa σ H s) (h:SqT X.K H a xs):∃ its:List Value,Vals xs its/\IsTup s.heap a its.toArray/\xs.length <= sizeLine:=by
 rcases h with h | ⟨o,its,n,hk,hc,hs,hz,r⟩
 ·obtain ⟨z,its,r,p⟩:=h.ok I.hok;exact ⟨its,r,p,z⟩
 ·refine ⟨its.toList,r,⟨o,I.kIn a o hk,hc,n,by simpa using hs⟩,?_⟩;have e:=r.length;simp only [Array.length_toList] at e;omega
theorem Inv.list_inj (I:Inv X aa σ H s) (h:SqL X.K H a xs) (h':SqL X.K H a ys):xs=ys:=by
 obtain ⟨its,r,⟨o,n,e,_,_,d⟩,_⟩:=I.list h;obtain ⟨its',r',⟨o',n',e',_,_,d'⟩,_⟩:=I.list h';rw [e] at e'; cases e';rw [d] at d';injection d' with d1 _
 have:its=its':=by simpa using congrArg Array.toList d1
 subst this;exact r.inj r'
theorem Inv.tuple_inj (I:Inv X aa σ H s) (h:SqT X.K H a xs) (h':SqT X.K H a ys):xs=ys:=by
 obtain ⟨its,r,⟨o,e,_,n,d⟩,_⟩:=I.tuple h;obtain ⟨its',r',⟨o',e',_,n',d'⟩,_⟩:=I.tuple h';rw [e] at e'; cases e';rw [d] at d';injection d' with d1 _
 have:its=its':=by simpa using congrArg Array.toList d1
 subst this;exact r.inj r'
end
noncomputable abbrev Cx.wish (X:Cx) (E:VS):Cx:={ X with xe:=E }
noncomputable abbrev Cx.nox (X:Cx):Cx:=X.wish fun _ _=>False
theorem Cx.Ok.wish {X:Cx} (ok:X.Ok) (E:VS):(X.wish E).Ok :=
 ⟨ok.mod,ok.kind,ok.glob,ok.blt,ok.above,ok.inj,ok.has,ok.cab,ok.hd,ok.frames,ok.stk,ok.exf,ok.bs,ok.bsz,ok.noex,ok.exfs,ok.funs,ok.frf⟩
theorem Cx.Ok.unwish (ok:(X.wish E).Ok):X.Ok :=
 ⟨ok.mod,ok.kind,ok.glob,ok.blt,ok.above,ok.inj,ok.has,ok.cab,ok.hd,ok.frames,ok.stk,ok.exf,ok.bs,ok.bsz,ok.noex,ok.exfs,ok.funs,ok.frf⟩
section
theorem Inv.wish (I:Inv X aa σ H s) (E:VS):Inv (X.wish E) aa σ H s:=⟨I.ok.wish E,I.os,I.bare,I.base,I.loc,I.cell,I.free,I.freeC,I.pin,I.hok,I.len⟩
theorem Inv.unwish (I:Inv (X.wish E) aa σ H s):Inv X aa σ H s:=⟨I.ok.unwish,I.os,I.bare,I.base,I.loc,I.cell,I.free,I.freeC,I.pin,I.hok,I.len⟩
theorem SP.unwish {D:Db} {f:Flow} {s':Shared} (h:SP (X.wish E) aa D f s'):SP X aa D f s':=by
 cases f with
 | next=>obtain ⟨σ',H',I,q⟩:=h; exact ⟨σ',H',I.unwish,q⟩
 | brk=>obtain ⟨σ',H',I,q⟩:=h; exact ⟨σ',H',I.unwish,q⟩
 | cont=>obtain ⟨σ',H',I,q⟩:=h; exact ⟨σ',H',I.unwish,q⟩
 | ret u=>obtain ⟨v,σ',H',I,r,q⟩:=h; exact ⟨v,σ',H',I.unwish,r,q⟩
theorem PSs.nox {st:List Stmt} {t:TS} (h:PSs X.nox st t):PSs X st t:=fun aa s σ H D I hw =>
 wpAny_mono (h aa s σ H D (I.wish _) hw) (fun _ _ q=>q.unwish) fun _ _ z=>False.elim z
end
section
variable {st:Stmt} {rest:List Stmt} {t u:TS}
def Sm:TS:=fun D σ H=>D.nx σ H
def Ti (t u:TS):TS:=fun D σ H=>t { D with nx:=u D } σ H
theorem AY:PSs X [] Sm:=fun _ _ σ H _ I h=>wpAny_execs_nil ⟨σ,H,I,h⟩
theorem AF (h1:PS X st t) (h2:PSs X rest u):PSs X (st :: rest) (Ti t u):=by
 intro aa s σ H D I h;refine wpAny_execs_cons (thn (h1 aa s σ H { D with nx:=u D } I h) fun f s1 q=>?_);cases f with
 | next =>
  obtain ⟨σ',H',I',q⟩:=q;exact h2 aa s1 σ' H' D I' q
 | ret v=>exact q
 | brk=>exact q
 | cont=>exact q
theorem AE (h1:PS X st t):PSs X [st] t:=by
 intro aa s σ H D I h;refine wpAny_execs_cons (thn (h1 aa s σ H D I h) fun f s1 q=>?_);cases f with
 | next=>exact wpAny_execs_nil q
 | ret v=>exact q
 | brk=>exact q
 | cont=>exact q
theorem Inv.quiet (I:Inv X aa σ H s):interactive X.env=false:=by simp [interactive,I.ok.kind]
def Sn (te:TE):TS:=fun D σ H=>te σ H fun _ H1=>D.nx σ H1
theorem FU (he:PE X e te) (hs:swapsWith e none pos.line X.env=pure false:=by rfl):PS X (.Expr e pos) (Sn te):=by
 intro aa s σ H D I h;exact wpAny_Expr_any (thn (he aa s σ H _ I h) fun v s1 ⟨x,H1,I1,r1,q1⟩=>⟨σ,H1,I1,q1⟩) I.quiet hs
def Ny (te:TE):TS:=fun D σ H=>te σ H D.rt
theorem AO (he:PE X e te):PS X (.Return (some e) pos) (Ny te):=by
 intro aa s σ H D I h;exact wpAny_Return_some (thn (he aa s σ H _ I h) fun v s1 ⟨x,H1,I1,r1,q1⟩=>⟨x,σ,H1,I1,r1,q1⟩)
def Tj (c:TT) (t u:TS):TS:=fun D σ H=>c σ H fun b H1=>if b=true then t D σ H1 else u D σ H1
theorem At {c:Expr} {a b:List Stmt} {tc:TT} (hc:PT X c tc) (ha:PSs X a t) (hb:PSs X b u):PS X (.If c a b pos) (Tj tc t u):=by
 intro aa s σ H D I h;refine wpAny_If (thn (hc aa s σ H _ I h) fun d s1 ⟨H1,I1,q1⟩=>?_);cases d with
 | true=>exact ha aa s1 σ H1 D I1 q1
 | false=>exact hb aa s1 σ H1 D I1 q1
def Rj:TS:=fun _ _ _=>False
theorem Ag:PS X st Rj:=fun _ _ _ _ _ _ h=>h.elim
end
abbrev TG:=V->St->Hp->(St->Hp->Prop)->Prop
abbrev TGs:=List V->St->Hp->(St->Hp->Prop)->Prop
def PG (X:Cx) (target:Expr) (t:TG):Prop :=
 ∀ (aa:LO) (s:Shared) (σ:St) (H:Hp) (v:V) (u:Value) (Q:St->Hp->Prop),Inv X aa σ H s->RelV v u->t v σ H Q ->
  wpAny (model X.prog X.w) X.A (assign target X.env u) (fun _ s'=>∃ σ' H',Inv X aa σ' H' s'/\Q σ' H') X.xe s
def PGs (X:Cx) (ts:List Expr) (t:TGs):Prop :=
 ∀ (aa:LO) (s:Shared) (σ:St) (H:Hp) (vs:List V) (us:List Value) (Q:St->Hp->Prop),Inv X aa σ H s->Vals vs us->t vs σ H Q ->
  wpAny (model X.prog X.w) X.A (assignInOrder ((assignEach ts X.env).map (·.2)) us) (fun _ s'=>∃ σ' H',Inv X aa σ' H' s'/\Q σ' H') X.xe s
abbrev Rk:=V->V->V->Hp->(Hp->Prop)->Prop
def So (X:Cx) (t:Rk):Prop :=
 ∀ (aa:LO) (s:Shared) (σ:St) (H:Hp) (o i v:V) (ov iv u:Value) (Q:Hp->Prop),Inv X aa σ H s->RelV o ov->RelV i iv->RelV v u->t o i v H Q ->
  wpAny (model X.prog X.w) X.A (setItem ov iv u) (fun _ s'=>∃ H',Inv X aa σ H' s'/\Q H') X.xe s
abbrev TIp:=V->V->Hp->VK->Prop
def PIp (X:Cx) (op:Operator) (t:TIp):Prop :=
 ∀ (aa:LO) (s:Shared) (σ:St) (H:Hp) (x y:V) (v u:Value) (Q:VK),Inv X aa σ H s->RelV x v->RelV y u->t x y H Q ->
  wpAny (model X.prog X.w) X.A (inplaceOp op v u) (EP X aa σ Q) X.xe s
section
def CM (i:Nat):TG:=fun v σ H Q=>Q (σ.set i (some v)) H
theorem AZ {i:Nat} (hN:X.N.Nodup) (hi:X.N[i]?=some x) (hx:Loc X.env.scope x) (hf:X.fn x=true\/X.env.scope.names.lookup x=some .local:=by first | exact .inl rfl | exact .inr rfl | assumption):PG X (.Name x pos) (CM i):=by
 intro aa s σ H v u Q I r h;exact wpAny_assign_Name (CL I hN hi hx r (fun s' I'=>⟨_,H,I',h⟩) hf)
def P6:TGs:=fun vs σ H Q=>vs=[]/\Q σ H
inductive ExC (vs:List V) (k:V->List V->Prop):Prop where
 | mk (v:V) (r:List V) (h:vs=v :: r) (q:k v r):ExC vs k
def Fh (t:TG) (u:TGs):TGs:=fun vs σ H Q=>ExC vs fun v r=>t v σ H fun σ' H'=>u r σ' H' Q
theorem BV:PGs X [] P6:=by
 intro aa s σ H vs us Q I r h;obtain ⟨e,h⟩:=h;subst e;cases r;exact assignInOrder_nil ⟨σ,H,I,h⟩
theorem Ad {es:List Expr} {t:TG} {u:TGs} (h1:PG X e t) (h2:PGs X es u)
  (hs:(assignEach (e :: es) X.env).map (·.2)=assign e X.env :: (assignEach es X.env).map (·.2):=by rfl):PGs X (e :: es) (Fh t u):=by
 intro aa s σ H vs us Q I r h;obtain ⟨v,vr,e1,h⟩:=h;subst e1;cases r with
 | cons r rr =>
  rw [hs];refine assignInOrder_cons (thn (h1 aa s σ H _ _ _ I r h) fun _ s1 ⟨σ1,H1,I1,q1⟩=>?_);exact h2 aa s1 σ1 H1 _ _ Q I1 rr q1
inductive ExT (K:FG) (n:Nat) (v:V) (H:Hp) (k:List V->Prop):Prop where
 | mk (a:Addr) (xs:List V) (h1:v=.ref a) (h2:SqT K H a xs) (h3:xs.length=n) (q:k xs):ExT K n v H k
def P7 (K:FG) (n:Nat) (t:TGs):TG:=fun v σ H Q=>ExT K n v H fun xs=>t xs σ H Q
theorem Bx {es:List Expr} {k:Nat} {t:TGs} {n:Nat} (hc:X.calm=true) (h:PGs X es t)
  (hn:(assignEach es X.env).length=n:=by rfl) (hst:(assignEach es X.env).findIdx? (·.1)=none:=by rfl):PG X (.Tuple es k pos) (P7 X.K n t):=by
 intro aa s σ H v u Q I r hw;obtain ⟨a,xs,e1,hq,hl,hw⟩:=hw;subst e1;cases r;obtain ⟨its,rv,ht,hz⟩:=I.tuple hq;refine assign_Tuple_tuple (I.ok.hd hc) ht (by simp [hn,← hl,rv.length]) hst fun h' hx=>?_;have I1:Inv X aa σ H { s with heap:=h' }:=I.kept (t':=s.toks) fun b o e=>hx b o (Nat.ne_of_lt (lt_size e)) e;exact h aa _ σ H xs _ Q I1 (by simpa using rv) hw
def D4 (to ti:TE) (t:Rk):TG:=fun v σ H Q=>to σ H fun o H1=>ti σ H1 fun i H2=>t o i v H2 fun H3=>Q σ H3
theorem Nz {o i:Expr} {to ti:TE} {t:Rk} (ho:PE X o to) (hi:PE X i ti) (hs:So X t)
  (ha:∀ v,assign (.Subscript o i pos) X.env v=(do
   let ov ← holding [v] (eval o X.env)
   let iv ← holding [v,ov] (eval i X.env)
   standAt pos
   holding [v,ov,iv] (setItem ov iv v)
   release [v,ov,iv] []):=by intro _; rfl):PG X (.Subscript o i pos) (D4 to ti t):=by
 intro aa s σ H v u Q I r h;rw [ha];refine wpAny_bind (wpAny_holding (thn (ho aa s σ H _ I h) fun ov s1 ⟨x,H1,I1,r1,q1⟩=>?_));refine wpAny_bind (wpAny_holding (thn (hi aa s1 σ H1 _ I1 q1) fun iv s2 ⟨y,H2,I2,r2,q2⟩=>?_));refine wpAny_bind (wpAny_standAt (wpAny_bind (wpAny_holding (thn (hs aa s2 σ H2 x y v ov iv u _ I2 r1 r2 r q2) fun _ s3 ⟨H3,I3,q3⟩=>?_))));exact wpAny_release ⟨σ,H3,I3,q3⟩
def Sq (te:TE) (g:TG):TS:=fun D σ H=>te σ H fun x H1=>g x σ H1 D.nx
theorem Ct {tg:Expr} {g:TG} (he:PE X e te) (hg:PG X tg g) (hs:swapsWithSole [tg] e pos.line X.env=pure false:=by rfl) (hw:swappedStores [tg] e X.env=pure none:=by rfl)
  (h1:(assignEach [tg] X.env).map (·.2)=[assign tg X.env]:=by rfl):PS X (.Assign [tg] e pos) (Sq te g):=by
 intro aa s σ H D I h;refine wpAny_Assign_stores (thn (he aa s σ H _ I h) fun v s1 ⟨x,H1,I1,r1,q1⟩=>?_) hs hw;rw [h1];exact thn (hg aa s1 σ H1 x v _ I1 r1 q1) fun _ s2 q=>q
theorem Aj {i:Nat} {pos':Pos} (hN:X.N.Nodup) (hi:X.N[i]?=some x) (hx:Loc X.env.scope x) (he:PE X e te) (hs:swapsWith e (some (.Name x pos')) pos.line X.env=pure false:=by rfl) (hf:X.fn x=true\/X.env.scope.names.lookup x=some .local:=by first | exact .inl rfl | exact .inr rfl | assumption) :
  PS X (.Assign [.Name x pos'] e pos) (Sq te (CM i)):=by
 intro aa s σ H D I h;refine wpAny_Assign_Name (thn (he aa s σ H _ I h) fun v s1 ⟨y,H1,I1,r1,q1⟩=>?_) hs;exact CL I1 hN hi hx r1 (fun s2 I2=>⟨_,H1,I2,q1⟩) hf
def Tk (i j:Nat) (ta:TA):TS:=fun D σ H=>ta σ H fun vs H1=>∃ v w,vs=[v,w]/\D.nx ((σ.set i (some v)).set j (some w)) H1
theorem N0 {i j:Nat} {y:Str} {a b:Expr} {ta:TA} {px py pt:Pos} {kt k2 pt2} (hc:X.calm=true) (hN:X.N.Nodup) (hi:X.N[i]?=some x) (hj:X.N[j]?=some y) (hij:i ≠ j)
  (hx:X.env.scope.names.lookup x=some .local) (hy:X.env.scope.names.lookup y=some .local) (ha:PA X [a,b] ta)
  (hw:swappedStores [.Tuple [.Name x px,.Name y py] kt pt] (.Tuple [a,b] k2 pt2) X.env=pure (some [x,y]))
  (hs:swapsWithSole [.Tuple [.Name x px,.Name y py] kt pt] (.Tuple [a,b] k2 pt2) pos.line X.env=pure false:=by rfl) :
  PS X (.Assign [.Tuple [.Name x px,.Name y py] kt pt] (.Tuple [a,b] k2 pt2) pos) (Tk i j ta):=by
 intro aa s σ H D I h;rw [exec_Assign_arm];refine wpAny_bind (wpAny_standAt ?_);rw [hs];refine wpAny_bind (wpAny_pure ?_);rw [if_neg (by decide)];refine wpAny_bind (Tuple_ (thn (ha _ aa s σ H _ I h) fun us s1 ⟨vs,H1,I1,r1,q1⟩=>?_));obtain ⟨v,w,e1,q1⟩:=q1;subst e1
 obtain ⟨u1,u2,rfl,rv,rw'⟩:∃ u1 u2,us=[u1,u2]/\RelV v u1/\RelV w u2:=by
  cases r1 with
  | cons p q =>
   cases q with
   | cons p' q' =>
    cases q';exact ⟨_,_,rfl,p,p'⟩
 refine wpAny_newObj_type ?_ sl2;have I2:Inv X aa σ H1 { s1 with heap:=s1.heap.push { cls:=.type "tuple", data:=.seq [u1,u2].toArray } }:=I1.kept (t':=s1.toks) fun b o e=>get?_push_of_some _ e;rw [hw];refine wpAny_bind (wpAny_pure ?_);show wpAny (model X.prog X.w) X.A (do rule "assign.swapped-stores"; let items ← unpackItems (.ref s1.heap.objs.size) 2 none; assignInOrder [fun v=>bindName X.env y v,fun v=>bindName X.env x v] items.reverse; pure Flow.next) _ _ _;refine wpAny_bind (wpAny_rule (wpAny_bind (unpackItems_tuple (items:=#[u1,u2]) (I.ok.hd hc) (IsTup.new s1.heap _) fun h' hx'=>?_)));have I3:=I2.kept (h':=h') (t':=s1.toks) fun b o e=>hx' b o (Nat.ne_of_lt (lt_size e)) e;show wpAny _ _ (assignInOrder [fun v=>bindName X.env y v,fun v=>bindName X.env x v] [u2,u1] >>= fun _=>pure Flow.next) _ _ _;refine wpAny_bind (assignInOrder_cons (wpAny_bindName (CL I3 hN hj (.inl hy) rw' (fun s2 I4=>?_) (.inr hy))));refine assignInOrder_cons (wpAny_bindName (CL I4 hN hi (.inl hx) rv (fun s3 I5=>assignInOrder_nil (wpAny_pure ?_)) (.inr hx)));rw [List.set_comm _ _ (Ne.symm hij)] at I5;exact ⟨_,H1,I5,q1⟩
def Tl (i:Nat) (te:TE) (ti:TIp):TS:=fun D σ H=>∃ x,σ[i]?=some (some x)/\te σ H fun y H1=>ti x y H1 fun z H2=>D.nx (σ.set i (some z)) H2
theorem Rn {i:Nat} {op:Operator} {ti:TIp} {pos':Pos} (hN:X.N.Nodup) (hi:X.N[i]?=some x) (hx:Loc X.env.scope x) (he:PE X e te) (ho:PIp X op ti) (hf:X.fn x=true\/X.env.scope.names.lookup x=some .local:=by first | exact .inl rfl | exact .inr rfl | assumption) :
  PS X (.AugAssign (.Name x pos') op e pos) (Tl i te ti):=by
 intro aa s σ H D I h;obtain ⟨v,e1,h⟩:=h;obtain ⟨m,hn,hl⟩:=I.loc;have vis:Vis X.env.scope x:=by rcases hx with k | k; exact .inl k; exact .inr (.inl k)
 obtain ⟨u,r,l⟩:=hl i x v hi e1 vis;refine wpAny_AugAssign_Name ?_
 have go:wpAny (model X.prog X.w) X.A (eval e X.env) (fun w s₂=>wpAny (model X.prog X.w) X.A (inplaceOp op u w) (fun r s₃=>wpAny (model X.prog X.w) X.A (storeName X.env x r) (fun _=>SP X aa D .next) X.xe s₃) X.xe s₂) X.xe s:=by
  refine thn (he aa s σ H _ I h) fun w s1 ⟨y,H1,I1,r1,q1⟩=>?_;refine thn (ho aa s1 σ H1 v y u w _ I1 r r1 q1) fun z s2 ⟨zv,H2,I2,r2,q2⟩=>?_;exact CL I2 hN hi hx r2 (fun s3 I3=>⟨_,H2,I3,q2⟩) hf
 rcases l with ⟨hk,hm⟩ | ⟨hk,c,hc,be⟩
 ·exact wpAny_loadName_local I.ok.kind hk hn hm go
 ·rcases hk with hk | hk
  ·exact wpAny_loadName_cell I.ok.kind hk hc be go
  ·rcases hx with k | k
   ·have:X.env.scope.names.lookup x=some .free:=hk;rw [k] at this; cases this
   ·have:X.env.scope.names.lookup x=some .free:=hk;rw [k] at this; cases this
end
section
def N1 (c:TT) (tb:TS):TS:=fun D σ H=>∃ W:Nat->St->Hp->Prop,(∃ m,W m σ H)/\∀ m σ H,W m σ H ->
 c σ H fun b H1=>if b=true then ∃ N:St->Hp->Prop,(∀ σ' H',N σ' H'->∃ m',m' < m/\W m' σ' H')/\tb { D with nx:=N,ct:=N,bk:=D.nx } σ H1 else D.nx σ H1
theorem N2 {c:Expr} {body:List Stmt} {tc:TT} {tb:TS} (hp:PassesOwn (model X.prog X.w) X.A X.env X.xe) (hc:PT X c tc) (hb:PSs X body tb):PS X (.While c body [] pos) (N1 tc tb):=by
 intro aa s σ H D I h;obtain ⟨W,⟨m0,w0⟩,turn⟩:=h;refine wpAny_While (codeAny_whileLoop (fun n s'=>∃ σ' H',Inv X aa σ' H' s'/\W n σ' H') ?_ m0 ⟨σ,H,I,w0⟩);rintro n s1 ⟨σ1,H1,I1,w1⟩;refine wpAny_passesOwn hp (thn (hc aa s1 σ1 H1 _ I1 (turn n σ1 H1 w1)) fun b s2 ⟨H2,I2,q2⟩=>?_);cases b with
 | true =>
  obtain ⟨N,hN,q2⟩:=q2;rw [if_pos rfl];refine wpAny_passesOwn hp (thn (hb aa s2 σ1 H2 _ I2 q2) fun f s3 q3=>?_);cases f with
  | next =>
   obtain ⟨σ3,H3,I3,n3⟩:=q3;obtain ⟨m',hm,w3⟩:=hN σ3 H3 n3;exact ⟨m',hm,σ3,H3,I3,w3⟩
  | cont =>
   obtain ⟨σ3,H3,I3,n3⟩:=q3;obtain ⟨m',hm,w3⟩:=hN σ3 H3 n3;exact ⟨m',hm,σ3,H3,I3,w3⟩
  | brk=>exact q3
  | ret v=>exact q3
 | false =>
  rw [if_neg Bool.false_ne_true];exact wpAny_execs_nil ⟨σ1,H2,I2,q2⟩
end
structure It where
 go:Nat->Hp->Prop
 yld:Nat->Hp->V->Hp->Prop
 stop:Nat->Hp->Prop
def D5 (X:Cx) (aa:LO) (H:Hp) (b:Addr):Prop :=
 H b=none/\b ≠ X.env.locals/\b ∉ X.fs/\(b ∈ X.ex\/X.s₀.heap.objs.size <= b)/\(∀ x c,X.env.cells.lookup x=some c->c ≠ b)/\∀ p ∈ X.pn++aa,p.1 ≠ b
theorem Inv.fpOk {b:Addr} (I:Inv X aa σ H s) (hb:s.heap.objs.size <= b) (hn:H' b=none):D5 X aa H' b:=by
 refine ⟨hn,Nat.ne_of_gt (Nat.lt_of_lt_of_le I.lt hb),I.nofs hb,.inr (Nat.le_trans I.sz hb),fun x c e z=>?_,fun p hp z=>?_⟩
 ·obtain ⟨v,q⟩:=I.cell x c e;exact absurd (Nat.lt_of_lt_of_le q.lt (by rw [z]; exact hb)) (Nat.lt_irrefl _)
 ·exact absurd (Nat.lt_of_lt_of_le (lt_size (I.pin p hp).1) (by rw [z]; exact hb)) (Nat.lt_irrefl _)
structure KM (P:Program) (w:World) (K:FG) (tg:Expr) (J:It) (fp:List Addr) (it:Addr) (tn:Nat->Heap->Prop):Prop where
 mem:it ∈ fp
 obj:∀ i h,tn i h->∀ b ∈ fp,∃ o,h.get? b=some o/\∀ v,o.data ≠ .cell v
 keep:∀ i h h',tn i h->(∀ b ∈ fp,∀ o,h.get? b=some o->h'.get? b=some o)->tn i h'
 item:∀ (X:Cx),X.prog=P->X.w=w->X.K=K->X.calm=true->∀ (i:Nat) (aa:LO) (s:Shared) (σ:St) (H:Hp) (E:VS),Inv X aa σ H s->(∀ b ∈ fp,D5 X aa H b)->tn i s.heap->J.go i H ->
  wpAny (model P w) X.A (pyNext (.ref it)) (fun r s1=>∃ u,r=some u /\
   wpAny (model P w) X.A (letOwnedTupleGo tg (.ref it) u) (fun _ s2=>∃ x H',Inv X aa σ H' s2/\RelV x u/\J.yld i H x H'/\tn (i + 1) s2.heap/\∀ b ∈ fp,H' b=none) E s1) E s
 done:∀ (X:Cx),X.prog=P->X.w=w->X.K=K->X.calm=true->∀ (i:Nat) (aa:LO) (s:Shared) (σ:St) (H:Hp) (E:VS),Inv X aa σ H s->(∀ b ∈ fp,D5 X aa H b)->tn i s.heap->J.stop i H ->
  wpAny (model P w) X.A (pyNext (.ref it)) (fun r s1=>r=none/\Inv X aa σ H s1) E s
 self:∀ (A:Around) (i:Nat) (s:Shared) (Q:VS) (E:VS),tn i s.heap->Q (.ref it) s->wpAny (model P w) A (pyIter (.ref it)) Q E s
abbrev TI:=St->Hp->(It->Hp->Prop)->Prop
def PIE (X:Cx) (aa:LO) (σ:St) (tg:Expr) (R:It->Hp->Prop) (itv:Value) (s2:Shared):Prop :=
 ∃ (it:Addr) (fp:List Addr) (tn:Nat->Heap->Prop) (J:It) (H':Hp),itv=.ref it/\Inv X aa σ H' s2/\KM X.prog X.w X.K tg J fp it tn/\tn 0 s2.heap/\(∀ b ∈ fp,D5 X aa H' b)/\R J H'
def PI (X:Cx) (tg iter:Expr) (wi:TI):Prop :=
 ∀ (aa:LO) (s:Shared) (σ:St) (H:Hp) (R:It->Hp->Prop),Inv X aa σ H s->wi σ H R ->
  wpAny (model X.prog X.w) X.A (eval iter X.env) (fun v s1=>wpAny (model X.prog X.w) X.A (pyIter v) (PIE X aa σ tg R) X.xe s1) X.xe s
theorem Ln {M:Model} {tg:Expr} {it:Addr} {o:Obj} {n:String} {vs:Array Value} {Q:Unit->Shared->Prop} (ho:s.heap.get? it=some o) (hc:o.cls=.type n) (hd:o.data=.fields vs)
    (hn:["enumerate", "zip", "dict_itemiterator", "dict_reverseitemiterator", "odict_iterator", "itertools.zip_longest", "itertools.pairwise"].contains n=false) (hQ:Q () s):wpAny M A (letOwnedTupleGo tg (.ref it) u) Q E s:=by
  unfold letOwnedTupleGo
  cases tg <;> first
    | exact wpAny_pure hQ
    | (cases u <;> first
        | exact wpAny_pure hQ
        | (refine wpAny_bind (wpAny_load ho ?_)
           rw [hc,hd];show wpAny M A (if (["enumerate", "zip", "dict_itemiterator", "dict_reverseitemiterator", "odict_iterator", "itertools.zip_longest", "itertools.pairwise"].contains n && vs[0]? == some (rawInt _))=true then _ else _) Q E s;rw [if_neg (by intro h; rw [hn,Bool.false_and] at h; cases h)]
           exact wpAny_pure hQ))
noncomputable def Itl (K:FG) (a:Addr):It :=
 ⟨fun i H=>∃ xs x,SqL K H a xs/\xs[i]?=some x,fun i H x H'=>H'=H/\∀ xs,SqL K H a xs->xs[i]?=some x,fun i H=>∃ xs,SqL K H a xs/\xs.length <= i⟩
noncomputable def Itt (K:FG) (a:Addr):It :=
 ⟨fun i H=>∃ xs x,SqT K H a xs/\xs[i]?=some x,fun i H x H'=>H'=H/\∀ xs,SqT K H a xs->xs[i]?=some x,fun i H=>∃ xs,SqT K H a xs/\xs.length <= i⟩
noncomputable def Itr (lo:Int) (n:Nat):It:=⟨fun i _=>i < n,fun i H x H'=>H'=H/\x=.int (lo + i),fun i _=>n <= i⟩
theorem G7 {tg:Expr} (a it:Addr):KM P w K tg (Itl K a) [it] it (fun i h=>h.IsListIter it a i) where
 mem:=by simp
 obj:=fun i h st b hb=>by
  have e:b=it:=by simpa using hb
  subst e;obtain ⟨o,e,c,d⟩:=st;exact ⟨o,e,fun v z=>by rw [d] at z; cases z⟩
 keep:=fun i h h' st k=>st.at fun o e=>k it (by simp) o e
 item:=by
  intro X hP hw hK hc i aa s σ H E I hf st hg;subst hP hw hK;obtain ⟨xs,x,hq,hx⟩:=hg;obtain ⟨its,rv,p,hz⟩:=I.list hq;obtain ⟨u,hu,ru⟩:=rv.get hx;obtain ⟨f0,f1,f2,f3,f4,f5⟩:=hf it (by simp);refine wpAny_pyNext_list_item st p.isList (x:=u) (by simpa using hu) fun h' st' sb=>?_;have I1:Inv X aa σ H { s with heap:=h' }:=I.turned (t':=s.toks) (fun b o hb e=>(sb.2 b hb).trans e) f0 f1 f3 f4 f5;obtain ⟨o,e,c,d⟩:=id st';exact ⟨u,rfl,Ln (s:={ s with heap:=h' }) e c d (by decide) ⟨x,H,I1,ru,⟨rfl,fun ys hy=>by rw [I.list_inj hy hq]; exact hx⟩,st',fun b hb=>(hf b hb).1⟩⟩
 done:=by
  intro X hP hw hK hc i aa s σ H E I hf st hg;subst hP hw hK;obtain ⟨xs,hq,hx⟩:=hg;obtain ⟨its,rv,p,hz⟩:=I.list hq;obtain ⟨f0,f1,f2,f3,f4,f5⟩:=hf it (by simp);have hl:=rv.length;exact wpAny_pyNext_list_end (I.ok.hd hc) st p.isList (by simp; omega) fun h' eb=>⟨rfl,I.turned (t':=s.toks) (fun b o hb e=>eb b o hb e) f0 f1 f3 f4 f5⟩
 self:=fun _ _ _ _ _ st h=>wpAny_pyIter_listiter st h
theorem KN {tg:Expr} (a it:Addr):KM P w K tg (Itt K a) [it] it (fun i h=>h.IsTupleIter it a i) where
 mem:=by simp
 obj:=fun i h st b hb=>by
  have e:b=it:=by simpa using hb
  subst e;obtain ⟨o,e,c,d⟩:=st;exact ⟨o,e,fun v z=>by rw [d] at z; cases z⟩
 keep:=fun i h h' st k=>st.at fun o e=>k it (by simp) o e
 item:=by
  intro X hP hw hK hc i aa s σ H E I hf st hg;subst hP hw hK;obtain ⟨xs,x,hq,hx⟩:=hg;obtain ⟨its,rv,p,hz⟩:=I.tuple hq;obtain ⟨u,hu,ru⟩:=rv.get hx;obtain ⟨f0,f1,f2,f3,f4,f5⟩:=hf it (by simp);refine wpAny_pyNext_tuple_item st (show s.heap.IsTuple a its.toArray from p) (x:=u) (by simpa using hu) fun h' st' sb=>?_;have I1:Inv X aa σ H { s with heap:=h' }:=I.turned (t':=s.toks) (fun b o hb e=>(sb.2 b hb).trans e) f0 f1 f3 f4 f5;obtain ⟨o,e,c,d⟩:=id st';exact ⟨u,rfl,Ln (s:={ s with heap:=h' }) e c d (by decide) ⟨x,H,I1,ru,⟨rfl,fun ys hy=>by rw [I.tuple_inj hy hq]; exact hx⟩,st',fun b hb=>(hf b hb).1⟩⟩
 done:=by
  intro X hP hw hK hc i aa s σ H E I hf st hg;subst hP hw hK;obtain ⟨xs,hq,hx⟩:=hg;obtain ⟨its,rv,p,hz⟩:=I.tuple hq;obtain ⟨f0,f1,f2,f3,f4,f5⟩:=hf it (by simp);have hl:=rv.length;exact wpAny_pyNext_tuple_end (I.ok.hd hc) st (show s.heap.IsTuple a its.toArray from p) (by simp; omega) fun h' eb=>⟨rfl,I.turned (t':=s.toks) (fun b o hb e=>eb b o hb e) f0 f1 f3 f4 f5⟩
 self:=fun _ _ _ _ _ st h=>wpAny_pyIter_tupleiter st h
theorem KP {tg:Expr} (it:Addr) (lo:Int) (n:Nat):KM P w K tg (Itr lo n) [it] it (fun i h=>IsRangeIter h it (lo + (i:Nat) * 1) ((n:Int) - (i:Nat)) 1) where
 mem:=by simp
 obj:=fun i h st b hb=>by
  have e:b=it:=by simpa using hb
  subst e
  exact ⟨_,st,fun v z=>by
   have z':Data.fields _=Data.cell v:=z
   cases z'⟩
 keep:=fun i h h' st k=>k it (by simp) _ st
 item:=by
  intro X hP hw hK hc i aa s σ H E I hf st hg;subst hP hw hK;obtain ⟨f0,f1,f2,f3,f4,f5⟩:=hf it (by simp);have W:=Walks.range (prog:=X.prog) (w:=X.w) (I.ok.hd hc) it lo 1 n;refine W.item i s _ _ hg st fun v h' tk hv st' kk=>?_;obtain ⟨t,rfl⟩:=hv;have I1:Inv X aa σ H { s with heap:=h',toks:=tk }:=I.turned (fun b o hb e=>kk b o (by simpa using hb) e) f0 f1 f3 f4 f5;refine ⟨_,rfl,Ln (s:={ s with heap:=h',toks:=tk }) (n := "range_iterator") st' rfl rfl (by decide) ⟨.int (lo + i),H,I1,⟨t,?_⟩,⟨rfl,rfl⟩,st',fun b hb=>(hf b hb).1⟩⟩;rw [Int.mul_one]
 done:=by
  intro X hP hw hK hc i aa s σ H E I hf st hg;subst hP hw hK;obtain ⟨f0,f1,f2,f3,f4,f5⟩:=hf it (by simp);exact wpAny_pyNext_range_end (I.ok.hd hc) st (by have:n <= i:=hg; omega) fun h' eb=>⟨rfl,I.turned (t':=s.toks) (fun b o hb e=>eb b o hb e) f0 f1 f3 f4 f5⟩
 self:=fun _ _ _ _ _ st h=>wpAny_pyIter_rangeiter st h
end L2
namespace L2
open PySem PySem.Spec PyProof.Rows
section
variable {tg:Expr}
def RP (K:FG) (tl:TE):TI:=fun σ H R=>tl σ H fun x H1=>∃ a,x=.ref a/\(∃ xs,SqL K H1 a xs)/\R (Itl K a) H1
def Tm (K:FG) (tl:TE):TI:=fun σ H R=>tl σ H fun x H1=>∃ a,x=.ref a/\(∃ xs,SqT K H1 a xs)/\R (Itt K a) H1
theorem BF {l:Expr} {tl:TE} (hl:PE X l tl):PI X tg l (RP X.K tl):=by
 intro aa s σ H R I h;refine thn (hl aa s σ H _ I h) fun v s1 ⟨x,H1,I1,r1,q1⟩=>?_;obtain ⟨a,e,⟨xs,hq⟩,q⟩:=q1;subst e;cases r1;obtain ⟨its,rv,p,hz⟩:=I1.list hq;refine wpAny_pyIter_list p.isList ?_;refine ⟨s1.heap.objs.size,[s1.heap.objs.size],_,_,H1,rfl,I1.kept (t':=s1.toks) fun b o e=>get?_push_of_some _ e,G7 a _,⟨_,get?_push_size _ rfl,rfl,rfl⟩,fun b hb=>?_,q⟩;have e:b=s1.heap.objs.size:=by simpa using hb
 subst e;exact I1.fpOk (Nat.le_refl _) (I1.hok.fresh (Nat.le_refl _))
theorem N3 {l:Expr} {tl:TE} (hl:PE X l tl):PI X tg l (Tm X.K tl):=by
 intro aa s σ H R I h;refine thn (hl aa s σ H _ I h) fun v s1 ⟨x,H1,I1,r1,q1⟩=>?_;obtain ⟨a,e,⟨xs,hq⟩,q⟩:=q1;subst e;cases r1;obtain ⟨its,rv,p,hz⟩:=I1.tuple hq;refine wpAny_pyIter_tuple (show s1.heap.IsTuple a its.toArray from p) ?_;refine ⟨s1.heap.objs.size,[s1.heap.objs.size],_,_,H1,rfl,I1.kept (t':=s1.toks) fun b o e=>get?_push_of_some _ e,KN a _,⟨_,get?_push_size _ rfl,rfl,rfl⟩,fun b hb=>?_,q⟩;have e:b=s1.heap.objs.size:=by simpa using hb
 subst e;exact I1.fpOk (Nat.le_refl _) (I1.hok.fresh (Nat.le_refl _))
theorem N4 {R:It->Hp->Prop} {lo hi:Int} {t u v:Tok} {tk:Nat} (I:Inv X aa σ H s) (h1:-(2 ^ 62) <= lo) (h2:lo < 2 ^ 62) (h3:-(2 ^ 62) <= hi) (h4:hi < 2 ^ 62)
  (q:R (Itr lo (hi - lo).toNat) H):wpAny (model X.prog X.w) X.A (pyIter (.ref s.heap.objs.size)) (PIE X aa σ tg R) E { s with heap:=s.heap.push { cls:=.type "range", data:=.fields #[.int lo t,.int hi u,.int 1 v] },toks:=tk }:=by
 refine wpAny_pyIter_range (IsRange.new ..) (small_one h1 h2 h3 h4) ?_;have I1:Inv X aa σ H { s with heap:=s.heap.push { cls:=.type "range", data:=.fields #[.int lo t,.int hi u,.int 1 v] },toks:=tk }:=I.kept fun b o e=>get?_push_of_some _ e
 refine ⟨(s.heap.push { cls:=.type "range", data:=.fields #[.int lo t,.int hi u,.int 1 v] }).objs.size,[(s.heap.push { cls:=.type "range", data:=.fields #[.int lo t,.int hi u,.int 1 v] }).objs.size],_,_,H,rfl,
  I1.kept (t':=tk) fun b o e=>get?_push_of_some _ e,KP _ lo (hi - lo).toNat,?_,fun b hb=>?_,q⟩
 ·have e1:lo + ((0:Nat):Int) * 1=lo:=by simp
  have e2:(((hi - lo).toNat:Nat):Int) - ((0:Nat):Int)=Builtin.Range.rangeSize lo hi 1:=by rw [rangeSize_one]; split <;> omega
  show IsRangeIter _ _ (lo + ((0:Nat):Int) * 1) ((((hi - lo).toNat:Nat):Int) - ((0:Nat):Int)) 1;rw [e1,e2];exact get?_push_size _ rfl
 ·have e:b=(s.heap.push { cls:=.type "range", data:=.fields #[.int lo t,.int hi u,.int 1 v] }).objs.size:=by simpa using hb
  subst e;exact I1.fpOk (Nat.le_refl _) (I1.hok.fresh (Nat.le_refl _))
def Sr (ta:TA):TI:=fun σ H R=>ta σ H fun vs H1=>∃ j:Int,vs=[.int j]/\-(2 ^ 62) <= j/\j < 2 ^ 62/\R (Itr 0 j.toNat) H1
theorem CN {a:Expr} {ta:TA} {p:Pos} (hg:Gl X "range") (hm:X.mg "range" = none) (ha:PA X [a] ta) (hs:starEach [a] X.env=[(false,eval a X.env)]:=by rfl):PI X tg (.Call (.Name "range" p) [a] [] pos) (Sr ta):=by
 intro aa s σ H R I h;refine Call_ (Dc I hg hm boot_range (PyProof.Rows.callWith_type1 (thn (ha pos aa s σ H _ I h) fun us s1 ⟨vs,H1,I1,r1,q1⟩=>?_) hs rfl));obtain ⟨j,e,q1,q2,q⟩:=q1;subst e;cases r1 with
 | cons r rr =>
  cases rr;obtain ⟨t,rfl⟩:=r;exact call_range_1 (N4 I1 (by omega) (by omega) q1 q2 (by simpa using q))
def Tn (wi:TI) (g:TG) (tb:TS):TS:=fun D σ H=>wi σ H fun J H1=>∃ W:Nat->Nat->St->Hp->Prop,(∃ m,W 0 m σ H1)/\∀ i m σ H,W i m σ H ->
 (J.stop i H/\D.nx σ H)\/(J.go i H/\∃ N:St->Hp->Prop,(∀ σ' H',N σ' H'->∃ m',m' < m/\W (i + 1) m' σ' H')/\∀ x H',J.yld i H x H'->g x σ H' fun σ2 H2=>tb { D with nx:=N,ct:=N,bk:=D.nx } σ2 H2)
noncomputable def Dd (fp:List Addr) (h:Heap):LO:=fp.filterMap fun b=>(h.get? b).map fun o=>(b,o)
theorem CW {fp:List Addr} {b:Addr} {o:Obj} (hb:b ∈ fp) (e:h.get? b=some o):(b,o) ∈ Dd fp h:=List.mem_filterMap.mpr ⟨b,hb,by rw [e]; rfl⟩
theorem G8 {fp:List Addr} {p:Addr × Obj} (hp:p ∈ Dd fp h):p.1 ∈ fp/\h.get? p.1=some p.2:=by
 obtain ⟨b,hb,e⟩:=List.mem_filterMap.mp hp;cases q:h.get? b with
 | none=>rw [q] at e; cases e
 | some o =>
  rw [q] at e;have e':(b,o)=p:=Option.some.inj e;subst e';exact ⟨hb,q⟩
theorem Inv.pinned {fp:List Addr} (I:Inv X aa σ H s) (hf:∀ b ∈ fp,D5 X aa H b) (ho:∀ b ∈ fp,∃ o,s.heap.get? b=some o/\∀ v,o.data ≠ .cell v):Inv X (aa++Dd fp s.heap) σ H s :=
 I.pins_of fun p hp=>(mem_append.mp hp).elim (fun z=>I.pin p (mem_append_right _ z)) fun z=>by
  obtain ⟨hb,e⟩:=G8 z;obtain ⟨f0,f1,f2,_⟩:=hf p.1 hb;obtain ⟨o,e',d⟩:=ho p.1 hb;rw [e] at e'; cases e';exact ⟨e,f0,f1,f2,d⟩
theorem Inv.unpinned {pl:LO} (I:Inv X (aa++pl) σ H s):Inv X aa σ H s:=I.pins_of fun p hp=>I.pin p (mem_append_right _ (mem_append_left _ hp))
theorem Cu {iter:Expr} {body:List Stmt} {wi:TI} {g:TG} {tb:TS} (hp:PassesOwn (model X.prog X.w) X.A X.env X.xe) (hc:X.calm=true) (hi:PI X tg iter wi) (hg:PG X tg g) (hb:PSs X body tb)
  (hs:∀ x,foldedSetIterable iter X.env x=pure x:=by intro _; rfl):PS X (.For tg iter body [] pos) (Tn wi g tb):=by
 intro aa s σ H D I h;refine wpAny_For (thn (hi aa s σ H _ I h) fun v s1 h1=>thn h1 fun itv s2 h2=>?_) hs;obtain ⟨it,fp,tn,J,H2,e,I2,T,st2,f2,W,⟨m0,w0⟩,turn⟩:=h2;subst e;have stat:∀ {H':Hp},(∀ b ∈ fp,H' b=none)->∀ b ∈ fp,D5 X aa H' b:=fun hn b hb=>⟨hn b hb,(f2 b hb).2⟩;refine codeAny_forLoop_any (fun n s'=>∃ i σ' H',Inv X aa σ' H' s'/\tn i s'.heap/\(∀ b ∈ fp,H' b=none)/\W i n σ' H') ?_ m0 ⟨0,σ,H2,I2,st2,fun b hb=>(f2 b hb).1,w0⟩;rintro n s3 ⟨i,σ3,H3,I3,st3,fr3,w3⟩;rcases turn i n σ3 H3 w3 with ⟨stop,qn⟩ | ⟨go,N,hN,step⟩
 ·refine wpAny_passesOwn hp (thn (T.done X rfl rfl rfl hc i aa s3 σ3 H3 X.xe I3 (stat fr3) st3 stop) fun r s4 ⟨hr,I4⟩=>?_);subst hr;exact wpAny_execs_nil ⟨σ3,H3,I4,qn⟩
 ·refine wpAny_passesOwn hp (thn (T.item X rfl rfl rfl hc i aa s3 σ3 H3 X.xe I3 (stat fr3) st3 go) fun r s4 ⟨u,hr,h4⟩=>?_);subst hr;refine wpAny_passesOwn hp (thn h4 fun _ s5 ⟨x,H5,I5,r5,y5,st5,fr5⟩=>?_);have I5':=I5.pinned (stat fr5) (T.obj _ _ st5);refine wpAny_passesOwn hp (thn (hg _ s5 σ3 H5 x u _ I5' r5 (step x H5 y5)) fun _ s6 ⟨σ6,H6,I6,q6⟩=>?_);refine wpAny_passesOwn hp (thn (hb _ s6 σ6 H6 _ I6 q6) fun f s7 q7=>?_)
  have again:∀ {σ7:St} {H7:Hp},Inv X (aa++Dd fp s5.heap) σ7 H7 s7->N σ7 H7->∃ m,m < n/\∃ i σ' H',Inv X aa σ' H' s7/\tn i s7.heap/\(∀ b ∈ fp,H' b=none)/\W i m σ' H':=fun {σ7 H7} I7 n7=>by
   obtain ⟨m',hm,w7⟩:=hN σ7 H7 n7;refine ⟨m',hm,i + 1,σ7,H7,I7.unpinned,T.keep _ _ _ st5 fun b hb o e=>(I7.pin (b,o) (mem_append_right _ (mem_append_right _ (CW hb e)))).1,fun b hb=>?_,w7⟩;obtain ⟨o,e,d⟩:=T.obj _ _ st5 b hb;exact (I7.pin (b,o) (mem_append_right _ (mem_append_right _ (CW hb e)))).2.1
  cases f with
  | next=>obtain ⟨σ7,H7,I7,n7⟩:=q7; exact again I7 n7
  | cont=>obtain ⟨σ7,H7,I7,n7⟩:=q7; exact again I7 n7
  | brk=>obtain ⟨σ7,H7,I7,q7⟩:=q7; exact ⟨σ7,H7,I7.unpinned,q7⟩
  | ret v=>obtain ⟨x7,σ7,H7,I7,r7,q7⟩:=q7; exact ⟨x7,σ7,H7,I7.unpinned,r7,q7⟩
end
theorem Cw {g:TG} {tb:TS} {D:Db} (Pv:Nat->St->Hp->Prop) (h0:Pv 0 σ H) (hl:∀ i σ H,i <= xs.length->Pv i σ H->SqL K H a xs)
  (hs:∀ i x σ H,xs[i]?=some x->Pv i σ H->g x σ H fun σ2 H2=>tb { D with nx:=Pv (i + 1),ct:=Pv (i + 1),bk:=D.nx } σ2 H2) (hd:∀ σ H,Pv xs.length σ H->D.nx σ H) :
  ∃ W:Nat->Nat->St->Hp->Prop,(∃ m,W 0 m σ H)/\∀ i m σ H,W i m σ H ->
   ((Itl K a).stop i H/\D.nx σ H)\/((Itl K a).go i H/\∃ N:St->Hp->Prop,(∀ σ' H',N σ' H'->∃ m',m' < m/\W (i + 1) m' σ' H')/\∀ x H',(Itl K a).yld i H x H'->g x σ H' fun σ2 H2=>tb { D with nx:=N,ct:=N,bk:=D.nx } σ2 H2):=by
 refine ⟨fun i m σ H=>m=xs.length - i/\i <= xs.length/\Pv i σ H,⟨xs.length,by simp,Nat.zero_le _,h0⟩,?_⟩;rintro i m σ H ⟨rfl,hi,p⟩;have q:=hl i σ H hi p;by_cases hlt:i < xs.length
 ·refine .inr ⟨⟨xs,xs[i],q,by simp [hlt]⟩,Pv (i + 1),fun σ' H' p'=>⟨xs.length - (i + 1),by omega,rfl,hlt,p'⟩,fun x H' y=>?_⟩;obtain ⟨e,y⟩:=y;subst e;exact hs i x σ _ (y xs q) p
 ·have e:i=xs.length:=by omega
  subst e;exact .inl ⟨⟨xs,q,Nat.le_refl _⟩,hd σ H p⟩
theorem Mj {lo:Int} {n:Nat} {g:TG} {tb:TS} {D:Db} (Pv:Nat->St->Hp->Prop) (h0:Pv 0 σ H)
  (hs:∀ i σ H,i < n->Pv i σ H->g (.int (lo + i)) σ H fun σ2 H2=>tb { D with nx:=Pv (i + 1),ct:=Pv (i + 1),bk:=D.nx } σ2 H2) (hd:∀ σ H,Pv n σ H->D.nx σ H) :
  ∃ W:Nat->Nat->St->Hp->Prop,(∃ m,W 0 m σ H)/\∀ i m σ H,W i m σ H ->
   ((Itr lo n).stop i H/\D.nx σ H)\/((Itr lo n).go i H/\∃ N:St->Hp->Prop,(∀ σ' H',N σ' H'->∃ m',m' < m/\W (i + 1) m' σ' H')/\∀ x H',(Itr lo n).yld i H x H'->g x σ H' fun σ2 H2=>tb { D with nx:=N,ct:=N,bk:=D.nx } σ2 H2):=by
 refine ⟨fun i m σ H=>m=n - i/\i <= n/\Pv i σ H,⟨n,by simp,Nat.zero_le _,h0⟩,?_⟩;rintro i m σ H ⟨rfl,hi,p⟩;by_cases hlt:i < n
 ·refine .inr ⟨hlt,Pv (i + 1),fun σ' H' p'=>⟨n - (i + 1),by omega,rfl,hlt,p'⟩,fun x H' y=>?_⟩;obtain ⟨e,y⟩:=y;subst e y;exact hs i σ _ hlt p
 ·have e:i=n:=by omega
  subst e;exact .inl ⟨Nat.le_refl _,hd σ H p⟩
theorem N5 {c:TT} {tb:TS} {D:Db} (Pv:St->Hp->Prop) (μ:St->Hp->Nat) (h0:Pv σ H)
  (hs:∀ σ H,Pv σ H->c σ H fun b H1=>if b=true then tb { D with nx:=fun σ' H'=>Pv σ' H'/\μ σ' H' < μ σ H,ct:=fun σ' H'=>Pv σ' H'/\μ σ' H' < μ σ H,bk:=D.nx } σ H1 else D.nx σ H1)
  (mono:∀ σ H Q Q',(∀ b H1,Q b H1->Q' b H1)->c σ H Q->c σ H Q'):N1 c tb D σ H:=by
 refine ⟨fun m σ H=>m=μ σ H/\Pv σ H,⟨_,rfl,h0⟩,?_⟩;rintro m σ H ⟨rfl,p⟩;refine mono σ H _ _ (fun b H1 q=>?_) (hs σ H p);cases b with
 | true=>exact ⟨_,fun σ' H' ⟨p',l⟩=>⟨_,l,rfl,p'⟩,q⟩
 | false=>exact q
end L2
namespace L2
open PySem PySem.Spec PyProof.Rows
abbrev R2:=V->V->Hp->VK->Prop
def OpR (X:Cx) (f:Value->Value->Sem Value) (r:R2):Prop :=
 ∀ (aa:LO) (s:Shared) (σ:St) (H:Hp) (x y:V) (v u:Value) (Q:VK),Inv X aa σ H s->RelV x v->RelV y u->r x y H Q ->
  wpAny (model X.prog X.w) X.A (f v u) (EP X aa σ Q) X.xe s
def UnR (X:Cx) (f:Value->Sem Value) (r:V->Hp->VK->Prop):Prop :=
 ∀ (aa:LO) (s:Shared) (σ:St) (H:Hp) (x:V) (v:Value) (Q:VK),Inv X aa σ H s->RelV x v->r x H Q ->
  wpAny (model X.prog X.w) X.A (f v) (EP X aa σ Q) X.xe s
def BJ (X:Cx) (f:Value) (r:List V->Hp->VK->Prop):Prop :=
 ∀ (aa:LO) (s:Shared) (σ:St) (H:Hp) (xs:List V) (us:List Value) (Q:VK),Inv X aa σ H s->Vals xs us->r xs H Q ->
  wpAny (model X.prog X.w) X.A (call f us) (EP X aa σ Q) X.xe s
def tOp (r:R2) (ta tb:TE):TE:=fun σ H Q=>ta σ H fun x H1=>tb σ H1 fun y H2=>r x y H2 Q
def tUn (r:V->Hp->VK->Prop) (ta:TE):TE:=fun σ H Q=>ta σ H fun x H1=>r x H1 Q
def rI (C:Int->Int->Prop) (g:Int->Int->V):R2:=fun x y H Q=>ExI x y fun i j=>C i j/\Q (g i j) H
def rI0 (g:Int->Int->V):R2:=fun x y H Q=>ExI x y fun i j=>Q (g i j) H
def rU (g:Int->V):V->Hp->VK->Prop:=fun x H Q=>∃ i,x=.int i/\Q (g i) H
section
variable {a b c:Expr} {ta tb tc:TE}
theorem Ro (ha:PE X a ta) (hb:PE X b tb) {R:V->V->Hp->Prop} (I:Inv X aa σ H s)
  (h:ta σ H fun x H1=>tb σ H1 fun y H2=>R x y H2) {Q:VS} {f:Value->Value->Sem Value}
  (hf:∀ v u s2 x y H2,Inv X aa σ H2 s2->RelV x v->RelV y u->R x y H2->wpAny (model X.prog X.w) X.A (f v u) Q X.xe s2) :
  wpAny (model X.prog X.w) X.A (eval a X.env) (fun v s₁=>wpAny (model X.prog X.w) X.A (eval b X.env) (fun u s₂=>wpAny (model X.prog X.w) X.A (f v u) Q X.xe s₂) X.xe s₁) X.xe s:=by
 refine thn (ha aa s σ H _ I h) fun v s1 ⟨x,H1,I1,r1,q1⟩=>?_;refine thn (hb aa s1 σ H1 _ I1 q1) fun u s2 ⟨y,H2,I2,r2,q2⟩=>?_;exact hf v u s2 x y H2 I2 r1 r2 q2
theorem AQ {op:Operator} {r:R2} (ho:OpR X (binaryOp op) r) (ha:PE X a ta) (hb:PE X b tb):PE X (.BinOp a op b pos) (tOp r ta tb):=by
 intro aa s σ H Q I h;exact wpAny_BinOp (Ro ha hb I h fun v u s2 x y H2 I2 rx ry q=>ho aa s2 σ H2 x y v u Q I2 rx ry q)
theorem N6 {op:UnaryOp} {r:V->Hp->VK->Prop} (ho:UnR X (unaryOp op) r) (ha:PE X a ta):PE X (.UnaryOp op a pos) (tUn r ta):=by
 intro aa s σ H Q I h;exact UnaryOp_ (thn (ha aa s σ H _ I h) fun v s1 ⟨x,H1,I1,r1,q1⟩=>ho aa s1 σ H1 x v Q I1 r1 q1)
theorem opI {f:Value->Value->Sem Value} {C:Int->Int->Prop} {g:Int->Int->Int}
  (rule:∀ (i j:Int) (t u:Tok) (s:Shared) (Q:VS) (E:VS),C i j->Q (.int (g i j) s.toks) { s with toks:=s.toks + 1 }->wpAny (model X.prog X.w) X.A (f (.int i t) (.int j u)) Q E s) :
  OpR X f (rI C fun i j=>.int (g i j)):=by
 intro aa s σ H x y v u Q I rx ry h;obtain ⟨i,j,rfl,rfl,hc,q⟩:=h;obtain ⟨t,rfl⟩:=rx;obtain ⟨t',rfl⟩:=ry;exact rule i j t t' s _ _ hc ⟨.int (g i j),H,I.tok _,⟨_,rfl⟩,q⟩
theorem Ml {f:Value->Value->Sem Value} {g:Int->Int->Int}
  (rule:∀ (i j:Int) (t u:Tok) (s:Shared) (Q:VS) (E:VS),Q (.int (g i j) s.toks) { s with toks:=s.toks + 1 }->wpAny (model X.prog X.w) X.A (f (.int i t) (.int j u)) Q E s) :
  OpR X f (rI0 fun i j=>.int (g i j)):=by
 intro aa s σ H x y v u Q I rx ry h;obtain ⟨i,j,rfl,rfl,q⟩:=h;obtain ⟨t,rfl⟩:=rx;obtain ⟨t',rfl⟩:=ry;exact rule i j t t' s _ _ ⟨.int (g i j),H,I.tok _,⟨_,rfl⟩,q⟩
theorem P8 {f:Value->Value->Sem Value} {g:Int->Int->Bool}
  (rule:∀ (i j:Int) (t u:Tok) (s:Shared) (Q:VS) (E:VS),Q (.bool (g i j)) s->wpAny (model X.prog X.w) X.A (f (.int i t) (.int j u)) Q E s) :
  OpR X f (rI0 fun i j=>.bl (g i j)):=by
 intro aa s σ H x y v u Q I rx ry h;obtain ⟨i,j,rfl,rfl,q⟩:=h;obtain ⟨t,rfl⟩:=rx;obtain ⟨t',rfl⟩:=ry;exact rule i j t t' s _ _ ⟨.bl (g i j),H,I,rfl,q⟩
def To (i j:Int):Prop:=0 < j/\j < 1073741824
def Rp (i j:Int):Prop:=0 <= j/\j <= 1000000/\i.natAbs < 2 ^ 64
def CMul (i j:Int):Prop:=(-(2 ^ 64) < i/\i < 2 ^ 64)\/(-(2 ^ 64) < j/\j < 2 ^ 64)
theorem CMul.ok {i j:Int} (h:CMul i j):IntMulOk i j:=by
 rcases h with ⟨h1,h2⟩ | ⟨h1,h2⟩
 ·exact .of_left (intBits_le_64 h1 h2)
 ·exact .of_right (intBits_le_64 h1 h2)
theorem KR (k:Nat):(0:Int) <= 2 ^ k:=by
 rw [two_pow_cast];exact Int.natCast_nonneg _
theorem Cy:OpR X (binaryOp .Add) (rI0 fun i j=>.int (i + j)):=Ml fun _ _ _ _ _ _ _ q=>add_int q
theorem Rq:OpR X (binaryOp .Sub) (rI0 fun i j=>.int (i - j)):=Ml fun _ _ _ _ _ _ _ q=>sub_int q
theorem Fi:OpR X (binaryOp .Mult) (rI CMul fun i j=>.int (i * j)):=opI fun _ _ _ _ _ _ _ hc q=>mul_int q hc.ok
theorem Hy:OpR X (binaryOp .FloorDiv) (rI To fun i j=>.int (i / j)):=opI fun i j _ _ _ _ _ hc q=>by
 have h1:(0:Int) < j:=hc.1;have h2:j < 1073741824:=hc.2;exact floordiv_int (by omega) (by rw [Int.fdiv_eq_ediv_of_nonneg i (by omega)]; exact q) (.inl (PyProof.noPylong_small (by omega)))
theorem De:OpR X (binaryOp .Mod) (rI (fun _ j=>0 < j) fun i j=>.int (i % j)):=opI fun i j _ _ _ _ _ hc q=>by
 have h1:(0:Int) < j:=hc;exact mod_int' (by omega) (by rw [Int.fmod_eq_emod_of_nonneg i (by omega)]; exact q)
theorem KS:OpR X (binaryOp .Pow) (rI Rp fun i j=>.int (i ^ j.toNat)):=opI fun _ _ _ _ _ _ _ hc q=>pow_int_small hc.1 hc.2.1 hc.2.2 q
theorem Fj:OpR X (binaryOp .LShift) (rI Rp fun i j=>.int (i * 2 ^ j.toNat)):=opI fun _ _ _ _ _ _ _ hc q=>lshift_int_small hc.1 hc.2.1 hc.2.2 q
theorem N7:OpR X (binaryOp .RShift) (rI (fun _ j=>0 <= j) fun i j=>.int (i / 2 ^ j.toNat)):=opI fun i j _ _ _ _ _ hc q =>
 rshift_int hc (by rw [Int.fdiv_eq_ediv_of_nonneg i (KR _)]; exact q)
theorem CY:OpR X (binaryOp .BitAnd) (rI0 fun i j=>.int (Builtin.bitAnd i j)):=Ml fun _ _ _ _ _ _ _ q=>and_int q
theorem Lo:OpR X (binaryOp .BitOr) (rI0 fun i j=>.int (Builtin.bitOr i j)):=Ml fun _ _ _ _ _ _ _ q=>or_int q
theorem Rr:OpR X (binaryOp .BitXor) (rI0 fun i j=>.int (Builtin.bitXor i j)):=Ml fun _ _ _ _ _ _ _ q=>xor_int q
theorem Rs:OpR X (inplaceOp .BitOr) (rI0 fun i j=>.int (Builtin.bitOr i j)):=Ml fun _ _ _ _ _ _ _ q=>ior_int q
theorem unI {f:Value->Sem Value} {g:Int->Int}
  (rule:∀ (i:Int) (t:Tok) (s:Shared) (Q:VS) (E:VS),Q (.int (g i) s.toks) { s with toks:=s.toks + 1 }->wpAny (model X.prog X.w) X.A (f (.int i t)) Q E s) :
  UnR X f (rU fun i=>.int (g i)):=by
 intro aa s σ H x v Q I rx h;obtain ⟨i,rfl,q⟩:=h;obtain ⟨t,rfl⟩:=rx;exact rule i t s _ _ ⟨.int (g i),H,I.tok _,⟨_,rfl⟩,q⟩
theorem KU:UnR X (unaryOp .Invert) (rU fun i=>.int (Builtin.bitNot i)):=unI fun _ _ _ _ _ q=>invert_int q
end
noncomputable def Ss:V->V->Bool
 | .non,.non=>true | .non,.int _=>true | .int _,.non=>true | .non,.bl _=>true | .bl _,.non=>true | .non,.str _=>true | .str _,.non=>true
 | .int _,.int _=>true | .bl _,.bl _=>true | .str _,.str _=>true | .byt _,.byt _=>true
 | .int _,.str _=>true | .str _,.int _=>true | .bl _,.str _=>true | .str _,.bl _=>true
 | _,_=>false
def rEq:R2:=fun x y H Q=>Ss x y=true/\Q (.bl (decide (x=y))) H
def rNe:R2:=fun x y H Q=>Ss x y=true/\Q (.bl (!decide (x=y))) H
theorem Lp {i j:Int}:decide (V.int i=V.int j)=(i == j):=by
 rw [Bool.eq_iff_iff];simp
theorem N8 {i j:Bool}:decide (V.bl i=V.bl j)=(i == j):=by
 rw [Bool.eq_iff_iff];simp
theorem Lq {i j:Str}:decide (V.str i=V.str j)=(i == j):=by
 rw [Bool.eq_iff_iff];simp
theorem Lr {i j:Array UInt8}:decide (V.byt i=V.byt j)=(i.toList == j.toList):=by
 rw [Bool.eq_iff_iff];cases i;cases j;simp
section
variable {a b c:Expr} {ta tb tc:TE}
theorem Ah {Q:VK} {k k':Bool} (I:Inv X aa σ H s) (q:Q (.bl k) H) (e:k=k'):EP X aa σ Q (.bool k') s:=by
 subst e;exact ⟨.bl k,H,I,rfl,q⟩
theorem DU:OpR X (compareOp .Eq) rEq:=by
 intro aa s σ H x y v u Q I rx ry h;obtain ⟨hs,q⟩:=h;cases x with
 | non =>
  cases rx;cases y with
  | non=>cases ry; exact PySem.EqNone.eq_none_none (Ah I q (by simp))
  | bl j=>cases ry; exact PySem.EqNone.eq_none_bool (Ah I q (by simp))
  | int j=>obtain ⟨t',rfl⟩:=ry; exact PySem.EqNone.eq_none_int (Ah I q (by simp))
  | str j=>obtain ⟨t',rfl⟩:=ry; exact PySem.EqNone.eq_none_str (Ah I q (by simp))
  | _=>exact absurd (show false=true from hs) Bool.false_ne_true
 | bl i =>
  cases rx;cases y with
  | non=>cases ry; exact PySem.EqNone.eq_bool_none (Ah I q (by simp))
  | bl j=>cases ry; exact eq_bool (Ah I q N8)
  | str j=>obtain ⟨t',rfl⟩:=ry; exact PySem.EqMixed.eq_bool_str (Ah I q (by simp))
  | _=>exact absurd (show false=true from hs) Bool.false_ne_true
 | int i =>
  obtain ⟨t,rfl⟩:=rx;cases y with
  | non=>cases ry; exact PySem.EqNone.eq_int_none (Ah I q (by simp))
  | int j=>obtain ⟨t',rfl⟩:=ry; exact eq_int (Ah I q Lp)
  | str j=>obtain ⟨t',rfl⟩:=ry; exact PySem.EqMixed.eq_int_str (Ah I q (by simp))
  | _=>exact absurd (show false=true from hs) Bool.false_ne_true
 | str i =>
  obtain ⟨t,rfl⟩:=rx;cases y with
  | non=>cases ry; exact PySem.EqNone.eq_str_none (Ah I q (by simp))
  | bl j=>cases ry; exact PySem.EqMixed.eq_str_bool (Ah I q (by simp))
  | int j=>obtain ⟨t',rfl⟩:=ry; exact PySem.EqMixed.eq_str_int (Ah I q (by simp))
  | str j=>obtain ⟨t',rfl⟩:=ry; exact eq_str (Ah I q Lq)
  | _=>exact absurd (show false=true from hs) Bool.false_ne_true
 | byt i =>
  obtain ⟨t,rfl⟩:=rx;cases y with
  | byt j=>obtain ⟨t',rfl⟩:=ry; exact W.eq_bytes (Ah I q Lr)
  | _=>exact absurd (show false=true from hs) Bool.false_ne_true
 | _=>cases y <;> exact absurd (show false=true from hs) Bool.false_ne_true
theorem Fk:OpR X (compareOp .NotEq) rNe:=by
 intro aa s σ H x y v u Q I rx ry h;obtain ⟨hs,q⟩:=h;cases x with
 | non =>
  cases rx;cases y with
  | non=>cases ry; exact PySem.EqNone.ne_none_none (Ah I q (by simp))
  | bl j=>cases ry; exact PySem.EqNone.ne_none_bool (Ah I q (by simp))
  | int j=>obtain ⟨t',rfl⟩:=ry; exact PySem.EqNone.ne_none_int (Ah I q (by simp))
  | str j=>obtain ⟨t',rfl⟩:=ry; exact PySem.EqNone.ne_none_str (Ah I q (by simp))
  | _=>exact absurd (show false=true from hs) Bool.false_ne_true
 | bl i =>
  cases rx;cases y with
  | non=>cases ry; exact PySem.EqNone.ne_bool_none (Ah I q (by simp))
  | bl j=>cases ry; exact ne_bool (Ah I q (congrArg not N8))
  | str j=>obtain ⟨t',rfl⟩:=ry; exact PySem.EqMixed.ne_bool_str (Ah I q (by simp))
  | _=>exact absurd (show false=true from hs) Bool.false_ne_true
 | int i =>
  obtain ⟨t,rfl⟩:=rx;cases y with
  | non=>cases ry; exact PySem.EqNone.ne_int_none (Ah I q (by simp))
  | int j=>obtain ⟨t',rfl⟩:=ry; exact ne_int (Ah I q (congrArg not Lp))
  | str j=>obtain ⟨t',rfl⟩:=ry; exact PySem.EqMixed.ne_int_str (Ah I q (by simp))
  | _=>exact absurd (show false=true from hs) Bool.false_ne_true
 | str i =>
  obtain ⟨t,rfl⟩:=rx;cases y with
  | non=>cases ry; exact PySem.EqNone.ne_str_none (Ah I q (by simp))
  | bl j=>cases ry; exact PySem.EqMixed.ne_str_bool (Ah I q (by simp))
  | int j=>obtain ⟨t',rfl⟩:=ry; exact PySem.EqMixed.ne_str_int (Ah I q (by simp))
  | str j=>obtain ⟨t',rfl⟩:=ry; exact ne_str (Ah I q (congrArg not Lq))
  | _=>exact absurd (show false=true from hs) Bool.false_ne_true
 | byt i =>
  obtain ⟨t,rfl⟩:=rx;cases y with
  | byt j=>obtain ⟨t',rfl⟩:=ry; exact W.ne_bytes (Ah I q (congrArg not Lr))
  | _=>exact absurd (show false=true from hs) Bool.false_ne_true
 | _=>cases y <;> exact absurd (show false=true from hs) Bool.false_ne_true
theorem Su:OpR X (compareOp .Lt) (rI0 fun i j=>.bl (decide (i < j))):=P8 fun _ _ _ _ _ _ _ q=>lt_int q
theorem FB:OpR X (compareOp .LtE) (rI0 fun i j=>.bl (decide (i <= j))):=P8 fun _ _ _ _ _ _ _ q=>le_int q
theorem N9:OpR X (compareOp .Gt) (rI0 fun i j=>.bl (decide (j < i))):=P8 fun _ _ _ _ _ _ _ q=>gt_int q
theorem RQ:OpR X (compareOp .GtE) (rI0 fun i j=>.bl (decide (j <= i))):=P8 fun _ _ _ _ _ _ _ q=>ge_int q
theorem Ac (b:Expr) {op:CmpOp} (h:op ≠ .In:=by decide) (h2:op ≠ .NotIn:=by decide):behindInMarks op b=false:=by
 have e1:(op == CmpOp.In)=false:=by cases op <;> first | rfl | exact absurd rfl h
 have e2:(op == CmpOp.NotIn)=false:=by cases op <;> first | rfl | exact absurd rfl h2
 cases b <;> simp [behindInMarks,e1,e2]
theorem Bj {op:CmpOp} {r:R2} (ho:OpR X (compareOp op) r) (ha:PE X a ta) (hb:PE X b tb) (hm:behindInMarks op b=false):PE X (.Compare a [op] [b] pos) (tOp r ta tb):=by
 intro aa s σ H Q I h;exact wpAny_Compare1 (Ro ha hb I h fun v u s2 x y H2 I2 rx ry q=>ho aa s2 σ H2 x y v u Q I2 rx ry q) hm
def RS (t:TE):TT:=fun σ H Q=>t σ H fun x H'=>ExB x fun k=>Q k H'
theorem AW {op:CmpOp} {r:R2} (ho:OpR X (compareOp op) r) (ha:PE X a ta) (hb:PE X b tb) (hm:behindInMarks op b=false):PT X (.Compare a [op] [b] pos) (RS (tOp r ta tb)):=by
 intro aa s σ H Q I h
 refine wpAny_isTrue_Compare1 (thn (ha aa s σ H _ I h) fun v s1 ⟨x,H1,I1,r1,q1⟩=>thn (hb aa s1 σ H1 _ I1 q1) fun u s2 ⟨y,H2,I2,r2,q2⟩ =>
  thn (ho aa s2 σ H2 x y v u _ I2 r1 r2 q2) fun c s3 ⟨z,H3,I3,r3,k,e,q3⟩=>?_) hm
 subst e;cases r3;exact wpAny_truthy_bool ⟨H3,I3,q3⟩
def OA (r r':R2) (ta tb tc:TE):TE:=fun σ H Q=>ta σ H fun x H1=>tb σ H1 fun y H2=>r x y H2 fun z H3=>∃ k,z=.bl k /\
 (if k=true then tc σ H3 fun w' H4=>r' y w' H4 Q else Q (.bl false) H3)
theorem JA {op op':CmpOp} {r r':R2} (ho:OpR X (compareOp op) r) (ho':OpR X (compareOp op') r') (ha:PE X a ta) (hb:PE X b tb) (hc:PE X c tc)
  (hm:lastMarks [op,op'] [b,c]=false:=by with_unfolding_all rfl):PE X (.Compare a [op,op'] [b,c] pos) (OA r r' ta tb tc):=by
 intro aa s σ H Q I h
 refine Compare_chain (thn (ha aa s σ H _ I h) fun v s1 ⟨x,H1,I1,r1,q1⟩=>chain_link (thn (hb aa s1 σ H1 _ I1 q1) fun u s2 ⟨y,H2,I2,r2,q2⟩ =>
  thn (ho aa s2 σ H2 x y v u _ I2 r1 r2 q2) fun d s3 ⟨z,H3,I3,r3,k,e,q3⟩=>?_)) hm
 subst e;cases r3;refine wpAny_truthy_bool ?_;cases k with
 | false=>exact ite_ff ⟨.bl false,H3,I3,rfl,q3⟩
 | true=>exact ite_tt (chain_last (thn (hc aa s3 σ H3 _ I3 q3) fun w' s4 ⟨z',H4,I4,r4,q4⟩=>ho' aa s4 σ H4 y z' u w' Q I4 r2 r4 q4))
theorem Fl {op op':CmpOp} {r r':R2} (ho:OpR X (compareOp op) r) (ho':OpR X (compareOp op') r') (ha:PE X a ta) (hb:PE X b tb) (hc:PE X c tc)
  (hm:lastMarks [op,op'] [b,c]=false:=by with_unfolding_all rfl):PT X (.Compare a [op,op'] [b,c] pos) (RS (OA r r' ta tb tc)):=by
 intro aa s σ H Q I h
 refine isTrue_chain (thn (ha aa s σ H _ I h) fun v s1 ⟨x,H1,I1,r1,q1⟩=>test_link (thn (hb aa s1 σ H1 _ I1 q1) fun u s2 ⟨y,H2,I2,r2,q2⟩ =>
  thn (ho aa s2 σ H2 x y v u _ I2 r1 r2 q2) fun d s3 ⟨z,H3,I3,r3,k,e,q3⟩=>?_)) hm
 subst e;cases r3;refine wpAny_truthy_bool ?_;cases k with
 | false =>
  obtain ⟨k',e',q'⟩:=q3;cases e';exact ite_ff ⟨H3,I3,q'⟩
 | true =>
  refine ite_tt (test_last (thn (hc aa s3 σ H3 _ I3 q3) fun w' s4 ⟨z',H4,I4,r4,q4⟩=>thn (ho' aa s4 σ H4 y z' u w' _ I4 r2 r4 q4) fun d' s5 ⟨z2,H5,I5,r5,k2,e2,q5⟩=>?_));subst e2;cases r5;exact wpAny_truthy_bool ⟨H5,I5,q5⟩
theorem Fo:(sizeLine:Nat) < 2 ^ 63:=by rw [sizeLine_eq]; decide
theorem Bc {x:V} (r:Vals [x] us):∃ u,us=[u]/\RelV x u:=by
 cases r with
 | cons r1 r2=>cases r2; exact ⟨_,rfl,r1⟩
theorem G9 {x y:V} (r:Vals [x,y] us):∃ u w',us=[u,w']/\RelV x u/\RelV y w':=by
 cases r with
 | cons r1 r2 =>
  cases r2 with
  | cons r3 r4=>cases r4; exact ⟨_,_,rfl,r1,r3⟩
theorem Mm (hc:X.calm=true):BJ X (.builtin "max") (fun xs H Q=>∃ i j,xs=[.int i,.int j]/\Q (.int (if j > i then j else i)) H):=by
 intro aa s σ H xs us Q I r h;obtain ⟨i,j,rfl,q⟩:=h;obtain ⟨u,w',rfl,⟨t,rfl⟩,⟨t',rfl⟩⟩:=G9 r;refine max_two_ints (I.ok.hd hc) fun h' tk k=>⟨_,H,I.kept k,?_,q⟩;by_cases hj:j > i
 ·rw [if_pos hj,if_pos hj]; exact ⟨_,rfl⟩
 ·rw [if_neg hj,if_neg hj]; exact ⟨_,rfl⟩
theorem Mn (hc:X.calm=true):BJ X (.builtin "min") (fun xs H Q=>∃ i j,xs=[.int i,.int j]/\Q (.int (if j < i then j else i)) H):=by
 intro aa s σ H xs us Q I r h;obtain ⟨i,j,rfl,q⟩:=h;obtain ⟨u,w',rfl,⟨t,rfl⟩,⟨t',rfl⟩⟩:=G9 r;refine min_two_ints (I.ok.hd hc) fun h' tk k=>⟨_,H,I.kept k,?_,q⟩;by_cases hj:j < i
 ·rw [if_pos hj,if_pos hj]; exact ⟨_,rfl⟩
 ·rw [if_neg hj,if_neg hj]; exact ⟨_,rfl⟩
theorem Mo:BJ X (.type "int") (fun xs H Q=>(∃ i,xs=[.int i]/\Q (.int i) H)\/∃ k,xs=[.bl k]/\Q (.int (if k then 1 else 0)) H):=by
 intro aa s σ H xs us Q I r h;rcases h with ⟨i,rfl,q⟩ | ⟨k,rfl,q⟩
 ·obtain ⟨u,rfl,t,rfl⟩:=Bc r;exact call_int_int ⟨.int i,H,I,⟨_,rfl⟩,q⟩
 ·obtain ⟨u,rfl,r1⟩:=Bc r;cases r1;exact call_int_bool ⟨.int (if k then 1 else 0),H,I.tok _,⟨_,rfl⟩,q⟩
end
end L2
namespace L2
open PySem PySem.Spec PyProof.Rows
structure ObjM (h:Heap) (x dx C:Addr) (mA:SV):Prop where
 obj:h.get? x=some (W.instObj C dx)
 ns:h.Ns1 dx mA
 ne:dx ≠ x
theorem HA {dx:Addr} {mA:SV} (n:h.Ns1 dx mA):∃ od,h.get? dx=some od/\∀ name,W.lookIn name od=some (mA name):=by
 obtain ⟨o,es,ep,ho,hd,hk,_,hm⟩:=n;refine ⟨o,ho,fun name=>?_⟩;have e:=hm name;unfold nsFind findBy at e;rw [← Array.find?_toList] at e;unfold W.lookIn;rw [hd]
 dsimp only
 split
 ·rename_i y q;rw [q] at e;exact congrArg some e
 ·rename_i q;rw [q] at e
  have a:es.toList.any (·.refKey)=false:=by
   rw [List.any_eq_false];intro y hy;obtain ⟨z,t,bz⟩:=hk y (Array.mem_toList_iff.mp hy);simp [DictEntry.refKey,bz]
  have a':¬ es.toList.any (·.refKey)=true:=by rw [a]; exact Bool.false_ne_true
  rw [if_neg a'];exact congrArg some e
theorem ObjM.look {x dx:Addr} {mA:SV} (I:ObjM h x dx C mA):∃ od,W.InstAt h x (W.instObj C dx) C (some od)/\∀ name,W.lookIn name od=some (mA name) :=
 let ⟨od,ho,hl⟩:=HA I.ns
 ⟨od,⟨I.obj,rfl,rfl,ho⟩,hl⟩
section
variable {prog:Program} {x dx:Addr} {mA:SV} {name:Str} {v:Value}
theorem P9 {expr:Bool} {Q:VS} (X:K.In s.heap) (I:ObjM s.heap x dx C mA) (hg:W.plainGet K C name=true) (hh:W.hasDictIn K C=true)
  (ha:W.findIn K (.ref C) name=some none) (hv:mA name=some v) (hv':W.handedIn v=true) (h:Q v { s with toks:=s.toks + 1 }) :
  wpAny (model prog w) A (getAttr (.ref x) name expr) Q E s:=by
 obtain ⟨od,J,hl⟩:=I.look;exact W.get_value X J (W.plainGet_of hg).1 (W.findObj_own hh ha rfl (by rw [hl,hv])) hv' h
theorem OB {pl:Sem Bool} {Q:Value × List Value->Shared->Prop} (X:K.In s.heap) (I:ObjM s.heap x dx C mA) (hg:W.plainGet K C name=true)
  (hf:W.findIn K (.ref C) name=some (some (.ref f))) (ht:W.isFn K (.ref f)=true) (hv:mA name=none) (h:Q (.ref f,[.ref x]) s) :
  wpAny (model prog w) A (getMethod (.ref x) name pl) Q E s:=by
 obtain ⟨od,J,hl⟩:=I.look;exact W.method_fn X J (W.plainGet_of hg).1 (W.plainGet_of hg).2 hf (beq_iff_eq.mp ht) (by show (W.lookIn name od).map (·.isSome)=some false; rw [hl,hv]; rfl) h
theorem QA {ns:List Str} {Q:Unit->Shared->Prop} (X:K.In s.heap) (I:ObjM s.heap x dx C mA)
  (hs:W.findIn K (.ref C) "__setattr__" = some (some (.builtin "object.__setattr__"))) (hp:W.plainOver K C=true) (ht:W.takerIn K C name=some none) (hh:W.hasDictIn K C=true)
  (hw:PySem.Within mA ns) (hsz:ns.length <= sizeLine)
  (h:∀ h',ObjM h' x dx C (fun y=>if y=name then some v else mA y)->Heap.SameBut dx s.heap h'->Q () { s with heap:=h',toks:=s.toks + 2 }) :
  wpAny (model prog w) A (setAttr (.ref x) name v) Q E s:=by
 obtain ⟨od,J,hl⟩:=I.look;refine W.set_plain X J hs (W.osa_open (s:={ s with toks:=s.toks + 1 }) (r:=none) X J hp ht fun b=>?_);obtain ⟨cd,hc,hd'⟩:=W.any_some hh;have hx:s.heap.get? x=some ⟨.ref C,some dx,.plain,#[]⟩:=I.obj;refine wpAny_bind (wpAny_pure (wpAny_bind (wpAny_bind (wpAny_loadPart hx (wpAny_bind (W.Looks.here (s:={ s with toks:=s.toks + 1 }) (W.looks_clsIn X hc) ?_))))));rw [hd'];refine wpAny_pure (a:=some dx) (wpAny_bind (wpAny_pure (wpAny_bind ?_)));refine wpAny_nsSet1 (s:={ s with toks:=s.toks + 1 }) I.ns fun h' hn2 hs2=>?_;obtain ⟨oD,esD,epD,hoD,hdD,hcD⟩:=hn2.count (PySem.Within.cons name v hw);refine wpAny_bind (wpAny_lookBehind hoD (by rw [hdD]; exact pastItsLine_dict (Nat.le_trans hcD (by rw [length_cons]; omega))) ?_);exact wpAny_pure (h _ ⟨(hs2.2 _ (Ne.symm I.ne)).trans I.obj,hn2,I.ne⟩ hs2)
theorem JB {R:Result->Shared->Prop} {vs:List Value} {kw:List (Str × Value)} (X:K.In s.heap) (hm:W.makesIn K C=true)
  (hi:W.findIn K (.ref C) "__init__" = some (some (.ref f))) (hf:W.typeIn K (.ref f)=some (.type "function"))
  (h:codeAny (model prog w) (A.under (.builtin "type.__call__" ⟨.ref C :: vs,kw⟩)) (.call (.ref f) ⟨.ref (s.heap.objs.size + 1) :: vs,kw⟩) (W.InitBack (s.heap.objs.size + 1) R)
   { s with heap:=(s.heap.push W.emptyDict).push (W.instObj C s.heap.objs.size) }) :
  codeAny (model prog w) A (.call (.ref C) ⟨vs,kw⟩) R s:=by
 obtain ⟨hh,g,d,t,os⟩:=s;exact W.make_core (W.makes_of X hm) (W.looks_findIn X hi) (fun self=>W.bind_fn X self hf) (.inl rfl) h
end
noncomputable def BU (f:Str) (v:V):List (Str × V)->List (Str × V)
  | []=>[(f,v)]
  | (g,x) :: r=>if g=f then (g,v) :: r else (g,x) :: BU f v r
theorem AX (f g:Str) (v:V):∀ fs:List (Str × V),(BU f v fs).lookup g=if g=f then some v else fs.lookup g
  | []=>by
    show List.lookup g [(f,v)]=_;by_cases h:g=f
    · have hb:(g == f)=true:=beq_iff_eq.mpr h
      simp only [List.lookup,hb,if_pos h]
    · have hb:(g == f)=false:=beq_eq_false_iff_ne.mpr h
      simp only [List.lookup,hb,if_neg h]
  | (k,x) :: r=>by
    have ih:=AX f g v r;rw [show BU f v ((k,x) :: r)=(if k=f then (k,v) :: r else (k,x) :: BU f v r) from rfl];by_cases hk:k=f
    · rw [if_pos hk]
      by_cases h:g=k
      · have hb:(g == k)=true:=beq_iff_eq.mpr h
        simp only [List.lookup,hb,if_pos (h.trans hk)]
      · have hb:(g == k)=false:=beq_eq_false_iff_ne.mpr h
        simp only [List.lookup,hb,if_neg (fun e:g=f=>h (e.trans hk.symm))]
    · rw [if_neg hk]
      by_cases h:g=k
      · have hb:(g == k)=true:=beq_iff_eq.mpr h
        simp only [List.lookup,hb,if_neg (fun e:g=f=>hk (h.symm.trans e))]
      · have hb:(g == k)=false:=beq_eq_false_iff_ne.mpr h
        simp only [List.lookup,hb];exact ih
theorem Ei (f:Str) (v:V):∀ fs:List (Str × V),f ∈ (BU f v fs).map (·.1)/\∀ g,g ∈ fs.map (·.1)->g ∈ (BU f v fs).map (·.1)
  | []=>⟨by simp [BU],fun g h=>by simp at h⟩
  | (k,x) :: r=>by
    obtain ⟨i1,i2⟩:=Ei f v r;rw [show BU f v ((k,x) :: r)=(if k=f then (k,v) :: r else (k,x) :: BU f v r) from rfl];by_cases hk:k=f
    · rw [if_pos hk]
      subst hk;exact ⟨by simp,fun g h=>by simpa using h⟩
    · rw [if_neg hk]
      refine ⟨?_,fun g h=>?_⟩
      · rw [map_cons]
        exact mem_cons_of_mem _ i1
      · rw [map_cons] at h ⊢
        rcases mem_cons.mp h with e | e
        · exact mem_cons.mpr (.inl e)
        · exact mem_cons_of_mem _ (i2 g e)
theorem B4 (f:Str) (v:V):∀ fs:List (Str × V),(BU f v fs).length <= fs.length + 1
  | []=>by simp [BU]
  | (k,x) :: r=>by
    have ih:=B4 f v r;rw [show BU f v ((k,x) :: r)=(if k=f then (k,v) :: r else (k,x) :: BU f v r) from rfl];by_cases hk:k=f
    · rw [if_pos hk,length_cons,length_cons]; omega
    · rw [if_neg hk,length_cons,length_cons]; omega
theorem RelO.some_of {v:V} {o:Option Value} (r:RelO (some v) o):∃ u,o=some u/\RelV v u:=by
 cases o with
 | none=>exact (show False from r).elim
 | some u=>exact ⟨u,rfl,r⟩
theorem RelO.none_of {o:Option Value} (r:RelO none o):o=none:=by
 cases o with
 | none=>rfl
 | some u=>exact (show False from r).elim
theorem HB {v:V} (r:RelV v u):W.handedIn u=true:=by
 cases v with
 | non=>cases (show u=Value.none from r); rfl
 | bl b=>cases (show u=Value.bool b from r); rfl
 | int i=>obtain ⟨t,e⟩:=(show ∃ t,u=Value.int i t from r); cases e; rfl
 | str x=>obtain ⟨t,e⟩:=(show ∃ t,u=Value.str x t from r); cases e; rfl
 | byt b=>obtain ⟨t,e⟩:=(show ∃ t,u=Value.bytes b t from r); cases e; rfl
 | flt b=>obtain ⟨t,e⟩:=(show ∃ t,u=Value.float b t from r); cases e; rfl
 | ref a=>cases (show u=Value.ref a from r); rfl
 | ty n=>cases (show u=Value.type n from r); rfl
section
variable {h':Heap} {dx:Addr} {fs fs':List (Str × V)}
theorem B5 (hok:HOk P w H h) (e:H a=some (.ins C dx fs)):∃ mA,ObjM h a dx C mA/\(∀ f,RelO (fs.lookup f) (mA f))/\PySem.Within mA (fs.map (·.1))/\fs.length <= 1000/\H dx=some (.own a):=by
 obtain ⟨d,z,ne,ob,mA,n,r,q⟩:=(show ObjOk P w H h a (.ins C dx fs) from hok a _ e);exact ⟨mA,⟨ob,n,ne⟩,r,q,z,d⟩
end
structure Cls (K:FG) (C:Addr):Prop where
 pg:W.plainGet K C Str.empty=true
 hd:W.hasDictIn K C=true
 po:W.plainOver K C=true
 sa:W.findIn K (.ref C) "__setattr__" = some (some (.builtin "object.__setattr__"))
theorem Cls.get (c:Cls K C) (f:Str):W.plainGet K C f=true:=c.pg
def NoAttr (K:FG) (C:Addr) (f:Str):Prop:=W.findIn K (.ref C) f=some none
theorem NoAttr.taker {f:Str} (n:NoAttr K C f):W.takerIn K C f=some none:=by
 unfold W.takerIn;rw [show W.findIn K (.ref C) f=some none from n];rfl
structure Mp (K:FG) (C:Addr) (m:Str) (f:Addr):Prop where
 at_:W.findIn K (.ref C) m=some (some (.ref f))
 fn:W.isFn K (.ref f)=true
 kp:W.keepIn K (.ref f)=true
section
variable {dx:Addr} {fs:List (Str × V)} {f:Str} {v:V}
theorem KW {b:Bool} {Q:VS} (I:Inv X aa σ H s) (e:H a=some (.ins C dx fs)) (c:Cls X.K C) (n:NoAttr X.K C f) (l:fs.lookup f=some v)
  (h:∀ u s',Inv X aa σ H s'->RelV v u->Q u s'):wpAny (model X.prog X.w) A (getAttr (.ref a) f b) Q E s:=by
 obtain ⟨mA,O,r,_,_,_⟩:=B5 I.hok e;obtain ⟨u,hu,ru⟩:=RelO.some_of (v:=v) (o:=mA f) (by rw [← l]; exact r f);exact P9 I.kIn O (c.get f) c.hd n hu (HB ru) (h u _ (I.tok _) ru)
theorem KY {m:Str} {g:Addr} {pl:Sem Bool} {Q:Value × List Value->Shared->Prop} (I:Inv X aa σ H s) (e:H a=some (.ins C dx fs)) (c:Cls X.K C) (k:Mp X.K C m g) (l:fs.lookup m=none)
  (h:Q (.ref g,[.ref a]) s):wpAny (model X.prog X.w) A (getMethod (.ref a) m pl) Q E s:=by
 obtain ⟨mA,O,r,_,_,_⟩:=B5 I.hok e;have hn:mA m=none:=RelO.none_of (by rw [← l]; exact r m);exact OB I.kIn O (c.get m) k.at_ k.fn hn h
theorem Ka {y:V} {Q:Unit->Shared->Prop} (I:Inv X aa σ H s) (e:H a=some (.ins C dx fs)) (c:Cls X.K C) (n:NoAttr X.K C f) (hl:fs.length < 1000) (ry:RelV y u)
  (h:∀ s',Inv X aa σ (upd H a (.ins C dx (BU f y fs))) s'->Q () s'):wpAny (model X.prog X.w) A (setAttr (.ref a) f u) Q E s:=by
 obtain ⟨mA,O,r,wi,_,ho⟩:=B5 I.hok e;have hz:(fs.map (·.1)).length <= sizeLine:=by rw [AK,sizeLine_eq]; omega
 refine QA I.kIn O c.sa c.po n.taker c.hd wi hz fun h' O' sb=>h _ ?_;have hd:∃ o,h'.get? dx=some o:=let ⟨o,_,_,e',_⟩:=O'.ns; ⟨o,e'⟩
 refine I.write (x:=a) (e:=dx) (by rw [e]; exact True.intro) (.inr ho) (fun b q hb z=>(sb.2 b hb).trans z) hd ?_;refine ⟨by rw [AG O.ne]; exact ho,?_,O.ne,O'.obj,_,O'.ns,fun g=>?_,fun g hg=>?_⟩
 ·have:=B4 f y fs; omega
 ·show RelO ((BU f y fs).lookup g) (if g=f then some u else mA g);rw [AX];by_cases q:g=f
  ·rw [if_pos q,if_pos q]; exact ry
  ·rw [if_neg q,if_neg q]; exact r g
 ·by_cases q:g=f
  ·rw [q]; exact (Ei f y fs).1
  ·refine (Ei f y fs).2 g (wi g fun z=>hg ?_);show (if g=f then some u else mA g)=none;rw [if_neg q]; exact z
theorem Inv.made (I:Inv X aa σ H s):Inv X aa σ (upd (upd H s.heap.objs.size (.own (s.heap.objs.size + 1))) (s.heap.objs.size + 1) (.ins C s.heap.objs.size []))
  { s with heap:=(s.heap.push W.emptyDict).push (W.instObj C s.heap.objs.size) }:=by
 have e1:(s.heap.push W.emptyDict).get? s.heap.objs.size=some W.emptyDict:=get?_push_size s.heap rfl
 have e2:((s.heap.push W.emptyDict).push (W.instObj C s.heap.objs.size)).get? (s.heap.objs.size + 1)=some (W.instObj C s.heap.objs.size):=by
  have:=get?_push_size (s.heap.push W.emptyDict) (o:=W.instObj C s.heap.objs.size) rfl
  rwa [Heap.size_push] at this
 have e3:(s.heap.push W.emptyDict).Ns s.heap.objs.size (fun _=>none):=⟨W.emptyDict,#[],_,e1,rfl,(fun e he=>absurd he (by simp)),fun _=>rfl⟩;have I1:=I.laid (a:=s.heap.objs.size) (o:=.own (s.heap.objs.size + 1)) (h':=s.heap.push W.emptyDict) (t':=s.toks) (fun b u q=>get?_push_of_some _ q) (Nat.le_refl _) ⟨_,e1⟩;refine I1.laid (a:=s.heap.objs.size + 1) (o:=.ins C s.heap.objs.size []) (t':=s.toks) (fun b u q=>get?_push_of_some _ q) (Nat.le_of_eq (Heap.size_push _ _)) ?_;have ne:s.heap.objs.size ≠ s.heap.objs.size + 1:=Nat.ne_of_lt (Nat.lt_succ_self _);refine ⟨by rw [AG ne,AB],Nat.zero_le _,ne,e2,fun _=>none,(Heap.Ns1.of_empty e3).at fun o q=>get?_push_of_some _ q,fun _=>True.intro,fun y hy=>absurd rfl hy⟩
theorem Ls {prog:Program} {env:Env} {f:Str} {Q:VS} (hb:attributeBase e f env (eval e env)=eval e env)
  (h:wpAny (model prog w) A (eval e env) (fun o s₁=>wpAny (model prog w) A (getAttr o f true) Q E s₁) E s):wpAny (model prog w) A (eval (.Attribute e f pos) env) Q E s :=
 Attribute_any_ h (by rw [arm_eval_Attribute,hb])
end
inductive ExF (K:FG) (x:V) (H:Hp) (f:Str) (k:V->Prop):Prop where
 | mk (a C dx:Addr) (fs:List (Str × V)) (v:V) (h1:x=.ref a) (h2:H a=some (.ins C dx fs)) (h3:Cls K C) (h4:NoAttr K C f) (h5:fs.lookup f=some v) (q:k v):ExF K x H f k
def Sv (K:FG) (ta:TE) (f:Str):TE:=fun σ H Q=>ta σ H fun x H1=>ExF K x H1 f fun v=>Q v H1
def Tp (K:FG) (ta tv:TE) (f:Str):TS:=fun D σ H=>tv σ H fun y H1=>ta σ H1 fun x H2=>∃ a C dx fs,x=.ref a/\H2 a=some (.ins C dx fs)/\Cls K C/\NoAttr K C f/\fs.length < 1000 /\
 D.nx σ (upd H2 a (.ins C dx (BU f y fs)))
section
variable {o value:Expr} {f:Str} {pos' tpos:Pos} {ta tv:TE}
theorem BW (he:PE X e ta) (hb:attributeBase e f X.env (eval e X.env)=eval e X.env):PE X (.Attribute e f pos) (Sv X.K ta f):=by
 intro aa s σ H Q I h;refine Ls hb (thn (he aa s σ H _ I h) fun u s1 ⟨x,H1,I1,rx,a,C,dx,fs,v,ex,ea,c,n,l,q⟩=>?_);subst ex;obtain rfl:u=Value.ref a:=rx;exact KW I1 ea c n l fun u' s2 I2 ru=>⟨v,H1,I2,ru,q⟩
theorem Fp (ha:PE X o ta) (hv:PE X value tv) (hs:swapsWith value (some (.Attribute o f pos')) pos.line X.env=pure false):PS X (.Assign [.Attribute o f pos'] value pos) (Tp X.K ta tv f):=by
 intro aa s σ H D I h;refine plainObj_wpAny_Assign_Attribute (thn (hv aa s σ H _ I h) fun u s1 ⟨y,H1,I1,ry,q⟩=>thn (ha aa s1 σ H1 _ I1 q) fun ov s2 ⟨x,H2,I2,rx,a,C,dx,fs,ex,ea,c,n,l,q2⟩=>?_) hs;subst ex;obtain rfl:ov=Value.ref a:=rx;exact Ka I2 ea c n l ry fun s3 I3=>⟨σ,_,I3,q2⟩
end
section
variable {Q:VS} {c:Value} {b:Bool}
inductive TyOf (K:FG) (H:Hp):V->Value->Prop where
 | non:TyOf K H .non (.type "NoneType")
 | bl (x:Bool):TyOf K H (.bl x) (.type "bool")
 | int (i:Int):TyOf K H (.int i) (.type "int")
 | str (x:Str):TyOf K H (.str x) (.type "str")
 | flt (x:UInt64):TyOf K H (.flt x) (.type "float")
 | lst {a:Addr} {xs:List V} (e:H a=some (.lst xs)):TyOf K H (.ref a) (.type "list")
 | frz {a:Addr} {o:Obj} {xs:List V} (e:H a=some (.frz o (.lst xs))):TyOf K H (.ref a) (.type "list")
 | tup {a:Addr} {xs:List V} (e:H a=some (.tup xs)):TyOf K H (.ref a) (.type "tuple")
 | dK {a:Addr} {kvs:LK} (e:H a=some (.dK kvs)):TyOf K H (.ref a) (.type "dict")
 | dT {a:Addr} {kvs:List (List Key × V)} (e:H a=some (.dT kvs)):TyOf K H (.ref a) (.type "dict")
 | ins {a C dx:Addr} {fs:List (Str × V)} (e:H a=some (.ins C dx fs)) (cl:Cls K C) (ha:W.findIn K (.ref C) "__class__" = some (some (.builtin "object.__class__")))
   (hn:W.specialIn K (.builtin "object.__class__") "__get__" = some (some (.builtin "getset_descriptor.__get__"))) (htk:W.takesIn K (.builtin "object.__class__")=some true)
   (hm:W.mroIn K C (.type "object")=some true):TyOf K H (.ref a) (.ref C)
theorem HC {x:V} {t:Value} (I:Inv X aa σ H s) (rx:RelV x u) (ty:TyOf X.K H x t) (e:W.kitOne X.K t c=some b) (h:∀ tk,Q (.bool b) { s with toks:=tk }) :
  wpAny (model X.prog X.w) A (call (.builtin "isinstance") [u,c]) Q E s:=by
 cases ty with
 | non=>cases (show u=Value.none from rx); exact W.kia_one W.kitx_none I.kIn True.intro e (fun z=>nomatch z) h
 | bl y=>cases (show u=Value.bool y from rx); exact W.kia_one W.kitx_bool I.kIn True.intro e (fun z=>nomatch z) h
 | int i=>obtain ⟨t,q⟩:=(show ∃ t,u=Value.int i t from rx); cases q; exact W.kia_one W.kitx_int I.kIn True.intro e (fun z=>nomatch z) h
 | str y=>obtain ⟨t,q⟩:=(show ∃ t,u=Value.str y t from rx); cases q; exact W.kia_one W.kitx_str I.kIn True.intro e (fun z=>nomatch z) h
 | flt y=>obtain ⟨t,q⟩:=(show ∃ t,u=Value.float y t from rx); cases q; exact W.kia_one W.kitx_float I.kIn True.intro e (fun z=>nomatch z) h
 | @lst a xs ea =>
  cases (show u=Value.ref a from rx);obtain ⟨_,_,n,_,h1⟩:=(show ObjOk X.prog X.w H s.heap a (.lst xs) from I.hok a _ ea);exact W.kia_one W.kitx_list I.kIn ⟨_,h1,rfl⟩ e (fun z=>nomatch z) h
 | @frz a ob xs ea =>
  cases (show u=Value.ref a from rx);obtain ⟨_,_,_,n,_,h1⟩:=(show ObjOk X.prog X.w H s.heap a (.frz ob (.lst xs)) from I.hok a _ ea);exact W.kia_one W.kitx_list I.kIn ⟨_,h1,rfl⟩ e (fun z=>nomatch z) h
 | @tup a xs ea =>
  cases (show u=Value.ref a from rx);obtain ⟨_,_,_,p⟩:=(show ObjOk X.prog X.w H s.heap a (.tup xs) from I.hok a _ ea);obtain ⟨o,h1,h2,_⟩:=p;exact W.kia_one W.kitx_tuple I.kIn ⟨o,h1,h2⟩ e (fun z=>nomatch z) h
 | @dK a kvs ea =>
  cases (show u=Value.ref a from rx);obtain ⟨_,_,vs,_,p⟩:=(show ObjOk X.prog X.w H s.heap a (.dK kvs) from I.hok a _ ea);obtain ⟨o,es,ep,h1,h2,_⟩:=p;exact W.kia_one W.kitx_dict I.kIn ⟨o,h1,h2.1⟩ e (fun z=>nomatch z) h
 | @dT a kvs ea =>
  cases (show u=Value.ref a from rx);obtain ⟨_,_,xs,_,o,es,ep,h1,h2,_⟩:=(show ObjOk X.prog X.w H s.heap a (.dT kvs) from I.hok a _ ea);exact W.kia_one W.kitx_dict I.kIn ⟨o,h1,h2.1⟩ e (fun z=>nomatch z) h
 | @ins a C dx fs ea cl ha hn htk hm =>
  cases (show u=Value.ref a from rx);obtain ⟨mA,O,_⟩:=B5 I.hok ea;obtain ⟨od,J,_⟩:=O.look;exact W.kia_one (W.kitx_own (cl.get _) cl.hd ha hn htk hm) I.kIn J e (fun z=>nomatch z) h
end
end L2
namespace L2
open PySem PySem.Spec PyProof.Rows
structure Room (k:Nat) (A:Around):Prop where
 hd:A.handled=none
 dp:A.depth + 3 * k + 5 < recursionLimit
 un:A.units + 16 * k + 200 < cLine
theorem Room.mono {j k:Nat} (r:Room k A) (h:j <= k):Room j A:=⟨r.hd,by have:=r.dp; omega,by have:=r.un; omega⟩
theorem Room.deeper {k:Nat} {A:Around} (r:Room (k + 1) A) (env:Env):Room k (A.deeper env) :=
 ⟨r.hd,by have:=r.dp; show A.depth + 1 + 3 * k + 5 < _; omega,by have:=r.un; show A.units + 3 + 16 * k + 200 < _; omega⟩
theorem Room.in1 {k:Nat} {A:Around} (r:Room (k + 1) A):Room k A.in1 :=
 ⟨r.hd,by have:=r.dp; show A.depth + 3 * k + 5 < _; omega,by have:=r.un; show A.units + 1 + 16 * k + 200 < _; omega⟩
theorem Kb {kw:List (Str × Value)}:(A.under (.builtin "type.__call__" ⟨.ref C :: us,kw⟩)).depth=A.depth + 1:=by
 first | rfl | simp [Around.under,Code.weight,Code.isCreation,Code.isGuard,Code.isCaller,Code.frames,Code.isFrame,guardIds]
theorem Kc {kw:List (Str × Value)}:(A.under (.builtin "type.__call__" ⟨.ref C :: us,kw⟩)).units=A.units + 1:=by
 first | rfl | simp [Around.under,Code.cUnits,Code.frames,Code.isFrame]
theorem Room.make {k:Nat} (r:Room (k + 1) A) (C:Addr) (us:List Value) (kw:List (Str × Value)):Room k (A.under (.builtin "type.__call__" ⟨.ref C :: us,kw⟩)) :=
 ⟨r.hd,by have:=r.dp; rw [Kb]; omega,by have:=r.un; rw [Kc]; omega⟩
theorem Room.depth {k:Nat} {A:Around} (r:Room k A):A.depth < recursionLimit:=by have:=r.dp; omega
theorem Room.units {k:Nat} {A:Around} (r:Room k A):A.units + 64 < cLine:=by have:=r.un; omega
def Cz:TA:=fun _ H Q=>Q [] H
def Al (ta:TE) (tr:TA):TA:=fun σ H Q=>ta σ H fun x H1=>tr σ H1 fun xs H2=>Q (x :: xs) H2
section
variable {es:List Expr} {t:TA}
theorem AC:PA X [] Cz:=fun _ _ _ _ H Q I h=>Calls.spliced_nil ⟨[],H,I,.nil,h⟩
theorem AA (ha:PE X e te) (hr:PA X es t) (hs:starEach (e :: es) X.env=(false,eval e X.env) :: starEach es X.env:=by rfl):PA X (e :: es) (Al te t):=by
 intro pos aa s σ H Q I h;rw [hs];show wpAny _ _ (spliced ((false,eval e X.env) :: backTo pos (starEach es X.env))) _ _ s;refine Calls.spliced_cons (thn (ha aa s σ H _ I h) fun u s1 ⟨x,H1,I1,r1,q1⟩=>?_);exact thn (hr pos aa s1 σ H1 _ I1 q1) fun us s2 ⟨xs,H2,I2,r2,q2⟩=>⟨x :: xs,H2,I2,.cons r1 r2,q2⟩
def Rt (t:TA):TE:=fun σ H Q=>t σ H fun xs H1=>xs.length <= sizeLine/\∀ p,H1 p=none->Q (.ref p) (upd H1 p (.tup xs))
def Sw (t:TA):TE:=fun σ H Q=>t σ H fun xs H1=>xs.length <= sizeLine/\∀ p,H1 p=none->Q (.ref p) (upd H1 p (.lst xs))
theorem Be {x1} (h:PA X es t):PE X (.Tuple es x1 pos) (Rt t):=by
 intro aa s σ H Q I hq;refine wpAny_Tuple_spliced (thn (h pos aa s σ H _ I hq) fun us s1 ⟨xs,H1,I1,r,z,q⟩=>⟨by rw [← r.length]; exact z,?_⟩);have hf:H1 s1.heap.objs.size=none:=I1.hok.fresh (Nat.le_refl _);refine ⟨.ref s1.heap.objs.size,upd H1 s1.heap.objs.size (.tup xs),I1.laid (t':=s1.toks) (fun b u e=>get?_push_of_some _ e) (Nat.le_refl _) ?_,rfl,q _ hf⟩;exact ⟨z,us,r,⟨_,get?_push_size _ rfl,rfl,_,rfl⟩⟩
theorem A7 (h:PA X es t):PE X (.List es pos) (Sw t):=by
 intro aa s σ H Q I hq;refine wpAny_List_spliced (thn (h pos aa s σ H _ I hq) fun us s1 ⟨xs,H1,I1,r,z,q⟩=>⟨by rw [← r.length]; exact z,?_⟩);have hf:H1 s1.heap.objs.size=none:=I1.hok.fresh (Nat.le_refl _);refine ⟨.ref s1.heap.objs.size,upd H1 s1.heap.objs.size (.lst xs),I1.laid (t':=s1.toks) (fun b u e=>get?_push_of_some _ e) (Nat.le_refl _) ?_,rfl,q _ hf⟩;exact ⟨z,us,0,r,get?_push_size _ rfl⟩
end
abbrev Sp:=List V->Hp->VK->XK->Prop
abbrev CXT:=List Env->Hp->Shared->XK->Value->Shared->Prop
structure Env0 (P:Program) (w:World) (K:FG) (mg:SV) (base:Heap) (A:Around) (outer:List Env) (s:Shared) (H:Hp):Prop where
 frames:A.frames=some outer
 mod:Mod K mg base
 bs:∀ b o,base.get? b=some o->s.heap.get? b=some o/\H b=none
 bsz:base.objs.size <= s.heap.objs.size
 funs:s.heap.FunFrames base outer
 frf:∀ b ∈ frs outer,H b=none
 hok:HOk P w H s.heap
 bare:AllBare s.gens
def CE (outer:List Env) (P:Program) (w:World) (H:Hp) (s:Shared) (Q:VK) (u:Value) (s':Shared):Prop :=
 ∃ v H',s'.os=s.os/\AllBare s'.gens/\Un (frs outer) [] H H' s.heap s'.heap/\HOk P w H' s'.heap/\RelV v u/\Q v H'
def CR (CX:CXT) (outer:List Env) (P:Program) (w:World) (H:Hp) (s:Shared) (Q:VK) (E:XK) (r:Result) (s':Shared):Prop :=
 match r with
 | .ok (.ret u)=>CE outer P w H s Q u s'
 | .ok _=>False
 | .error e=>CX outer H s E e s'
structure FnOk (P:Program) (w:World) (K:FG) (mg:SV) (base:Heap) (CX:CXT) (k:Nat) (f:Addr) (fd:FuncData) (ps:List Str) (sp:Sp):Prop where
 len:∀ vs H Q E,sp vs H Q E->vs.length=ps.length
 run:∀ (A:Around) (outer:List Env) (s:Shared) (H:Hp) (args:Args) (us:List Value) (vs:List V) (Q:VK) (E:XK),Room k A->Env0 P w K mg base A outer s H->BindsTo s fd args (ps.zip us)->Vals vs us->sp vs H Q E ->
  codeAny (model P w) A (.call (.ref f) args) (CR CX outer P w H s Q E) s
theorem FnOk.mono {P:Program} {w:World} {K:FG} {mg:SV} {base:Heap} {CX:CXT} {j k:Nat} {f:Addr} {fd:FuncData} {ps:List Str} {sp:Sp} (F:FnOk P w K mg base CX j f fd ps sp) (h:j <= k) :
  FnOk P w K mg base CX k f fd ps sp:=⟨F.len,fun A outer s H args us vs Q E hr=>F.run A outer s H args us vs Q E (hr.mono h)⟩
theorem FnOk.imp {CX:CXT} {k:Nat} {fd:FuncData} {ps:List Str} {sp sp':Sp} (F:FnOk P w K mg base CX k f fd ps sp)
  (h:∀ vs H Q E,sp' vs H Q E->sp vs H Q E):FnOk P w K mg base CX k f fd ps sp' :=
 ⟨fun vs H Q E q=>F.len vs H Q E (h _ _ _ _ q),fun A outer s H args us vs Q E hr he hb hv hs=>F.run A outer s H args us vs Q E hr he hb hv (h _ _ _ _ hs)⟩
theorem Env0.make {outer:List Env} (e:Env0 P w K mg base A outer s H) (C:Addr) (us:List Value) (kw:List (Str × Value)) :
  Env0 P w K mg base (A.under (.builtin "type.__call__" ⟨.ref C :: us,kw⟩)) outer s H:=⟨by first | exact e.frames | (simpa [Around.under,Code.envs,Code.isFrame,pushEnvs] using e.frames),e.mod,e.bs,e.bsz,e.funs,e.frf,e.hok,e.bare⟩
theorem Env0.in1 {P:Program} {w:World} {K:FG} {mg:SV} {base:Heap} {A:Around} {outer:List Env} {s:Shared} {H:Hp} (e:Env0 P w K mg base A outer s H) :
  Env0 P w K mg base A.in1 outer s H:=⟨e.frames,e.mod,e.bs,e.bsz,e.funs,e.frf,e.hok,e.bare⟩
section
variable {s':Shared}
theorem Inv.env0 (I:Inv X aa σ H s):Env0 X.prog X.w X.K X.mg X.base X.A X.stack s H :=
 ⟨I.ok.frames,I.ok.mod,I.bs,Nat.le_trans I.ok.bsz I.sz,I.stack,I.stkFree,I.hok,I.bare⟩
theorem Inv.after {Q:VK} (I:Inv X aa σ H s) (h:CE X.stack X.prog X.w H s Q u s'):EP X aa σ Q u s':=by
 obtain ⟨v,H',os,bare,un,hok,r,q⟩:=h;obtain ⟨hh,g,d,t,os'⟩:=s';obtain rfl:os'=s.os:=os;exact ⟨v,H',I.call (h':=hh) (g':=g) (d':=d) (t':=t) (ch:=[]) un hok bare (fun b z=>absurd z (by simp)),r,q⟩
end
def OC (sp:Sp) (dvs:List V) (E:XK) (t:TA):TE:=fun σ H Q=>t σ H fun vs H1=>sp (vs++dvs) H1 Q E
inductive ExM (C:Addr) (m:Str) (x:V) (H:Hp) (k:Prop):Prop where
 | mk (a dx:Addr) (fs:List (Str × V)) (h1:x=.ref a) (h2:H a=some (.ins C dx fs)) (h3:fs.lookup m=none) (q:k):ExM C m x H k
def Sx (C:Addr) (m:Str) (sp:Sp) (dvs:List V) (E:XK) (ta:TE) (t:TA):TE:=fun σ H Q=>ta σ H fun x H1=>ExM C m x H1 (t σ H1 fun vs H2=>sp (x :: (vs++dvs)) H2 Q E)
def Sy (C:Addr) (sp:Sp) (dvs:List V) (E:XK) (t:TA):TE:=fun σ H Q=>t σ H fun vs H1=>∀ x dx,H1 x=none->H1 dx=none->dx ≠ x ->
 sp (.ref x :: (vs++dvs)) (upd (upd H1 dx (.own x)) x (.ins C dx [])) (fun v H2=>v=.non/\Q (.ref x) H2) E
def Binds (K:FG) (fd:FuncData) (ps:List Str) (ds:List Value):Prop :=
 ∀ (s:Shared) (us:List Value),K.In s.heap->(us++ds).length=ps.length->BindsTo s fd ⟨us,[]⟩ (ps.zip (us++ds))
theorem Binds.all {fd:FuncData} {ps:List Str} (h:∀ us:List Value,us.length=ps.length->bindArgs fd ⟨us,[]⟩=pure (ps.zip us)):Binds K fd ps []:=fun s us _ hl=>by
 rw [append_nil] at hl ⊢;exact .of_eq (h us hl)
def BQ (CX:CXT) (X:Cx) (E:XK):Prop:=∀ (aa:LO) (σ:St) (H:Hp) (s:Shared) (e:Value) (s':Shared),Inv X aa σ H s->CX X.stack H s E e s'->X.xe e s'
section
variable {CX:CXT} {k:Nat} {fd:FuncData} {ps:List Str} {sp:Sp} {dvs:List V} {ds:List Value} {E:XK} {m:Str} {p apos:Pos} {o:Expr} {es:List Expr} {ta:TE} {t:TA}
theorem Kd {Q:VK} {vs:List V} (F:FnOk X.prog X.w X.K X.mg X.base CX k f fd ps sp) (hr:Room k X.A) (hb:Binds X.K fd ps ds) (hd:Vals dvs ds) (hx:BQ CX X E)
  (I:Inv X aa σ H s) (r:Vals vs us) (h:sp (vs++dvs) H Q E):wpAny (model X.prog X.w) X.A (call (.ref f) us) (EP X aa σ Q) X.xe s:=by
 have r2:Vals (vs++dvs) (us++ds):=r.append hd;have hl:(us++ds).length=ps.length:=by rw [← r2.length]; exact F.len _ _ _ _ h
 refine wpAny_call (codeAny_mono (F.run X.A X.stack s H ⟨us,[]⟩ (us++ds) (vs++dvs) Q E hr I.env0 (hb s us I.kIn hl) r2 h) fun r s' hq=>?_);cases r with
 | error e=>exact hx aa σ H s e s' I hq
 | ok fl =>
  cases fl with
  | ret u=>exact I.after hq
  | next=>exact False.elim hq
  | brk=>exact False.elim hq
  | cont=>exact False.elim hq
theorem AH (F:FnOk X.prog X.w X.K X.mg X.base CX k f fd ps sp) (hr:Room k X.A) (hg:Gl X x) (hm:X.mg x=some (.ref f)) (hk:W.keepIn X.K (.ref f)=true) (hb:Binds X.K fd ps ds) (hd:Vals dvs ds) (hx:BQ CX X E)
  (ha:PA X (e :: es) t) (hdb:(x == ("__debug__" : Str))=false:=by decide) (he:starEach (e :: es) X.env=(false,eval e X.env) :: starEach es X.env:=by rfl) (hpl:(backTo pos (starEach es X.env)).any (·.1)=false:=by rfl) :
  PE X (.Call (.Name x p) (e :: es) [] pos) (OC sp dvs E t):=by
 intro aa s σ H Q I h;refine wpAny_Call_Name_kw (Bp I hg hm ?_ hdb);refine W.callWith_K (h₀:=X.base) I.ok.mod.kin hk (thn (ha pos aa s σ H _ I h) fun us s1 ⟨vs,H1,I1,r,q⟩=>⟨I1.kIn,?_⟩) he hpl;exact Kd F hr hb hd hx I1 r q
theorem AR {pl:Sem Bool} (he:PE X o ta) (c:Cls X.K C) (hm:Mp X.K C m f) (F:FnOk X.prog X.w X.K X.mg X.base CX k f fd ps sp) (hr:Room k X.A) (hb:Binds X.K fd ps ds) (hd:Vals dvs ds) (hx:BQ CX X E)
  (ht:eval (.Call (.Attribute o m apos) [] [] pos) X.env=(do
   let ov ← eval o X.env
   standAt apos.atName
   let (f,first) ← holding [ov] (getMethod ov m pl)
   callWith pos f first (backTo pos (starEach [] X.env)) (backToKw pos (keywordEach [] X.env))):=by rfl) :
  PE X (.Call (.Attribute o m apos) [] [] pos) (Sx C m sp dvs E ta Cz):=by
 intro aa s σ H Q I h;refine W.methodCall_KW (pl:=pl) (thn (he aa s σ H _ I h) fun u s1 ⟨x,H1,I1,rx,a,dx,fs,ex,ea,l,q⟩=>?_) ht;subst ex;obtain rfl:u=Value.ref a:=rx;refine KY I1 ea c hm l ?_;exact W.callWith_K0 (first:=[.ref a]) I1.kIn hm.kp (Kd (us:=[.ref a]) (vs:=[.ref a]) F hr hb hd hx I1 (.cons rfl .nil) q)
structure Mk (K:FG) (C f:Addr):Prop where
 makes:W.makesIn K C=true
 init:W.findIn K (.ref C) "__init__" = some (some (.ref f))
 fn:W.isFn K (.ref f)=true
 kp:W.keepIn K (.ref C)=true
theorem OD {Q:VK} {vs:List V} (M:Mk X.K C f) (F:FnOk X.prog X.w X.K X.mg X.base CX k f fd ps sp) (hr:Room (k + 1) X.A) (hb:Binds X.K fd ps ds) (hd:Vals dvs ds)
  (hx:BQ CX X E) (I:Inv X aa σ H s) (r:Vals vs us)
  (h:∀ x dx,H x=none->H dx=none->dx ≠ x->sp (.ref x :: (vs++dvs)) (upd (upd H dx (.own x)) x (.ins C dx [])) (fun v H2=>v=.non/\Q (.ref x) H2) E) :
  wpAny (model X.prog X.w) X.A (call (.ref C) us) (EP X aa σ Q) X.xe s:=by
 have hq:=h (s.heap.objs.size + 1) s.heap.objs.size (I.hok.fresh (Nat.le_succ _)) (I.hok.fresh (Nat.le_refl _)) (Nat.ne_of_lt (Nat.lt_succ_self _));have I2:=Inv.made (C:=C) I;have r2:Vals (V.ref (s.heap.objs.size + 1) :: (vs++dvs)) (Value.ref (s.heap.objs.size + 1) :: (us++ds)):=.cons rfl (r.append hd)
 have hl:(Value.ref (s.heap.objs.size + 1) :: us++ds).length=ps.length:=by
  have e:=r2.length;rw [F.len _ _ _ _ hq] at e;exact e.symm
 refine wpAny_call (JB (f:=f) I.kIn M.makes M.init (beq_iff_eq.mp M.fn) (codeAny_mono (F.run _ X.stack _ _ ⟨Value.ref (s.heap.objs.size + 1) :: us,[]⟩ (Value.ref (s.heap.objs.size + 1) :: (us++ds)) _ _ E (hr.make C us [])
  (I2.env0.make C us []) (hb _ (Value.ref (s.heap.objs.size + 1) :: us) I2.kIn hl) r2 hq) fun r s' hq'=>?_))
 cases r with
 | error e=>exact hx aa σ _ _ e s' I2 hq'
 | ok fl =>
  cases fl with
  | ret u =>
   obtain ⟨v,H',I3,rv,ev,q3⟩:=I2.after hq';subst ev;exact ⟨rv,⟨V.ref (s.heap.objs.size + 1),H',I3,rfl,q3⟩⟩
  | next=>exact False.elim hq'
  | brk=>exact False.elim hq'
  | cont=>exact False.elim hq'
theorem B6 (M:Mk X.K C f) (F:FnOk X.prog X.w X.K X.mg X.base CX k f fd ps sp) (hr:Room (k + 1) X.A) (hg:Gl X x) (hm:X.mg x=some (.ref C)) (hb:Binds X.K fd ps ds) (hd:Vals dvs ds) (hx:BQ CX X E)
  (ha:PA X (e :: es) t) (hdb:(x == ("__debug__" : Str))=false:=by decide) (he:starEach (e :: es) X.env=(false,eval e X.env) :: starEach es X.env:=by rfl) (hpl:(backTo pos (starEach es X.env)).any (·.1)=false:=by rfl) :
  PE X (.Call (.Name x p) (e :: es) [] pos) (Sy C sp dvs E t):=by
 intro aa s σ H Q I h;refine wpAny_Call_Name_kw (Bp I hg hm ?_ hdb);refine W.callWith_K (h₀:=X.base) I.ok.mod.kin M.kp (thn (ha pos aa s σ H _ I h) fun us s1 ⟨vs,H1,I1,r,q⟩=>⟨I1.kIn,?_⟩) he hpl;exact OD M F hr hb hd hx I1 r q
end
def PK (X:Cx) (kws:List Keyword) (t:TA):Prop :=
 ∀ (pos:Pos) (aa:LO) (s:Shared) (σ:St) (H:Hp) (Q:List V->Hp->Prop),Inv X aa σ H s->t σ H Q->wpAny (model X.prog X.w) X.A (evalAll ((backToKw pos (keywordEach kws X.env)).map (·.2))) (AP X aa σ Q) X.xe s
section
variable {CX:CXT} {k:Nat} {fd:FuncData} {ps ks:List Str} {sp:Sp} {E:XK} {m:Str} {p apos kpos:Pos} {o:Expr} {es:List Expr} {kws:List Keyword} {ta:TE} {t tk:TA} {nm:Option Str}
theorem Hz:PK X [] Cz:=fun _ _ _ _ H Q I h=>wpAny_evalAll_nil ⟨[],H,I,.nil,h⟩
theorem FV (ha:PE X e te) (hr:PK X kws t):PK X (⟨nm,e,kpos⟩ :: kws) (Al te t):=by
 intro pos aa s σ H Q I h;show wpAny _ _ (evalAll ((do let v ← eval e X.env; standAt pos; pure v) :: (backToKw pos (keywordEach kws X.env)).map (·.2))) _ _ s;refine wpAny_evalAll_cons (wpAny_bind (thn (ha aa s σ H _ I h) fun u s1 ⟨x,H1,I1,r1,q1⟩=>wpAny_bind (wpAny_standAt (wpAny_pure ?_))));exact thn (hr pos aa s1 σ H1 _ I1 q1) fun us s2 ⟨xs,H2,I2,r2,q2⟩=>⟨x :: xs,H2,I2,.cons r1 r2,q2⟩
structure Ke (K:FG) (fd:FuncData) (ps ks:List Str) (g:List Value->List Value->List Value) (gV:List V->List V->List V):Prop where
 to:∀ (s:Shared) (us ws:List Value),K.In s.heap->(g us ws).length=ps.length->BindsTo s fd ⟨us,ks.zip ws⟩ (ps.zip (g us ws))
 rel:∀ {vs:List V} {us:List Value} {zs:List V} {ws:List Value},Vals vs us->Vals zs ws->Vals (gV vs zs) (g us ws)
variable {g:List Value->List Value->List Value} {gV:List V->List V->List V}
end
structure AL (N P:List Str) (sc:Scope):Prop where
 kind:sc.kind=.function
 co:sc.isCoroutine=false
 gen:sc.isGenerator=false
 nd:N.Nodup
 pre:N.take P.length=P
 par:∀ x ∈ P,sc.names.lookup x=some .local\/sc.names.lookup x=some .cell
 nofree:∀ y ∈ sc.names,y.2 ≠ .free
theorem fsc {N P:List Str} {sc:Scope} (a:sc.kind=.function:=by exact rfl) (b:sc.isCoroutine=false:=by exact rfl) (c:sc.isGenerator=false:=by exact rfl) (d:N.Nodup:=by decide +kernel) (e:N.take P.length=P:=by exact rfl) (f:∀ x ∈ P,sc.names.lookup x=some .local\/sc.names.lookup x=some .cell:=by decide +kernel) (g:∀ y ∈ sc.names,y.2 ≠ .free:=by decide +kernel):AL N P sc:=⟨a,b,c,d,e,f,g⟩
theorem HD {kindOf:Str->Option NameKind} {x:Str}:∀ {binds:List (Str × Value)} {m:SV},(∀ v,(x,v) ∉ binds)->bindL kindOf binds m x=m x
  | [],_,_=>rfl
  | (n,v) :: r,m,h=>by
    unfold bindL;rw [HD fun w hw=>h w (mem_cons_of_mem _ hw)];split
    · have:x ≠ n:=by rintro rfl; exact h v mem_cons_self
      simp [this]
    · rfl
theorem HE {kindOf:Str->Option NameKind} {x:Str}:∀ {binds:List (Str × Value)} {m:SV},(∀ v,(x,v) ∉ binds)->bindC kindOf binds m x=m x
  | [],_,_=>rfl
  | (n,v) :: r,m,h=>by
    unfold bindC;rw [HE fun w hw=>h w (mem_cons_of_mem _ hw)];split
    · rfl
    · have:x ≠ n:=by rintro rfl; exact h v mem_cons_self
      simp [this]
theorem HF {kindOf:Str->Option NameKind} {x:Str} {v:Value}:∀ {P:List Str} {vs:List Value} {i:Nat} {m:SV},P.Nodup->P[i]?=some x->vs[i]?=some v->kindOf x=some .local ->
  bindL kindOf (P.zip vs) m x=some v
 | [],_,_,_,_,h,_,_=>by simp at h
 | _ :: _,[],_,_,_,_,h,_=>by simp at h
 | p :: P,w :: vs,0,m,nd,h1,h2,hk=>by
  simp at h1 h2; subst h1; subst h2;show bindL kindOf ((p,w) :: P.zip vs) m p=_;unfold bindL;rw [HD fun v hv=>(nodup_cons.mp nd).1 (of_mem_zip hv).1,if_pos hk];simp
 | p :: P,w :: vs,i + 1,m,nd,h1,h2,hk=>by
  show bindL kindOf ((p,w) :: P.zip vs) m x=_;unfold bindL;exact HF (i:=i) (nodup_cons.mp nd).2 (by simpa using h1) (by simpa using h2) hk
theorem HG {kindOf:Str->Option NameKind} {x:Str} {v:Value}:∀ {P:List Str} {vs:List Value} {i:Nat} {m:SV},P.Nodup->P[i]?=some x->vs[i]?=some v->kindOf x ≠ some .local ->
  bindC kindOf (P.zip vs) m x=some v
 | [],_,_,_,_,h,_,_=>by simp at h
 | _ :: _,[],_,_,_,_,h,_=>by simp at h
 | p :: P,w :: vs,0,m,nd,h1,h2,hk=>by
  simp at h1 h2; subst h1; subst h2;show bindC kindOf ((p,w) :: P.zip vs) m p=_;unfold bindC;rw [HE fun v hv=>(nodup_cons.mp nd).1 (of_mem_zip hv).1,if_neg hk];simp
 | p :: P,w :: vs,i + 1,m,nd,h1,h2,hk=>by
  show bindC kindOf ((p,w) :: P.zip vs) m x=_;unfold bindC;exact HG (i:=i) (nodup_cons.mp nd).2 (by simpa using h1) (by simpa using h2) hk
noncomputable def BS (N:List Str) (vs:List V):St:=vs.map some++List.replicate (N.length - vs.length) none
noncomputable def A8 (CX:CXT) (P:Program) (w:World) (K:FG) (mg:SV) (base:Heap) (N:List Str) (qual:Str) (scope:Scope) (f:Addr) (cd:Value) (A:Around) (outer:List Env) (s:Shared) (H:Hp) (E:XK):Cx where
 prog:=P
 w:=w
 K:=K
 mg:=mg
 base:=base
 A:=A.deeper (envOfC qual scope s.heap.objs.size f cd)
 N:=N
 s₀:=s
 H₀:=H
 env:=envOfC qual scope s.heap.objs.size f cd
 outer:=outer
 stack:=envOfC qual scope s.heap.objs.size f cd :: outer
 ex:=[]
 calm:=true
 fn:=fun _=>true
 pn:=[]
 xe:=fun e s'=>wpAny (model P w) (A.deeper (envOfC qual scope s.heap.objs.size f cd)) (leaving (envOfC qual scope s.heap.objs.size f cd) e) (fun _ s''=>CX outer H s E e s'') (fun e' s''=>CX outer H s E e' s'') s'
theorem JC {sc:Scope} {n:Nat} (h:sc.names.lookup x=some .cell):∃ c,(cellsFrom n sc.names []).lookup x=some c:=by
 have q:=W.cellsFrom_some sc.names n [] (.inl h);exact Option.isSome_iff_exists.mp q
theorem Ej {CX:CXT} {ps:List Str} {qual:Str} {scope:Scope} {cd:Value} {outer:List Env} {s1:Shared} {E:XK} {vs:List V}
  (S:AL N ps scope) (hd:A.handled=none) (e0:Env0 P w K mg base A outer s H) (hl:vs.length=ps.length) (r:Vals vs us)
  (x:InCallC s s.heap.objs.size (bindL (envOfC qual scope s.heap.objs.size f cd).kindOf (ps.zip us) fun _=>none) (cellsFrom (s.heap.objs.size + 1) scope.names []) (bindC (envOfC qual scope s.heap.objs.size f cd).kindOf (ps.zip us) fun _=>none) s1) :
  Inv (A8 CX P w K mg base N qual scope f cd A outer s H E) [] (BS N vs) H s1:=by
 have hpl:ps.length <= N.length:=by have:=congrArg List.length S.pre; rw [length_take] at this; omega
 obtain ⟨h1,tk,rfl,hk⟩:=x.done;have noA:∀ b:Addr,b ∉ (A8 CX P w K mg base N qual scope f cd A outer s H E).ex:=fun b z=>absurd (show b ∈ ([]:List Addr) from z) (by simp)
 refine ⟨⟨e0.mod,S.kind,rfl,rfl,Nat.le_refl _,fun y z c h1 h2=>?_,fun y hy=>?_,fun y c _ h=>?_,fun _=>hd,Around.frames_deeper e0.frames,.inr ⟨rfl,rfl⟩,fun b z=>absurd z (noA b),e0.bs,e0.bsz,fun b _ _=>noA b,fun b z=>absurd z (noA b),e0.funs,e0.frf⟩,
  rfl,e0.bare,Un.kept hk,⟨_,x.toInCall.ns,fun i y v h1 h2 h3=>?_⟩,fun y c h=>⟨_,x.cell y c h⟩,e0.hok.fresh (Nat.le_refl _),fun y c h=>?_,fun p hp=>absurd (show p ∈ ([]:LO) from hp) (by simp),e0.hok.kept hk,?_⟩
 ·exact name_of_addr x.apart (PySem.mem_of_lookup h1) (PySem.mem_of_lookup h2)
 ·have hy:scope.names.lookup y=some .cell\/scope.names.lookup y=some .free:=hy;rcases hy with hy | hy
  ·exact JC hy
  ·exact absurd rfl (S.nofree _ (PySem.mem_of_lookup hy))
 ·exact Nat.le_of_lt (x.above y c (PySem.mem_of_lookup h))
 ·have hi:i < vs.length:=by
   unfold BS at h2;by_cases hi:i < vs.length
   ·exact hi
   ·rw [List.getElem?_append_right (by simpa using hi)] at h2;rw [List.getElem?_replicate] at h2;split at h2 <;> cases h2
  have ha:vs[i]?=some v:=by
   unfold BS at h2;rw [List.getElem?_append_left (by simpa using hi),getElem?_map] at h2;cases e:vs[i]? with
   | none=>rw [e] at h2; cases h2
   | some a=>rw [e] at h2; cases h2; rfl
  obtain ⟨u,hu,rv⟩:=r.get ha
  have hp:ps[i]?=some y:=by
   rw [← S.pre,List.getElem?_take_of_lt (by omega)]; exact h1
  have ndP:ps.Nodup:=by rw [← S.pre]; exact S.nd.sublist (List.take_sublist _ _)
  refine ⟨u,rv,?_⟩;rcases S.par y (mem_of_getElem? hp) with k | k
  ·exact .inl ⟨k,HF ndP hp hu k⟩
  ·obtain ⟨c,e⟩:=JC (n:=s.heap.objs.size + 1) k;refine .inr ⟨.inl k,c,e,?_⟩;have q:=x.cell y c e;rw [HG ndP hp hu (by show scope.names.lookup y ≠ _; rw [k]; decide)] at q;exact q
 ·exact e0.hok.fresh (Nat.le_of_lt (x.above y c (PySem.mem_of_lookup h)))
 ·unfold BS;show _=N.length;rw [length_append,AK,List.length_replicate];omega
theorem Lu {CX:CXT} {k:Nat} {name qual:Str} {params:Arguments} {body:List Stmt} {scope:Scope} {dV kV doc pm ad ct oc:Value} {an od:Option Addr}
  {osl:Array (Option Value)} {N ps:List Str} {sp:Sp} (lk:K.lookup f=some ⟨oc,od,.func (W.fnOf name qual params body scope dV kV doc pm an ad ct),osl⟩) (hcd:W.codeIn K ad qual=true) (S:AL N ps scope)
  (len:∀ vs H Q E,sp vs H Q E->vs.length=ps.length)
  (bd:∀ (A:Around) (outer:List Env) (s:Shared) (H:Hp) (vs:List V) (Q:VK) (E:XK),Room k (A.deeper (envOfC qual scope s.heap.objs.size f ad))->sp vs H Q E ->
   ∃ t,PSs (A8 CX P w K mg base N qual scope f ad A outer s H E) body t/\t { nx:=fun _ H'=>Q .non H',rt:=Q } (BS N vs) H) :
  FnOk P w K mg base CX (k + 1) f (W.fnOf name qual params body scope dV kV doc pm an ad ct) ps sp:=by
 refine ⟨len,fun A outer s H args us vs Q E hr e0 hb r hsp=>?_⟩;have hl:=len _ _ _ _ hsp;have KX:K.In s.heap:=e0.mod.kin.keeps fun b o e=>(e0.bs b o e).1;have lim:s.heap.NoLimit:=e0.mod.nolimit.keeps fun b o e=>(e0.bs b o e).1
 have hkind:∀ y ∈ ps.zip us,scope.names.lookup y.1=some .local\/(scope.names.lookup y.1=some .cell/\((cellsFrom (s.heap.objs.size + 1) scope.names []).lookup y.1).isSome=true):=fun ⟨n,v⟩ hy=>by
  rcases S.par n (of_mem_zip hy).1 with q | q
  ·exact .inl q
  ·exact .inr ⟨q,W.cellsFrom_some _ _ _ (.inl q)⟩
 refine codeAny_call_function hr.depth (KX _ _ lk) rfl S.co S.gen rfl (W.codeRec_of KX hcd) (hb _ _ _ _ ?_);refine wpAny_newFunctionEnv_cells S.kind hkind fun env he s1 x=>?_;subst he;refine ⟨lim.keeps x.toInCall.keep,codeAny_func ?_⟩;obtain ⟨t,ht,hq⟩:=bd A outer s H vs Q E (hr.deeper _) hsp;have I:Inv (A8 CX P w K mg base N qual scope f ad A outer s H E) [] (BS N vs) H s1:=Ej S hr.hd e0 hl r x;refine wpAny_mono (ht [] s1 (BS N vs) H _ I hq) (fun fl s' hs=>?_) fun e s' hs=>hs
 have fin:∀ {σ':St} {H':Hp} {v:V} {u:Value},Inv (A8 CX P w K mg base N qual scope f ad A outer s H E) [] σ' H' s'->RelV v u->Q v H'->CE outer P w H s Q u s' :=
  fun {σ' H' v u} J rv q=>⟨v,H',J.os,J.bare,J.base,J.hok,rv,q⟩
 cases fl with
 | ret u =>
  obtain ⟨v,σ',H',J,rv,q⟩:=hs;exact fin J rv q
 | next =>
  obtain ⟨σ',H',J,q⟩:=hs;exact fin (v:=V.non) (u:=Value.none) J rfl q
 | brk =>
  obtain ⟨_,_,_,q⟩:=hs;exact False.elim q
 | cont =>
  obtain ⟨_,_,_,q⟩:=hs;exact False.elim q
end L2
namespace L2
open PySem PySem.Spec PyProof.Rows
section
variable {p:Pos} {es:List Expr} {t:TA} {id T:String} {r:List V->Hp->VK->Prop}
def tCB (r:List V->Hp->VK->Prop) (t:TA):TE:=fun σ H Q=>t σ H fun vs H1=>r vs H1 Q
theorem Ab (hc:BJ X (.builtin id) r) (hg:Gl X x) (hm:X.mg x=none) (hv:bootBuiltins x=some (.builtin id)) (ha:PA X (e :: es) t) (hn:x ≠ "__name__" := by decide) (hdb:(x == ("__debug__" : Str))=false:=by decide)
  (he:starEach (e :: es) X.env=(false,eval e X.env) :: starEach es X.env:=by rfl) (hpl:(backTo pos (starEach es X.env)).any (·.1)=false:=by rfl):PE X (.Call (.Name x p) (e :: es) [] pos) (tCB r t):=by
 intro aa s σ H Q I h;refine wpAny_Call_Name_kw (Dc I hg hm hv ?_ hn hdb);exact PyProof.Rows.callWith_builtin1 (thn (ha pos aa s σ H _ I h) fun us s1 ⟨vs,H1,I1,r1,q1⟩=>hc aa s1 σ H1 vs us Q I1 r1 q1) he hpl
theorem Bt (hc:BJ X (.type T) r) (hg:Gl X x) (hm:X.mg x=none) (hv:bootBuiltins x=some (.type T)) (ha:PA X (e :: es) t) (hn:x ≠ "__name__" := by decide) (hdb:(x == ("__debug__" : Str))=false:=by decide)
  (he:starEach (e :: es) X.env=(false,eval e X.env) :: starEach es X.env:=by rfl) (hpl:(backTo pos (starEach es X.env)).any (·.1)=false:=by rfl):PE X (.Call (.Name x p) (e :: es) [] pos) (tCB r t):=by
 intro aa s σ H Q I h;refine wpAny_Call_Name_kw (Dc I hg hm hv ?_ hn hdb);exact PyProof.Rows.callWith_type1 (thn (ha pos aa s σ H _ I h) fun us s1 ⟨vs,H1,I1,r1,q1⟩=>hc aa s1 σ H1 vs us Q I1 r1 q1) he hpl
end
end L2
namespace HT
open PySem PyProof.Rows
section
variable {prog:Program}
theorem cat_tup {t b:Addr} {vs ws:List Value} {Q:VS} (ht:IsTup s.heap t vs.toArray) (hb:IsTup s.heap b ws.toArray) (hv:vs ≠ [])
  (h1:ws=[]->Q (.ref t) s) (h2:ws ≠ []->Q (.ref s.heap.objs.size) { s with heap:=s.heap.push { cls:=.type "tuple", data:=.seq (vs++ws).toArray } })
  (hsz:vs.length + ws.length <= sizeLine):wpAny (model prog w) A (binaryOp .Add (.ref t) (.ref b)) Q E s:=by
 obtain ⟨⟨cls,dd,data,sl⟩,ho,hc,n,hd⟩:=id ht;obtain ⟨⟨cls2,dd2,data2,sl2⟩,ho2,hc2,n2,hd2⟩:=id hb;simp only at hc hd hc2 hd2;subst hc hd hc2 hd2;have e:vs.toArray++ws.toArray=(vs++ws).toArray:=by simp
 by_cases hw:ws=[]
 ·exact concat_meets ⟨_,ho,rfl⟩ ⟨_,ho2,rfl⟩ noFill_tuple_add seq_tuple_add PySem.F.slot_tuple_add PySem.F.entry_tuple_add (PySem.F.args_tuple_add_2 _ _)
   (tuple_addW1 t b vs.toArray ws.toArray n n2 dd dd2 sl sl2 (by simpa using hv) (by simp [hw])) ⟨ho,ho2,h1 hw⟩
 ·refine concat_meets ⟨_,ho,rfl⟩ ⟨_,ho2,rfl⟩ noFill_tuple_add seq_tuple_add PySem.F.slot_tuple_add PySem.F.entry_tuple_add (PySem.F.args_tuple_add_2 _ _)
   (tuple_addW2 t b vs.toArray ws.toArray n n2 dd dd2 sl sl2 (by simpa using hv) (by simpa using hw) (by rw [size_toArray,size_toArray]; exact hsz)) ⟨ho,ho2,?_⟩
  rw [e];exact h2 hw
end
end HT
namespace L2
open PySem PySem.Spec PyProof.Rows
theorem Bf {ns:List Int}:∀ {us:List Value},Vals (ns.map V.int) us->IntsAre us ns:=by
 induction ns with
 | nil=>intro us r; rw [map_nil] at r; cases r; exact .nil
 | cons n ns ih =>
  intro us r;rw [map_cons] at r;cases r with
  | cons r1 r2 =>
   obtain ⟨t,e⟩:=r1;subst e;exact .cons n t (ih r2)
section
variable {lo hi:Option Expr} {tl th:TO} {p2:Pos}
def Lv (K:FG):R2:=fun x y H Q=>∃ a b xs ys,x=.ref a/\y=.ref b/\SqT K H a xs/\SqT K H b ys/\xs ≠ []/\xs.length + ys.length <= sizeLine /\
 (ys=[]->Q (.ref a) H)/\(ys ≠ []->∀ p,H p=none->Q (.ref p) (upd H p (.tup (xs++ys))))
theorem Vals.nil_iff (r:Vals xs us):us=[] ↔ xs=[]:=by
 cases r with
 | nil=>simp
 | cons _ _=>simp
theorem QB:OpR X (binaryOp .Add) (Lv X.K):=by
 intro aa s σ H x y v u Q I rx ry h;obtain ⟨a,b,xs,ys,rfl,rfl,ha,hb,hx,hz,q1,q2⟩:=h;cases rx;cases ry;obtain ⟨its,r1,p1,_⟩:=I.tuple ha;obtain ⟨its2,r2,p2,_⟩:=I.tuple hb;refine HT.cat_tup p1 p2 (fun z=>hx (r1.nil_iff.mp z)) (fun z=>⟨.ref a,H,I,rfl,q1 (r2.nil_iff.mp z)⟩) (fun z=>?_) (by rw [← r1.length,← r2.length]; exact hz);refine ⟨.ref s.heap.objs.size,_,I.laid (t':=s.toks) (o:=.tup (xs++ys)) (fun b ob q=>get?_push_of_some _ q) (Nat.le_refl _) ?_,rfl,q2 (fun w=>z (r2.nil_iff.mpr w)) _ (I.hok.fresh (Nat.le_refl _))⟩;exact ⟨by rw [length_append]; exact hz,_,r1.append r2,IsTup.new _ _⟩
end
end L2
namespace L2
open PySem PySem.Spec PyProof.Rows
noncomputable def ixN (n:Nat) (i:Int):Option Nat:=if 0 <= i then (if i < n then some i.toNat else none) else if -(n:Int) <= i then some (i + n).toNat else none
noncomputable def atI {α:Type} (xs:List α) (i:Int):Option α:=(ixN xs.length i).bind fun j=>xs[j]?
theorem Lw {n:Nat} {i:Int} {j:Nat} (h:ixN n i=some j):seqIndex? i n=some j/\j < n/\-(n:Int) <= i/\i < n:=by
 unfold ixN at h;by_cases h0:0 <= i
 ·rw [if_pos h0] at h;by_cases h1:i < n
  ·rw [if_pos h1] at h;have e:i.toNat=j:=Option.some.inj h;exact ⟨by rw [seqIndex_of h0 h1,e],by omega,by omega,h1⟩
  ·rw [if_neg h1] at h; cases h
 ·rw [if_neg h0] at h;by_cases h1:-(n:Int) <= i
  ·rw [if_pos h1] at h;have e:(i + n).toNat=j:=Option.some.inj h;exact ⟨by rw [seqIndex_neg (by omega) h1,e],by omega,h1,by omega⟩
  ·rw [if_neg h1] at h; cases h
theorem Lx {α:Type} {xs:List α} {i:Int} {v:α} (h:atI xs i=some v):∃ j,seqIndex? i xs.length=some j/\xs[j]?=some v/\j < xs.length/\-(xs.length:Int) <= i/\i < xs.length:=by
 unfold atI at h;cases e:ixN xs.length i with
 | none=>rw [e] at h; cases h
 | some j =>
  rw [e] at h;obtain ⟨h1,h2,h3,h4⟩:=Lw e;exact ⟨j,h1,h,h2,h3,h4⟩
theorem CZ {α:Type} {xs:List α} {j:Nat} {v:α} (h:xs[j]?=some v):atI xs (j:Int)=some v:=by
 have hj:j < xs.length:=(List.getElem?_eq_some_iff.mp h).1
 have e:ixN xs.length (j:Int)=some j:=by
  unfold ixN;rw [if_pos (by omega),if_pos (by omega)]; simp
 unfold atI; rw [e]; exact h
def QC (b:Expr):Prop:=∀ o i,subscripted b false o i=operate [o,i] (getItem o i)
def IxR (X:Cx) (r:R2):Prop :=
 ∀ (value slice:Expr) (aa:LO) (s:Shared) (σ:St) (H:Hp) (x y:V) (v u:Value) (Q:VK),Inv X aa σ H s->RelV x v->RelV y u->r x y H Q ->
  subscripted slice false v u=operate [v,u] (getItem v u)->wpAny (model X.prog X.w) X.A (subscriptTail value slice v u) (EP X aa σ Q) X.xe s
def MtR (X:Cx) (id:String) (r:V->List V->Hp->VK->Prop):Prop :=
 ∀ (aa:LO) (s:Shared) (σ:St) (H:Hp) (x:V) (xs:List V) (v:Value) (us:List Value) (Q:VK),Inv X aa σ H s->RelV x v->Vals xs us->r x xs H Q ->
  wpAny (model X.prog X.w) X.A (call (.builtin id) (v :: us)) (EP X aa σ Q) X.xe s
section
variable {a b:Expr} {ta tb:TE}
theorem By {r:R2} (hr:IxR X r) (ha:PE X a ta) (hb:PE X b tb) (hs:QC b):PE X (.Subscript a b pos) (tOp r ta tb):=by
 intro aa s σ H Q I h;exact Subscript_ (Ro ha hb I h fun v u s2 x y H2 I2 rx ry q=>hr a b aa s2 σ H2 x y v u Q I2 rx ry q (hs _ _))
inductive ExrIxL (K:FG) (x y:V) (H:Hp) (k:V->Prop):Prop where
 | mk (p:Addr) (xs:List V) (i:Int) (v:V) (h1:x=.ref p) (h2:y=.int i) (h3:SqL K H p xs) (h4:atI xs i=some v) (q:k v):ExrIxL K x y H k
def Sz (K:FG):R2:=fun x y H Q=>ExrIxL K x y H fun v=>Q v H
inductive ExrIxT (K:FG) (x y:V) (H:Hp) (k:V->Prop):Prop where
 | mk (p:Addr) (xs:List V) (i:Int) (v:V) (h1:x=.ref p) (h2:y=.int i) (h3:SqT K H p xs) (h4:atI xs i=some v) (q:k v):ExrIxT K x y H k
def S0 (K:FG):R2:=fun x y H Q=>ExrIxT K x y H fun v=>Q v H
theorem QD:IxR X (Sz X.K):=by
 intro value slice aa s σ H x y v u Q I rx ry h hs;obtain ⟨p,xs,i,z,rfl,rfl,hq,he,q⟩:=h;cases rx;obtain ⟨t,rfl⟩:=ry;obtain ⟨its,r,pl,hz⟩:=I.list hq;obtain ⟨j,h1,h2,h3,h4,h5⟩:=Lx he;obtain ⟨w,ew,rw'⟩:=r.get h2;have hl:=r.length;have hn:=Fo;have fin:EP X aa σ Q w s:=⟨z,H,I,rw',q⟩;by_cases h0:0 <= i
 ·have hj:i.toNat=j:=by
   rw [seqIndex_of h0 h5] at h1;exact Option.some.inj h1
  exact item_listR pl.isList h0 (by omega) (by rw [hj]; simpa using ew) fin hs
 ·have hj:(i + (its.toArray.size:Int)).toNat=j:=by
   rw [seqIndex_neg (by omega) h4] at h1;rw [size_toArray,← hl];exact Option.some.inj h1
  exact subscriptTail_builtinR (x:=w) pl.isList.typeIs slot_list_getitem.lookup
   (wpAny_getItem_list_neg (Q:=fun r s'=>r=w/\EP X aa σ Q r s') pl.isList (by omega) (by rw [size_toArray] <;> omega) (by omega) (by rw [hj]; simpa using ew) ⟨rfl,fin⟩) hs
theorem Ru:IxR X (S0 X.K):=by
 intro value slice aa s σ H x y v u Q I rx ry h hs;obtain ⟨p,xs,i,z,rfl,rfl,hq,he,q⟩:=h;cases rx;obtain ⟨t,rfl⟩:=ry;obtain ⟨its,r,pl,hz⟩:=I.tuple hq;obtain ⟨j,h1,h2,h3,h4,h5⟩:=Lx he;obtain ⟨w,ew,rw'⟩:=r.get h2;have hl:=r.length;have hn:=Fo;have fin:EP X aa σ Q w s:=⟨z,H,I,rw',q⟩
 exact subscriptTail_builtinR (x:=w) pl.typeIs slot_tuple_getitem.lookup
  (getItem_tuple (j:=j) (Q:=fun r s'=>r=w/\EP X aa σ Q r s') pl (by omega) (by omega) (by rw [size_toArray,← hl]; exact h1) (by simpa using ew) ⟨rfl,fin⟩) hs
theorem Kh (its:List Value) (n j:Nat) (u:Value):Obj.mapSeq (·.setIfInBounds j u) { cls:=.type "list", data:=.seq its.toArray n }={ cls:=.type "list", data:=.seq (its.set j u).toArray n }:=by
 simp [Obj.mapSeq]
theorem Inv.lst {aa:LO} {σ:St} {H:Hp} {s:Shared} {p:Addr} {xs:List V} (I:Inv X aa σ H s) (h:H p=some (.lst xs)) :
  ∃ (its:List Value) (n:Nat),Vals xs its/\s.heap.get? p=some { cls:=.type "list", data:=.seq its.toArray n }/\xs.length <= sizeLine:=by
 obtain ⟨z,its,n,r,e⟩:=I.hok p _ h;exact ⟨its,n,r,e,z⟩
theorem Inv.lstUpd {p:Addr} {ys:List V} {its its':List Value} {n n':Nat} {f:Obj->Obj} (I:Inv X aa σ H s) (h:H p=some (.lst xs))
  (ho:s.heap.get? p=some { cls:=.type "list", data:=.seq its.toArray n }) (hf:f { cls:=.type "list", data:=.seq its.toArray n }={ cls:=.type "list", data:=.seq its'.toArray n' }) (r:Vals ys its') (hz:ys.length <= sizeLine) (t:Nat) :
  Inv X aa σ (upd H p (.lst ys)) { s with heap:=s.heap.update p f,toks:=t }:=by
 have e:(s.heap.update p f).get? p=some { cls:=.type "list", data:=.seq its'.toArray n' }:=by
  rw [get?_update_self f ho (by rw [hf] <;> rfl),hf]
 refine I.write (x:=p) (e:=p) (by rw [h]; trivial) (.inl rfl) (fun b u hb q=>(get?_update_other _ _ (Ne.symm hb)).trans q) ⟨_,e⟩ ?_;exact ⟨hz,its',n',r,e⟩
def S2:V->V->V->Hp->(Hp->Prop)->Prop:=fun o i v H Q=>∃ p xs k j,o=.ref p/\i=.int k/\H p=some (.lst xs)/\ixN xs.length k=some j/\Q (upd H p (.lst (xs.set j v)))
theorem JD:So X S2:=by
 intro aa s σ H o i v ov iv u Q I ro ri rv h;obtain ⟨p,xs,k,j,rfl,rfl,hp,hj,q⟩:=h;cases ro;obtain ⟨t,rfl⟩:=ri;obtain ⟨its,n,r,ho,hz⟩:=I.lst hp;obtain ⟨h1,h2,h3,h4⟩:=Lw hj;have hl:=r.length;have hn:=Fo
 have I':Inv X aa σ (upd H p (.lst (xs.set j v))) { s with heap:=s.heap.update p (Obj.mapSeq (·.setIfInBounds j u)) } :=
  I.lstUpd hp ho (Kh its n j u) (r.set rv j) (by rw [List.length_set]; exact hz) s.toks
 by_cases h0:0 <= k
 ·have hk:k.toNat=j:=by
   rw [seqIndex_of h0 h4] at h1;exact Option.some.inj h1
  exact W.ki_setAt ho h0 (by omega) (by rw [size_toArray,← hl]; exact h4) (by rw [hk]; exact ⟨_,I',q⟩)
 ·have hk:(k + (its.toArray.size:Int)).toNat=j:=by
   rw [seqIndex_neg (by omega) h3] at h1;rw [size_toArray,← hl];exact Option.some.inj h1
  exact W.ki_setBack ho (by omega) (by rw [size_toArray,← hl]; exact h3) (by omega) (by rw [hk]; exact ⟨_,I',q⟩)
noncomputable def DV:V->Bool
 | .non=>true
 | .bl _=>true
 | .int _=>true
 | .str _=>true
 | _=>false
noncomputable def eqV:V->V->Bool
 | .non,.non=>true
 | .bl a,.bl b=>a == b
 | .bl a,.int b=>(if a then 1 else 0) == b
 | .int a,.bl b=>a == (if b then 1 else 0)
 | .int a,.int b=>a == b
 | .str a,.str b=>a == b
 | _,_=>false
theorem Rv {y x:V} {v:Value} (ry:RelV y u) (rx:RelV x v) (fy:DV y=true) (fx:DV x=true):SeqAt.EqAt A s u v (eqV y x):=by
 cases y with
 | non =>
  cases ry;cases x with
  | non=>cases rx; exact SeqAt.EqAt.same _
  | bl b=>cases rx; exact SeqAt.EqAt.none_bool b
  | int b=>obtain ⟨t,rfl⟩:=rx; exact SeqAt.EqAt.none_int b t
  | str b=>obtain ⟨t,rfl⟩:=rx; exact SeqAt.EqAt.none_str b t
  | _=>exact absurd (show false=true from fx) Bool.false_ne_true
 | bl a =>
  cases ry;cases x with
  | non=>cases rx; exact SeqAt.EqAt.bool_none a
  | bl b=>cases rx; exact SeqAt.EqAt.bool_bool a b
  | int b=>obtain ⟨t,rfl⟩:=rx; exact SeqAt.EqAt.bool_int a b t
  | str b=>obtain ⟨t,rfl⟩:=rx; exact SeqAt.EqAt.bool_str a b t
  | _=>exact absurd (show false=true from fx) Bool.false_ne_true
 | int a =>
  obtain ⟨t',rfl⟩:=ry;cases x with
  | non=>cases rx; exact SeqAt.EqAt.int_none a t'
  | bl b=>cases rx; exact SeqAt.EqAt.int_bool a t' b
  | int b=>obtain ⟨t,rfl⟩:=rx; exact SeqAt.EqAt.int_int a t' b t
  | str b=>obtain ⟨t,rfl⟩:=rx; exact SeqAt.EqAt.int_str a t' b t
  | _=>exact absurd (show false=true from fx) Bool.false_ne_true
 | str a =>
  obtain ⟨t',rfl⟩:=ry;cases x with
  | non=>cases rx; exact SeqAt.EqAt.str_none a t'
  | bl b=>cases rx; exact SeqAt.EqAt.str_bool a t' b
  | int b=>obtain ⟨t,rfl⟩:=rx; exact SeqAt.EqAt.str_int a t' b t
  | str b=>obtain ⟨t,rfl⟩:=rx; exact SeqAt.EqAt.str_str a t' b t
  | _=>exact absurd (show false=true from fx) Bool.false_ne_true
 | _=>exact absurd (show false=true from fy) Bool.false_ne_true
noncomputable def eqU (x:V) (u:Value):Bool:=match u with
 | .none=>eqV .non x
 | .bool b=>eqV (.bl b) x
 | .int i _=>eqV (.int i) x
 | .str z _=>eqV (.str z) x
 | _=>false
theorem OE {x y:V} (r:RelV y u) (f:DV y=true):eqU x u=eqV y x:=by
 cases y with
 | non=>cases r; rfl
 | bl b=>cases r; rfl
 | int i=>obtain ⟨t,rfl⟩:=r; rfl
 | str z=>obtain ⟨t,rfl⟩:=r; rfl
 | _=>exact absurd (show false=true from f) Bool.false_ne_true
theorem D6 {x:V}:∀ {xs:List V} {us:List Value},Vals xs us->xs.all DV=true->us.any (eqU x)=xs.any fun y=>eqV y x
 | _,_,.nil,_=>rfl
 | y :: xs,u :: us,.cons r t,f=>by
  rw [List.all_cons,Bool.and_eq_true] at f;rw [any_cons,any_cons,OE r f.1,D6 t f.2]
theorem C0 {A:Around} {s:Shared} {x:V} {v:Value} (rx:RelV x v) (fx:DV x=true):∀ {xs:List V} {us:List Value},Vals xs us->xs.all DV=true->∀ u ∈ us,SeqAt.EqAt A s u v (eqU x u)
 | _,_,.nil,_=>fun u hu=>by cases hu
 | y :: xs,u :: us,.cons r t,f=>fun u' hu=>by
  rw [List.all_cons,Bool.and_eq_true] at f;rcases mem_cons.mp hu with rfl | hu
  ·rw [OE r f.1]; exact Rv r rx f.1 fx
  ·exact C0 rx fx t f.2 u' hu
noncomputable def inV (x:V) (xs:List V):Bool:=xs.any fun y=>eqV y x
def rIn (K:FG) (neg:Bool):R2:=fun x y H Q=>∃ p xs,y=.ref p/\(SqL K H p xs\/SqT K H p xs)/\DV x=true/\xs.all DV=true/\Q (.bl (if neg then !inV x xs else inV x xs)) H
theorem Ek:OpR X (compareOp .In) (rIn X.K false):=by
 intro aa s σ H x y v u Q I rx ry h;obtain ⟨p,xs,rfl,hq,fx,fs,q⟩:=h;cases ry;rcases hq with hq | hq
 ·obtain ⟨its,r,pl,hz⟩:=I.list hq;refine SeqAt.in_listAt (eqU x) pl.isList (fun w hw=>C0 rx fx r fs w (by simpa using hw)) ⟨.bl _,H,I,rfl,?_⟩;rw [show its.toArray.any (eqU x)=its.any (eqU x) by simp,D6 r fs];exact q
 ·obtain ⟨its,r,pl,hz⟩:=I.tuple hq;refine SeqAt.in_tupleAt (eqU x) pl (fun w hw=>C0 rx fx r fs w (by simpa using hw)) ⟨.bl _,H,I,rfl,?_⟩;rw [show its.toArray.any (eqU x)=its.any (eqU x) by simp,D6 r fs];exact q
theorem IA:OpR X (compareOp .NotIn) (rIn X.K true):=by
 intro aa s σ H x y v u Q I rx ry h;obtain ⟨p,xs,rfl,hq,fx,fs,q⟩:=h;cases ry;rcases hq with hq | hq
 ·obtain ⟨its,r,pl,hz⟩:=I.list hq;refine SeqAt.notIn_listAt (eqU x) pl.isList (fun w hw=>C0 rx fx r fs w (by simpa using hw)) ⟨.bl _,H,I,rfl,?_⟩;rw [show its.toArray.any (eqU x)=its.any (eqU x) by simp,D6 r fs];exact q
 ·obtain ⟨its,r,pl,hz⟩:=I.tuple hq;refine SeqAt.notIn_tupleAt (eqU x) pl (fun w hw=>C0 rx fx r fs w (by simpa using hw)) ⟨.bl _,H,I,rfl,?_⟩;rw [show its.toArray.any (eqU x)=its.any (eqU x) by simp,D6 r fs];exact q
theorem D7:BJ X (.builtin "len") (fun xs H Q=>∃ p ys,xs=[.ref p]/\(SqL X.K H p ys\/SqT X.K H p ys)/\Q (.int ys.length) H):=by
 intro aa s σ H xs us Q I r h;obtain ⟨p,ys,rfl,hq,q⟩:=h;obtain ⟨u,rfl,rx⟩:=Bc r;cases rx;have hn:=Fo;rcases hq with hq | hq
 ·obtain ⟨its,r',pl,hz⟩:=I.list hq;have a0:=r'.length;exact Calls.call_len_list pl.isList (by simp only [size_toArray] <;> omega) ⟨.int ys.length,H,I.tok _,⟨s.toks + 1,by rw [size_toArray,a0]⟩,q⟩
 ·obtain ⟨its,r',pl,hz⟩:=I.tuple hq;have a0:=r'.length;exact len_tuple pl (by simp only [size_toArray] <;> omega) ⟨.int ys.length,H,I.tok _,⟨s.toks + 1,by rw [size_toArray,a0]⟩,q⟩
theorem IB:BJ X (.builtin "len") (fun xs H Q=>∃ z,xs=[.str z]/\z.length <= sizeLine/\Q (.int z.length) H):=by
 intro aa s σ H xs us Q I r h;obtain ⟨z,rfl,hz,q⟩:=h;obtain ⟨u,rfl,t,rfl⟩:=Bc r;have hn:=Fo;exact len_str (by omega) ⟨.int z.length,H,I.tok _,⟨_,rfl⟩,q⟩
theorem Gw:BJ X (.type "tuple") (fun xs H Q=>∃ p ys,xs=[.ref p]/\((SqL X.K H p ys/\∀ l,H l=none->Q (.ref l) (upd H l (.tup ys)))\/(SqT X.K H p ys/\Q (.ref p) H))):=by
 intro aa s σ H xs us Q I r h;obtain ⟨p,ys,rfl,h⟩:=h;obtain ⟨u,rfl,rx⟩:=Bc r;cases rx;rcases h with ⟨hq,q⟩ | ⟨hq,q⟩
 ·obtain ⟨its,r',pl,hz⟩:=I.list hq;have a0:=r'.length;refine call_tuple_list pl.isList (fun h' kp=>?_) (by simp only [size_toArray] <;> omega);have I1:Inv X aa σ H { s with heap:=h' }:=I.kept (t':=s.toks) kp
  have I2:Inv X aa σ (upd H h'.objs.size (.tup ys)) { s with heap:=h'.push { cls:=.type "tuple", data:=.seq its.toArray } } :=
   I1.laid (t':=s.toks) (fun b o e=>get?_push_of_some _ e) (Nat.le_refl _) (show ObjOk X.prog X.w _ _ _ (.tup ys) from ⟨hz,its,r',IsTup.new _ _⟩)
  exact ⟨.ref h'.objs.size,_,I2,rfl,q _ (I1.hok.fresh (Nat.le_refl _))⟩
 ·obtain ⟨its,r',pl,hz⟩:=I.tuple hq;exact call_tuple_same pl ⟨.ref p,H,I,rfl,q⟩
def tyV (K:FG) (T:String) (x:V) (H:Hp):Prop:=match x with
 | .str _=>T = "str"
 | .int _=>T = "int"
 | .ref p=>(T = "list" /\ ∃ xs,SqL K H p xs)\/(T = "tuple" /\ ∃ o,K.lookup p=some o/\o.cls=.type "tuple" /\ o.dict=none) \/
   (T = "dict" /\ ((∃ kvs,H p=some (.dK kvs))\/∃ kvs,H p=some (.dT kvs)))\/(T = "set" /\ ∃ S n,H p=some (.set S n))
 | _=>False
theorem OF {T:String} {x:V} {v:Value} (I:Inv X aa σ H s) (r:RelV x v) (ty:tyV X.K T x H) :
  s.TypeIs v T/\∀ a,v=.ref a->∃ ob,s.heap.get? a=some ob/\ob.dict=none:=by
 cases x with
 | str z =>
  obtain ⟨t,rfl⟩:=r;cases (show T = "str" from ty);exact ⟨typeIs_str s z t,fun _ e=>nomatch e⟩
 | int i =>
  obtain ⟨t,rfl⟩:=r;cases (show T = "int" from ty);exact ⟨typeIs_int s i t,fun _ e=>nomatch e⟩
 | ref p =>
  cases r;rcases ty with ⟨rfl,xs,hq⟩ | ⟨rfl,o,hk,hc,hd⟩ | ⟨rfl,hk⟩ | ⟨rfl,S,n,hk⟩
  ·obtain ⟨its,_,pl,_⟩:=I.list hq;refine ⟨pl.isList.typeIs,fun a e=>?_⟩;cases e;obtain ⟨o,n,e,c,hd,_⟩:=pl;exact ⟨o,e,hd⟩
  ·refine ⟨⟨o,I.kIn p o hk,hc⟩,fun a e=>?_⟩;cases e;exact ⟨o,I.kIn _ o hk,hd⟩
  ·have z:∃ o,s.heap.get? p=some o/\o.ExactDict:=by
    rcases hk with ⟨kvs,hk⟩ | ⟨kvs,hk⟩
    ·obtain ⟨_,_,_,_,o,_,_,e,ex,_⟩:=I.hok p _ hk;exact ⟨o,e,ex⟩
    ·obtain ⟨_,_,_,_,o,_,_,e,ex,_⟩:=I.hok p _ hk;exact ⟨o,e,ex⟩
   obtain ⟨o,e,ex⟩:=z;refine ⟨⟨o,e,ex.1⟩,fun a e2=>?_⟩;cases e2;exact ⟨o,e,ex.2.1⟩
  ·obtain ⟨o,_,_,_,e,ex,_⟩:=I.hok p _ hk;refine ⟨⟨o,e,ex.1⟩,fun a e2=>?_⟩;cases e2;exact ⟨o,e,ex.2.1⟩
 | _=>exact False.elim ty
def Tq (K:FG) (T:String) (r:V->List V->Hp->VK->Prop) (to:TE):TE:=fun σ H Q=>to σ H fun x H1=>tyV K T x H1/\r x [] H1 Q
def tBM (K:FG) (T:String) (r:V->List V->Hp->VK->Prop) (to:TE) (t:TA):TE:=fun σ H Q=>to σ H fun x H1=>tyV K T x H1/\t σ H1 fun xs H2=>r x xs H2 Q
variable {o:Expr} {es:List Expr} {to:TE} {t:TA} {name:Str} {apos cpos:Pos} {T id:String} {r:V->List V->Hp->VK->Prop}
theorem Rw (pa:PlainAttrs T) (slot:Slot T name id) (hty:typeOf (.builtin id)=pure (.type "method_descriptor")) (hm:MtR X id r) (ho:PE X o to)
  (bj:attributeBase o name X.env (eval o X.env)=eval o X.env:=by rfl) (bo:(apos.endLine == cpos.line)=true:=by rfl):PE X (.Call (.Attribute o name apos) [] [] cpos) (Tq X.K T r to):=by
 intro aa s σ H Q I h;refine wpAny_Call_method0_late bj bo (thn (ho aa s σ H _ I h) fun v s1 ⟨x,H1,I1,r1,ty,q1⟩=>?_);obtain ⟨h1,h2⟩:=OF I1 r1 ty;exact ⟨T,id,pa,slot,hty,h1,h2,Calls.callWith_builtin rfl (PySem.evalArgs_none (hm aa s1 σ H1 x [] v [] Q I1 r1 .nil q1))⟩
theorem Ly (pa:PlainAttrs T) (slot:Slot T name id) (hty:typeOf (.builtin id)=pure (.type "method_descriptor")) (hm:MtR X id r) (ho:PE X o to) (ha:PA X (e :: es) t)
  (bj:attributeBase o name X.env (eval o X.env)=eval o X.env:=by rfl)
  (hfew:((backTo cpos (starEach (e :: es) X.env)).all (fun x=>!x.1) && (backToKw cpos (keywordEach [] X.env)).all (fun x=>x.1.isSome)
   && decide ((e :: es).length + ([]:List Keyword).length + (if ([]:List Keyword).isEmpty then 0 else 1) < 30))=true:=by rfl)
  (bo:(apos.endLine == cpos.line)=true:=by rfl) (hs:starEach (e :: es) X.env=(false,eval e X.env) :: starEach es X.env:=by rfl) (hplain:(backTo cpos (starEach es X.env)).any (·.1)=false:=by rfl) :
  PE X (.Call (.Attribute o name apos) (e :: es) [] cpos) (tBM X.K T r to t):=by
 intro aa s σ H Q I h;refine wpAny_Call_method_late bj hfew bo rfl (thn (ho aa s σ H _ I h) fun v s1 ⟨x,H1,I1,r1,ty,q1⟩=>?_);obtain ⟨h1,h2⟩:=OF I1 r1 ty;refine ⟨T,id,pa,slot,hty,h1,h2,?_⟩;have hA:=ha cpos aa s1 σ H1 _ I1 q1;rw [hs] at hA ⊢;refine Calls.callWith_builtin (by show (false || (backTo cpos (starEach es X.env)).any (·.1))=false; rw [hplain] <;> rfl) (Calls.evalArgs_plain ?_);exact thn hA fun us s2 ⟨vs,H2,I2,r2,q2⟩=>hm aa s2 σ H2 x vs v us Q I2 r1 r2 q2
end
end L2
namespace L2
open PySem PySem.Spec PyProof.Rows
def MtM (X:Cx) (id:String) (r:V->List V->Hp->VK->Prop):Prop :=
 ∀ (aa:LO) (s:Shared) (σ:St) (H:Hp) (x:V) (xs:List V) (v:Value) (us:List Value) (Q:VK),Inv X aa σ H s->RelV x v->Vals xs us->r x xs H Q ->
  wpAny (model X.prog X.w) X.A (call (.builtin id) (v :: us)) (EP X aa σ Q) X.xe s
theorem Vals.one:∀ {x:V} {us:List Value},Vals [x] us->∃ u,us=[u]/\RelV x u
 | _,_,.cons r .nil=>⟨_,rfl,r⟩
section
variable {l b:Addr} {ys zs:List V}
theorem Inv.lset {its its':List Value} {n:Nat} {f:Array Value->Array Value} {t':Nat} (I:Inv X aa σ H s) (hH:H l=some (.lst xs))
  (e:s.heap.get? l=some { cls:=.type "list", data:=.seq its.toArray n }) (hf:f its.toArray=its'.toArray) (hv:Vals ys its') (hz:ys.length <= sizeLine) :
  Inv X aa σ (upd H l (.lst ys)) { s with heap:=s.heap.update l (Obj.mapSeq f),toks:=t' }:=by
 have q:=PySem.IsL.update e f;rw [hf] at q;refine I.write (x:=l) (e:=l) (by rw [hH]; exact trivial) (.inl rfl) (fun b' u hb hu=>(get?_update_other s.heap (Obj.mapSeq f) (Ne.symm hb)).trans hu) ⟨_,q⟩ ?_;exact ⟨hz,its',_,hv,q⟩
theorem Inv.lnew {its:List Value} {t':Nat} (I:Inv X aa σ H s) (hv:Vals ys its) (hz:ys.length <= sizeLine) :
  Inv X aa σ (upd H s.heap.objs.size (.lst ys)) { s with heap:=s.heap.push { cls:=.type "list", data:=.seq its.toArray },toks:=t' } :=
 I.laid (fun _ _ q=>get?_push_of_some _ q) (Nat.le_refl _) ⟨hz,its,0,hv,get?_push_size _ rfl⟩
theorem Inv.fresh (I:Inv X aa σ H s):H s.heap.objs.size=none:=I.hok.fresh (Nat.le_refl _)
theorem Inv.lstM (I:Inv X aa σ H s) (hH:H l=some (.lst xs)):xs.length <= sizeLine/\∃ (its:List Value) (n:Nat),Vals xs its/\xs.length=its.length/\s.heap.get? l=some { cls:=.type "list", data:=.seq its.toArray n }:=by
 obtain ⟨z,its,n,r,e⟩:=I.hok l _ hH;exact ⟨z,its,n,r,r.length,e⟩
end
section
def QE:V->List V->Hp->VK->Prop:=fun x vs H Q=>∃ l xs y,x=.ref l/\vs=[y]/\H l=some (.lst xs)/\xs.length < sizeLine/\Q .non (upd H l (.lst (xs++[y])))
theorem HH:MtM X "list.append" QE:=by
 intro aa s σ H x vs v us Q I rx rv h;obtain ⟨l,xs,y,rfl,rfl,hH,hz,q⟩:=h;cases rx;obtain ⟨u,rfl,ru⟩:=rv.one;obtain ⟨z,its,n,r,hl,e⟩:=I.lstM hH;refine call_meets F.slot_list_append ⟨_,e,rfl⟩ F.entry_list_append (F.args_list_append_2 _ _) (PySem.list_append l its.toArray n u (by rw [size_toArray]; omega)) ⟨e,?_⟩;refine ⟨.non,_,I.lset (its':=its++[u]) hH e (by simp) (r.append (.cons ru .nil)) ?_,rfl,q⟩;rw [length_append,length_singleton];omega
def Tr:R2:=fun x y H Q=>∃ l b xs zs,x=.ref l/\y=.ref b/\H l=some (.lst xs)/\H b=some (.lst zs)/\xs.length + zs.length <= sizeLine/\∀ p,H p=none->Q (.ref p) (upd H p (.lst (xs++zs)))
theorem C1:OpR X (binaryOp .Add) Tr:=by
 intro aa s σ H x y v u Q I rx ry h;obtain ⟨l,b,xs,zs,rfl,rfl,hH,hB,hz,q⟩:=h;cases rx;cases ry;obtain ⟨z,its,n,r,hl,e⟩:=I.lstM hH;obtain ⟨z2,its2,n2,r2,hl2,e2⟩:=I.lstM hB;refine PySem.P.add_list e e2 ?_ (by rw [size_toArray,size_toArray]; omega);have ea:its.toArray++its2.toArray=(its++its2).toArray:=by simp
 rw [ea];exact ⟨.ref _,_,I.lnew (t':=s.toks) (r.append r2) (by rw [length_append]; omega),rfl,q _ I.fresh⟩
end
end L2
namespace L2
open PySem PySem.Spec PyProof.Rows
section
variable {κ:Type} [DecidableEq κ]
noncomputable def BL (kvs:List (κ × V)) (k:κ):Option V:=(kvs.find? fun kv=>decide (kv.1=k)).map (·.2)
noncomputable def CH (kvs:List (κ × V)) (k:κ) (v:V):List (κ × V) :=
 if (kvs.any fun kv=>decide (kv.1=k))=true then kvs.map (fun kv=>if kv.1=k then (kv.1,v) else kv) else kvs++[(k,v)]
theorem C2 {p:κ × V} {r:List (κ × V)} {k:κ} (e:p.1=k):BL (p :: r) k=some p.2:=by simp [BL,find?_cons,e]
theorem C3 {p:κ × V} {r:List (κ × V)} {k:κ} (e:¬ p.1=k):BL (p :: r) k=BL r k:=by simp [BL,find?_cons,e]
theorem Fq (k:κ):∀ kvs:List (κ × V),(kvs.any fun kv=>decide (kv.1=k))=(BL kvs k).isSome
 | []=>rfl
 | p :: r=>by
  rw [any_cons];by_cases e:p.1=k
  ·simp only [C2 e,decide_eq_true e,Bool.true_or,Option.isSome_some]
  ·rw [C3 e,decide_eq_false e,Bool.false_or]; exact Fq k r
theorem B7 (kvs:List (κ × V)) (k:κ) (v:V):(CH kvs k v).length <= kvs.length + 1:=by
 unfold CH;split
 ·rw [AK]; omega
 ·rw [length_append,length_cons,length_nil]; omega
theorem JE {kvs:List (κ × V)} {k:κ} (v:V) (h:BL kvs k=none):CH kvs k v=kvs++[(k,v)]:=by
 unfold CH;rw [Fq,h];exact if_neg (by decide)
theorem RelO.isSome_eq {o:Option V} {u:Option Value} (r:RelO o u):o.isSome=u.isSome:=by
 cases o with
 | none=>cases u with
  | none=>rfl
  | some _=>exact (show False from r).elim
 | some _=>cases u with
  | none=>exact (show False from r).elim
  | some _=>rfl
theorem KV.val {kvs:List (κ × V)} {vs:List (κ × Value)} (r:KV kvs vs) (k:κ):RelO (BL kvs k) (valueAt vs k):=by
 unfold KV at r;induction r with
 | nil=>exact True.intro
 | @cons p q ps qs h t ih =>
  obtain ⟨h1,h2⟩:=h;by_cases e:p.1=k
  ·have e':q.1=k:=h1.symm.trans e;have b:valueAt (q :: qs) k=some q.2:=by simp [valueAt,find?_cons,e']
   rw [C2 e,b]; exact h2
  ·have e':¬ q.1=k:=fun z=>e (h1.trans z);have b:valueAt (q :: qs) k=valueAt qs k:=by simp [valueAt,find?_cons,e']
   rw [C3 e,b]; exact ih
theorem KV.any {kvs:List (κ × V)} {vs:List (κ × Value)} (r:KV kvs vs) (k:κ):(kvs.any fun kv=>decide (kv.1=k))=vs.any fun kv=>decide (kv.1=k):=by
 unfold KV at r;induction r with
 | nil=>rfl
 | cons h t ih=>rw [any_cons,any_cons,ih,h.1]
theorem KV.repl {kvs:List (κ × V)} {vs:List (κ × Value)} (r:KV kvs vs) (k:κ) {y:V} (ry:RelV y u) :
  KV (kvs.map fun kv=>if kv.1=k then (kv.1,y) else kv) (vs.map fun kv=>if kv.1=k then (kv.1,u) else kv):=by
 unfold KV at r ⊢;induction r with
 | nil=>exact .nil
 | @cons p q ps qs h t ih =>
  rw [map_cons,map_cons];refine .cons ?_ ih;obtain ⟨h1,h2⟩:=h;by_cases e:p.1=k
  ·rw [if_pos e,if_pos (h1.symm.trans e)]; exact ⟨h1,ry⟩
  ·rw [if_neg e,if_neg (fun z=>e (h1.trans z))]; exact ⟨h1,h2⟩
theorem KV.put {kvs:List (κ × V)} {vs:List (κ × Value)} (r:KV kvs vs) (k:κ) {y:V} (ry:RelV y u):KV (CH kvs k y) (stored vs k u):=by
 unfold CH stored;rw [r.any k];by_cases e:(vs.any fun kv=>decide (kv.1=k))=true
 ·rw [if_pos e,if_pos e]; exact r.repl k ry
 ·rw [if_neg e,if_neg e]; exact Paired.snoc r ⟨rfl,ry⟩
theorem KV.length {kvs:List (κ × V)} {vs:List (κ × Value)} (r:KV kvs vs):kvs.length=vs.length:=Paired.length r
end
theorem FC {k:Key} (r:RelV (kV k) u):(AU P w).is k u=true:=by
 cases k with
 | inl i=>obtain ⟨t,e⟩:=(show ∃ t,u=Value.int i t from r); subst e; exact Iv P w i t
 | inr x=>obtain ⟨t,e⟩:=(show ∃ t,u=Value.str x t from r); subst e; exact Ix P w x t
theorem HI {P:Program} {w:World}:∀ {ks:List Key} {us:List Value},Vals (ks.map kV) us->ItemsAre (AU P w) ks us
 | [],_,r=>by rw [map_nil] at r; cases r; exact .nil
 | k :: ks,_,r=>by
  rw [map_cons] at r;cases r with
  | cons h t=>exact .cons (FC h) (HI t)
abbrev KT (H:Hp):List (List Key × V)->List (List Key × Addr × Value)->Prop:=Paired fun p q=>p.1=q.1/\H q.2.1=some (.tup (p.1.map kV))/\RelV p.2 q.2.2
theorem KT.val {kvs:List (List Key × V)} {xs:List (List Key × Addr × Value)} (r:KT H kvs xs) (k:List Key):RelO (BL kvs k) ((atKey xs k).map (·.2)):=by
 induction r with
 | nil=>exact True.intro
 | @cons p q ps qs h t ih =>
  obtain ⟨h1,_,h2⟩:=h;by_cases e:p.1=k
  ·have e':q.1=k:=h1.symm.trans e;have b:atKey (q :: qs) k=some q.2:=by simp [atKey,find?_cons,e']
   rw [C2 e,b]; exact h2
  ·have e':¬ q.1=k:=fun z=>e (h1.trans z);have b:atKey (q :: qs) k=atKey qs k:=by simp [atKey,find?_cons,e']
   rw [C3 e,b]; exact ih
theorem KT.repl {kvs:List (List Key × V)} {xs:List (List Key × Addr × Value)} (r:KT H kvs xs) (k:List Key) {y:V} (ry:RelV y u) :
  KT H (kvs.map fun kv=>if kv.1=k then (kv.1,y) else kv) (xs.map (putAt k u)):=by
 induction r with
 | nil=>exact .nil
 | @cons p q ps qs h t ih =>
  rw [map_cons,map_cons];refine .cons ?_ ih;obtain ⟨h1,h2,h3⟩:=h;unfold putAt;by_cases e:p.1=k
  ·rw [if_pos e,if_pos (h1.symm.trans e)]; exact ⟨h1,h2,ry⟩
  ·rw [if_neg e,if_neg (fun z=>e (h1.trans z))]; exact ⟨h1,h2,h3⟩
theorem KT.put {kvs:List (List Key × V)} {xs:List (List Key × Addr × Value)} (r:KT H kvs xs) (k:List Key) {b:Addr} {y:V} (hb:H b=some (.tup (k.map kV))) (ry:RelV y u) :
  KT H (CH kvs k y) (storedH xs k b u):=by
 have e:(kvs.any fun kv=>decide (kv.1=k))=(atKey xs k).isSome:=by
  rw [Fq,(r.val k).isSome_eq,Option.isSome_map]
 unfold CH storedH;rw [e];by_cases q:(atKey xs k).isSome=true
 ·rw [if_pos q,if_pos q]; exact r.repl k ry
 ·rw [if_neg q,if_neg q]; exact Paired.snoc r ⟨rfl,hb,ry⟩
theorem KT.keeps {kvs:List (List Key × V)} {xs:List (List Key × Addr × Value)} (r:KT H kvs xs) (ht:∀ b ys,H b=some (.tup ys)->H' b=some (.tup ys)):KT H' kvs xs :=
 Paired.mapP r fun _ _ z=>⟨z.1,ht _ _ z.2.1,z.2.2⟩
section
theorem RT {u:HO} (ok:HOk P w H h) (e:Rd H a u):ObjOk P w H h a u:=e.ok ok
theorem Cl {kvs:LK} (ok:HOk P w H h) (e:Rd H a (.dK kvs)):kvs.length <= sizeLine/\(a == sysModules)=false/\∃ vs,KV kvs vs/\h.DictOf (AU P w) a vs :=
 show ObjOk P w H h a (.dK kvs) from RT ok e
theorem OG {kvs:LK} (ok:HOk P w H h) (e:H a=some (.dK kvs)):kvs.length <= sizeLine/\(a == sysModules)=false/\∃ vs,KV kvs vs/\h.DictOf (AU P w) a vs:=Cl ok (.inl e)
theorem Fs {ks:List Key} (ok:HOk P w H h) (e:H a=some (.tup (ks.map kV))):(tupleKind (AU P w)).is h ks a:=by
 obtain ⟨_,its,r,o,h1,h2,n,h3⟩:=(show ObjOk P w H h a (.tup (ks.map kV)) from ok a _ e);exact ⟨o,its.toArray,n,h1,h2,h3,by simpa using HI r⟩
theorem HJ {kvs:List (List Key × V)} (ok:HOk P w H h) (e:Rd H a (.dT kvs)):kvs.length <= sizeLine/\(a == sysModules)=false /\
  ∃ xs,KT H kvs xs/\h.DictOfH (tupleKind (AU P w)) a xs:=by
 obtain ⟨z,y,xs,r,o,es,ep,h1,h2,h3,h4,h5⟩:=(show ObjOk P w H h a (.dT kvs) from RT ok e);refine ⟨z,y,xs,r,o,es,ep,h1,h2,h3,h4,fun x hx=>?_,h5⟩
 have all:∀ {l:List (List Key × V)} {m:List (List Key × Addr × Value)},KT H l m->∀ x ∈ m,(tupleKind (AU P w)).is h x.1 x.2.1:=by
  intro l m q;induction q with
  | nil=>intro x hx; exact nomatch hx
  | @cons p q ps qs hq t ih =>
   intro x hx;rcases mem_cons.mp hx with e | hx
   ·subst e;exact Fs ok (by rw [← hq.1]; exact hq.2.1)
   ·exact ih x hx
 exact all r x hx
theorem S3 {kvs:List (List Key × V)} (ok:HOk P w H h) (e:H a=some (.dT kvs)):kvs.length <= sizeLine/\(a == sysModules)=false /\
  ∃ xs,KT H kvs xs/\h.DictOfH (tupleKind (AU P w)) a xs:=HJ ok (.inl e)
end
def Ki (H:Hp) (a:Addr) (y:V) (r:Option V):Prop :=
 (∃ kvs k,Rd H a (.dK kvs)/\y=kV k/\r=BL kvs k)\/∃ kvs k b,Rd H a (.dT kvs)/\y=.ref b/\H b=some (.tup (k.map kV))/\r=BL kvs k
def DPut (H:Hp) (a:Addr) (y v:V) (H':Hp):Prop :=
 (∃ kvs k,H a=some (.dK kvs)/\y=kV k/\kvs.length < sizeLine/\H'=upd H a (.dK (CH kvs k v))) \/
 ∃ kvs k b,H a=some (.dT kvs)/\y=.ref b/\H b=some (.tup (k.map kV))/\kvs.length < sizeLine/\H'=upd H a (.dT (CH kvs k v))
theorem DPut.k {H:Hp} {a:Addr} {kvs:LK} {k:Key} {v:V} (e:H a=some (.dK kvs)) (hl:kvs.length < sizeLine):DPut H a (kV k) v (upd H a (.dK (CH kvs k v))):=.inl ⟨kvs,k,e,rfl,hl,rfl⟩
section
variable {y v:V} {r:Value} {o:Option V}
theorem Inv.big (I:Inv X aa σ H s):sysModules < s.heap.objs.size:=by
 have h:mainGlobals < s.heap.objs.size:=(I.mod.glob.keeps I.bk).lt;exact Nat.lt_trans (by decide) h
theorem Mq {Q:VS} (hu:A.units + 1 < cLine) (I:Inv X aa σ H s) (g:Ki H a y (some v)) (ry:RelV y u) (h:∀ w' s',Inv X aa σ H s'->RelV v w'->Q w' s') :
  wpAny (model X.prog X.w) A (getItem (.ref a) u) Q E s:=by
 rcases g with ⟨kvs,k,e,ey,l⟩ | ⟨kvs,k,b,e,ey,eb,l⟩
 ·subst ey;obtain ⟨z,hd,vs,rel,dd⟩:=Cl I.hok e;obtain ⟨w',hw,rw'⟩:=RelO.some_of (v:=v) (o:=valueAt vs k) (by rw [l]; exact rel.val k);exact wpAny_getItem_of (FC ry) dd.mapOf hw (h w' _ (I.tok _) rw')
 ·subst ey;cases (show u=Value.ref b from ry);obtain ⟨z,hd,xs,rel,dd⟩:=HJ I.hok e;obtain ⟨w',hw,rw'⟩:=RelO.some_of (v:=v) (o:=(atKey xs k).map (·.2)) (by rw [l]; exact rel.val k);obtain ⟨p,hp,ak⟩:=Option.map_eq_some_iff.mp hw;refine wpAny_getItem_heap (tupleKind_room_in1 hu) (Fs I.hok eb) dd hp ?_;rw [ak];exact h w' _ (I.tok _) rw'
theorem Ts {Q:VS} (hu:A.units + 1 < cLine) (I:Inv X aa σ H s) (g:Ki H a y o) (ry:RelV y u) (h:∀ s',Inv X aa σ H s'->Q (.bool o.isSome) s') :
  wpAny (model X.prog X.w) A (compareOp .In u (.ref a)) Q E s:=by
 rcases g with ⟨kvs,k,e,ey,l⟩ | ⟨kvs,k,b,e,ey,eb,l⟩
 ·subst ey;obtain ⟨z,hd,vs,rel,dd⟩:=Cl I.hok e;refine wpAny_in_of (FC ry) hd dd.mapOf ?_;rw [← (rel.val k).isSome_eq,← l];exact h _ (I.tok _)
 ·subst ey;cases (show u=Value.ref b from ry);obtain ⟨z,hd,xs,rel,dd⟩:=HJ I.hok e;refine wpAny_in_heap (tupleKind_room_in1 hu) (Fs I.hok eb) hd dd ?_;have q:=(rel.val k).isSome_eq;rw [Option.isSome_map] at q;rw [← q,← l];exact h _ (I.tok _)
theorem QF {Q:VS} (hu:A.units + 1 < cLine) (I:Inv X aa σ H s) (g:Ki H a y o) (ry:RelV y u) (h:∀ s',Inv X aa σ H s'->Q (.bool (!o.isSome)) s') :
  wpAny (model X.prog X.w) A (compareOp .NotIn u (.ref a)) Q E s:=by
 rcases g with ⟨kvs,k,e,ey,l⟩ | ⟨kvs,k,b,e,ey,eb,l⟩
 ·subst ey;obtain ⟨z,hd,vs,rel,dd⟩:=Cl I.hok e;refine wpAny_notIn_of (FC ry) hd dd.mapOf ?_;rw [← (rel.val k).isSome_eq,← l];exact h _ (I.tok _)
 ·subst ey;cases (show u=Value.ref b from ry);obtain ⟨z,hd,xs,rel,dd⟩:=HJ I.hok e;refine wpAny_notIn_heap (tupleKind_room_in1 hu) (Fs I.hok eb) hd dd ?_;have q:=(rel.val k).isSome_eq;rw [Option.isSome_map] at q;rw [← q,← l];exact h _ (I.tok _)
theorem D8 {h':Heap} {t':Nat} {ob:HO} (I:Inv X aa σ H s) (mu:Mut (H a)) (hs:Heap.SameBut a s.heap h') (he:∃ q,h'.get? a=some q) (new:ObjOk X.prog X.w (upd H a ob) h' a ob) :
  Inv X aa σ (upd H a ob) { s with heap:=h',toks:=t' } :=
 I.write (x:=a) (e:=a) mu (.inl rfl) (fun b q hb z=>(hs.2 b hb).trans z) he new
theorem Kj {h':Heap} {kvs:LK} {vs:List (Key × Value)} (z:kvs.length <= sizeLine) (hd:(a == sysModules)=false) (rel:KV kvs vs) (dd:h'.DictOf (AU P w) a vs) :
  ObjOk P w H' h' a (.dK kvs):=⟨z,hd,vs,rel,dd⟩
theorem Mr {Q:Unit->Shared->Prop} (hu:A.units + 1 < cLine) (I:Inv X aa σ H s) (g:DPut H a y v H') (ry:RelV y u) (rv:RelV v r) (h:∀ s',Inv X aa σ H' s'->Q () s') :
  wpAny (model X.prog X.w) A (setItem (.ref a) u r) Q E s:=by
 rcases g with ⟨kvs,k,e,ey,l,eH⟩ | ⟨kvs,k,b,e,ey,eb,l,eH⟩
 ·subst ey eH;obtain ⟨z,hd,vs,rel,dd⟩:=OG I.hok e;have hz:vs.length <= sizeLine:=by rw [← rel.length]; exact z
  have hl:(CH kvs k v).length <= sizeLine:=by have:=B7 kvs k v; omega
  refine wpAny_setItem_pairs (hsz:=hz) (FC ry) dd fun h' dd' hs=>h _ ?_;have he:∃ q,h'.get? a=some q:=let ⟨q,_,_,hq,_⟩:=dd'; ⟨q,hq⟩
  exact D8 I (by rw [e]; exact True.intro) hs he (Kj hl hd (rel.put k rv) dd')
 ·subst ey eH;cases (show u=Value.ref b from ry);obtain ⟨z,hd,xs,rel,dd⟩:=S3 I.hok e;have hz:xs.length <= sizeLine:=by rw [← Paired.length rel]; exact z
  have hl:(CH kvs k v).length <= sizeLine:=by have:=B7 kvs k v; omega
  refine wpAny_setItem_heap (hsz:=hz) (tupleKind_room_in1 hu) (Fs I.hok eb) dd fun h' dd' hs=>h _ ?_;obtain ⟨q,es,ep,hq,h2,h3,h4,_,h5⟩:=dd';refine D8 I (by rw [e]; exact True.intro) hs ⟨q,hq⟩ ⟨hl,hd,_,(rel.put k eb rv).keeps fun c ys ec=>?_,q,es,ep,hq,h2,h3,h4,h5⟩;rw [AG (Si ec e (fun z=>nomatch z))];exact ec
end
def S4 (i:Expr):Prop:=∀ ov iv,subscripted i false ov iv=operate [ov,iv] (getItem ov iv)
theorem QG {prog:Program} {env:Env} {value slice:Expr} {T id:String} {Q:VS}
  (hl:typeLookup (.type T) "__getitem__" = pure (some (.builtin id))) (hs:S4 slice)
  (h:wpAny (model prog w) A (eval value env) (fun o s₁=>wpAny (model prog w) A (eval slice env) (fun i s₂=>s₂.TypeIs o T/\wpAny (model prog w) A (getItem o i) Q E s₂) E s₁) E s) :
  wpAny (model prog w) A (eval (.Subscript value slice pos) env) Q E s:=by
 refine Subscript_ (wpAny_mono h (fun o s₁ h₁=>wpAny_mono h₁ (fun i s₂ h₂=>?_) fun _ _ x=>x) fun _ _ x=>x);obtain ⟨hT,h₂⟩:=h₂;unfold subscriptTail;refine wpAny_bind ?_;rw [getitemInPython_of_ne hT.not_modules];refine wpAny_bind (wpAny_specialOf hT hl ?_)
 have fin:wpAny (model prog w) A (subscripted slice false o i) (fun r s₃=>wpAny (model prog w) A (letTemporaryGo value o r >>= fun _=>pure r) Q E s₃) E s₂:=by
  rw [hs o i];exact wpAny_operating (wpAny_mono h₂ (fun r s₃ h₃=>wpAny_bind (wpAny_letTemporaryGo (wpAny_pure h₃))) fun _ _ x=>x)
 first
  | exact wpAny_pure (wpAny_bind fin)
  | exact wpAny_bind (wpAny_pure (wpAny_bind fin))
  | exact wpAny_bind fin
theorem JF {y:V} {o:Option V} (I:Inv X aa σ H s) (g:Ki H a y o):s.TypeIs (.ref a) "dict" := by
 rcases g with ⟨kvs,k,e,_,_⟩ | ⟨kvs,k,b,e,_,_,_⟩
 ·obtain ⟨_,_,vs,_,dd⟩:=Cl I.hok e;exact dd.typeIs
 ·obtain ⟨_,_,xs,_,dd⟩:=HJ I.hok e;exact dd.typeIs
inductive ExD (x:V) (H:Hp) (y:V) (k:V->Prop):Prop where
 | mk (a:Addr) (v:V) (h1:x=.ref a) (h2:Ki H a y (some v)) (q:k v):ExD x H y k
def S5 (td ty:TE):TE:=fun σ H Q=>td σ H fun x H1=>ty σ H1 fun y H2=>ExD x H2 y fun v=>Q v H2
def Tt (ty td:TE):TE:=fun σ H Q=>ty σ H fun y H1=>td σ H1 fun x H2=>∃ a o,x=.ref a/\Ki H2 a y o/\Q (.bl o.isSome) H2
def QH (ty td:TE):TE:=fun σ H Q=>ty σ H fun y H1=>td σ H1 fun x H2=>∃ a o,x=.ref a/\Ki H2 a y o/\Q (.bl (!o.isSome)) H2
def S6 (td ty tv:TE):TS:=fun D σ H=>tv σ H fun v H1=>td σ H1 fun x H2=>ty σ H2 fun y H3=>∃ a H4,x=.ref a/\DPut H3 a y v H4/\D.nx σ H4
section
variable {o i value:Expr} {pos' tpos:Pos} {td ty tv:TE}
theorem Ca (hu:X.A.units + 1 < cLine) (ho:PE X o td) (hi:PE X i ty) (hs:S4 i):PE X (.Subscript o i pos) (S5 td ty):=by
 intro aa s σ H Q I h;refine QG PySem.F.slot_dict_getitem.lookup hs (thn (ho aa s σ H _ I h) fun u s1 ⟨x,H1,I1,rx,q1⟩=>thn (hi aa s1 σ H1 _ I1 q1) fun iv s2 ⟨y,H2,I2,ry,a,v,ex,g,q2⟩=>?_);subst ex;obtain rfl:u=Value.ref a:=rx;exact ⟨JF I2 g,Mq hu I2 g ry fun w' s3 I3 rw'=>⟨v,H2,I3,rw',q2⟩⟩
theorem OH (hu:X.A.units + 1 < cLine) (hi:PE X i ty) (ho:PE X o td):PC X .In i o (Tt ty td):=by
 intro aa s σ H Q I h;refine thn (hi aa s σ H _ I h) fun iv s1 ⟨y,H1,I1,ry,q1⟩=>thn (ho aa s1 σ H1 _ I1 q1) fun u s2 ⟨x,H2,I2,rx,a,ov,ex,g,q2⟩=>?_;subst ex;obtain rfl:u=Value.ref a:=rx;exact Ts hu I2 g ry fun s3 I3=>⟨.bl ov.isSome,H2,I3,rfl,q2⟩
theorem Ms (hu:X.A.units + 1 < cLine) (hi:PE X i ty) (ho:PE X o td):PC X .NotIn i o (QH ty td):=by
 intro aa s σ H Q I h;refine thn (hi aa s σ H _ I h) fun iv s1 ⟨y,H1,I1,ry,q1⟩=>thn (ho aa s1 σ H1 _ I1 q1) fun u s2 ⟨x,H2,I2,rx,a,ov,ex,g,q2⟩=>?_;subst ex;obtain rfl:u=Value.ref a:=rx;exact QF hu I2 g ry fun s3 I3=>⟨.bl (!ov.isSome),H2,I3,rfl,q2⟩
theorem Lz (hu:X.A.units + 1 < cLine) (ho:PE X o td) (hi:PE X i ty) (hv:PE X value tv) (hs:swapsWith value (some (.Subscript o i pos')) pos.line X.env=pure false) :
  PS X (.Assign [.Subscript o i pos'] value pos) (S6 td ty tv):=by
 intro aa s σ H D I h;refine wpAny_Assign_Subscript (thn (hv aa s σ H _ I h) fun r s1 ⟨v,H1,I1,rv,q1⟩=>thn (ho aa s1 σ H1 _ I1 q1) fun u s2 ⟨x,H2,I2,rx,q2⟩=>thn (hi aa s2 σ H2 _ I2 q2) fun iv s3 ⟨y,H3,I3,ry,a,H4,ex,g,q3⟩=>?_) hs;subst ex;obtain rfl:u=Value.ref a:=rx;exact Mr hu I3 g ry rv fun s4 I4=>⟨σ,H4,I4,q3⟩
end
theorem JG (h:Heap) (hb:sysModules < h.objs.size):ObjOk P w H (h.push { cls:=.type "dict", data:=.dict #[] }) h.objs.size (.dK []) :=
 ⟨Nat.zero_le _,beq_eq_false_iff_ne.mpr (Ne.symm (Nat.ne_of_lt hb)),[],.nil,Heap.DictOf.new h⟩
def Rx:TE:=fun _ H Q=>∀ p,H p=none->Q (.ref p) (upd H p (.dK []))
section
theorem Ft:PE X (.Dict [] [] pos) Rx:=fun aa s σ H Q I h =>
 wpAny_Dict_empty ⟨.ref s.heap.objs.size,_,I.laid (a:=s.heap.objs.size) (o:=.dK []) (t':=s.toks) (fun _ _ q=>get?_push_of_some _ q) (Nat.le_refl _) (JG s.heap I.big),rfl,h _ (I.hok.fresh (Nat.le_refl _))⟩
end
def Kk:List (TE × TE)->St->Hp->(List (V × V)->Hp->Prop)->Prop
  | [],_,H,Q=>Q [] H
  | (tk,tv) :: r,σ,H,Q=>tk σ H fun x H1=>tv σ H1 fun y H2=>Kk r σ H2 fun ps H3=>Q ((x,y) :: ps) H3
abbrev VV:List (V × V)->List (Value × Value)->Prop:=Paired fun p q=>RelV p.1 q.1/\RelV p.2 q.2
def PPs (X:Cx) (pos:Pos) (keys:List (Option Expr)) (values:List Expr) (trs:List (TE × TE)):Prop :=
 ∀ (aa:LO) (s:Shared) (σ:St) (H:Hp) (Q:List (V × V)->Hp->Prop),Inv X aa σ H s->Kk trs σ H Q ->
  wpAny (model X.prog X.w) X.A (evalPairs (pairTrees keys values X.env pos)) (fun vs s'=>∃ ps H',Inv X aa σ H' s'/\VV ps vs/\Q ps H') X.xe s
theorem QI:PPs X pos [] [] []:=fun aa s σ H Q I h=>pairTrees_nil_walk ⟨[],H,I,.nil,h⟩
theorem D9 {k v:Expr} {ks:List (Option Expr)} {vs:List Expr} {tk tv:TE} {trs:List (TE × TE)} (hk:PE X k tk) (hv:PE X v tv) (hr:PPs X pos ks vs trs) :
  PPs X pos (some k :: ks) (v :: vs) ((tk,tv) :: trs):=fun aa s σ H Q I h =>
 pairTrees_cons_walk (thn (hk aa s σ H _ I h) fun u s1 ⟨x,H1,I1,rx,q1⟩=>thn (hv aa s1 σ H1 _ I1 q1) fun w2 s2 ⟨y,H2,I2,ry,q2⟩ =>
  thn (hr aa s2 σ H2 _ I2 q2) fun ws s3 ⟨ps,H3,I3,rel,q3⟩=>⟨(x,y) :: ps,H3,I3,.cons ⟨rx,ry⟩ rel,q3⟩)
noncomputable def El (kvs more:LK):LK:=more.foldl (fun acc kv=>CH acc kv.1 kv.2) kvs
theorem KV.merge:∀ {more:LK} {rs:List (Key × Value)} {kvs:LK} {vs:List (Key × Value)},KV more rs->KV kvs vs->KV (El kvs more) (merged vs rs):=by
 intro more rs kvs vs r;unfold KV at r;induction r generalizing kvs vs with
 | nil=>intro q; exact q
 | @cons p q ps qs h t ih =>
  intro r0
  have e:KV (CH kvs p.1 p.2) (stored vs q.1 q.2):=by
   have:=r0.put p.1 h.2;rw [← h.1]; exact this
  exact ih e
theorem DW:∀ (more kvs:LK),(El kvs more).length <= kvs.length + more.length
 | [],kvs=>by show kvs.length <= kvs.length + 0; omega
 | p :: r,kvs=>by
  have h1:=DW r (CH kvs p.1 p.2);have h2:=B7 kvs p.1 p.2;show (El (CH kvs p.1 p.2) r).length <= _;rw [length_cons]; omega
theorem Fu {P:Program} {w:World}:∀ {kvs:LK} {ws:List (Value × Value)},VV (kvs.map fun kv=>(kV kv.1,kv.2)) ws->∃ rs,Carries (AU P w) ws rs/\KV kvs rs
 | [],_,r=>by rw [map_nil] at r; cases r; exact ⟨[],True.intro,.nil⟩
 | p :: kvs,_,r=>by
  rw [map_cons] at r;cases r with
  | @cons a b as bs h t =>
   obtain ⟨rs,c,q⟩:=Fu (P:=P) (w:=w) t;obtain ⟨b1,b2⟩:=b;exact ⟨(p.1,b2) :: rs,⟨FC h.1,rfl,c⟩,.cons ⟨rfl,h.2⟩ q⟩
def S7 (trs:List (TE × TE)):TE:=fun σ H Q=>∀ p,H p=none->Kk trs σ (upd H p (.dK [])) fun ps H2=>H2 p=some (.dK [])/\∃ kvs:LK,ps=kvs.map (fun kv=>(kV kv.1,kv.2))/\kvs.length <= 15/\Q (.ref p) (upd H2 p (.dK (El [] kvs)))
theorem QJ {keys:List (Option Expr)} {values:List Expr} {trs:List (TE × TE)} (h:PPs X pos keys values trs) (bp:keys.all (·.isSome)=true) (hl:keys.length=values.length) (h0:keys ≠ [])
  (h15:keys.length <= 15):PE X (.Dict keys values pos) (S7 trs):=by
 intro aa s σ H Q I q;have hn:=I.hok.fresh (Nat.le_refl s.heap.objs.size);have I1:=I.laid (a:=s.heap.objs.size) (o:=.dK []) (h':=s.heap.push { cls:=.type "dict", data:=.dict #[] }) (t':=s.toks) (fun _ _ q=>get?_push_of_some _ q) (Nat.le_refl _) (JG s.heap I.big);refine wpAny_Dict_walk (knd:=AU X.prog X.w) bp hl h0 h15 (thn (h aa _ σ _ _ I1 (q _ hn)) fun ws s2 ⟨ps,H2,I2,rel,e,kvs,ep,lk,q2⟩=>?_);subst ep;obtain ⟨rs,c,rk⟩:=Fu (P:=X.prog) (w:=X.w) rel;obtain ⟨z,hd,vs0,r0,dd⟩:=OG I2.hok e;cases r0;refine ⟨rs,c,dd,fun h' dd' hs=>⟨.ref s.heap.objs.size,_,?_,rfl,q2⟩⟩
 have hz:(El [] kvs).length <= sizeLine:=by
  have h1:=DW kvs [];rw [length_nil] at h1;rw [sizeLine_eq]; omega
 have he:∃ q,h'.get? s.heap.objs.size=some q:=let ⟨q,_,_,hq,_⟩:=dd'; ⟨q,hq⟩
 exact D8 I2 (by rw [e]; exact True.intro) hs he (Kj hz hd (rk.merge .nil) dd')
def IsD (H:Hp) (a:Addr):Prop:=(∃ kvs,Rd H a (.dK kvs))\/∃ kvs,Rd H a (.dT kvs)
theorem OI (I:Inv X aa σ H s) (d:IsD H a) :
  s.TypeIs (.ref a) "dict" /\ (∀ b,Value.ref a=.ref b->∃ ob,s.heap.get? b=some ob/\ob.dict=none)/\(a == sysModules)=false:=by
 rcases d with ⟨kvs,e⟩ | ⟨kvs,e⟩
 ·obtain ⟨_,hd,vs,_,dd⟩:=Cl I.hok e;refine ⟨dd.typeIs,fun b q=>?_,hd⟩;cases q;obtain ⟨ob,_,_,h1,h2,_⟩:=dd;exact ⟨ob,h1,h2.2.1⟩
 ·obtain ⟨_,hd,xs,_,dd⟩:=HJ I.hok e;refine ⟨dd.typeIs,fun b q=>?_,hd⟩;cases q;obtain ⟨ob,_,_,h1,h2,_⟩:=dd;exact ⟨ob,h1,h2.2.1⟩
end L2
namespace Att
open PySem PySem.W PySem.Calls PyProof.Rows
theorem FO {P:Params}:∀ (ns:List Int) (vs:List Value),WellAll P h vs (ns.map WData.int)->IntsAre vs ns:=by
 intro ns;induction ns with
 | nil =>
  intro vs w;rw [map_nil] at w;cases w;exact .nil
 | cons n ns ih =>
  intro vs w;rw [map_cons] at w;cases w with
  | cons a b =>
   cases a;exact .cons _ _ (ih _ b)
theorem Mu {l:OpenLaw} {n:Nat} (hn:l.most=some n) {P:Params} {args:List WData} {vals:List Value}
    (b9:l.row.toRowW.claim.pre args=true) (hwl:WellAll P h vals args) :
    ∃ a vs ns,vals=[Value.ref a]/\args=[WData.list (ns.map WData.int)]/\h.get? a=some { cls:=.type "list", data:=.seq vs.toArray }/\IntsAre vs ns/\ns.length <= n:=by
  have ah:WShape.hasAll [] args [.list .int]=true:=(pre_splitW b9).1;have hc:l.pre.holds [] { args:=args }=true:=(pre_splitW b9).2;obtain ⟨d,r,rfl,h1,h2⟩:=hasAllW_cons ah;obtain rfl:=hasAllW_nil h2;obtain ⟨xs,rfl,h3⟩:=hasW_list h1;obtain ⟨ns,rfl⟩:=items_int h3
  have a0:ns.length <= n:=by
    unfold OpenLaw.pre at hc
    have h4:(WTm.not (.lt (.lit (.int (n:Int))) (.len (.arg 0)))).holds [] { args:=[.list (ns.map .int)] }=true:=by
      have h4:=(holds_andW hc).1;rw [hn] at h4;exact h4
    have h5:=condW_of h4 (w_not (w_lt w_lit (w_len_list (w_arg rfl))));rw [AK] at h5;refine Nat.le_of_not_lt fun q=>?_;have q':(n:Int) < ((ns.length:Nat):Int):=by omega
    first
      | (rw [decide_eq_true q'] at h5; exact absurd h5 (by decide))
      | (simp at h5; omega)
  cases hwl with
  | cons w1 w2 =>
    cases w2;cases w1 with
    | list ho bp=>exact ⟨_,_,ns,rfl,rfl,ho,FO ns _ bp,a0⟩
theorem Mv (l:OpenLaw) (args:List WData):l.row.toRowW.claim.post args (.bool true) args=true :=
 postW_of (r:=l.row.toRowW) (X:=(true == true))
  (show WShape.has [] (.bool true) .bool=true by first | rfl | decide | simp [WShape.has,WShape.arms,WShape.armsAll])
  (show (WTm.eq .res (.lit (.bool true))).value [] { args:=args,res:=some (.bool true),after:=args }=some (.bool (true == true)) from w_eq_bool (w_res rfl) w_lit) rfl
theorem attach_call {l:OpenLaw} {n:Nat} {q:Program} {loose:List Str} {XP:(Str->Option Value)->Heap->Prop} {YP:World->Heap->Prop} {d:DefRec}
  (hn:l.most=some n) (hdf:d.params.defaults=[])
  (call:∀ (w:World) (s₀ s₁:Shared) (mg mb:SV) (fa:Addr) (o:Obj) (pm cd doc:Value) (a:Addr) (vs:List Value) (ns:List Int),
   Ground q loose [] XP w s₀ mg mb s₁.heap->YP w s₁.heap ->
   s₁.heap.get? fa=some o->o.data=.func (docDef d.name d.params d.body d.scope pm cd doc)->s₁.heap.CodeRec cd d.name->mg d.name=some (.ref fa) ->
   s₁.heap.get? a=some { cls:=.type "list", data:=.seq vs.toArray }->IntsAre vs ns->ns.length <= n->s₁.gens=#[] ->
   codeAny (model l.prog w) callerA (.call (.ref fa) ⟨[.ref a],[]⟩) (fun r s'=>r=.ok (.ret (.bool true))/\OldK s₁.heap s'.heap/\s'.os=s₁.os/\AllBare s'.gens) s₁) :
  WalkO q loose XP YP l.row.toRowW d [] (fun f vs=>PySem.call f vs):=by
 intro w s₀ s₁ mg mb G Y fa o pm cd doc dV kV ho hd hcd hD hmg hg args vals as b9 hlay hrd hwl hlo;obtain rfl:dV=.none:=Dflts.none hD hdf;obtain rfl:kV=.none:=Dflts.noKw hD;obtain ⟨a,vs,ns,rfl,rfl,cg,bf,a0⟩:=Mu hn b9 hwl;refine enter_call (codeAny_mono (call w s₀ s₁ mg mb fa o pm cd doc a vs ns G Y ho (fd_plain hd) hcd hmg cg bf a0 hg) fun r s' hq=>?_);obtain ⟨rfl,h2,h3,h4⟩:=hq;exact ⟨.inl ⟨.bool true,.bool true,[],rfl,fun _=>rfl,.bool true,Mv l _,fun _=>⟨List.Pairwise.nil,fun _ hm=>(nomatch hm)⟩⟩,h2,h3,h4⟩
end Att
namespace L2
open PySem PySem.Spec PyProof.Rows
theorem Bu:∀ {vs:List Value} {ns:List Int},IntsAre vs ns->Vals (ns.map V.int) vs
 | _,_,.nil=>.nil
 | _,_,.cons n t h=>.cons ⟨t,rfl⟩ (Bu h)
end L2
namespace L2
open PySem PySem.Spec PyProof.Rows
noncomputable def inClass (s:Stmt) (j:Nat):Stmt:=match s with
 | .ClassDef _ _ _ body _ _ _ _ _ _ _=>body.getD j (.Pass ⟨0,0,0,0⟩)
 | _=>.Pass ⟨0,0,0,0⟩
noncomputable def defArgs (s:Stmt):Arguments:=match s with
 | .FunctionDef _ a _ _ _ _ _ _ _ _=>a
 | _=>{ posonlyargs:=[],args:=[],vararg:=none,kwonlyargs:=[],kw_defaults:=[],kwarg:=none,defaults:=[] }
noncomputable def defBody (s:Stmt):List Stmt:=match s with
 | .FunctionDef _ _ b _ _ _ _ _ _ _=>b
 | _=>[]
noncomputable def defScope (s:Stmt):Scope:=match s with
 | .FunctionDef _ _ _ _ _ _ sc _ _ _=>sc
 | _=>{ kind:=.function,names:=[],isGenerator:=false,isCoroutine:=false }
abbrev CX0:CXT:=fun _ _ _ _ _ _=>False
abbrev E0:XK:=fun _ _ _=>False
theorem AM:BQ CX0 X E0:=fun _ _ _ _ _ _ _ h=>h.elim
structure Fun (K:FG) (x qual:Str) (st:Stmt) (f:Addr) (fd:FuncData):Prop where
 ex:∃ (oc:Value) (od:Option Addr) (kV doc pm:Value) (an:Option Addr) (ad ct:Value) (osl:Array (Option Value)),
  fd=W.fnOf x qual (defArgs st) (defBody st) (defScope st) .none kV doc pm an ad ct/\K.lookup f=some ⟨oc,od,.func fd,osl⟩/\W.codeIn K ad qual=true
 kp:W.keepIn K (.ref f)=true
section
theorem Fun.ok {qual:Str} {st:Stmt} {fd:FuncData} {ps:List Str} {k:Nat} {sp:Sp} (F:Fun K x qual st f fd) (S:AL N ps (defScope st)) (len:∀ vs H Q E,sp vs H Q E->vs.length=ps.length)
  (bd:∀ (ad:Value) (A:Around) (outer:List Env) (s:Shared) (H:Hp) (vs:List V) (Q:VK) (E:XK),Room k (A.deeper (envOfC qual (defScope st) s.heap.objs.size f ad))->sp vs H Q E ->
   ∃ t,PSs (A8 CX0 P w K mg base N qual (defScope st) f ad A outer s H E).nox (defBody st) t/\t { nx:=fun _ H'=>Q .non H',rt:=Q } (BS N vs) H):FnOk P w K mg base CX0 (k + 1) f fd ps sp:=by
 obtain ⟨oc,od,kV,doc,pm,an,ad,ct,osl,rfl,lk,hcd⟩:=F.ex;refine Lu lk hcd S len fun A outer s H vs Q E hr hsp=>?_;obtain ⟨t,h,q⟩:=bd ad A outer s H vs Q E hr hsp;exact ⟨t,h.nox,q⟩
structure BdC (P:Program) (w:World) (K:FG) (mg:SV) (base:Heap) (f:Addr) (qual:Str) (st:Stmt) (N ps:List Str) (k:Nat) (vs:List V) (H:Hp) (Q:VK) (E:XK):Prop where
 len:vs.length=ps.length
 ok:∀ (ad:Value) (A:Around) (outer:List Env) (s:Shared),Room k (A.deeper (envOfC qual (defScope st) s.heap.objs.size f ad)) ->
  ∃ t,PSs (A8 CX0 P w K mg base N qual (defScope st) f ad A outer s H E |>.nox) (defBody st) t/\t { nx:=fun _ H'=>Q .non H',rt:=Q } (BS N vs) H
theorem Fun.m {qual:Str} {st:Stmt} {fd:FuncData} {ps:List Str} {k:Nat} {sp:Sp} (F:Fun K x qual st f fd) (S:AL N ps (defScope st)) (h:∀ vs H Q E,sp vs H Q E->BdC P w K mg base f qual st N ps k vs H Q E) :
  FnOk P w K mg base CX0 (k + 1) f fd ps sp:=F.ok S (fun vs H Q E q=>(h vs H Q E q).len) fun c A o s H vs Q E r q=>(h vs H Q E q).ok c A o s r
theorem Fun.binds {qual:Str} {st:Stmt} {fd:FuncData} {ps:List Str} (F:Fun K x qual st f fd)
  (h:∀ (kV doc pm:Value) (an:Option Addr) (ad ct:Value) (us:List Value),us.length=ps.length->bindArgs (W.fnOf x qual (defArgs st) (defBody st) (defScope st) .none kV doc pm an ad ct) ⟨us,[]⟩=pure (ps.zip us)):Binds K fd ps []:=by
 obtain ⟨oc,od,kV,doc,pm,an,ad,ct,osl,rfl,lk,hcd⟩:=F.ex;exact .all (h kV doc pm an ad ct)
theorem fun_mk {qual:Str} {st:Stmt} {oc:Value} {od an:Option Addr} {osl:Array (Option Value)} {kV doc pm ad ct:Value} (l:K.lookup f=some ⟨oc,od,.func (W.fnOf x qual (defArgs st) (defBody st) (defScope st) .none kV doc pm an ad ct),osl⟩)
  (c:W.codeIn K ad qual=true) (k:W.keepIn K (.ref f)=true):Fun K x qual st f (W.fnOf x qual (defArgs st) (defBody st) (defScope st) .none kV doc pm an ad ct):=⟨⟨oc,od,kV,doc,pm,an,ad,ct,osl,rfl,l,c⟩,k⟩
end
theorem FD {k:Nat} (hr:Room k A):A.units + 1 < cLine:=Nat.lt_of_le_of_lt (Nat.add_le_add_left (by decide:1 <= 64) _) hr.units
theorem Ae {n:Nat} (h:n <= 1000):n < sizeLine:=Nat.lt_of_le_of_lt h (by decide)
section
theorem pv (i:Nat) (hN:X.N[i]?=some x:=by rfl) (hv:Vis X.env.scope x:=by first | exact Or.inl rfl | exact Or.inr (Or.inl rfl) | exact Or.inr (Or.inr rfl)) (hd:(x == ("__debug__" : Str))=false:=by decide)
  (hcd:(x == ("__classdict__" : Str))=false:=by decide):PE X (.Name x pos) (Hw i):=KK hN hv hd hcd
end
theorem BG {A B:Prop} (h:B):if false=true then A else B:=by
 rw [if_neg Bool.false_ne_true];exact h
theorem Em {A B:Prop} (h:A):if true=true then A else B:=by
 rw [if_pos rfl];exact h
theorem BX {c A B:Prop} [Decidable c] (h1:c->A) (h2:¬ c->B):if c then A else B:=by
 by_cases h:c
 ·rw [if_pos h];exact h1 h
 ·rw [if_neg h];exact h2 h
theorem OJ {c A B:Prop} [Decidable c] (hc:c) (h:B):if (!decide c)=true then A else B:=by
 rw [decide_eq_true hc];exact BG h
def Same (H H':Hp):Prop:=∀ b o,H b=some o->H' b=some o
theorem Same.refl (H:Hp):Same H H:=fun _ _ h=>h
theorem Same.trans {H1 H2:Hp} (a:Same H H1) (b:Same H1 H2):Same H H2:=fun c o h=>b c o (a c o h)
theorem Same.seq (e:Same H H') (h:SqL K H a xs):SqL K H' a xs:=by
 rcases h with (h | ⟨o,h⟩) | h
 ·exact .inl (.inl (e _ _ h))
 ·exact .inl (.inr ⟨o,e _ _ h⟩)
 ·exact .inr h
section
variable {κ:Type} [DecidableEq κ]
theorem MA:∀ {l:List κ} {k:κ},l.Nodup->¬ k ∈ l->(l++[k]).Nodup
 | [],k,_,_=>by simp
 | a :: r,k,h,hk=>by
  obtain ⟨h1,h2⟩:=nodup_cons.mp h;show (a :: (r++[k])).Nodup;refine nodup_cons.mpr ⟨fun m=>?_,MA h2 fun m=>hk (mem_cons.mpr (Or.inr m))⟩;rcases mem_append.mp m with q | q
  ·exact h1 q
  ·exact hk (mem_cons.mpr (Or.inl (mem_singleton.mp q).symm))
end
end L2
end
section
variable {X:L2.Cx} {H:L2.Hp} {H':L2.Hp} {s:PySem.Shared} {pos:PySem.Pos} {σ:L2.St} {P:PySem.Program} {w:PySem.World} {A:PySem.Around} {aa:LO} {x:PySem.Str} {a:PySem.Addr} {K:FG} {C:PySem.Addr} {E:VS} {h:PySem.Heap} {us:List PySem.Value} {f:PySem.Addr} {u:PySem.Value} {xs:List L2.V} {e:PySem.Expr} {te:L2.TE} {base:PySem.Heap} {N:List PySem.Str} {mg:SV}
section
namespace L2
open PySem PySem.Spec PyProof.Rows
theorem Inv.track {o:HO} (I:Inv X aa σ H s) (hn:H a=none) (hL:a ≠ X.env.locals) (h1:a ∈ X.ex\/X.s₀.heap.objs.size <= a)
  (h2:∀ x c,X.env.cells.lookup x=some c->c ≠ a) (h3:∀ p ∈ X.pn++aa,p.1 ≠ a) (new:ObjOk X.prog X.w (upd H a o) s.heap a o):Inv X aa σ (upd H a o) s:=by
 have ax:∀ b u,H b=some u->b ≠ a:=fun b u e=>AJ e hn
 refine I.step (h':=s.heap) (H':=upd H a o) (g':=s.gens) (t':=s.toks) (d':=s.drawn) (ch:=[a])
  (fun b hb=>by have e:b=a:=by simpa using hb
                subst e; exact ⟨h1,hL,h2,h3⟩)
  (fun b o _ _ _ e _=>e) (fun b o _ _ _ e _=>⟨o.slots,e⟩) (fun b o hc e n=>by rw [AG (by simpa using hc)]; exact n)
  (fun b o _ e=>⟨o,e⟩) (fun b xs e=>by rw [AG (ax b _ e)]; exact e) (fun b o u e=>by rw [AG (ax b _ e)]; exact e)
  (fun b ps e=>⟨#[],by rw [AG (ax b _ e),e]; simp⟩) (fun m h=>h) (fun b u e=>?_) I.bare
 by_cases hb:b=a
 ·subst hb; rw [AB] at e; cases e; exact new
 ·rw [AG hb] at e;exact (I.hok b u e).stay (fun c v _ q=>q) (fun c q=>by rw [AG (ax c _ q)]; exact q) fun c xs q=>by rw [AG (ax c _ q)]; exact q
structure CompFits (osc sc:Scope) (N N':List Str) (ix:List (Option Nat)):Prop where
 kind:sc.kind=.function
 nocell:∀ y ∈ sc.names,y.2 ≠ .cell
 free:∀ y ∈ sc.names,y.2=.free->osc.names.lookup y.1=some .cell\/osc.names.lookup y.1=some .free
 loc:∀ y ∈ sc.names,y.2=.local->sc.names.lookup y.1=some .local
 len:ix.length=N'.length
 slot:∀ (j:Nat) (x:Str) (i:Nat),N'[j]?=some x->ix[j]?=some (some i)->N[i]?=some x/\sc.names.lookup x=some .free
noncomputable def RU (sc:Scope) (N:List Str) (x:Str):Option Nat->Bool
 | none=>true
 | some i=>decide (N[i]?=some x) && decide (sc.names.lookup x=some .free)
noncomputable def Cb (sc:Scope) (N:List Str):List Str->List (Option Nat)->Bool
 | [],[]=>true
 | x :: r,o :: os=>RU sc N x o && Cb sc N r os
 | _,_=>false
noncomputable def HK (osc sc:Scope) (N N':List Str) (ix:List (Option Nat)):Bool :=
 decide (sc.kind=.function) && (sc.names.all fun y=>decide (y.2 ≠ .cell) && (decide (y.2 ≠ .free) || decide (osc.names.lookup y.1=some .cell) || decide (osc.names.lookup y.1=some .free)) &&
  (decide (y.2 ≠ .local) || decide (sc.names.lookup y.1=some .local))) && Cb sc N N' ix
theorem Fv {sc:Scope} {N:List Str}:∀ {N':List Str} {ix:List (Option Nat)},Cb sc N N' ix=true->ix.length=N'.length
 | [],[],_=>rfl
 | [],_ :: _,h=>by simp [Cb] at h
 | _ :: _,[],h=>by simp [Cb] at h
 | x :: r,o :: os,h=>by
  simp only [Cb,Bool.and_eq_true] at h;simp only [length_cons,Fv h.2]
theorem HL {sc:Scope} {N:List Str}:∀ {N':List Str} {ix:List (Option Nat)},Cb sc N N' ix=true->∀ (j:Nat) (x:Str) (i:Nat),N'[j]?=some x->ix[j]?=some (some i)->N[i]?=some x/\sc.names.lookup x=some .free
 | [],_,_,_,_,_,e,_=>by simp at e
 | _ :: _,[],h,_,_,_,_,_=>by simp [Cb] at h
 | y :: r,o :: os,h,j,x,i,e1,e2=>by
  simp only [Cb,Bool.and_eq_true] at h;cases j with
  | zero =>
   simp only [List.getElem?_cons_zero,Option.some.injEq] at e1 e2;subst e1 e2;have h1:=h.1;simp only [RU,Bool.and_eq_true,decide_eq_true_eq] at h1;exact h1
  | succ j =>
   simp only [List.getElem?_cons_succ] at e1 e2;exact HL h.2 j x i e1 e2
theorem CompFits.of {osc sc:Scope} {N':List Str} {ix:List (Option Nat)} (h:HK osc sc N N' ix=true):CompFits osc sc N N' ix:=by
 simp only [HK,Bool.and_eq_true,decide_eq_true_eq,List.all_eq_true,Bool.or_eq_true] at h;obtain ⟨⟨h1,h2⟩,h3⟩:=h;refine ⟨h1,fun y hy=>(h2 y hy).1.1,fun y hy e=>?_,fun y hy e=>?_,Fv h3,HL h3⟩
 ·rcases (h2 y hy).1.2 with (z | z) | z
  ·exact absurd e z
  ·exact .inl z
  ·exact .inr z
 ·rcases (h2 y hy).2 with z | z
  ·exact absurd e z
  ·exact z
noncomputable abbrev Df (env:Env):Str × NameKind->Str × NameKind:=fun (n,k)=>if (k == NameKind.free && env.scope.kind == .function && env.kindOf n == some .cell) then (n,NameKind.cell) else (n,k)
theorem JH (env:Env) (y:Str × NameKind):(Df env y).1=y.1:=by
 obtain ⟨n,k⟩:=y; simp only [Df]; split <;> rfl
theorem Mw (env:Env) (n:Str):(Df env (n,.free)).2=.cell\/(Df env (n,.free)).2=.free:=by
 simp only [Df]; split
 ·exact .inl rfl
 ·exact .inr rfl
theorem QK (env:Env) (y:Str × NameKind) (h:y.2 ≠ .free):Df env y=y:=by
 obtain ⟨n,k⟩:=y;have e:(k == NameKind.free)=false:=by simpa using h
 simp only [Df,e,Bool.false_and,Bool.false_eq_true,if_false]
theorem DX {env:Env}:∀ {names:List (Str × NameKind)} {x:Str},names.lookup x=some .free->(names.map (Df env)).lookup x=some .cell\/(names.map (Df env)).lookup x=some .free
  | [],_,h=>by simp at h
  | (n,k) :: r,x,h=>by
    rw [map_cons]
    have e:Df env (n,k)=(n,(Df env (n,k)).2):=by
      have:=JH env (n,k);exact Prod.ext this rfl
    rw [e];cases hx:x == n with
    | true =>
      simp only [lookup_cons,hx] at h ⊢;cases h;rcases Mw env n with z | z
      · rw [z]; exact .inl rfl
      · rw [z]; exact .inr rfl
    | false =>
      simp only [lookup_cons,hx] at h ⊢;exact DX h
theorem FE {env:Env}:∀ {names:List (Str × NameKind)} {x:Str},(∀ y ∈ names,y.2 ≠ .cell)->((names.map (Df env)).lookup x=some .cell\/(names.map (Df env)).lookup x=some .free)->(x,NameKind.free) ∈ names
  | [],_,_,h=>by simp at h
  | (n,k) :: r,x,hc,h=>by
    rw [map_cons] at h;have e:Df env (n,k)=(n,(Df env (n,k)).2):=Prod.ext (JH env (n,k)) rfl;rw [e] at h;cases hx:x == n with
    | true =>
      simp only [lookup_cons,hx] at h;have exn:x=n:=by simpa using hx
      subst exn;by_cases hk:k=.free
      · subst hk; exact mem_cons_self
      · rw [QK env (x,k) hk] at h
        rcases h with z | z
        · have:k=.cell:=by simpa using z
          exact absurd this (hc (x,k) mem_cons_self)
        · have:k=.free:=by simpa using z
          exact absurd this hk
    | false =>
      simp only [lookup_cons,hx] at h;exact mem_cons_of_mem _ (FE (fun y hy=>hc y (mem_cons_of_mem _ hy)) h)
theorem IC {env:Env} {f:Str × NameKind->List (Str × Addr)->Sem (ForInStep (List (Str × Addr)))}
  (h1:∀ y acc,y.2 ≠ .free->f y acc=pure (.yield acc)) (h2:∀ y acc c,y.2=.free->env.cells.lookup y.1=some c->f y acc=pure (.yield ((y.1,c) :: acc))) :
  ∀ (names:List (Str × NameKind)) (acc:List (Str × Addr)),(∀ y ∈ names,y.2=.free->∃ c,env.cells.lookup y.1=some c)->(∀ x c,acc.lookup x=some c->env.cells.lookup x=some c) ->
   ∃ cl,forIn names acc f=(pure cl:Sem _)/\(∀ x c,cl.lookup x=some c->env.cells.lookup x=some c)/\(∀ y ∈ names,y.2=.free->∃ c,cl.lookup y.1=some c)/\∀ x c,acc.lookup x=some c->∃ c',cl.lookup x=some c'
 | [],acc,_,ha=>⟨acc,rfl,ha,fun _ hy=>(nomatch hy),fun x c e=>⟨c,e⟩⟩
 | y :: r,acc,hn,ha=>by
  have hr:∀ z ∈ r,z.2=.free->∃ c,env.cells.lookup z.1=some c:=fun z hz=>hn z (mem_cons_of_mem _ hz);by_cases hy:y.2=.free
  ·obtain ⟨c,hc⟩:=hn y mem_cons_self hy
   obtain ⟨cl,e,p1,p2,p3⟩:=IC h1 h2 r ((y.1,c) :: acc) hr fun x d e=>by
    cases hx:x == y.1 with
    | true =>
     simp only [lookup_cons,hx,Option.some.injEq] at e;have:x=y.1:=by simpa using hx
     rw [this,← e]; exact hc
    | false =>
     simp only [lookup_cons,hx] at e;exact ha x d e
   refine ⟨cl,by rw [List.forIn_cons,h2 y acc c hy hc,pure_bind]; exact e,p1,fun z hz hf=>?_,fun x d e=>?_⟩
   ·rcases mem_cons.mp hz with rfl | hz
    ·exact p3 z.1 c (by simp [lookup_cons])
    ·exact p2 z hz hf
   ·cases hx:x == y.1 with
    | true=>exact p3 x c (by simp [lookup_cons,hx])
    | false=>exact p3 x d (by simp only [lookup_cons,hx]; exact e)
  ·obtain ⟨cl,e,p1,p2,p3⟩:=IC h1 h2 r acc hr ha;refine ⟨cl,by rw [List.forIn_cons,h1 y acc hy,pure_bind]; exact e,p1,fun z hz hf=>?_,p3⟩;rcases mem_cons.mp hz with rfl | hz
   ·exact absurd hf hy
   ·exact p2 z hz hf
theorem QL {env:Env} {scope:Scope} (hn:∀ y ∈ scope.names,y.2=.free->∃ c,env.cells.lookup y.1=some c) :
  ∃ cl,closureFor scope env=pure cl/\(∀ x c,cl.lookup x=some c->env.cells.lookup x=some c)/\∀ y ∈ scope.names,y.2=.free->∃ c,cl.lookup y.1=some c:=by
 obtain ⟨cl,e,p1,p2,_⟩:=IC (env:=env) (f:=fun (x:Str × NameKind) (r:List (Str × Addr))=>if (x.2 == NameKind.free)=true then (cellOf env x.1 >>= fun a=>pure (ForInStep.yield ((x.1,a) :: r))) else pure (ForInStep.yield r)) (fun y acc hy=>by
  have:(y.2 == NameKind.free)=false:=by simpa using hy
  rw [this,if_neg Bool.false_ne_true]) (fun y acc c hy hc=>by
  have h0:(y.2 == NameKind.free)=true:=by rw [hy]; rfl
  rw [if_pos h0];simp only [cellOf,hc]
  rfl) scope.names [] hn fun x c e=>by simp at e
 refine ⟨cl,?_,p1,p2⟩;have e0:closureFor scope env=(forIn scope.names [] (fun (x:Str × NameKind) (r:List (Str × Addr))=>if (x.2 == NameKind.free)=true then (cellOf env x.1 >>= fun a=>pure (ForInStep.yield ((x.1,a) :: r))) else pure (ForInStep.yield r)) >>= fun cs=>pure cs):=rfl;rw [e0,e];rfl
noncomputable def An (X:Cx) (N':List Str) (scope:Scope) (cl:List (Str × Addr)) (s:Shared) (H:Hp) (C:Addr) (fp:List Addr) (pn:LO):Cx where
 prog:=X.prog
 w:=X.w
 K:=X.K
 mg:=X.mg
 base:=X.base
 A:=X.A
 N:=N'
 s₀:=s
 H₀:=H
 env:=compEnvC scope cl C X.env
 outer:=X.stack
 stack:=X.stack
 ex:=fp
 fn:=fun _=>false
 calm:=X.calm
 pn:=pn
 xe:=fun _ _=>False
noncomputable def Bz (ix:List (Option Nat)) (σ:St):St:=ix.map fun o=>o.bind fun i=>(σ[i]?).join
theorem QM {ix:List (Option Nat)} {j:Nat} {v:V} (h:(Bz ix σ)[j]?=some (some v)):∃ i,ix[j]?=some (some i)/\σ[i]?=some (some v):=by
 unfold Bz at h;rw [getElem?_map] at h;cases e:ix[j]? with
 | none=>rw [e] at h; cases h
 | some o =>
  rw [e] at h;simp only [Option.map_some,Option.some.injEq] at h;cases o with
  | none=>cases h
  | some i =>
   refine ⟨i,rfl,?_⟩;simp only [Option.bind_some] at h;cases q:σ[i]? with
   | none=>rw [q] at h; cases h
   | some u=>rw [q] at h; simp only [Option.join_some] at h; rw [h]
section
variable {N':List Str} {ix:List (Option Nat)} {scope:Scope} {cl:List (Str × Addr)} {fp:List Addr}
theorem QN (I:Inv X aa σ H s) (hf:CompFits X.env.scope scope X.N N' ix) (c1:∀ x c,cl.lookup x=some c->X.env.cells.lookup x=some c) (c2:∀ y ∈ scope.names,y.2=.free->∃ c,cl.lookup y.1=some c)
  (hC:s.heap.objs.size <= C) (hfp:∀ b ∈ fp,D5 X aa H b) (hlt:∀ b ∈ fp,b < s.heap.objs.size):(An X N' scope cl s H C fp (X.pn++aa)).Ok where
 mod:=I.mod
 kind:=hf.kind
 glob:=I.ok.glob
 blt:=I.ok.blt
 above:=hC
 inj:=fun x y c e1 e2=>I.ok.inj x y c (c1 x c e1) (c1 y c e2)
 has:=fun x h=>by
  have hm:(x,NameKind.free) ∈ scope.names:=FE (env:=X.env) hf.nocell h;exact c2 (x,.free) hm rfl
 cab:=fun x c h=>by cases h
 hd:=I.ok.hd
 frames:=I.ok.frames
 stk:=.inl rfl
 exf:=fun b hb=>⟨Nat.ne_of_lt (Nat.lt_of_lt_of_le (hlt b hb) hC),fun x c e=>(hfp b hb).2.2.2.2.1 x c (c1 x c e)⟩
 bs:=I.bs
 bsz:=Nat.le_trans I.ok.bsz I.sz
 noex:=fun b o e hb=>by
  rcases (hfp b hb).2.2.2.1 with z | z
  ·exact I.ok.noex b o e z
  ·exact absurd (Nat.lt_of_lt_of_le (Nat.lt_of_lt_of_le (lt_size e) I.ok.bsz) z) (Nat.lt_irrefl _)
 exfs:=fun b hb z=>by
  rcases mem_cons.mp (I.stkSub b z) with e | e
  ·exact (hfp b hb).2.1 e
  ·exact (hfp b hb).2.2.1 e
 funs:=I.stack
 frf:=I.stkFree
theorem Kl (I:Inv X aa σ H s) (hf:CompFits X.env.scope scope X.N N' ix) (c1:∀ x c,cl.lookup x=some c->X.env.cells.lookup x=some c) (c2:∀ y ∈ scope.names,y.2=.free->∃ c,cl.lookup y.1=some c)
  (hC:s.heap.objs.size <= C) (hfp:∀ b ∈ fp,D5 X aa H b) (hlt:∀ b ∈ fp,b < s.heap.objs.size) {h₁:Heap} {tk:Nat} {m:SV} (old:∀ b o,s.heap.get? b=some o->h₁.get? b=some o) (hns:h₁.Ns C m) :
  Inv (An X N' scope cl s H C fp (X.pn++aa)) [] (Bz ix σ) H { s with heap:=h₁,toks:=tk } where
 ok:=QN I hf c1 c2 hC hfp hlt
 os:=rfl
 bare:=I.bare
 base:=Un.kept old
 loc:=⟨m,hns,fun j x v e1 e2 e3=>by
  obtain ⟨i,ei,ev⟩:=QM e2;obtain ⟨hN,bx⟩:=hf.slot j x i e1 ei;obtain ⟨mX,_,hl⟩:=I.loc
  have hm:(x,NameKind.free) ∈ scope.names:=by
   have:∀ {l:List (Str × NameKind)} {k:NameKind},l.lookup x=some k->(x,k) ∈ l:=fun {l k}=>by
    induction l with
    | nil=>intro e; simp at e
    | cons y r ih =>
     intro e;obtain ⟨n,kk⟩:=y;cases hx:x == n with
     | true =>
      simp only [lookup_cons,hx,Option.some.injEq] at e;have:x=n:=by simpa using hx
      subst this e;exact mem_cons_self
     | false =>
      simp only [lookup_cons,hx] at e;exact mem_cons_of_mem _ (ih e)
   exact this bx
  have hk:=hf.free _ hm rfl;obtain ⟨u,r,q⟩:=hl i x v hN ev (.inr hk);refine ⟨u,r,.inr ⟨DX (env:=X.env) bx,?_⟩⟩;obtain ⟨c,hc⟩:=c2 _ hm rfl;refine ⟨c,hc,?_⟩;rcases q with ⟨k,_⟩ | ⟨_,c',hc',z⟩
  ·have k':X.env.scope.names.lookup x=some .local:=k;rcases hk with a | a <;> (rw [k'] at a; cases a)
  ·rw [c1 x c hc] at hc';cases hc'
   exact z.keeps old⟩
 cell:=fun x c e=>by
  obtain ⟨v,z⟩:=I.cell x c (c1 x c e);exact ⟨v,z.keeps old⟩
 free:=I.hok.fresh hC
 freeC:=fun x c e=>I.freeC x c (c1 x c e)
 pin:=fun p hp=>by
  have hp':p ∈ X.pn++aa:=by
   have z:=hp;rw [append_nil] at z;exact z
  obtain ⟨e,n,ne,nf,d⟩:=I.pin p hp';refine ⟨old _ _ e,n,Nat.ne_of_lt (Nat.lt_of_lt_of_le (lt_size e) hC),fun z=>?_,d⟩;rcases mem_cons.mp (I.stkSub p.1 z) with q | q
  ·exact ne q
  ·exact nf q
 hok:=I.hok.kept old
 len:=by
  show (Bz ix σ).length=N'.length;unfold Bz;rw [AK]; exact hf.len
theorem Mx {pins':LO} {σ':St} {s':Shared} (I:Inv X aa σ H s) (hfp:∀ b ∈ fp,D5 X aa H b) (J:Inv (An X N' scope cl s H C fp (X.pn++aa)) pins' σ' H' s'):Inv X aa σ H' s' :=
 I.call' (ch:=fp) J.os J.base J.hok J.bare fun b hb=>⟨(hfp b hb).2.2.2.1,(hfp b hb).2.1,(hfp b hb).2.2.2.2.1,(hfp b hb).2.2.2.2.2⟩
end
def PTs (X:Cx) (ifs:List Expr) (t:TT):Prop :=
 ∀ (aa:LO) (s:Shared) (σ:St) (H:Hp) (Q:Bool->Hp->Prop),Inv X aa σ H s->t σ H Q ->
  wpAny (model X.prog X.w) X.A (forIn ifs true fun c r=>if r=true then do let ok ← isTrue c X.env (eval c X.env); pure (ForInStep.yield ok) else pure (ForInStep.yield r)) (TP X aa σ Q) X.xe s
def Tu:TT:=fun _ H Q=>Q true H
theorem B8:PTs X [] Tu:=fun aa s σ H Q I h=>wpAny_tests_nil ⟨H,I,h⟩
theorem B9 {c:Expr} {t:TT} (h:PT X c t):PTs X [c] t:=fun aa s σ H Q I q=>wpAny_tests_one (h aa s σ H Q I q)
def C4 (wi:TI) (g:TG) (tt:TT) (te:TE) (ix:List (Option Nat)) (R:List V->Hp->Prop):St->Hp->Prop:=fun σ H=>wi σ H fun J H1=>∃ W:Nat->Nat->List V->Hp->Prop,(∃ m,W 0 m [] H1)/\∀ i m ys H,W i m ys H ->
 (J.stop i H/\ys.length <= sizeLine/\R ys H) \/
 (J.go i H/\∃ N:List V->Hp->Prop,(∀ ys' H',N ys' H'->ys'.length <= sizeLine/\∃ m',m' < m/\W (i + 1) m' ys' H') /\
  ∀ x H',J.yld i H x H'->g x (Bz ix σ) H' fun σ2 H2=>tt σ2 H2 fun b H3=>if b=true then te σ2 H3 fun y H4=>N (ys++[y]) H4 else N ys H3)
def PGk (X:Cx) (tg:Expr) (ix:List (Option Nat)) (g:TG):Prop :=
 ∀ (aa:LO) (s:Shared) (σ:St) (H:Hp) (v:V) (u:Value) (Q:St->Hp->Prop),Inv X aa (Bz ix σ) H s->RelV v u->g v (Bz ix σ) H Q ->
  wpAny (model X.prog X.w) X.A (assign tg X.env u) (fun _ s'=>∃ σ' H',Inv X aa σ' H' s'/\(∀ (j:Nat) (v:V),(Bz ix σ)[j]?=some (some v)->σ'[j]?=some (some v))/\Q σ' H') X.xe s
theorem Fw {ixc:List (Option Nat)} (h:PG X (.Name x pos) (CM 0)):PGk X (.Name x pos) (none :: ixc) (CM 0):=by
 intro aa s σ H v u Q I r q;refine thn (h aa s _ H v u (fun σ' H'=>(∀ (j:Nat) (v:V),(Bz (none :: ixc) σ)[j]?=some (some v)->σ'[j]?=some (some v))/\Q σ' H') I r ⟨fun j w e=>?_,q⟩) fun _ s' ⟨σ',H',I',k,q⟩=>⟨σ',H',I',k,q⟩;cases j with
 | zero=>cases e
 | succ j=>exact e
theorem OK {tg:Expr} {ixc:List (Option Nat)} (h:PG X tg (P7 K 2 (Fh (CM 0) (Fh (CM 1) P6)))):PGk X tg (none :: none :: ixc) (P7 K 2 (Fh (CM 0) (Fh (CM 1) P6))):=by
 intro aa s σ H v u Q I r q;obtain ⟨a,xs,e1,e2,e3,v1,r1,e4,v2,r2,e5,e6,q⟩:=q;refine thn (h aa s _ H v u (fun σ' H'=>(∀ (j:Nat) (v:V),(Bz (none :: none :: ixc) σ)[j]?=some (some v)->σ'[j]?=some (some v))/\Q σ' H') I r ⟨a,xs,e1,e2,e3,v1,r1,e4,v2,r2,e5,e6,fun j w e=>?_,q⟩) fun _ s' ⟨σ',H',I',k,q⟩=>⟨σ',H',I',k,q⟩
 match j with
 | 0=>cases e
 | 1=>cases e
 | j + 2=>exact e
structure RV (RD:Cx->Prop) (P:Program) (w:World) (K:FG) (tg:Expr) (J:It) (fp:List Addr) (it:Addr) (tn:Nat->Heap->Prop):Prop where
 obj:∀ i h,tn i h->∀ b ∈ fp,∃ o,h.get? b=some o/\∀ v,o.data ≠ .cell v
 keep:∀ i h h',tn i h->(∀ b ∈ fp,∀ o,h.get? b=some o->h'.get? b=some o)->tn i h'
 item:∀ (X:Cx),X.prog=P->X.w=w->X.K=K->RD X->∀ (i:Nat) (aa:LO) (s:Shared) (σ:St) (H:Hp) (E:VS),Inv X aa σ H s->(∀ b ∈ fp,D5 X aa H b)->tn i s.heap->J.go i H ->
  wpAny (model P w) X.A (pyNext (.ref it)) (fun r s1=>∃ u,r=some u/\wpAny (model P w) X.A (letOwnedTupleGo tg (.ref it) u) (fun _ s2=>∃ x H',Inv X aa σ H' s2/\RelV x u/\J.yld i H x H'/\tn (i + 1) s2.heap/\∀ b ∈ fp,H' b=none) E s1) E s
 done:∀ (X:Cx),X.prog=P->X.w=w->X.K=K->RD X->∀ (i:Nat) (aa:LO) (s:Shared) (σ:St) (H:Hp) (E:VS),Inv X aa σ H s->(∀ b ∈ fp,D5 X aa H b)->tn i s.heap->J.stop i H ->
  wpAny (model P w) X.A (pyNext (.ref it)) (fun r s1=>r=none/\Inv X aa σ H s1) E s
 self:∀ (A:Around) (i:Nat) (s:Shared) (Q:VS) (E:VS),tn i s.heap->Q (.ref it) s->wpAny (model P w) A (pyIter (.ref it)) Q E s
def PIg (RD:Cx->Prop) (X:Cx) (tg iter:Expr) (wi:TI):Prop:=∀ (aa:LO) (s:Shared) (σ:St) (H:Hp) (R:It->Hp->Prop),Inv X aa σ H s->wi σ H R ->
 wpAny (model X.prog X.w) X.A (eval iter X.env) (fun v s1=>wpAny (model X.prog X.w) X.A (pyIter v) (fun itv s2=>∃ (it:Addr) (fp:List Addr) (tn:Nat->Heap->Prop) (J:It) (H':Hp),itv=.ref it/\Inv X aa σ H' s2/\RV RD X.prog X.w X.K tg J fp it tn/\tn 0 s2.heap/\(∀ b ∈ fp,D5 X aa H' b)/\R J H') X.xe s1) X.xe s
theorem PI.g {tg iter:Expr} {wi:TI} (h:PI X tg iter wi):PIg (fun X=>X.calm=true) X tg iter wi:=fun aa s σ H R I q =>
 thn (h aa s σ H R I q) fun v s1 z=>thn z fun itv s2 ⟨it,fp,tn,J,H',e,I',T,r⟩=>⟨it,fp,tn,J,H',e,I',⟨T.obj,T.keep,T.item,T.done,T.self⟩,r⟩
section
variable {tg iter elt:Expr} {ifs:List Expr} {scope:Scope} {pos':Pos} {N':List Str} {ix:List (Option Nat)} {wi:TI} {g:TG} {tt:TT}
theorem En {α:Type} {M:Model} {t:Sem α} {Q:α->Shared->Prop} (h:wpAny M A t Q (fun _ _=>False) s):wpAny M A t Q E s :=
 wpAny_mono h (fun _ _ q=>q) fun _ _ z=>z.elim
theorem HM {RD:Cx->Prop} {use:Option (Value->Sem Unit)} {Qv:VS} (hf:CompFits X.env.scope scope X.N N' ix) (hc:∀ cl s H C fp aa,RD (An X N' scope cl s H C fp (X.pn++aa))) (hi:PIg RD X tg iter wi)
  (hg:∀ cl s H C fp pn,PGk (An X N' scope cl s H C fp pn) tg ix g) (ht:∀ cl s H C fp pn,PTs (An X N' scope cl s H C fp pn) ifs tt) (he:∀ cl s H C fp pn,PE (An X N' scope cl s H C fp pn) elt te)
  (hs:∀ x,foldedSetIterable iter X.env x=pure x) {aa:LO} {s:Shared} {σ:St} {H:Hp} {R:List V->Hp->Prop} (I:Inv X aa σ H s) (h:C4 wi g tt te ix R σ H)
  (hpost:∀ s' ys H' D C m,Inv X aa σ (upd H' D (.lst ys)) s'->R ys H'->H' D=none->s'.heap.Ns C m->X.s₀.heap.objs.size <= C->C ≠ X.env.locals->(∀ x c,X.env.cells.lookup x=some c->c ≠ C)->(∀ p ∈ X.pn++aa,p.1 ≠ C) ->
   upd H' D (.lst ys) C=none->compPost (model X.prog X.w) X.A X.xe use Qv (.ref D) C (.ok .next) s') :
  wpAny (model X.prog X.w) X.A (comprehension (.ListComp elt [⟨tg,iter,ifs,0⟩] scope pos) scope X.env pos' (newList []) false (eval iter X.env) use) Qv X.xe s:=by
 obtain ⟨cl,hclos,c1,c2⟩:=QL (env:=X.env) (scope:=scope) fun y hy hyf=>by
  have:=hf.free y hy hyf;exact I.ok.has y.1 this
 refine wpAny_comprehension_free (use:=use) rfl hs hclos hf.kind hf.loc (thn (hi aa s σ H _ I h) fun v s1 h1=>thn h1 fun itv s2 h2=>?_);obtain ⟨it,fp,tn,J,H2,e,I2,T,st2,f2,W,⟨m0,w0⟩,turn⟩:=h2;subst e
 have hlt:∀ b ∈ fp,b < s2.heap.objs.size:=fun b hb=>by
  obtain ⟨o,e,_⟩:=T.obj _ _ st2 b hb;exact lt_size e
 refine wpAny_newObj_type (wpAny_newFunctionEnv hf.nocell (by intro y hy; simp at hy) (fun h₁ hns₁ hsb₁=>?_) hf.kind)
 dsimp only at hns₁ hsb₁ ⊢
 generalize hH2:s2.heap.push { cls:=.type "list", dict:=none,data:=.seq ([]:List Value).toArray }=HP at hns₁ hsb₁ ⊢;have hC:HP.objs.size=s2.heap.objs.size + 1:=by rw [← hH2,Heap.size_push]
 have hDC:s2.heap.objs.size ≠ HP.objs.size:=by rw [hC]; exact Nat.ne_of_lt (Nat.lt_succ_self _)
 have hCle:s2.heap.objs.size <= HP.objs.size:=by rw [hC]; exact Nat.le_succ _
 have hCne:∀ b,b < s2.heap.objs.size->b ≠ HP.objs.size:=fun b hb=>by rw [hC]; exact Nat.ne_of_lt (Nat.lt_succ_of_lt hb)
 have old:∀ b o,s2.heap.get? b=some o->h₁.get? b=some o:=fun b o e=>hsb₁.extBut b o (hCne b (lt_size e)) (get?_push_of_some _ (hH2 ▸ get?_push_of_some _ e));have bt:h₁.get? s2.heap.objs.size=some { cls:=.type "list", dict:=none,data:=.seq ([]:List Value).toArray }:=hsb₁.extBut _ _ hDC (get?_push_of_some _ (hH2 ▸ get?_push_size _ rfl));generalize hCC:HP.objs.size=C at *;generalize hDD:s2.heap.objs.size=D at *;have IX:=Kl (N':=N') (fp:=fp) I2 hf c1 c2 (by rw [hDD]; exact hCle) f2 (by rw [hDD]; exact hlt) (tk:=s2.toks + ([]:List (Str × Value)).length) old hns₁;have hDn:H2 D=none:=I2.hok.fresh (by rw [hDD]; exact Nat.le_refl _)
 have hDfs:D ∉ frs X.stack:=fun z=>by
  rcases mem_cons.mp (I2.stkSub D z) with q | q
  ·have:=I2.lt; rw [← q,hDD] at this; exact Nat.lt_irrefl _ this
  ·exact I2.nofs (by rw [hDD]; exact Nat.le_refl _) q
 have cellLt:∀ x c,X.env.cells.lookup x=some c->c < D:=fun x c e=>by
  obtain ⟨v,z⟩:=I2.cell x c e;rw [← hDD]; exact z.lt
 have pinLt:∀ p ∈ X.pn++aa,p.1 < D:=fun p hp=>by rw [← hDD]; exact lt_size (I2.pin p hp).1
 have s0D:X.s₀.heap.objs.size <= D:=by rw [← hDD]; exact I2.sz
 have locLt:X.env.locals < D:=by rw [← hDD]; exact I2.lt
 let X':Cx:=An X N' scope cl s2 H2 C fp (X.pn++aa)
 have stat:∀ {H':Hp} {ob:Obj},(∀ b ∈ fp,H' b=none)->∀ b ∈ fp,D5 X' [(D,ob)] H' b:=fun {H' ob} hn b hb=>by
  refine ⟨hn b hb,Nat.ne_of_lt (Nat.lt_of_lt_of_le (hlt b hb) hCle),fun z=>?_,.inl hb,fun x c e=>(f2 b hb).2.2.2.2.1 x c (c1 x c e),fun p hp=>?_⟩
  ·exact IX.ok.exfs b hb z
  ·rcases mem_append.mp hp with z | z
   ·exact (f2 b hb).2.2.2.2.2 p z
   ·have e:p=(D,ob):=by simpa using z
    subst e;exact Nat.ne_of_gt (hlt b hb)
 have pinD:∀ {σ':St} {H':Hp} {s':Shared} {ob:Obj},Inv X' [] σ' H' s'->s'.heap.get? D=some ob->H' D=none->(∀ v,ob.data ≠ .cell v)->Inv X' [(D,ob)] σ' H' s':=fun {σ' H' s' ob} Ia e n d =>
  Ia.pins_of fun p hp=>by
   have q:p=(D,ob):=by simpa using hp
   subst q;exact ⟨e,n,hDC,hDfs,d⟩
 have loop:∀ s3:Shared,s3={ s2 with heap:=h₁,toks:=s2.toks + ([]:List (Str × Value)).length } ->
   codeAny (model X.prog X.w) X.A (.compLoop (.ListComp elt [⟨tg,iter,ifs,0⟩] scope pos) 0 (.ref it) (.ref D) (compEnvC scope cl C X.env)) (compPost (model X.prog X.w) X.A X.xe use Qv (.ref D) C) s3:=by
  rintro s3 rfl
  refine codeAny_loop rfl (fun n s'=>∃ i ys its k H',Inv X' [(D,({ cls:=.type "list", data:=.seq (List.toArray its) k }:Obj))] (Bz ix σ) H' s'/\tn i s'.heap/\(∀ b ∈ fp,H' b=none)/\W i n ys H'/\Vals ys its)
   (fun n s4 hI=>?_) m0 ⟨0,[],[],_,H2,pinD IX bt hDn (fun v z=>by cases z),T.keep _ _ _ st2 (fun b _ o e=>old b o e),fun b hb=>(f2 b hb).1,w0,.nil⟩
  obtain ⟨i,ys,its,k,H4,I4,st4,fr4,w4,rv⟩:=hI;show wpAny _ X.A ((compTurn (.ListComp elt [⟨tg,iter,ifs,0⟩] scope pos) 0 (.ref it) (.ref D) (compEnvC scope cl C X.env)).onRaise (fun x=>do noteFrame x (compEnvC scope cl C X.env); theTreesLotGoes x)) _ _ s4;refine wpAny_noted ?_;rw [compTurn_list];refine En ?_;rcases turn i n ys H4 w4 with ⟨stop,hz,r⟩ | ⟨go,N,hN,step⟩
  ·refine wpAny_bind (wpAny_standAt (wpAny_bind (thn (T.done X' rfl rfl rfl (hc _ _ _ _ _ _) i _ s4 _ H4 _ I4 (stat fr4) st4 stop) fun r' s5 ⟨hr,I5⟩=>?_)));subst hr;have pD:=I5.pin (D,_) (mem_append_right _ mem_cons_self);have Ib:Inv X aa σ H4 s5:=Mx I2 f2 I5;have Ic:Inv X aa σ (upd H4 D (.lst ys)) s5:=Ib.track pD.2.1 (Nat.ne_of_gt locLt) (.inr s0D) (fun x c e=>Nat.ne_of_lt (cellLt x c e)) (fun p hp=>Nat.ne_of_lt (pinLt p hp)) ⟨hz,its,k,rv,pD.1⟩;obtain ⟨m5,n5,_⟩:=I5.loc
   refine wpAny_pure (hpost s5 ys H4 D C m5 Ic r pD.2.1 n5 (Nat.le_trans s0D hCle) (Nat.ne_of_gt (Nat.lt_of_lt_of_le locLt hCle)) (fun x c e=>Nat.ne_of_lt (Nat.lt_of_lt_of_le (cellLt x c e) hCle))
    (fun p hp=>Nat.ne_of_lt (Nat.lt_of_lt_of_le (pinLt p hp) hCle)) ?_)
   rw [AG (Ne.symm hDC)];exact I5.free
  ·refine wpAny_bind (wpAny_standAt (wpAny_bind (thn (T.item X' rfl rfl rfl (hc _ _ _ _ _ _) i _ s4 _ H4 _ I4 (stat fr4) st4 go) fun r' s5 ⟨u,hr,h5⟩=>?_)));subst hr;refine wpAny_bind (thn h5 fun _ s6 ⟨x,H6,I6,r6,y6,st6,fr6⟩=>?_);have I6':=I6.pinned (stat fr6) (T.obj _ _ st6);refine wpAny_bind (thn (hg _ _ _ _ _ _ _ s6 _ H6 x u _ I6' r6 (step x H6 y6)) fun _ s7 ⟨σ7,H7,I7,k7,q7⟩=>?_);refine wpAny_bind (thn (ht _ _ _ _ _ _ _ s7 σ7 H7 _ I7 q7) fun b s8 ⟨H8,I8,q8⟩=>?_)
   have again:∀ {H9:Hp} {s9:Shared} {ys':List V} {its':List Value} {k':Nat},Inv X' ([(D,({ cls:=.type "list", data:=.seq (List.toArray its') k' }:Obj))]++Dd fp s6.heap) σ7 H9 s9->Vals ys' its' ->
     (∃ m',m' < n/\W (i + 1) m' ys' H9)->∃ m,m < n/\∃ i ys its k H',Inv X' [(D,({ cls:=.type "list", data:=.seq (List.toArray its) k }:Obj))] (Bz ix σ) H' s9/\tn i s9.heap/\(∀ b ∈ fp,H' b=none)/\W i m ys H'/\Vals ys its:=by
    intro H9 s9 ys' its' k' I9 rv' ⟨m',hm,w9⟩;refine ⟨m',hm,i + 1,ys',its',k',H9,I9.unpinned.weak (I4.len.trans I9.len.symm) k7,T.keep _ _ _ st6 fun b hb o e=>(I9.pin (b,o) (mem_append_right _ (mem_append_right _ (CW hb e)))).1,fun b hb=>?_,w9,rv'⟩;obtain ⟨o,e,d⟩:=T.obj _ _ st6 b hb;exact (I9.pin (b,o) (mem_append_right _ (mem_append_right _ (CW hb e)))).2.1
   cases b with
   | false =>
    rw [if_neg Bool.false_ne_true] at q8;exact wpAny_pure ⟨rfl,again I8 rv (hN _ _ q8).2⟩
   | true =>
    rw [if_pos rfl] at q8;refine wpAny_bind (wpAny_bind (thn (he _ _ _ _ _ _ _ s8 σ7 H8 _ I8 q8) fun y s9 ⟨z,H9,I9,r9,q9⟩=>?_))
    have hz:ys.length < sizeLine:=by
     have:=(hN _ _ q9).1;rw [length_append,length_singleton] at this;omega
    have pD:=I9.pin (D,_) (mem_append_right _ (mem_append_left _ mem_cons_self));have a0:=rv.length;refine wpAny_bind (call_meets F.slot_list_append ⟨_,pD.1,rfl⟩ F.entry_list_append (F.args_list_append_2 _ _) (PySem.list_append D its.toArray k y (by rw [size_toArray]; omega)) ⟨pD.1,wpAny_pure (wpAny_pure ⟨rfl,?_⟩)⟩);have eq':its.toArray.push y=(its++[y]).toArray:=by simp
    obtain ⟨k',q⟩:∃ k',(s9.heap.update D (Obj.mapSeq (·.push y))).get? D=some { cls:=.type "list", data:=.seq (its++[y]).toArray k' }:=⟨_,by rw [← eq']; exact PySem.IsL.update pD.1 (·.push y)⟩;have Iw:Inv X' (Dd fp s6.heap) σ7 H9 s9:=I9.pins_of fun p hp=>I9.pin p (mem_append_right _ (mem_append_right _ hp))
    have It:Inv X' (Dd fp s6.heap) σ7 H9 { s9 with heap:=s9.heap.update D (Obj.mapSeq (·.push y)),toks:=s9.toks }:=Iw.turned (it:=D) (fun b o hb e=>(get?_update_other s9.heap (Obj.mapSeq (·.push y)) (Ne.symm hb)).trans e) pD.2.1 hDC
     (.inr (by show s2.heap.objs.size <= D; rw [hDD]; exact Nat.le_refl _)) (fun x c e=>Nat.ne_of_lt (cellLt x c (c1 x c e))) (fun p hp=>by
      rcases mem_append.mp hp with z' | z'
      ·exact Nat.ne_of_lt (pinLt p z')
      ·exact Nat.ne_of_lt (hlt p.1 (G8 z').1))
    refine again (its':=its++[y]) (k':=k') (It.pins_of fun p hp=>?_) (rv.append (.cons r9 .nil)) (hN _ _ q9).2;rcases mem_append.mp hp with z' | z'
    ·have e:p=(D,({ cls:=.type "list", data:=.seq (its++[y]).toArray k' }:Obj)):=by simpa using z'
     subst e;exact ⟨q,pD.2.1,hDC,hDfs,fun v z=>by cases z⟩
    ·exact It.pin p (mem_append_right _ z')
 exact codeAny_compStart_list (loop _ rfl) (T.self _ 0 _ _ _ (T.keep _ _ _ st2 fun b _ o e=>old b o e) (loop _ rfl))
theorem HN {RD:Cx->Prop} (hf:CompFits X.env.scope scope X.N N' ix) (hc:∀ cl s H C fp aa,RD (An X N' scope cl s H C fp (X.pn++aa))) (hi:PIg RD X tg iter wi)
  (hg:∀ cl s H C fp pn,PGk (An X N' scope cl s H C fp pn) tg ix g) (ht:∀ cl s H C fp pn,PTs (An X N' scope cl s H C fp pn) ifs tt) (he:∀ cl s H C fp pn,PE (An X N' scope cl s H C fp pn) elt te)
  (hs:∀ x,foldedSetIterable iter X.env x=pure x:=by intro _; rfl) :
  PE X (.ListComp elt [⟨tg,iter,ifs,0⟩] scope pos) (fun σ H Q=>C4 wi g tt te ix (fun ys H'=>∀ p,H' p=none->Q (.ref p) (upd H' p (.lst ys))) σ H):=by
 intro aa s σ H Q I h;rw [eval_ListComp];refine HM (use:=none) hf hc hi hg ht he hs I h fun s' ys H' D C m I' r hD hn h1 h2 h3 h4 h5=>?_;refine ⟨m,hn,fun h'' hs''=>⟨.ref D,_,I'.turned (it:=C) (t':=s'.toks) (fun b o hb e=>(hs''.2 b hb).trans e) h5 h2 (.inr h1) h3 h4,rfl,r D hD⟩⟩
theorem JI (hf:CompFits X.env.scope scope X.N N' ix) (hc:X.calm=true) (hi:PI X tg iter wi)
  (hg:∀ cl s H C fp pn,PGk (An X N' scope cl s H C fp pn) tg ix g) (ht:∀ cl s H C fp pn,PTs (An X N' scope cl s H C fp pn) ifs tt) (he:∀ cl s H C fp pn,PE (An X N' scope cl s H C fp pn) elt te)
  (hs:∀ x,foldedSetIterable iter X.env x=pure x:=by intro _; rfl) :
  PE X (.ListComp elt [⟨tg,iter,ifs,0⟩] scope pos) (fun σ H Q=>C4 wi g tt te ix (fun ys H'=>∀ p,H' p=none->Q (.ref p) (upd H' p (.lst ys))) σ H):=HN hf (fun _ _ _ _ _ _=>hc) hi.g hg ht he hs
theorem OL {i:Nat} {py spos:Pos} (hN:X.N.Nodup) (hi':X.N[i]?=some x) (hx:X.env.scope.names.lookup x=some .local) (hsw:swapsWith (.ListComp elt [⟨tg,iter,ifs,0⟩] scope pos) (some (.Name x py)) spos.line X.env=pure true)
  (hf:CompFits X.env.scope scope X.N N' ix) (hc:X.calm=true) (hi:PI X tg iter wi)
  (hg:∀ cl s H C fp pn,PGk (An X N' scope cl s H C fp pn) tg ix g) (ht:∀ cl s H C fp pn,PTs (An X N' scope cl s H C fp pn) ifs tt) (he:∀ cl s H C fp pn,PE (An X N' scope cl s H C fp pn) elt te)
  (hs:∀ x,foldedSetIterable iter X.env x=pure x:=by intro _; rfl) :
  PS X (.Assign [.Name x py] (.ListComp elt [⟨tg,iter,ifs,0⟩] scope pos) spos) (fun D σ H=>C4 wi g tt te ix (fun ys H'=>∀ p,H' p=none->D.nx (σ.set i (some (.ref p))) (upd H' p (.lst ys))) σ H):=by
 intro aa s σ H D I h;rw [exec_Assign_Name_used _ _ _ _ hsw];refine wpAny_bind (wpAny_standAt (wpAny_bind ?_));show wpAny _ X.A (do let _ ← comprehension (.ListComp elt [⟨tg,iter,ifs,0⟩] scope pos) scope X.env _ (newList []) false (eval iter X.env) (some (assign (.Name x py) X.env))) _ _ s;refine wpAny_bind (thn (HM (use:=some (assign (.Name x py) X.env)) (Qv:=fun _ s'=>SP X aa D .next s') hf (fun _ _ _ _ _ _=>hc) hi.g hg ht he hs I h fun s' ys H' Da C m I' r hD hn h1 h2 h3 h4 h5=>?_) fun _ s' hq=>wpAny_pure (wpAny_pure hq));show wpAny _ X.A (assign (.Name x py) X.env (.ref Da)) _ _ _;refine wpAny_assign_Name (G6 (v:=.ref Da) I' hN hi' (.inl hx) rfl (fun s'' I'' ⟨a,hsb,ha⟩=>?_) (.inr hx))
 have hCa:C ≠ a:=by
  rcases ha with z | z
  ·rw [z]; exact h2
  ·exact (h3 x a z).symm
 refine ⟨m,hn.sameBut hsb hCa,fun h'' hs''=>?_⟩;exact ⟨_,_,I''.turned (it:=C) (t':=s''.toks) (fun b o hb e=>(hs''.2 b hb).trans e) h5 h2 (.inr h1) h3 h4,r Da hD⟩
end
abbrev g2 (K:FG):TG:=P7 K 2 (Fh (CM 0) (Fh (CM 1) P6))
section
variable {iter elt:Expr} {ifs:List Expr} {scope:Scope} {px py pt:Pos} {wi:TI} {tt:TT} {y:Str} {kt:Nat}
theorem A9 (Nc:List Str) (ixc:List (Option Nat)) (hf:HK X.env.scope scope X.N (x :: Nc) (none :: ixc)=true) (hnd:(x :: Nc).Nodup) (hx:scope.names.lookup x=some .local) (hc:X.calm=true) (hi:PI X (.Name x px) iter wi)
  (ht:∀ cl s H C fp pn,PTs (An X (x :: Nc) scope cl s H C fp pn) ifs tt) (he:∀ cl s H C fp pn,PE (An X (x :: Nc) scope cl s H C fp pn) elt te) (hs:∀ x,foldedSetIterable iter X.env x=pure x:=by intro _; rfl) :
  PE X (.ListComp elt [⟨.Name x px,iter,ifs,0⟩] scope pos) (fun σ H Q=>C4 wi (CM 0) tt te (none :: ixc) (fun ys H'=>∀ p,H' p=none->Q (.ref p) (upd H' p (.lst ys))) σ H) :=
 JI (CompFits.of hf) hc hi (fun cl s H C fp pn=>Fw (AZ (i:=0) hnd rfl (.inl (lookup_relabel_local hx)) (.inr (lookup_relabel_local hx)))) ht he hs
theorem JJ (Nc:List Str) (ixc:List (Option Nat)) (hf:HK X.env.scope scope X.N (x :: y :: Nc) (none :: none :: ixc)=true) (hnd:(x :: y :: Nc).Nodup) (hx:scope.names.lookup x=some .local) (hy:scope.names.lookup y=some .local) (hc:X.calm=true)
  (hi:PI X (.Tuple [.Name x px,.Name y py] kt pt) iter wi)
  (ht:∀ cl s H C fp pn,PTs (An X (x :: y :: Nc) scope cl s H C fp pn) ifs tt) (he:∀ cl s H C fp pn,PE (An X (x :: y :: Nc) scope cl s H C fp pn) elt te) (hs:∀ x,foldedSetIterable iter X.env x=pure x:=by intro _; rfl) :
  PE X (.ListComp elt [⟨.Tuple [.Name x px,.Name y py] kt pt,iter,ifs,0⟩] scope pos) (fun σ H Q=>C4 wi (g2 X.K) tt te (none :: none :: ixc) (fun ys H'=>∀ p,H' p=none->Q (.ref p) (upd H' p (.lst ys))) σ H) :=
 JI (CompFits.of hf) hc hi (fun cl s H C fp pn=>OK (Bx (X:=An X (x :: y :: Nc) scope cl s H C fp pn) hc (Ad (AZ (i:=0) hnd rfl (.inl (lookup_relabel_local hx)) (.inr (lookup_relabel_local hx)))
  (Ad (AZ (i:=1) hnd rfl (.inl (lookup_relabel_local hy)) (.inr (lookup_relabel_local hy))) BV)))) ht he hs
theorem JK {i:Nat} {z:Str} {pz spos:Pos} (hN:X.N.Nodup) (hi':X.N[i]?=some z) (hz:X.env.scope.names.lookup z=some .local) (Nc:List Str) (ixc:List (Option Nat)) (hf:HK X.env.scope scope X.N (x :: Nc) (none :: ixc)=true) (hnd:(x :: Nc).Nodup)
  (hx:scope.names.lookup x=some .local) (hc:X.calm=true) (hi:PI X (.Name x px) iter wi)
  (ht:∀ cl s H C fp pn,PTs (An X (x :: Nc) scope cl s H C fp pn) ifs tt) (he:∀ cl s H C fp pn,PE (An X (x :: Nc) scope cl s H C fp pn) elt te)
  (hsw:swapsWith (.ListComp elt [⟨.Name x px,iter,ifs,0⟩] scope pos) (some (.Name z pz)) spos.line X.env=pure true:=by rfl) (hs:∀ x,foldedSetIterable iter X.env x=pure x:=by intro _; rfl) :
  PS X (.Assign [.Name z pz] (.ListComp elt [⟨.Name x px,iter,ifs,0⟩] scope pos) spos) (fun D σ H=>C4 wi (CM 0) tt te (none :: ixc) (fun ys H'=>∀ p,H' p=none->D.nx (σ.set i (some (.ref p))) (upd H' p (.lst ys))) σ H) :=
 OL hN hi' hz hsw (CompFits.of hf) hc hi (fun cl s H C fp pn=>Fw (AZ (i:=0) hnd rfl (.inl (lookup_relabel_local hx)) (.inr (lookup_relabel_local hx)))) ht he hs
end
theorem Bv {g:TG} {tt:TT} {ix:List (Option Nat)} {R:List V->Hp->Prop} {H1:Hp} (Pv:Nat->List V->Hp->Prop) (h0:Pv 0 [] H1) (hl:∀ i ys H,i <= xs.length->Pv i ys H->SqL K H a xs) (hz:∀ i ys H,Pv i ys H->ys.length <= 1000)
  (hs:∀ i x ys H,xs[i]?=some x->Pv i ys H->g x (Bz ix σ) H fun σ2 H2=>tt σ2 H2 fun b H3=>if b=true then te σ2 H3 fun y H4=>Pv (i + 1) (ys++[y]) H4 else Pv (i + 1) ys H3) (hd:∀ ys H,Pv xs.length ys H->R ys H) :
  ∃ W:Nat->Nat->List V->Hp->Prop,(∃ m,W 0 m [] H1)/\∀ i m ys H,W i m ys H ->
   ((Itl K a).stop i H/\ys.length <= sizeLine/\R ys H) \/
   ((Itl K a).go i H/\∃ N:List V->Hp->Prop,(∀ ys' H',N ys' H'->ys'.length <= sizeLine/\∃ m',m' < m/\W (i + 1) m' ys' H') /\
    ∀ x H',(Itl K a).yld i H x H'->g x (Bz ix σ) H' fun σ2 H2=>tt σ2 H2 fun b H3=>if b=true then te σ2 H3 fun y H4=>N (ys++[y]) H4 else N ys H3):=by
 refine ⟨fun i m ys H=>m=xs.length - i/\i <= xs.length/\Pv i ys H,⟨_,rfl,Nat.zero_le _,h0⟩,?_⟩;rintro i m ys H ⟨rfl,hi,hp⟩;by_cases hlt:i < xs.length
 ·have hx:xs[i]?=some xs[i]:=List.getElem?_eq_getElem hlt;refine .inr ⟨⟨xs,xs[i],hl i ys H hi hp,hx⟩,Pv (i + 1),fun ys' H' q=>⟨Nat.le_of_lt (Ae (hz _ ys' H' q)),xs.length - (i + 1),by omega,rfl,hlt,q⟩,?_⟩;rintro x H' ⟨rfl,hy⟩
  have ex:x=xs[i]:=by
   have:=hy xs (hl i ys H' hi hp);rw [hx] at this;exact (Option.some.inj this).symm
  subst ex;exact hs i xs[i] ys H' hx hp
 ·have e:i=xs.length:=by omega
  subst e;exact .inl ⟨⟨xs,hl _ ys H hi hp,Nat.le_refl _⟩,Nat.le_of_lt (Ae (hz _ ys H hp)),hd ys H hp⟩
theorem JL {g:TG} {tt:TT} {ix:List (Option Nat)} {R:List V->Hp->Prop} {H1:Hp} (Pv:Nat->List V->Hp->Prop) (h0:Pv 0 [] H1) (hl:∀ i ys H,i <= xs.length->Pv i ys H->SqT K H a xs) (hz:∀ i ys H,Pv i ys H->ys.length <= 1000)
  (hs:∀ i x ys H,xs[i]?=some x->Pv i ys H->g x (Bz ix σ) H fun σ2 H2=>tt σ2 H2 fun b H3=>if b=true then te σ2 H3 fun y H4=>Pv (i + 1) (ys++[y]) H4 else Pv (i + 1) ys H3) (hd:∀ ys H,Pv xs.length ys H->R ys H) :
  ∃ W:Nat->Nat->List V->Hp->Prop,(∃ m,W 0 m [] H1)/\∀ i m ys H,W i m ys H ->
   ((Itt K a).stop i H/\ys.length <= sizeLine/\R ys H) \/
   ((Itt K a).go i H/\∃ N:List V->Hp->Prop,(∀ ys' H',N ys' H'->ys'.length <= sizeLine/\∃ m',m' < m/\W (i + 1) m' ys' H') /\
    ∀ x H',(Itt K a).yld i H x H'->g x (Bz ix σ) H' fun σ2 H2=>tt σ2 H2 fun b H3=>if b=true then te σ2 H3 fun y H4=>N (ys++[y]) H4 else N ys H3):=by
 refine ⟨fun i m ys H=>m=xs.length - i/\i <= xs.length/\Pv i ys H,⟨_,rfl,Nat.zero_le _,h0⟩,?_⟩;rintro i m ys H ⟨rfl,hi,hp⟩;by_cases hlt:i < xs.length
 ·have hx:xs[i]?=some xs[i]:=List.getElem?_eq_getElem hlt;refine .inr ⟨⟨xs,xs[i],hl i ys H hi hp,hx⟩,Pv (i + 1),fun ys' H' q=>⟨Nat.le_of_lt (Ae (hz _ ys' H' q)),xs.length - (i + 1),by omega,rfl,hlt,q⟩,?_⟩;rintro x H' ⟨rfl,hy⟩
  have ex:x=xs[i]:=by
   have:=hy xs (hl i ys H' hi hp);rw [hx] at this;exact (Option.some.inj this).symm
  subst ex;exact hs i xs[i] ys H' hx hp
 ·have e:i=xs.length:=by omega
  subst e;exact .inl ⟨⟨xs,hl _ ys H hi hp,Nat.le_refl _⟩,Nat.le_of_lt (Ae (hz _ ys H hp)),hd ys H hp⟩
theorem Cc {lo:Int} {n:Nat} {g:TG} {tt:TT} {ix:List (Option Nat)} {R:List V->Hp->Prop} {H1:Hp} (Pv:Nat->List V->Hp->Prop) (h0:Pv 0 [] H1) (hz:∀ i ys H,Pv i ys H->ys.length <= 1000)
  (hs:∀ (i:Nat) ys H,i < n->Pv i ys H->g (.int (lo + i)) (Bz ix σ) H fun σ2 H2=>tt σ2 H2 fun b H3=>if b=true then te σ2 H3 fun y H4=>Pv (i + 1) (ys++[y]) H4 else Pv (i + 1) ys H3) (hd:∀ ys H,Pv n ys H->R ys H) :
  ∃ W:Nat->Nat->List V->Hp->Prop,(∃ m,W 0 m [] H1)/\∀ i m ys H,W i m ys H ->
   ((Itr lo n).stop i H/\ys.length <= sizeLine/\R ys H) \/
   ((Itr lo n).go i H/\∃ N:List V->Hp->Prop,(∀ ys' H',N ys' H'->ys'.length <= sizeLine/\∃ m',m' < m/\W (i + 1) m' ys' H') /\
    ∀ x H',(Itr lo n).yld i H x H'->g x (Bz ix σ) H' fun σ2 H2=>tt σ2 H2 fun b H3=>if b=true then te σ2 H3 fun y H4=>N (ys++[y]) H4 else N ys H3):=by
 refine ⟨fun i m ys H=>m=n - i/\i <= n/\Pv i ys H,⟨_,rfl,Nat.zero_le _,h0⟩,?_⟩;rintro i m ys H ⟨rfl,hi,hp⟩;by_cases hlt:i < n
 ·refine .inr ⟨hlt,Pv (i + 1),fun ys' H' q=>⟨Nat.le_of_lt (Ae (hz _ ys' H' q)),n - (i + 1),by omega,rfl,hlt,q⟩,?_⟩;rintro x H' ⟨rfl,rfl⟩;exact hs i ys H' hlt hp
 ·have e:i=n:=by omega
  subst e;exact .inl ⟨Nat.le_refl _,Nat.le_of_lt (Ae (hz _ ys H hp)),hd ys H hp⟩
section
variable {o:Obj} {kvs:LK}
theorem Inv.newOk (I:Inv X aa σ H s) {p:Addr} (hp:s.heap.objs.size <= p):H p=none/\p ≠ X.env.locals/\X.s₀.heap.objs.size <= p/\(∀ x c,X.env.cells.lookup x=some c->c ≠ p)/\∀ q ∈ X.pn++aa,q.1 ≠ p :=
 ⟨I.hok.fresh hp,Nat.ne_of_gt (Nat.lt_of_lt_of_le I.lt hp),Nat.le_trans I.sz hp,fun x c e=>by
  obtain ⟨v,z⟩:=I.cell x c e
  exact Nat.ne_of_lt (Nat.lt_of_lt_of_le z.lt hp),fun q hq=>Nat.ne_of_lt (Nat.lt_of_lt_of_le (lt_size (I.pin q hq).1) hp)⟩
theorem Inv.freeze (I:Inv X aa σ H s) (h:H a=some (.dK kvs)):∃ o,Inv X aa σ (upd H a (.frz o (.dK kvs))) s:=by
 obtain ⟨z,y,vs,r,ob,es,ep,e,rest⟩:=I.hok a _ h;refine ⟨ob,?_⟩;exact I.write (x:=a) (e:=a) (o:=.frz ob (.dK kvs)) (h':=s.heap) (t':=s.toks) (by rw [h]; exact trivial) (.inl rfl) (fun b u _ q=>q) ⟨ob,e⟩ ⟨e,z,y,vs,r,ob,es,ep,e,rest⟩
theorem Fx {sts:List Stmt} {t:TS} (h:PSs X sts t):PSs X sts (fun D σ H=>∃ a kvs,H a=some (.dK kvs)/\∀ o,t D σ (upd H a (.frz o (.dK kvs)))):=by
 intro aa s σ H D I ⟨a,kvs,e,k⟩;obtain ⟨o,I'⟩:=I.freeze e;exact h aa s σ _ D I' (k o)
noncomputable def OM (o:Obj):Nat:=match o.data with
 | .dict _ ep=>ep
 | _=>0
theorem Fy (I:Inv X aa σ H s) (h:H a=some (.frz o (.dK kvs))):kvs.length <= sizeLine/\(a == sysModules)=false/\∃ vs,KV kvs vs/\s.heap.DictAt (AU X.prog X.w) a vs (OM o):=by
 obtain ⟨e,z,y,vs,r,ob,es,ep,e2,ex,d,rest⟩:=I.hok a _ h;rw [e] at e2; cases e2;refine ⟨z,y,vs,r,o,es,e,ex,?_,rest⟩;show o.data=.dict es (OM o);unfold OM; rw [d]
end
theorem KV.get {κ:Type}:∀ {kvs:List (κ × V)} {vs:List (κ × Value)} {i:Nat} {kv:κ × V},KV kvs vs->kvs[i]?=some kv->∃ v,vs[i]?=some (kv.1,v)/\RelV kv.2 v
 | _,_,_,_,.nil,e=>by simp at e
 | _,_,0,_,.cons r _,e=>by
  simp only [List.getElem?_cons_zero,Option.some.injEq] at e;subst e;rename_i q _ _ _;exact ⟨q.2,by rw [r.1]; rfl,r.2⟩
 | _,_,i + 1,kv,.cons _ t,e=>by
  obtain ⟨u,h1,h2⟩:=KV.get (i:=i) (kv:=kv) (show KV _ _ from t) (by simpa using e);exact ⟨u,by simpa using h1,h2⟩
theorem EB {k:Key} (h:(AU P w).is k u=true):RelV (kV k) u:=by
 rcases As (show Fe k u=true from h) with ⟨i,t,rfl,rfl⟩ | ⟨x,t,rfl,rfl⟩
 ·exact ⟨t,rfl⟩
 ·exact ⟨t,rfl⟩
noncomputable def Iti (a:Addr) (o:Obj) (kvs:LK):It:=⟨fun i H=>H a=some (.frz o (.dK kvs))/\i < kvs.length,fun i H x H'=>∃ p kv,H p=none/\x=.ref p/\kvs[i]?=some kv/\H'=upd H p (.tup [kV kv.1,kv.2]),
 fun i H=>H a=some (.frz o (.dK kvs))/\kvs.length <= i⟩
theorem Km {elts:List Expr} {k0:Nat} (a it:Addr) (o:Obj) (kvs:LK) :
  KM P w K (.Tuple elts k0 pos) (Iti a o kvs) [it] it (fun i h=>∃ ok ov,IsItemIter h it a i kvs.length (OM o) ok ov) where
 mem:=by simp
 obj:=fun i h st b hb=>by
  have e:b=it:=by simpa using hb
  subst e;obtain ⟨ok,ov,e⟩:=st;exact ⟨_,e,fun v z=>by cases z⟩
 keep:=fun i h h' st k=>by
  obtain ⟨ok,ov,e⟩:=st;exact ⟨ok,ov,k it (by simp) _ e⟩
 item:=by
  intro X hP hw hK hc i aa s σ H E I hf st hg;subst hP hw hK;obtain ⟨hfz,hi⟩:=hg;obtain ⟨z,y,vs,rel,dd⟩:=Fy I hfz;obtain ⟨ok,ov,st⟩:=st;have a0:=rel.length;obtain ⟨kv,hkv⟩:∃ kv,kvs[i]?=some kv:=⟨_,List.getElem?_eq_getElem hi⟩;obtain ⟨v,hv,rv⟩:=KV.get rel hkv;obtain ⟨f0,f1,f2,f3,f4,f5⟩:=hf it (by simp);rw [a0] at st;have hlt:it < s.heap.objs.size:=lt_size st;refine wpAny_pyNext_items_item st dd hv fun key h' bz st' hp hsz keep=>?_;have I1:Inv X aa σ H { s with heap:=h' }:=I.turned (t':=s.toks) keep f0 f1 f3 f4 f5;obtain ⟨n1,n2,n3,n4,n5⟩:=I.newOk (Nat.le_refl s.heap.objs.size);have I2:Inv X aa σ (upd H s.heap.objs.size (.tup [kV kv.1,kv.2])) { s with heap:=h' }:=I1.track n1 n2 (.inr n3) n4 n5 ⟨by show 2 <= sizeLine; decide,[key,v],.cons (EB bz) (.cons rv .nil),_,hp,rfl,_,rfl⟩;have fi:(upd H s.heap.objs.size (.tup [kV kv.1,kv.2])) it=none:=by rw [AG (Nat.ne_of_lt hlt)]; exact f0
  refine ⟨.ref s.heap.objs.size,rfl,wpAny_letOwnedTupleGo_items st' fun h'' st'' sb=>?_⟩;refine ⟨.ref s.heap.objs.size,_,I2.turned (it:=it) (t':=s.toks) (fun b o hb e=>(sb.2 b hb).trans e) fi f1 f3 f4 f5,rfl,⟨_,kv,n1,rfl,hkv,rfl⟩,⟨key,v,by rw [a0]; exact st''⟩,fun b hb=>?_⟩;have e:b=it:=by simpa using hb
  rw [e]; exact fi
 done:=by
  intro X hP hw hK hc i aa s σ H E I hf st hg;subst hP hw hK;obtain ⟨hfz,hi⟩:=hg;obtain ⟨z,y,vs,rel,dd⟩:=Fy I hfz;obtain ⟨ok,ov,st⟩:=st;have a0:=rel.length;rw [a0] at st;obtain ⟨f0,f1,f2,f3,f4,f5⟩:=hf it (by simp);exact wpAny_pyNext_items_end (I.ok.hd hc) st dd (List.getElem?_eq_none_iff.mpr (by omega)) fun h' eb=>⟨rfl,I.turned (t':=s.toks) (fun b o hb e=>eb b o hb e) f0 f1 f3 f4 f5⟩
 self:=fun _ _ _ _ _ st h=>by
  obtain ⟨ok,ov,e⟩:=st;exact W.kcp_self e h
def Ry (to:TE):TI:=fun σ H R=>to σ H fun x H1=>∃ a o kvs,x=.ref a/\H1 a=some (.frz o (.dK kvs))/\R (Iti a o kvs) H1
theorem ON {elts:List Expr} {k0:Nat} {o:Expr} {to:TE} {apos cpos:Pos} (ho:PE X o to) (bj:attributeBase o "items" X.env (eval o X.env)=eval o X.env:=by rfl) (bo:(apos.endLine == cpos.line)=true:=by rfl) :
  PI X (.Tuple elts k0 pos) (.Call (.Attribute o "items" apos) [] [] cpos) (Ry to):=by
 intro aa s σ H R I h;refine wpAny_Call_method0_late bj bo (thn (ho aa s σ H _ I h) fun v s1 ⟨x,H1,I1,r1,a,ob,kvs,ex,hfz,q⟩=>?_);subst ex;cases r1;obtain ⟨t1,t2,_⟩:=OI I1 (.inl ⟨kvs,.inr ⟨ob,hfz⟩⟩);obtain ⟨z,y,vs,rel,dd⟩:=Fy I1 hfz;refine ⟨"dict", "dict.items", PySem.F.plainAttrs_dict,PySem.F.slot_dict_items,PySem.F.type_dict_items,t1,t2,Calls.callWith_builtin rfl (PySem.evalArgs_none (call_meetsIn PySem.F.slot_dict_items t1 PySem.F.entry_dict_items (PySem.F.args_dict_items_1 _) (meets_dict_items (AU X.prog X.w) a y) ⟨⟨vs,dd.dictOf⟩,?_⟩))⟩;have I2:Inv X aa σ H1 { s1 with heap:=s1.heap.push { cls:=.type "dict_items", data:=.fields #[.ref a] } }:=I1.kept (t':=s1.toks) fun b o e=>get?_push_of_some _ e;refine wpAny_pyIter_items (knd:=AU X.prog X.w) (d:=a) (kvs:=vs) (ep:=OM ob) ⟨_,get?_push_size _ rfl,rfl,rfl⟩ (dd.push _) ?_;refine ⟨_,[_],_,_,H1,rfl,I2.kept (t':=s1.toks) fun b o e=>get?_push_of_some _ e,Km a _ ob kvs,⟨.none,.none,by rw [rel.length]; exact get?_push_size _ rfl⟩,fun b hb=>?_,q⟩;have e:b=(s1.heap.push { cls:=.type "dict_items", data:=.fields #[.ref a] }).objs.size:=by simpa using hb
 subst e;exact I2.fpOk (Nat.le_refl _) (I2.hok.fresh (Nat.le_refl _))
noncomputable def Ite (K:FG) (a:Addr):It:=⟨fun i H=>∃ xs x,SqL K H a xs/\xs[i]?=some x,fun i H x H'=>∃ p y,H p=none/\x=.ref p/\(∀ xs,SqL K H a xs->xs[i]?=some y)/\H'=upd H p (.tup [.int i,y]),fun i H=>∃ xs,SqL K H a xs/\xs.length <= i⟩
theorem My {elts:List Expr} {k0:Nat} (a e it:Addr) (ax:e ≠ it) :
  KM P w K (.Tuple elts k0 pos) (Ite K a) [e,it] e (fun i h=>∃ old,IsEnum h e it i old/\h.IsListIter it a i) where
 mem:=by simp
 obj:=fun i h st b hb=>by
  obtain ⟨old,e1,o,e2,c,d⟩:=st;have hb':b=e\/b=it:=by simpa using hb
  rcases hb' with rfl | rfl
  ·exact ⟨_,e1,fun v z=>by cases z⟩
  ·exact ⟨o,e2,fun v z=>by rw [d] at z; cases z⟩
 keep:=fun i h h' st k=>by
  obtain ⟨old,e1,e2⟩:=st;exact ⟨old,k e (by simp) _ e1,e2.at fun o q=>k it (by simp) o q⟩
 item:=by
  intro X hP hw hK hc i aa s σ H E I hf st hg;subst hP hw hK;obtain ⟨xs,x,hq,hx⟩:=hg;obtain ⟨its,rv,p,hz⟩:=I.list hq;obtain ⟨u,hu,ru⟩:=rv.get hx;obtain ⟨old,s1,s2⟩:=st;obtain ⟨f0,f1,f2,f3,f4,f5⟩:=hf e (by simp);obtain ⟨g0,g1,g2,g3,g4,g5⟩:=hf it (by simp);have hlt:e < s.heap.objs.size:=lt_size s1;have hlt2:it < s.heap.objs.size:=by obtain ⟨o,q,_⟩:=id s2; exact lt_size q
  refine wpAny_pyNext_enum_item s1 s2 p.isList (x:=u) (by simpa using hu) ax fun h' st' st2' hp hsz keep=>?_
  have I1:Inv X aa σ H { s with heap:=h',toks:=s.toks + 1 }:=by
   refine I.step (H':=H) (g':=s.gens) (d':=s.drawn) (ch:=[e,it]) (fun b hb=>?_) (fun b o _ _ hb q _=>keep b o (by simp at hb; exact hb.1) (by simp at hb; exact hb.2) q) (fun b o _ _ hb q _=>⟨o.slots,keep b o (by simp at hb; exact hb.1) (by simp at hb; exact hb.2) q⟩)
    (fun _ _ _ _ n=>n) (fun b o hb q=>⟨o,keep b o (by simp at hb; exact hb.1) (by simp at hb; exact hb.2) q⟩) (fun _ _ q=>q) (fun _ _ _ q=>q) (fun b ps q=>⟨#[],by rw [q]; simp⟩) (fun m hm=>?_) (fun b u q=>?_) I.bare
   ·have hb':b=e\/b=it:=by simpa using hb
    rcases hb' with rfl | rfl
    ·exact ⟨f3,f1,f4,f5⟩
    ·exact ⟨g3,g1,g4,g5⟩
   ·obtain ⟨oL,es,ep,hoL,r⟩:=hm;exact ⟨oL,es,ep,keep _ oL (Ne.symm f1) (Ne.symm g1) hoL,r⟩
   ·have ne1:∀ c v,H c=some v->c ≠ e/\c ≠ it:=fun c v q=>⟨AJ q f0,AJ q g0⟩;refine (I.hok b u q).stay (fun c v hc q'=>keep c v ?_ ?_ q') (fun _ q=>q) fun _ _ q=>q
    ·rcases hc with z | z
     ·rw [z]; exact (ne1 b u q).1
     ·exact (ne1 c _ z).1
    ·rcases hc with z | z
     ·rw [z]; exact (ne1 b u q).2
     ·exact (ne1 c _ z).2
  obtain ⟨n1,n2,n3,n4,n5⟩:=I.newOk (Nat.le_refl s.heap.objs.size);have I2:Inv X aa σ (upd H s.heap.objs.size (.tup [.int i,x])) { s with heap:=h',toks:=s.toks + 1 }:=I1.track n1 n2 (.inr n3) n4 n5 ⟨by show 2 <= sizeLine; decide,[.int i s.toks,u],.cons ⟨_,rfl⟩ (.cons ru .nil),_,hp,rfl,_,rfl⟩;have fe:(upd H s.heap.objs.size (.tup [.int i,x])) e=none:=by rw [AG (Nat.ne_of_lt hlt)]; exact f0
  have fi:(upd H s.heap.objs.size (.tup [.int i,x])) it=none:=by rw [AG (Nat.ne_of_lt hlt2)]; exact g0
  refine ⟨.ref s.heap.objs.size,rfl,wpAny_letOwnedTupleGo_enum st' fun h'' st'' sb=>?_⟩;refine ⟨.ref s.heap.objs.size,_,I2.turned (it:=e) (t':=s.toks + 1) (fun b o hb q=>(sb.2 b hb).trans q) fe f1 f3 f4 f5,rfl,⟨_,x,n1,rfl,fun ys hy=>by rw [I.list_inj hy hq]; exact hx,rfl⟩,⟨_,by exact_mod_cast st'',st2'.extBut sb.extBut (Ne.symm ax)⟩,fun b hb=>?_⟩;have hb':b=e\/b=it:=by simpa using hb
  rcases hb' with rfl | rfl
  ·exact fe
  ·exact fi
 done:=by
  intro X hP hw hK hc i aa s σ H E I hf st hg;subst hP hw hK;obtain ⟨xs,hq,hx⟩:=hg;obtain ⟨its,rv,p,hz⟩:=I.list hq;obtain ⟨old,s1,s2⟩:=st;obtain ⟨g0,g1,g2,g3,g4,g5⟩:=hf it (by simp);have hl:=rv.length;exact wpAny_pyNext_enum_end (I.ok.hd hc) s1 s2 p.isList (by simp; omega) fun h' eb=>⟨rfl,I.turned (t':=s.toks) (fun b o hb e=>eb b o hb e) g0 g1 g3 g4 g5⟩
 self:=fun _ _ _ _ _ st h=>by
  obtain ⟨old,e1,_⟩:=st;exact wpAny_pyIter_enum e1 h
def S8 (K:FG) (tl:TA):TI:=fun σ H R=>tl σ H fun vs H1=>∃ a,vs=[.ref a]/\(∃ xs,SqL K H1 a xs)/\R (Ite K a) H1
theorem QO {elts:List Expr} {k0:Nat} {p cpos:Pos} {l:Expr} {tl:TA} (hg:Gl X "enumerate") (hm:X.mg "enumerate" = none) (hl:PA X [l] tl) (hs:starEach [l] X.env=[(false,eval l X.env)]:=by rfl) :
  PI X (.Tuple elts k0 pos) (.Call (.Name "enumerate" p) [l] [] cpos) (S8 X.K tl):=by
 intro aa s σ H R I h;refine wpAny_Call_Name_kw (Dc (u:=.type "enumerate") I hg hm (by decide +kernel) ?_);refine PyProof.Rows.callWith_type1 (thn (hl cpos aa s σ H _ I h) fun us s1 ⟨vs,H1,I1,r1,a,ev,⟨xs,hq⟩,q⟩=>?_) hs rfl;subst ev;obtain ⟨u,rfl,ru⟩:=Bc r1;cases ru;obtain ⟨its,rv,pl,hz⟩:=I1.list hq;refine call_enumerate_list pl.isList fun h' he hi hsz keep=>?_;refine wpAny_pyIter_enum he ?_;have I2:Inv X aa σ H1 { s1 with heap:=h' }:=I1.kept (t':=s1.toks) keep;refine ⟨_,[s1.heap.objs.size + 1,s1.heap.objs.size],_,_,H1,rfl,I2,My a _ _ (Nat.succ_ne_self _),⟨_,he,hi⟩,fun b hb=>?_,q⟩;have hb':b=s1.heap.objs.size + 1\/b=s1.heap.objs.size:=by simpa using hb
 rcases hb' with rfl | rfl
 ·exact I1.fpOk (Nat.le_succ _) (I1.hok.fresh (Nat.le_succ _))
 ·exact I1.fpOk (Nat.le_refl _) (I1.hok.fresh (Nat.le_refl _))
noncomputable def Its (x:Str):It:=⟨fun i _=>i < x.cps.size,fun i H v H'=>H'=H/\∃ c,x.cps[i]?=some c/\v=.str ⟨#[c]⟩,fun i _=>x.cps.size <= i⟩
theorem OO {n:Str} (it:Addr) (x:Str) (t:Tok) :
  KM P w K (.Name n pos) (Its x) [it] it (fun i h=>h.IsStrIter it "str_ascii_iterator" x t i) where
 mem:=by simp
 obj:=fun i h st b hb=>by
  have e:b=it:=by simpa using hb
  subst e;obtain ⟨o,e,c,d⟩:=st;exact ⟨o,e,fun v z=>by rw [d] at z; cases z⟩
 keep:=fun i h h' st k=>by
  obtain ⟨o,e,r⟩:=st;exact ⟨o,k it (by simp) o e,r⟩
 item:=by
  intro X hP hw hK hc i aa s σ H E I hf st hg;subst hP hw hK;have hi:i < x.cps.size:=hg;obtain ⟨f0,f1,f2,f3,f4,f5⟩:=hf it (by simp);refine wpAny_pyNext_ascii_item st (Array.getElem?_eq_getElem hi) fun h' st' sb=>?_;refine ⟨_,rfl,wpAny_pure ⟨.str ⟨#[x.cps[i]]⟩,H,I.turned (t':=s.toks + 1) (fun b o hb e=>(sb.2 b hb).trans e) f0 f1 f3 f4 f5,⟨_,rfl⟩,⟨rfl,_,Array.getElem?_eq_getElem hi,rfl⟩,st',fun b hb=>(hf b hb).1⟩⟩
 done:=by
  intro X hP hw hK hc i aa s σ H E I hf st hg;subst hP hw hK;have hi:x.cps.size <= i:=hg;obtain ⟨f0,f1,f2,f3,f4,f5⟩:=hf it (by simp);exact wpAny_pyNext_ascii_end (I.ok.hd hc) st (Array.getElem?_eq_none hi) fun h' eb=>⟨rfl,I.turned (t':=s.toks) (fun b o hb e=>eb b o hb e) f0 f1 f3 f4 f5⟩
 self:=fun _ _ _ _ _ st h=>wpAny_pyIter_striter_ascii st h
def Tv (ts:TE):TI:=fun σ H R=>ts σ H fun v H1=>∃ x,v=.str x/\x.cps.all (· < 128)=true/\R (Its x) H1
theorem Rz {n:Str} {ts:TE} (he:PE X e ts):PI X (.Name n pos) e (Tv ts):=by
 intro aa s σ H R I h;refine thn (he aa s σ H _ I h) fun v s1 ⟨z,H1,I1,r1,x,ez,ha,q⟩=>?_;subst ez;obtain ⟨t,rfl⟩:=r1;refine wpAny_pyIter_ascii ha ?_;refine ⟨s1.heap.objs.size,[s1.heap.objs.size],_,_,H1,rfl,I1.kept (t':=s1.toks) fun b o e=>get?_push_of_some _ e,OO _ x t,⟨_,get?_push_size _ rfl,rfl,rfl⟩,fun b hb=>?_,q⟩;have e:b=s1.heap.objs.size:=by simpa using hb
 subst e;exact I1.fpOk (Nat.le_refl _) (I1.hok.fresh (Nat.le_refl _))
theorem Gx:entryFor table "proto.unchain" = some Builtin.«proto.unchain»:=entryFor_of_tree (by kernel_rfl)
section
variable {prog:Program}
theorem QP {α:Type} {c e:Addr} {oc oe:Obj} {vc ve:Array Value} {Q:α->Shared->Prop} (hh:A.handled=some (.ref c)) (hce:c ≠ e) (hc:s.heap.get? c=some oc) (hdc:oc.data=.fields vc) (h2:vc[2]?=some .none)
  (he:s.heap.get? e=some oe) (hde:oe.data=.fields ve) (hz:2 < ve.size) (h:E (.ref e) { s with heap:=s.heap.update e (Obj.mapFields (·.setIfInBounds 2 (.ref c))) }):wpAny (model prog w) A (raiseNew (.ref e):Sem α) Q E s:=by
 unfold raiseNew;refine wpAny_bind (wpAny_handled ?_);rw [hh]
 dsimp only
 rw [if_pos (show (Value.ref c != Value.ref e)=true by simp [hce])];refine wpAny_bind (wpAny_holding (wpAny_runValue (codeAny_builtin Gx ?_)));unfold Builtin.«proto.unchain»
 dsimp only
 refine wpAny_bind (wpAny_field hc hdc h2 ?_);rw [if_pos (by decide)];refine wpAny_pure ?_;show wpAny _ _ _ _ _ _;have up:=wpAny_setField (M:=model prog w) (A:=A) (E:=E) (x:=Value.ref c) (Q:=fun _ s'=>E (.ref e) s') he hde hz h;unfold setField at up;exact wpAny_bind (wpAny_mono up (fun _ s' z=>wpAny_throw z) fun _ _ z=>z)
theorem Cm {it l c:Addr} {i:Nat} {xs:Array Value} {oc:Obj} {vc:Array Value} {Q:Option Value->Shared->Prop} (hh:A.handled=some (.ref c)) (hc:s.heap.get? c=some oc) (hdc:oc.data=.fields vc) (h2:vc[2]?=some .none) (hci:c ≠ it)
  (hI:s.heap.IsListIter it l i) (hL:s.heap.IsList l xs) (hx:xs[i]?=none) (fin:∀ h',Heap.ExtBut it s.heap h'->Q none { s with heap:=h' }):wpAny (model prog w) A (pyNext (.ref it)) Q E s:=by
 obtain ⟨o,ho,oc1,hd⟩:=id hI;obtain ⟨ol,hol,_,nl,hdl⟩:=hL;unfold pyNext;refine wpAny_bind (wpAny_attempt (wpAny_callSpecial?_slot (name:=Str.ofString "__next__") hI.typeIs slot_listiter_next (wpAny_call_entry slot_listiter_next hI.typeIs entry_listiter_next ?_ (args_listiter_next _))));show wpAny _ _ (field (.ref it) 0 >>= _) _ _ s;refine wpAny_bind (wpAny_field (x:=.ref l) ho hd rfl ?_);show wpAny _ _ (if (Value.ref l == Value.none)=true then _ else _) _ _ s;rw [if_neg (by simp:¬ (Value.ref l == Value.none)=true)];show wpAny _ _ (field (.ref it) 1 >>= _) _ _ s;refine wpAny_bind (wpAny_field (x:=.int i 0) ho hd rfl ?_);show wpAny _ _ (seqItems? (.ref l) >>= _) _ _ s;refine wpAny_bind (wpAny_seqItems hol hdl ?_);simp only [Int.toNat_natCast,hx];refine wpAny_bind (wpAny_rule (wpAny_bind (wpAny_setField ho hd (by simp) ?_)));show wpAny _ _ (newExc (.type "StopIteration") [] >>= raiseNew) _ _ _;refine wpAny_bind ?_;simp only [newExc,newTuple];refine wpAny_bind (wpAny_newObj_type ?_ (by size_fits));refine wpAny_bind (m:=firstArgMember _ _) (wpAny_of_eq (a:=Value.none) (by first | rfl | (simp only [firstArgMember]; rfl)) (wpAny_newObj_type ?_ (by size_fits)));have k1:=(get?_update_other s.heap (Obj.mapFields (·.setIfInBounds 0 Value.none)) (Ne.symm hci)).trans hc;refine QP (c:=c) (show A.in1.handled=_ from hh) (fun z=>?_) (get?_push_of_some _ (get?_push_of_some _ k1)) hdc h2 (get?_push_size _ rfl) rfl (by simp; omega) ?_
 ·have:=lt_size (get?_push_of_some { cls:=.type "tuple", data:=.seq #[] } k1);rw [z] at this;exact absurd this (Nat.lt_irrefl _)
 ·refine wpAny_bind (wpAny_isInstance (T := "StopIteration") (b:=true) ⟨_,get?_update_self _ (get?_push_size _ rfl) rfl,rfl⟩ isSubtype_stop ?_);refine wpAny_pure (fin _ fun b u hb z=>?_);have z1:=(get?_update_other s.heap (Obj.mapFields (·.setIfInBounds 0 Value.none)) (Ne.symm hb)).trans z;have z2:=get?_push_of_some { cls:=.type "tuple", data:=.seq #[] } z1;rw [get?_update_other _ _ (Nat.ne_of_gt (lt_size z2))];exact get?_push_of_some _ z2
end
def Sft (X:Cx):Prop:=∃ e oe vs,X.A.handled=some (.ref e)/\(e,oe) ∈ X.pn/\oe.data=.fields vs/\vs[2]?=some .none
def Rdy (X:Cx):Prop:=X.calm=true\/Sft X
theorem Rdy.comp {N':List Str} {scope:Scope} {cl:List (Str × Addr)} {fp:List Addr} (h:Rdy X):Rdy (An X N' scope cl s H C fp (X.pn++aa)):=by
 rcases h with h | ⟨e,oe,vs,a,b,c,d⟩
 ·exact .inl h
 ·exact .inr ⟨e,oe,vs,a,mem_append_left _ b,c,d⟩
section
theorem OP {it l:Addr} {i:Nat} {xs:Array Value} {Q:Option Value->Shared->Prop} (hc:Rdy X) (I:Inv X aa σ H s) (hf:D5 X aa H it) (hI:s.heap.IsListIter it l i) (hL:s.heap.IsList l xs) (hx:xs[i]?=none)
  (fin:∀ h',Heap.ExtBut it s.heap h'->Q none { s with heap:=h' }):wpAny (model X.prog X.w) X.A (pyNext (.ref it)) Q E s:=by
 rcases hc with hc | ⟨e,oe,vs,a,b,c,d⟩
 ·exact wpAny_pyNext_list_end (I.ok.hd hc) hI hL hx fin
 ·exact Cm a (I.pin (e,oe) (mem_append_left _ b)).1 c d (hf.2.2.2.2.2 (e,oe) (mem_append_left _ b)) hI hL hx fin
end
theorem Kn {tg:Expr} (a it:Addr):RV Rdy P w K tg (Itl K a) [it] it (fun i h=>h.IsListIter it a i):=by
 have T:=G7 (P:=P) (w:=w) (K:=K) (tg:=tg) a it;refine ⟨T.obj,T.keep,?_,?_,T.self⟩
 ·intro X hP hw hK hc i aa s σ H E I hf st hg;subst hP hw hK;obtain ⟨xs,x,hq,hx⟩:=hg;obtain ⟨its,rv,p,hz⟩:=I.list hq;obtain ⟨u,hu,ru⟩:=rv.get hx;obtain ⟨f0,f1,f2,f3,f4,f5⟩:=hf it (by simp);refine wpAny_pyNext_list_item st p.isList (x:=u) (by simpa using hu) fun h' st' sb=>?_;obtain ⟨o,e,c,d⟩:=id st';exact ⟨u,rfl,Ln (s:={ s with heap:=h' }) e c d (by decide) ⟨x,H,I.turned (t':=s.toks) (fun b o hb e=>(sb.2 b hb).trans e) f0 f1 f3 f4 f5,ru,⟨rfl,fun ys hy=>by rw [I.list_inj hy hq]; exact hx⟩,st',fun b hb=>(hf b hb).1⟩⟩
 ·intro X hP hw hK hc i aa s σ H E I hf st hg;subst hP hw hK;obtain ⟨xs,hq,hx⟩:=hg;obtain ⟨its,rv,p,hz⟩:=I.list hq;have f:=hf it (by simp);have hl:=rv.length;exact OP hc I f st p.isList (by simp; omega) fun h' eb=>⟨rfl,I.turned (t':=s.toks) (fun b o hb e=>eb b o hb e) f.1 f.2.1 f.2.2.2.1 f.2.2.2.2.1 f.2.2.2.2.2⟩
section
variable {iter elt:Expr} {ifs:List Expr} {scope:Scope} {px:Pos} {wi:TI} {tt:TT}
theorem OQ {tg l:Expr} {tl:TE} (hl:PE X l tl):PIg Rdy X tg l (RP X.K tl):=by
 intro aa s σ H R I h;refine thn (hl aa s σ H _ I h) fun v s1 ⟨x,H1,I1,r1,a,e,⟨xs,hq⟩,q⟩=>?_;subst e;cases r1;obtain ⟨its,rv,p,hz⟩:=I1.list hq;refine wpAny_pyIter_list p.isList ⟨s1.heap.objs.size,[s1.heap.objs.size],_,_,H1,rfl,I1.kept (t':=s1.toks) fun b o e=>get?_push_of_some _ e,Kn a _,⟨_,get?_push_size _ rfl,rfl,rfl⟩,fun b hb=>?_,q⟩;obtain rfl:b=s1.heap.objs.size:=by simpa using hb
 exact I1.fpOk (Nat.le_refl _) (I1.hok.fresh (Nat.le_refl _))
theorem Mz (Nc:List Str) (ixc:List (Option Nat)) (hf:HK X.env.scope scope X.N (x :: Nc) (none :: ixc)=true) (hnd:(x :: Nc).Nodup) (hx:scope.names.lookup x=some .local) (hc:Rdy X) (hi:PIg Rdy X (.Name x px) iter wi)
  (ht:∀ cl s H C fp pn,PTs (An X (x :: Nc) scope cl s H C fp pn) ifs tt) (he:∀ cl s H C fp pn,PE (An X (x :: Nc) scope cl s H C fp pn) elt te) (hs:∀ x,foldedSetIterable iter X.env x=pure x:=by intro _; rfl) :
  PE X (.ListComp elt [⟨.Name x px,iter,ifs,0⟩] scope pos) (fun σ H Q=>C4 wi (CM 0) tt te (none :: ixc) (fun ys H'=>∀ p,H' p=none->Q (.ref p) (upd H' p (.lst ys))) σ H) :=
 HN (CompFits.of hf) (fun _ _ _ _ _ _=>hc.comp) hi (fun cl s H C fp pn=>Fw (AZ (i:=0) hnd rfl (.inl (lookup_relabel_local hx)) (.inr (lookup_relabel_local hx)))) ht he hs
end
theorem Ko {p:Addr} {its:List Value} (hc:Rdy X) (I:Inv X aa σ H s) (pl:s.heap.IsList p its.toArray):∃ fp St,Walks X.prog X.w X.A.in1 s.heap.objs.size fp [s.heap.objs.size] its.toArray.size (fun i v=>its.toArray[i]?=some v) St /\
  St 0 (s.heap.push { cls:=.type "list_iterator", data:=.fields #[.ref p,.int 0 0] })/\∀ b ∈ fp,b < s.heap.objs.size + 1:=by
 have hp:p < s.heap.objs.size:=by obtain ⟨o,e,_⟩:=id pl; exact lt_size e
 have st0:(s.heap.push { cls:=.type "list_iterator", data:=.fields #[.ref p,.int 0 0] }).IsListIter s.heap.objs.size p 0/\(s.heap.push { cls:=.type "list_iterator", data:=.fields #[.ref p,.int 0 0] }).IsList p its.toArray :=
  ⟨⟨_,get?_push_size _ rfl,rfl,rfl⟩,pl.at fun o e=>get?_push_of_some _ e⟩
 rcases hc with hc | ⟨e,oe,vs,a,b,c,d⟩
 ·refine ⟨_,_,Walks.list (A:=X.A.in1) (show X.A.in1.handled=none from I.ok.hd hc) _ p (Nat.ne_of_lt hp) its.toArray,st0,fun b hb=>?_⟩;have z:b=s.heap.objs.size\/b=p:=by simpa using hb
  rcases z with rfl | rfl
  ·exact Nat.lt_succ_self _
  ·exact Nat.lt_succ_of_lt hp
 ·have he:=(I.pin (e,oe) (mem_append_left _ b)).1;have hlt:=lt_size he;refine ⟨[s.heap.objs.size,p,e],fun i h=>(h.IsListIter s.heap.objs.size p i/\h.IsList p its.toArray)/\h.get? e=some oe,⟨fun b hb=>by simp at hb; simp [hb],fun i h h' st k=>⟨⟨st.1.1.at fun o z=>k _ (by simp) o z,st.1.2.at fun o z=>k _ (by simp) o z⟩,k e (by simp) oe st.2⟩,?_,?_,fun _ _ _ _ st hQ=>wpAny_pyIter_listiter st.1.1 hQ⟩,⟨st0,get?_push_of_some _ he⟩,fun b hb=>?_⟩
  ·intro i s1 Q E hi st hQ;refine wpAny_pyNext_list_item st.1.1 st.1.2 (x:=its.toArray[i]) (by simp [hi]) fun h' t1 t2=>?_;exact hQ _ h' s1.toks (by simp [hi]) ⟨⟨t1,st.1.2.extBut t2.extBut (Nat.ne_of_lt hp)⟩,t2.extBut e oe (Nat.ne_of_lt hlt) st.2⟩ fun b o hb z=>t2.extBut b o (fun y=>hb (by simp [y])) z
  ·intro s1 Q E st hQ;exact Cm (show X.A.in1.handled=_ from a) st.2 c d (Nat.ne_of_lt hlt) st.1.1 st.1.2 (by simp) fun h' z=>hQ h' s1.toks fun b o hb y=>z b o (fun y'=>hb (by simp [y'])) y
  ·have z:b=s.heap.objs.size\/b=p\/b=e:=by simpa using hb
   rcases z with rfl | rfl | rfl
   ·exact Nat.lt_succ_self _
   ·exact Nat.lt_succ_of_lt hp
   ·exact Nat.lt_succ_of_lt hlt
noncomputable def MB (a p:Addr):HO:=.ext fun h=>h.IsItemsView p a
noncomputable def OR (a p:Addr):HO:=.ext fun h=>h.IsValuesView p a
section
variable {o:Expr} {to:TE} {name:Str} {apos cpos:Pos} {id:String} {r:V->List V->Hp->VK->Prop}
theorem OS (slot:Slot "dict" name id) (hty:typeOf (.builtin id)=pure (.type "method_descriptor")) (hm:MtR X id r) (ho:PE X o to)
  (bj:attributeBase o name X.env (eval o X.env)=eval o X.env:=by rfl) (bo:(apos.endLine == cpos.line)=true:=by rfl) :
  PE X (.Call (.Attribute o name apos) [] [] cpos) (fun σ H Q=>to σ H fun x H1=>∃ a,x=.ref a/\IsD H1 a/\r x [] H1 Q):=by
 intro aa s σ H Q I h;refine wpAny_Call_method0_late bj bo (thn (ho aa s σ H _ I h) fun v s1 ⟨x,H1,I1,r1,a,ex,d,q1⟩=>?_);subst ex;cases r1;obtain ⟨t1,t2,_⟩:=OI I1 d;exact ⟨"dict", id,PySem.F.plainAttrs_dict,slot,hty,t1,t2,Calls.callWith_builtin rfl (PySem.evalArgs_none (hm aa s1 σ H1 (.ref a) [] (.ref a) [] Q I1 rfl .nil q1))⟩
theorem OT:MtR X "dict.items" (fun x xs H Q=>∃ a kvs,x=.ref a/\xs=[]/\Rd H a (.dK kvs)/\∀ p,H p=none->Q (.ref p) (upd H p (MB a p))):=by
 intro aa s σ H x xs v us Q I rx rs h;obtain ⟨a,kvs,rfl,rfl,hd,q⟩:=h;cases rx;cases rs;obtain ⟨z,y,vs,rel,dd⟩:=Cl I.hok hd;refine call_meetsIn PySem.F.slot_dict_items dd.typeIs PySem.F.entry_dict_items (PySem.F.args_dict_items_1 _) (meets_dict_items (AU X.prog X.w) a y) ⟨⟨vs,dd⟩,?_⟩;refine ⟨.ref s.heap.objs.size,_,I.laid (t':=s.toks) (o:=MB a s.heap.objs.size) (fun b o e=>get?_push_of_some _ e) (Nat.le_refl _) ⟨⟨_,get?_push_size _ rfl,rfl,rfl⟩,⟨_,get?_push_size _ rfl⟩,fun h1 h2 z k=>?_⟩,rfl,q _ (I.hok.fresh (Nat.le_refl _))⟩;obtain ⟨ob,e,r⟩:=z;exact ⟨ob,k ob e,r⟩
theorem M0:MtR X "dict.values" (fun x xs H Q=>∃ a kvs,x=.ref a/\xs=[]/\Rd H a (.dK kvs)/\∀ p,H p=none->Q (.ref p) (upd H p (OR a p))):=by
 intro aa s σ H x xs v us Q I rx rs h;obtain ⟨a,kvs,rfl,rfl,hd,q⟩:=h;cases rx;cases rs;obtain ⟨z,y,vs,rel,dd⟩:=Cl I.hok hd;refine call_meetsIn PySem.F.slot_dict_values dd.typeIs PySem.F.entry_dict_values (PySem.F.args_dict_values_1 _) (meets_dict_values (AU X.prog X.w) a y) ⟨⟨vs,dd⟩,?_⟩;refine ⟨.ref s.heap.objs.size,_,I.laid (t':=s.toks) (o:=OR a s.heap.objs.size) (fun b o e=>get?_push_of_some _ e) (Nat.le_refl _) ⟨⟨_,get?_push_size _ rfl,rfl,rfl⟩,⟨_,get?_push_size _ rfl⟩,fun h1 h2 z k=>?_⟩,rfl,q _ (I.hok.fresh (Nat.le_refl _))⟩;obtain ⟨ob,e,r⟩:=z;exact ⟨ob,k ob e,r⟩
theorem Bw {α β:Type} {F:α->β->Prop}:∀ {xs:List α} {ys:List β},xs.length=ys.length->(∀ (j:Nat) x y,xs[j]?=some x->ys[j]?=some y->F x y)->Paired F xs ys
 | [],[],_,_=>.nil
 | [],_ :: _,h,_=>by simp at h
 | _ :: _,[],h,_=>by simp at h
 | x :: xs,y :: ys,h,k=>.cons (k 0 x y rfl rfl) (Bw (by simpa using h) fun j a b ea eb=>k (j + 1) a b (by simpa using ea) (by simpa using eb))
theorem Kp (hc:X.calm=true):BJ X (.type "list") (fun xs H Q=>∃ a kvs,xs=[.ref a]/\Rd H a (.dK kvs)/\∀ l,H l=none->Q (.ref l) (upd H l (.lst (kvs.map fun kv=>kV kv.1)))):=by
 intro aa s σ H xs us Q I r h;obtain ⟨a,kvs,rfl,hd,q⟩:=h;obtain ⟨u,rfl,ru⟩:=Bc r;cases ru;obtain ⟨z,y,vs,rel,dd⟩:=Cl I.hok hd;obtain ⟨ep,da⟩:=dd.dictAt;have hl:=rel.length;refine W.kdl_call (W.kdl_dict (knd:=AU X.prog X.w) (kvs:=vs) (ep:=ep) y) (I.ok.hd hc) da (by rw [← hl]; exact z) fun h' tk acc c' keep e hit=>?_;refine ⟨.ref s.heap.objs.size,_,I.laid (t':=tk) keep (Nat.le_refl _) (show ObjOk X.prog X.w _ h' _ (.lst (kvs.map fun kv=>kV kv.1)) from ⟨by rw [AK]; exact z,acc.toList,c',?_,by rw [Array.toArray_toList]; exact e⟩),rfl,q _ (I.hok.fresh (Nat.le_refl _))⟩
 refine Bw (by have e0:acc.toList.length=acc.size:=by simp
               rw [AK,e0,hit.1,hl]) fun j v w' ev ew=>?_
 rw [Array.getElem?_toList] at ew;obtain ⟨k,x,ex,hk⟩:=hit.2 j w' ew;rw [getElem?_map] at ev;cases e2:kvs[j]? with
 | none=>rw [e2] at ev; cases ev
 | some kv =>
  rw [e2] at ev;simp only [Option.map_some,Option.some.injEq] at ev;obtain ⟨v2,hv2,_⟩:=KV.get rel e2;rw [ex] at hv2;simp only [Option.some.injEq,Prod.mk.injEq] at hv2;rw [← ev,← hv2.1];exact EB hk
theorem Kq (hc:X.calm=true):BJ X (.type "list") (fun xs H Q=>∃ p a kvs,xs=[.ref p]/\H p=some (OR a p)/\Rd H a (.dK kvs)/\∀ l,H l=none->Q (.ref l) (upd H l (.lst (kvs.map (·.2))))):=by
 intro aa s σ H xs us Q I r h;obtain ⟨p,a,kvs,rfl,hp,hd,q⟩:=h;obtain ⟨u,rfl,ru⟩:=Bc r;cases ru;obtain ⟨z,y,vs,rel,dd⟩:=Cl I.hok hd;obtain ⟨ep,da⟩:=dd.dictAt;obtain ⟨hv,_⟩:=I.hok p _ hp;have hl:=rel.length;refine W.kdl_call (W.kdl_values (knd:=AU X.prog X.w) (d:=a) (kvs:=vs) (ep:=ep)) (I.ok.hd hc) ⟨hv,da⟩ (by rw [← hl]; exact z) fun h' tk acc c' keep e hit=>?_;refine ⟨.ref s.heap.objs.size,_,I.laid (t':=tk) keep (Nat.le_refl _) (show ObjOk X.prog X.w _ h' _ (.lst (kvs.map (·.2))) from ⟨by rw [AK]; exact z,acc.toList,c',?_,by rw [Array.toArray_toList]; exact e⟩),rfl,q _ (I.hok.fresh (Nat.le_refl _))⟩
 refine Bw (by have e0:acc.toList.length=acc.size:=by simp
               rw [AK,e0,hit.1,hl]) fun j v w' ev ew=>?_
 rw [Array.getElem?_toList] at ew;obtain ⟨k,ex⟩:=hit.2 j w' ew;rw [getElem?_map] at ev;cases e2:kvs[j]? with
 | none=>rw [e2] at ev; cases ev
 | some kv =>
  rw [e2] at ev;simp only [Option.map_some,Option.some.injEq] at ev;obtain ⟨v2,hv2,rv2⟩:=KV.get rel e2;rw [ex] at hv2;simp only [Option.some.injEq,Prod.mk.injEq] at hv2;rw [← ev,hv2.2];exact rv2
theorem ED (hc:X.calm=true):BJ X (.builtin "sorted") (fun xs H Q=>∃ a kvs,xs=[.ref a]/\Rd H a (.dK kvs)/\kvs.length < 64/\(∀ kv ∈ kvs,∃ i,kv.1=Sum.inl i) /\
  ∀ (l:Addr) (ns:List Int),H l=none->ns.Perm (kvs.map fun kv=>match kv.1 with | Sum.inl i=>i | Sum.inr _=>0)->ns.Pairwise (· <= ·)->Q (.ref l) (upd H l (.lst (ns.map V.int)))):=by
 intro aa s σ H xs us Q I r h;obtain ⟨a,kvs,rfl,hd,h64,hk,q⟩:=h;obtain ⟨u,rfl,ru⟩:=Bc r;cases ru;obtain ⟨z,y,vs,rel,dd⟩:=Cl I.hok hd;obtain ⟨ep,da⟩:=dd.dictAt;have hl:=rel.length;refine Calls.call_function_entry kind_sorted plain_sorted entry_sorted (args_sorted1 _) ?_;unfold Builtin.«sorted»;refine wpAny_bind (m:=checkCount "sorted" 1 1 _) (wpAny_pure ?_);refine wpAny_bind (W.kdu_collect (A:=X.A.in1) (W.kdl_dict (knd:=AU X.prog X.w) (kvs:=vs) (ep:=ep) y) (I.ok.hd hc) da (by rw [← hl]; exact z) fun h' tk acc keep hit=>?_)
 have au:acc.toList.length=kvs.length:=by
  have e0:acc.toList.length=acc.size:=by simp
  rw [e0,hit.1,hl]
 refine wpAny_bind (wpAny_newList ?_ (by rw [au]; exact z))
 have bf:IntsAre acc.toList (kvs.map fun kv=>match kv.1 with | Sum.inl i=>i | Sum.inr _=>0):=by
  refine Bf (Bw (by rw [AK,AK,au]) fun j v w' ev ew=>?_);rw [Array.getElem?_toList] at ew;obtain ⟨k,x,ex,hkk⟩:=hit.2 j w' ew;rw [getElem?_map,getElem?_map] at ev;cases e2:kvs[j]? with
  | none=>rw [e2] at ev; cases ev
  | some kv =>
   rw [e2] at ev;simp only [Option.map_some,Option.some.injEq] at ev;obtain ⟨v2,hv2,_⟩:=KV.get rel e2;rw [ex] at hv2;simp only [Option.some.injEq,Prod.mk.injEq] at hv2;obtain ⟨i,hi⟩:=hk kv (mem_of_getElem? e2);rw [hv2.1,hi] at hkk;rw [← ev,hi];exact EB hkk
 have I1:Inv X aa σ H { s with heap:=h',toks:=tk }:=I.kept keep;have hoL:(h'.push { cls:=.type "list", data:=.seq acc.toList.toArray }).get? h'.objs.size=some (seqObj "list" acc.toList.toArray 0):=get?_push_size _ rfl;refine wpAny_bind (wpAny_holding (wpAny_call_entry slot_list_sort ⟨_,hoL,rfl⟩ entry_list_sort (list_sort_tree hoL bf (by rw [au]; exact h64) fun out ns' a1 a2 a3=>⟨_,rfl,?_⟩) (args_list_sort _)));refine wpAny_pure ⟨_,rfl,?_⟩;have hn:H h'.objs.size=none:=I1.hok.fresh (Nat.le_refl _);have a0:ns'.length=kvs.length:=by rw [a2.length_eq,AK]
 refine ⟨.ref h'.objs.size,_,I1.laid (t':=tk) (o:=.lst (ns'.map V.int)) (h':=sortedHeap (h'.push { cls:=.type "list", data:=.seq acc.toList.toArray }) h'.objs.size acc.toList out) (fun b o e=>?_) (Nat.le_refl _) ⟨by rw [AK,a0]; exact z,out.toList,?_⟩,rfl,q _ ns' hn a2 a3⟩
 ·rw [sortedHeap_old (Nat.ne_of_lt (lt_size e)) (lt_size (get?_push_of_some _ e))];exact get?_push_of_some _ e
 ·obtain ⟨c,hcx⟩:=sortedHeap_at (out:=out) hoL;exact ⟨c,Bu a1,by rw [Array.toArray_toList]; exact hcx⟩
end
section
theorem JM (hc:X.calm=true):BJ X (.builtin "all") (fun xs H Q=>∃ (p:Addr) (bs:List Bool),xs=[.ref p]/\SqL X.K H p (bs.map V.bl)/\Q (.bl (bs.all id)) H):=by
 intro aa s σ H xs us Q I r h;obtain ⟨p,bs,rfl,hq,q⟩:=h;obtain ⟨u,rfl,ru⟩:=Bc r;cases ru;obtain ⟨its,rv,pl,hz⟩:=I.list hq;have hp:p < s.heap.objs.size:=by obtain ⟨o,n,e,_⟩:=id pl; exact lt_size e
 have a0:bs.length=its.length:=by have:=rv.length; rw [AK] at this; exact this
 refine call_all_walk (wpAny_pyIter_list pl.isList ?_);refine ⟨_,_,_,_,_,_,fun i=>bs.getD i false,rfl,Walks.list (A:=X.A.in1) (show X.A.in1.handled=none from I.ok.hd hc) _ p (Nat.ne_of_lt hp) its.toArray,⟨⟨_,get?_push_size _ rfl,rfl,rfl⟩,pl.isList.at fun o e=>get?_push_of_some _ e⟩,fun i v s' Q' E' hP hQ=>?_,fun h' tk keep=>?_⟩
 ·have hv:its[i]?=some v:=by simpa using hP
  have hi:i < its.length:=(List.getElem?_eq_some_iff.mp hv).1;have hb:bs[i]?=some (bs[i]'(by omega)):=List.getElem?_eq_getElem (by omega);obtain ⟨u',hu',ru'⟩:=rv.get (i:=i) (x:=V.bl (bs[i]'(by omega))) (by rw [getElem?_map,hb]; rfl);rw [hv] at hu';cases hu';cases (show v=Value.bool _ from ru');refine wpAny_truthy_bool ?_;have hQ':Q' (bs.getD i false) s':=hQ;rw [getD_eq_getElem?_getD,hb] at hQ';exact hQ'
 ·have I1:Inv X aa σ H { s with heap:=h',toks:=tk }:=I.kept fun b o e=>keep b o (by simp; exact Nat.ne_of_lt (lt_size e)) (get?_push_of_some _ e);refine ⟨.bl _,H,I1,rfl,?_⟩
  have e:(List.range its.toArray.size).all (fun i=>bs.getD i false)=bs.all id:=by
   rw [size_toArray,← a0,Bool.eq_iff_iff,List.all_eq_true,List.all_eq_true];constructor
   ·intro h b hb;obtain ⟨i,hi,rfl⟩:=List.mem_iff_getElem.mp hb;have:=h i (mem_range.mpr hi);rw [getD_eq_getElem?_getD,List.getElem?_eq_getElem hi] at this;exact this
   ·intro h i hi;have hi':=mem_range.mp hi;rw [getD_eq_getElem?_getD,List.getElem?_eq_getElem hi'];exact h _ (getElem_mem hi')
  rw [e];exact q
theorem C5 (ns:List Int):∀ k,k <= ns.length->preSum (fun i=>ns.getD i 0) k=(ns.take k).sum
 | 0,_=>by simp [preSum]
 | k + 1,h=>by
  have ih:=C5 ns k (by omega);have hk:k < ns.length:=by omega
  simp only [preSum,ih];rw [take_add_one,List.getElem?_eq_getElem hk,sum_append];simp [getD_eq_getElem?_getD,List.getElem?_eq_getElem hk]
theorem HQ (hc:Rdy X):BJ X (.builtin "sum") (fun xs H Q=>∃ (p:Addr) (ns:List Int),xs=[.ref p]/\SqL X.K H p (ns.map V.int)/\(∀ n ∈ ns,0 <= n)/\ns.sum < 2 ^ 62/\Q (.int ns.sum) H):=by
 intro aa s σ H xs us Q I r h;obtain ⟨p,ns,rfl,hq,hnn,hsum,q⟩:=h;obtain ⟨u,rfl,ru⟩:=Bc r;cases ru;obtain ⟨its,rv,pl,hz⟩:=I.list hq;have hp:p < s.heap.objs.size:=by obtain ⟨o,n,e,_⟩:=id pl; exact lt_size e
 have a0:ns.length=its.length:=by have:=rv.length; rw [AK] at this; exact this
 have tk0:∀ k,0 <= (ns.take k).sum:=fun k=>by
  have:∀ l:List Int,(∀ n ∈ l,0 <= n)->0 <= l.sum:=fun l=>by
   induction l with
   | nil=>intro _; simp
   | cons a r ih=>intro h; rw [sum_cons]; have:=h a mem_cons_self; have:=ih fun n hn=>h n (mem_cons_of_mem _ hn); omega
  exact this _ fun n hn=>hnn n (List.mem_of_mem_take hn)
 have tkle:∀ k,(ns.take k).sum <= ns.sum:=fun k=>by
  have e:ns.sum=(ns.take k).sum + (ns.drop k).sum:=by rw [← sum_append,List.take_append_drop]
  have:∀ l:List Int,(∀ n ∈ l,0 <= n)->0 <= l.sum:=fun l=>by
   induction l with
   | nil=>intro _; simp
   | cons a r ih=>intro h; rw [sum_cons]; have:=h a mem_cons_self; have:=ih fun n hn=>h n (mem_cons_of_mem _ hn); omega
  have:=this _ fun n hn=>hnn n (List.mem_of_mem_drop (i:=k) hn);omega
 refine call_sum_walk (wpAny_pyIter_list pl.isList ?_);obtain ⟨fp,St,W,st0,hfp⟩:=Ko hc I pl.isList;refine ⟨_,_,_,_,_,_,fun i=>ns.getD i 0,rfl,W,st0,fun b hb=>?_,fun i v hP=>?_,fun j hj=>?_,fun h' tk t' keep=>?_⟩
 ·have hs:(s.heap.push { cls:=.type "list_iterator", data:=.fields #[.ref p,.int 0 0] }).objs.size=s.heap.objs.size + 1:=Heap.size_push ..;show b < (s.heap.push { cls:=.type "list_iterator", data:=.fields #[.ref p,.int 0 0] }).objs.size;rw [hs];exact hfp b hb
 ·have hv:its[i]?=some v:=by simpa using hP
  have hi:i < its.length:=(List.getElem?_eq_some_iff.mp hv).1;have hb:ns[i]?=some (ns[i]'(by omega)):=List.getElem?_eq_getElem (by omega);obtain ⟨u',hu',t,ru'⟩:=rv.get (i:=i) (x:=V.int (ns[i]'(by omega))) (by rw [getElem?_map,hb]; rfl);rw [hv] at hu';cases hu';refine ⟨t,?_⟩;show v=Value.int (ns.getD i 0) t;rw [ru',getD_eq_getElem?_getD,hb];rfl
 ·have hj':j < ns.length:=by rw [size_toArray] at hj; omega
  rw [C5 ns (j + 1) (by omega)];have h1:=tk0 (j + 1);have h2:=tkle (j + 1);have h3:ns.getD j 0=ns[j]:=by rw [getD_eq_getElem?_getD,List.getElem?_eq_getElem hj']; rfl
  have h4:=hnn _ (getElem_mem hj');have h5:(ns.take (j + 1)).sum=(ns.take j).sum + ns[j]:=by rw [take_add_one,List.getElem?_eq_getElem hj',sum_append]; simp
  have h6:=tk0 j;show InLong (ns.getD j 0)/\InLong _;unfold InLong;rw [h3];omega
 ·have I1:Inv X aa σ H { s with heap:=h',toks:=tk }:=I.kept fun b o e=>keep b o (by simp; exact Nat.ne_of_lt (lt_size e)) (get?_push_of_some _ e);refine ⟨.int ns.sum,H,I1,⟨t',?_⟩,q⟩;rw [size_toArray,← a0,C5 ns ns.length (Nat.le_refl _),take_length]
theorem OU (hc:X.calm=true):BJ X (.builtin "sum") (fun xs H Q=>∃ (p:Addr) (ns:List Int),xs=[.ref p]/\SqL X.K H p (ns.map V.int)/\(∀ n ∈ ns,0 <= n)/\ns.sum < 2 ^ 62/\Q (.int ns.sum) H):=HQ (.inl hc)
theorem ID:MtR X "int.bit_length" (fun x xs H Q=>∃ i,x=.int i/\xs=[]/\Q (.int (Builtin.Int.intBits i)) H):=by
 intro aa s σ H x xs v us Q I rx rs h;obtain ⟨i,rfl,rfl,q⟩:=h;obtain ⟨t,rfl⟩:=rx;cases rs;exact call_int_bit_length ⟨.int _,H,I.tok _,⟨_,rfl⟩,q⟩
theorem HR:OpR X (compareOp .LtE) (fun x y H Q=>∃ i j,x=.str i/\y=.str j/\Q (.bl (!decide (j.cps.toList < i.cps.toList))) H):=by
 intro aa s σ H x y v u Q I rx ry h;obtain ⟨i,j,rfl,rfl,q⟩:=h;obtain ⟨t,rfl⟩:=rx;obtain ⟨t',rfl⟩:=ry;exact PySem.P.le_str (Ah I q rfl)
theorem Gy:MtR X "dict.setdefault" (fun x xs H Q=>∃ a kvs k v,x=.ref a/\xs=[kV k,v]/\H a=some (.dK kvs)/\kvs.length < sizeLine /\
  (∀ w,BL kvs k=some w->Q w H)/\(BL kvs k=none->Q v (upd H a (.dK (CH kvs k v))))):=by
 intro aa s σ H x xs u us Q I rx rs h;obtain ⟨a,kvs,k,v,rfl,rfl,hd,hl,q1,q2⟩:=h;cases rx;obtain ⟨uk,uv,rfl,rk,rv⟩:=G9 rs;obtain ⟨z,y,vs,rel,dd⟩:=OG I.hok hd;refine call_meetsIn PySem.F.slot_dict_setdefault dd.typeIs PySem.F.entry_dict_setdefault (PySem.F.args_dict_setdefault_3 _ _ _) (PySem.kt_meets_setdefault (AU X.prog X.w) a (FC rk) y uv) ⟨vs,dd,by rw [← rel.length]; exact z,fun w' hw=>?_,fun hn h' dd' hs=>?_⟩
 ·have rr:=rel.val k;rw [hw] at rr;cases e:BL kvs k with
  | none=>rw [e] at rr; exact False.elim rr
  | some w=>rw [e] at rr; exact ⟨w,H,I.tok _,rr,q1 w e⟩
 ·have rr:=rel.val k;rw [hn] at rr
  have e:BL kvs k=none:=by
   cases e:BL kvs k with
   | none=>rfl
   | some w=>rw [e] at rr; exact False.elim rr
  have he:∃ q,h'.get? a=some q:=let ⟨q,_,_,hq,_⟩:=dd'; ⟨q,hq⟩
  have hl':(CH kvs k v).length <= sizeLine:=by have:=B7 kvs k v; omega
  exact ⟨v,_,D8 I (by rw [hd]; exact True.intro) hs he (Kj hl' y (rel.put k rv) dd'),rv,q2 e⟩
theorem OV:BJ X (.builtin "isinstance") (fun xs H Q=>∃ v T t b,xs=[v,.ty T]/\TyOf X.K H v t/\W.kitOne X.K t (.type T)=some b/\Q (.bl b) H):=by
 intro aa s σ H xs us Q I r h;obtain ⟨v,T,t,b,rfl,ty,hk,q⟩:=h;obtain ⟨u,uT,rfl,ru,ruT⟩:=G9 r;cases (show uT=Value.type T from ruT);exact HC I ru ty hk fun tk=>⟨.bl b,H,I.tok tk,rfl,q⟩
end
noncomputable def JN (d:Int):List Int->Int
 | []=>d
 | n :: r=>r.foldl max n
theorem HS (d:Int) (ns:List Int) (n:Int) (h:ns ≠ []):JN d (ns++[n])=max (JN d ns) n:=by
 cases ns with
 | nil=>exact absurd rfl h
 | cons a r=>show (r++[n]).foldl max a=_; rw [foldl_append]; rfl
theorem M6 (a v:Value):argsOk "max" ⟨[a],[(Str.ofString "default", v)]⟩:=by unfold argsOk; kernel_rfl
section
variable {prog:Program} {R:Result->Shared->Prop} {p I S:Addr} {its:List Value} {ns:List Int} {d:Value}
noncomputable def OW:Option (Int × Tok)->Array Value
 | none=>#[]
 | some (m,t)=>#[.int m t,.int m t]
theorem M7 (hh:A.handled=none) (bf:IntsAre its ns) (hpI:p ≠ I) (hSI:S ≠ I) (hpS:p ≠ S)
  (hR:∀ h' tk v,(∀ b o,b ≠ I->b ≠ S->s.heap.get? b=some o->h'.get? b=some o)->(ns=[]->v=d)->(ns ≠ []->∃ t,v=.int (JN 0 ns) t)->R (.ok (.ret v)) { s with heap:=h',toks:=tk }) :
  ∀ (k i:Nat) (h:Heap) (tk c:Nat) (b:Option (Int × Tok)),its.length - i=k->i <= its.length->h.IsListIter I p i->h.IsList p its.toArray->h.get? S=some { cls:=.type "list", data:=.seq (OW b) c } ->
   (b=none->i=0)->(∀ m t,b=some (m,t)->0 < i/\m=JN 0 (ns.take i))->(∀ b' o,b' ≠ I->b' ≠ S->s.heap.get? b'=some o->h.get? b'=some o) ->
   codeAny (model prog w) A (.builtin "max.loop" ⟨[.ref I,.none,.ref S],[(Str.ofString "default", d)]⟩) R { s with heap:=h,toks:=tk }:=by
 have b8:(toString "max" ++ toString ".loop" : String) = "max.loop" := by decide
 have a0:=bf.length;intro k;induction k with
 | zero =>
  intro i h tk c b hk hi hit hl hS hb0 hb1 keep;have e:i=its.length:=by omega
  refine codeAny_builtin PySem.F.entry_max_loop ?_;rw [Around.under_plainId PySem.F.plain_max_loop _];show wpAny _ A.in1 (seqItems? (.ref S) >>= _) _ _ _;refine wpAny_bind (wpAny_seqItems hS rfl ?_);show wpAny _ A.in1 (tryCatch (pyNext (.ref I)) _ >>= _) _ _ _;refine wpAny_bind (wpAny_tryCatch (wpAny_pyNext_list_end (show A.in1.handled=none from hh) hit hl (by simp; omega) fun h' eb=>?_));cases b with
  | none =>
   have hn:ns=[]:=by
    have:=hb0 rfl;exact List.eq_nil_of_length_eq_zero (by omega)
   exact wpAny_bind (wpAny_rule (wpAny_pure (hR h' tk d (fun b o h1 h2 q=>eb b o h1 (keep b o h1 h2 q)) (fun _=>rfl) fun z=>absurd hn z)))
  | some mt =>
   obtain ⟨m,t⟩:=mt;obtain ⟨hpos,hm⟩:=hb1 m t rfl
   have ax:ns ≠ []:=fun z=>by
    have:its.length=0:=by rw [a0,z]; rfl
    omega
   show wpAny _ A.in1 (updateSeq S (fun _=>#[]) >>= _) _ _ _;refine wpAny_bind (wpAny_updateSeq (eb S _ hSI hS) rfl (wpAny_bind (wpAny_letGo (wpAny_pure ?_))) sl2);refine hR _ tk _ (fun b o h1 h2 q=>(get?_update_other _ _ (Ne.symm h2)).trans (eb b o h1 (keep b o h1 h2 q))) (fun z=>absurd z ax) fun _=>⟨t,?_⟩;rw [hm,e,a0,take_length]
 | succ k ih =>
  intro i h tk c b hk hi hit hl hS hb0 hb1 keep;have hlt:i < its.length:=by omega
  have hv:its[i]?=some its[i]:=List.getElem?_eq_getElem hlt
  obtain ⟨n,t,hn,hvt⟩:∃ n t,ns[i]?=some n/\its[i]=.int n t:=by
   have hi2:i < ns.length:=by omega
   obtain ⟨u,hu,t,ru⟩:=(Bu bf).get (i:=i) (x:=V.int ns[i]) (by rw [getElem?_map,List.getElem?_eq_getElem hi2]; rfl);rw [hv] at hu;exact ⟨ns[i],t,List.getElem?_eq_getElem hi2,(Option.some.inj hu).trans ru⟩
  refine codeAny_builtin PySem.F.entry_max_loop ?_;rw [Around.under_plainId PySem.F.plain_max_loop _];show wpAny _ A.in1 (seqItems? (.ref S) >>= _) _ _ _;refine wpAny_bind (wpAny_seqItems hS rfl ?_);show wpAny _ A.in1 (tryCatch (pyNext (.ref I)) _ >>= _) _ _ _;refine wpAny_bind (wpAny_tryCatch (wpAny_pyNext_list_item hit hl (x:=.int n t) (by simpa [hvt] using hv) fun h' hit' sb=>?_));have hS':h'.get? S=some { cls:=.type "list", data:=.seq (OW b) c }:=(sb.2 S hSI).trans hS;have hl':h'.IsList p its.toArray:=hl.at fun o q=>(sb.2 p hpI).trans q;have keep':∀ b' o,b' ≠ I->b' ≠ S->s.heap.get? b'=some o->h'.get? b'=some o:=fun b' o h1 h2 q=>(sb.2 b' h1).trans (keep b' o h1 h2 q);have etk:ns.take (i + 1)=ns.take i++[n]:=by rw [take_add_one,hn]; rfl
  have store:∀ c0,(∀ v,v=Value.int n t->(h'.update S (Obj.mapSeq fun _=>#[v,v])).get? S=some { cls:=.type "list", data:=.seq (OW (some (n,t))) c0 })->n=JN 0 (ns.take (i + 1)) ->
    codeAny (model prog w) A (.builtin "max.loop" ⟨[.ref I,.none,.ref S],[(Str.ofString "default", d)]⟩) R { s with heap:=h'.update S (Obj.mapSeq fun _=>#[.int n t,.int n t]),toks:=tk }:=fun c0 e0 em =>
   ih (i + 1) _ tk c0 (some (n,t)) (by omega) hlt (hit'.at fun o q=>(get?_update_other _ _ hSI).trans q) (hl'.at fun o q=>(get?_update_other _ _ (Ne.symm hpS)).trans q) (e0 _ rfl) (fun z=>by cases z)
    (fun m t' z=>by cases z; exact ⟨Nat.succ_pos _,em⟩) fun b' o h1 h2 q=>(get?_update_other _ _ (Ne.symm h2)).trans (keep' b' o h1 h2 q)
  cases b with
  | none =>
   have hi0:=hb0 rfl;show wpAny _ A.in1 (updateSeq S (fun _=>#[Value.int n t,Value.int n t]) >>= _) _ _ _;refine wpAny_bind (wpAny_updateSeq hS' rfl ?_);rw [b8];refine wpAny_pure ⟨plainId_quiet PySem.F.plain_max_loop _,store _ (fun v e=>by subst e; exact get?_update_seq hS' fun _=>#[_,_]) ?_⟩;rw [etk,hi0];rfl
  | some mt =>
   obtain ⟨m,t0⟩:=mt;obtain ⟨hpos,hm⟩:=hb1 m t0 rfl
   have ax:ns.take i ≠ []:=fun z=>by
    have:=congrArg List.length z;rw [length_take,length_nil] at this;omega
   show wpAny _ A.in1 (tryCatch (holding [Value.int n t,Value.int n t] (richCompare .Gt (.int n t) (.int m t0) >>= _)) _ >>= _) _ _ _
   refine wpAny_bind (wpAny_tryCatch (wpAny_holding (wpAny_bind (CmpOf.ints_gt (P:=fun i v=>(i=0/\v=.int n t)\/(i=1/\v=.int m t0)) (fun i=>if i=0 then n else m) (fun i v h=>by
    rcases h with ⟨rfl,rfl⟩ | ⟨rfl,rfl⟩
    ·exact ⟨t,rfl⟩
    ·exact ⟨t0,rfl⟩) 0 1 _ _ _ _ _ (.inl ⟨rfl,rfl⟩) (.inr ⟨rfl,rfl⟩) ?_))))
   refine wpAny_bind (wpAny_holding (wpAny_truthy_bool ?_));refine wpAny_bind (wpAny_letGo (wpAny_pure ?_));by_cases hgt:n > m
   ·have e1:(fun (i j:Nat)=>decide ((if i=0 then n else m) > if j=0 then n else m)) 0 1=true:=decide_eq_true hgt;rw [e1];simp only [if_true];refine wpAny_bind (wpAny_updateSeq hS' rfl (wpAny_bind (wpAny_letGo ?_)) sl2);rw [b8];refine wpAny_pure ⟨plainId_quiet PySem.F.plain_max_loop _,store _ (fun v e=>by subst e; exact get?_update_seq hS' fun _=>#[_,_]) ?_⟩;rw [etk,HS 0 _ n ax,← hm];omega
   ·have e1:(fun (i j:Nat)=>decide ((if i=0 then n else m) > if j=0 then n else m)) 0 1=false:=decide_eq_false hgt;rw [e1];simp only [Bool.false_eq_true,if_false];refine wpAny_bind (wpAny_letGo ?_);rw [b8]
    refine wpAny_pure ⟨plainId_quiet PySem.F.plain_max_loop _,ih (i + 1) _ tk c (some (m,t0)) (by omega) hlt hit' hl' hS' (fun z=>by cases z) (fun m' t' z=>by
     cases z;refine ⟨Nat.succ_pos _,?_⟩;rw [etk,HS 0 _ n ax,← hm]
     omega) keep'⟩
end
section
variable {c:Expr} {tc:TE} {p kp:Pos}
theorem MC (hc:X.calm=true) (hg:Gl X "max") (hm:X.mg "max" = none) (he:PE X e te) (hcc:PE X c tc) (hs:starEach [e] X.env=(false,eval e X.env) :: starEach [] X.env:=by rfl)
  (hs2:backTo pos (starEach [e] X.env)=(false,eval e X.env) :: backTo pos (starEach [] X.env):=by rfl) :
  PE X (.Call (.Name "max" p) [e] [⟨some "default", c,kp⟩] pos) (fun σ H Q=>te σ H fun x H1=>tc σ H1 fun y H2=>∃ (a:Addr) (ns:List Int) (d:Int),x=.ref a/\y=.int d/\SqL X.K H2 a (ns.map V.int)/\(ns=[]->Q (.int d) H2)/\(ns ≠ []->Q (.int (JN 0 ns)) H2)):=by
 intro aa s σ H Q I h;refine wpAny_Call_Name_kw (Dc (u:=.builtin "max") I hg hm boot_max ?_)
 let R3:V->V->Hp->Prop:=fun x y H2=>∃ (a:Addr) (ns:List Int) (d:Int),x=.ref a/\y=.int d/\SqL X.K H2 a (ns.map V.int)/\(ns=[]->Q (.int d) H2)/\(ns ≠ []->Q (.int (JN 0 ns)) H2)
 refine callWith_kw (thn ((AA he AC hs:PA X [e] (Al te Cz)) pos aa s σ H (fun vs H1=>match vs with | [x]=>tc σ H1 (fun y H2=>R3 x y H2) | _=>False) I h) fun us s1 ⟨vs,H1,I1,r1,q1⟩=>?_) hs2 (by rw [hs2]; rfl)
 match vs,r1,q1 with
 | [x],r1,q1 =>
  refine thn ((FV (nm:=some "default") (kpos:=kp) hcc Hz:PK X [⟨some "default", c,kp⟩] (Al tc Cz)) pos aa s1 σ H1 (fun vs H2=>match vs with | [y]=>R3 x y H2 | _=>False) I1 q1) fun us2 s2 ⟨vs2,H2,I2,r2,q2⟩=>?_
  match vs2,r2,q2 with
  | [y],r2,q2 =>
   obtain ⟨a,ns,d,rfl,rfl,hq,k1,k2⟩:=q2;obtain ⟨u,rfl,ru⟩:=Bc r1;cases ru;obtain ⟨ud,rfl,td,rud⟩:=Bc r2;subst rud;obtain ⟨its,rv,pl,hz⟩:=I2.list hq;have hp:a < s2.heap.objs.size:=by obtain ⟨o,n,e,_⟩:=id pl; exact lt_size e
   show wpAny _ _ (call (.builtin "max") [.ref a] [(Str.ofString "default", .int d td)]) _ _ _;refine PyProof.Rows.kmk_tree PySem.F.kind_max PySem.F.plain_max PySem.F.entry_max (M6 _ _) ?_;show wpAny _ X.A.in1 (Builtin.Builtins.bindParams "max" ["key", "default"] 0 ⟨[],[(Str.ofString "default", .int d td)]⟩ >>= _) _ _ _;refine wpAny_bind (wpAny_of_eq (show Builtin.Builtins.bindParams "max" ["key", "default"] 0 ⟨[],[(Str.ofString "default", Value.int d td)]⟩=pure [none,some (.int d td)] from rfl) ?_);refine wpAny_bind (wpAny_pure ?_);refine wpAny_bind (wpAny_pyIter_list pl.isList ?_);refine wpAny_bind (wpAny_newList ?_ (Nat.zero_le _));have b8:(toString "max" ++ toString ".loop" : String) = "max.loop" := by decide
   rw [b8];have hS:(s2.heap.push { cls:=.type "list_iterator", data:=.fields #[.ref a,.int 0 0] }).objs.size=s2.heap.objs.size + 1:=Heap.size_push ..
   refine wpAny_pure ⟨plainId_quiet PySem.F.plain_max_loop _,M7 (its:=its) (ns:=ns) (s:=s2) (I.ok.hd hc) (Bf rv) (Nat.ne_of_lt hp) (by rw [hS]; exact Nat.succ_ne_self _) (by rw [hS]; exact Nat.ne_of_lt (Nat.lt_succ_of_lt hp))
    (fun h' tk v keep e1 e2=>?_) _ 0 _ _ 0 none rfl (Nat.zero_le _) ⟨_,get?_push_of_some _ (get?_push_size _ rfl),rfl,rfl⟩ (pl.isList.at fun o q=>get?_push_of_some _ (get?_push_of_some _ q)) (get?_push_size _ rfl) (fun _=>rfl) (fun m t z=>by cases z) fun b o h1 h2 q=>get?_push_of_some _ (get?_push_of_some _ q)⟩
   have I3:Inv X aa σ H2 { s2 with heap:=h',toks:=tk }:=I2.kept fun b o q=>keep b o (Nat.ne_of_lt (lt_size q)) (by rw [hS]; exact Nat.ne_of_lt (Nat.lt_succ_of_lt (lt_size q))) q;by_cases hn:ns=[]
   ·rw [e1 hn];exact ⟨.int d,H2,I3,⟨td,rfl⟩,k1 hn⟩
   ·obtain ⟨t,ev⟩:=e2 hn;rw [ev];exact ⟨.int _,H2,I3,⟨t,rfl⟩,k2 hn⟩
end
def TupsAt (H:Hp):List Addr->List (V × V)->Prop:=Paired fun b p=>H b=some (.tup [p.1,p.2])
theorem TupsAt.same {as:List Addr} {ps:List (V × V)} (s:∀ b o,H b=some o->H' b=some o) (h:TupsAt H as ps):TupsAt H' as ps:=Paired.mapP h fun _ _ e=>s _ _ e
theorem Inv.trackTups {as:List Addr} {ps:List (V × V)} (hr:Paired (fun a (p:V × V)=>∃ its,Vals [p.1,p.2] its/\IsTup s.heap a its.toArray) as ps):∀ (H:Hp),Inv X aa σ H s->as.Pairwise (· < ·) ->
  (∀ a ∈ as,H a=none/\a ≠ X.env.locals/\X.s₀.heap.objs.size <= a/\(∀ x c,X.env.cells.lookup x=some c->c ≠ a)/\∀ q ∈ X.pn++aa,q.1 ≠ a)->∃ H',Inv X aa σ H' s/\Same H H'/\TupsAt H' as ps:=by
 induction hr with
 | nil=>intro H I _ _; exact ⟨H,I,Same.refl H,.nil⟩
 | @cons a p as ps h hr ih =>
  intro H I hp hok;obtain ⟨its,hv,ht⟩:=h;obtain ⟨p1,p2⟩:=List.pairwise_cons.mp hp;obtain ⟨o1,o2,o3,o4,o5⟩:=hok a mem_cons_self;have I1:Inv X aa σ (upd H a (.tup [p.1,p.2])) s:=I.track o1 o2 (.inr o3) o4 o5 ⟨by show 2 <= sizeLine; decide,its,hv,ht⟩;have s1:Same H (upd H a (.tup [p.1,p.2])):=fun b u e=>by rw [AG (AJ e o1)]; exact e
  obtain ⟨H',I',s',t'⟩:=ih _ I1 p2 (fun b hb=>by
   obtain ⟨q1,q2⟩:=hok b (mem_cons_of_mem _ hb)
   exact ⟨by rw [AG (Nat.ne_of_gt (p1 b hb))]; exact q1,q2⟩)
  exact ⟨H',I',s1.trans s',.cons (s' _ _ AB) t'⟩
theorem Kr (hc:X.calm=true):BJ X (.type "list") (fun xs H Q=>∃ p a kvs,xs=[.ref p]/\H p=some (MB a p)/\Rd H a (.dK kvs) /\
  ∀ l as H',Same H H'->H l=none->H' l=some (.lst (as.map V.ref))->TupsAt H' as (kvs.map fun kv=>(kV kv.1,kv.2))->Q (.ref l) H'):=by
 intro aa s σ H xs us Q I r h;obtain ⟨p,a,kvs,rfl,hp,hd,q⟩:=h;obtain ⟨u,rfl,ru⟩:=Bc r;cases ru;obtain ⟨z,y,vs,rel,dd⟩:=Cl I.hok hd;obtain ⟨ep,da⟩:=dd.dictAt;obtain ⟨hv,_⟩:=I.hok p _ hp;have hl:=rel.length;refine W.kdx_call (knd:=AU X.prog X.w) (kvs:=vs) (ep:=ep) (I.ok.hd hc) hv da (by rw [← hl]; exact z) fun h' tk acc c as keep e a0 G bt=>?_;have I1:Inv X aa σ H { s with heap:=h',toks:=tk }:=I.kept keep;obtain ⟨n1,n2,n3,n4,n5⟩:=I.newOk (Nat.le_refl s.heap.objs.size);have el:acc=(as.map Value.ref).toArray:=by rw [← bt]
 have I2:Inv X aa σ (upd H s.heap.objs.size (.lst (as.map V.ref))) { s with heap:=h',toks:=tk }:=I1.track n1 n2 (.inr n3) n4 n5 ⟨by rw [AK,a0,← hl]; exact z,as.map Value.ref,c,Bw (by rw [AK,AK]) fun j v w' ev ew=>by
  rw [getElem?_map] at ev ew;cases e2:as[j]? with
  | none=>rw [e2] at ev; cases ev
  | some b=>rw [e2] at ev ew; cases ev; cases ew; rfl,by rw [← el]; exact e⟩
 have hpp:Paired (fun a (p:V × V)=>∃ its,Vals [p.1,p.2] its/\IsTup h' a its.toArray) as (kvs.map fun kv=>(kV kv.1,kv.2)):=(Bw (by rw [AK,a0,hl]) fun j b pr eb ep'=>by
   obtain ⟨key,k,x,ex,hk,ho⟩:=G.pairs j b eb;rw [getElem?_map] at ep';cases e2:kvs[j]? with
   | none=>rw [e2] at ep'; cases ep'
   | some kv =>
    rw [e2] at ep';simp only [Option.map_some,Option.some.injEq] at ep';obtain ⟨v2,hv2,rv2⟩:=KV.get rel e2;rw [ex] at hv2;simp only [Option.some.injEq,Prod.mk.injEq] at hv2;subst ep';refine ⟨[key,x],.cons ?_ (.cons ?_ .nil),_,ho,rfl,_,rfl⟩
    ·show RelV (kV kv.1) key;rw [← hv2.1]; exact EB hk
    ·show RelV kv.2 x
     rw [hv2.2]; exact rv2)
 obtain ⟨H',I',s',t'⟩:=Inv.trackTups (s:={ s with heap:=h',toks:=tk }) hpp _ I2 G.rise (fun b hb=>by
   have hgt:=G.above b hb;obtain ⟨m1,m2,m3,m4,m5⟩:=I.newOk (Nat.le_of_lt hgt)
   exact ⟨by rw [AG (Nat.ne_of_gt hgt)]; exact m1,m2,m3,m4,m5⟩)
 exact ⟨.ref s.heap.objs.size,H',I',rfl,q _ as H' (fun b u e=>s' b u (by rw [AG (AJ e n1)]; exact e)) n1 (s' _ _ AB) t'⟩
mutual
def Bq (K:FG) (H:Hp):PyData->V->Prop
 | .none,v=>v=.non
 | .bool b,v=>v=.bl b
 | .int i,v=>v=.int i
 | .str x,v=>v=.str x
 | .list ds,v=>∃ a xs,v=.ref a/\SqL K H a xs/\A4 K H ds xs
 | .tuple ds,v=>∃ a xs,v=.ref a/\SqT K H a xs/\A4 K H ds xs
 | .dict _,_=>False
def A4 (K:FG) (H:Hp):List PyData->List V->Prop
 | [],xs=>xs=[]
 | d :: ds,xs=>∃ x r,xs=x :: r/\Bq K H d x/\A4 K H ds r
end
section
mutual
theorem Inv.reads (I:Inv X aa σ H s):∀ (d:PyData) (v:V) (u:Value),RelV v u->Bq X.K H d v->∃ as,Reads s.heap u d as
 | .none,v,u,r,h=>by
  have e:v=.non:=by simpa [Bq] using h
  subst e; cases r; exact ⟨_,.none⟩
 | .bool b,v,u,r,h=>by
  have e:v=.bl b:=by simpa [Bq] using h
  subst e; cases r; exact ⟨_,.bool b⟩
 | .int i,v,u,r,h=>by
  have e:v=.int i:=by simpa [Bq] using h
  subst e; obtain ⟨t,rfl⟩:=r; exact ⟨_,.int i t⟩
 | .str x,v,u,r,h=>by
  have e:v=.str x:=by simpa [Bq] using h
  subst e; obtain ⟨t,rfl⟩:=r; exact ⟨_,.str x t⟩
 | .list ds,v,u,r,h=>by
  rw [Bq] at h;obtain ⟨a,xs,rfl,hq,hd⟩:=h;cases r;obtain ⟨its,rv,⟨o,n,e,c,_,dd⟩,_⟩:=I.list hq;obtain ⟨as,hr⟩:=I.readsAll ds xs its rv hd;exact ⟨_,.list e c dd (by simpa using hr)⟩
 | .tuple ds,v,u,r,h=>by
  rw [Bq] at h;obtain ⟨a,xs,rfl,hq,hd⟩:=h;cases r;obtain ⟨its,rv,⟨o,e,c,n,dd⟩,_⟩:=I.tuple hq;obtain ⟨as,hr⟩:=I.readsAll ds xs its rv hd;exact ⟨_,.tuple e c dd (by simpa using hr)⟩
 | .dict kvs,v,u,r,h=>by
  rw [Bq] at h;exact h.elim
theorem Inv.readsAll (I:Inv X aa σ H s):∀ (ds:List PyData) (xs:List V) (us:List Value),Vals xs us->A4 X.K H ds xs->∃ as,ReadsAll s.heap us ds as
 | [],xs,us,r,h=>by
  have e:xs=[]:=by simpa [A4] using h
  subst e; cases r; exact ⟨_,.nil⟩
 | d :: ds,xs,us,r,h=>by
  rw [A4] at h;obtain ⟨x,xr,rfl,h1,h2⟩:=h;cases r with
  | cons p q =>
   obtain ⟨as,h3⟩:=I.reads d x _ p h1;obtain ⟨bs,h4⟩:=I.readsAll ds xr _ q h2;exact ⟨_,.cons h3 h4⟩
end
end
section
theorem OX (K:FG) (hK:X.K=K) (hu:X.A.units + 64 < cLine):OpR X (compareOp .Eq) (fun x y H Q=>∃ dx dy,Bq K H dx x/\Bq K H dy y/\SeqAt.shaped dx=true/\SeqAt.shaped dy=true/\Q (.bl (PyData.eqv dx dy)) H):=by
 subst hK;intro aa s σ H x y v u Q I rx ry h;obtain ⟨dx,dy,h1,h2,s1,s2,q⟩:=h;obtain ⟨as,r1⟩:=I.reads dx x v rx h1;obtain ⟨bs,r2⟩:=I.reads dy y u ry h2;exact eq_dataH r1 r2 s1 s2 hu ⟨.bl _,H,I,rfl,q⟩
theorem Dg (K:FG) (hK:X.K=K) (hu:X.A.units + 64 < cLine):OpR X (compareOp .NotEq) (fun x y H Q=>∃ dx dy,Bq K H dx x/\Bq K H dy y/\SeqAt.shaped dx=true/\SeqAt.shaped dy=true/\Q (.bl (!PyData.eqv dx dy)) H):=by
 subst hK;intro aa s σ H x y v u Q I rx ry h;obtain ⟨dx,dy,h1,h2,s1,s2,q⟩:=h;obtain ⟨as,r1⟩:=I.reads dx x v rx h1;obtain ⟨bs,r2⟩:=I.reads dy y u ry h2;exact ne_dataH r1 r2 s1 s2 hu ⟨.bl _,H,I,rfl,q⟩
theorem R0 (K:FG) (hK:X.K=K) (hu:X.A.units + 64 < cLine):OpR X (compareOp .Eq) (fun x y H Q=>∃ (a b:Addr) (ns ms:List Int),x=.ref a/\y=.ref b/\SqL K H a (ns.map V.int)/\SqL K H b (ms.map V.int)/\Q (.bl (decide (ns=ms))) H):=by
 subst hK;intro aa s σ H x y v u Q I rx ry h;obtain ⟨a,b,ns,ms,rfl,rfl,h1,h2,q⟩:=h;cases rx;cases ry;obtain ⟨is1,r1,p1,_⟩:=I.list h1;obtain ⟨is2,r2,p2,_⟩:=I.list h2;exact W.ke_eq_ints p1.isList p2.isList (Bf r1) (Bf r2) hu ⟨.bl _,H,I,rfl,q⟩
def R4 (C:Addr) (sp:Sp) (gV:List V->List V->List V) (E:XK) (t tk:TA):TE:=fun σ H Q=>t σ H fun vs H1=>tk σ H1 fun zs H2=>∀ x dx,H2 x=none->H2 dx=none->dx ≠ x ->
 sp (gV (.ref x :: vs) zs) (upd (upd H2 dx (.own x)) x (.ins C dx [])) (fun v H3=>v=.non/\Q (.ref x) H3) E
variable {k:Nat} {fd:FuncData} {ps ks:List Str} {sp:Sp} {p:Pos} {es:List Expr} {kws:List Keyword} {t tk:TA} {g:List Value->List Value->List Value} {gV:List V->List V->List V}
theorem Fz (M:Mk X.K C f) (F:FnOk X.prog X.w X.K X.mg X.base CX0 k f fd ps sp) (hr:Room (k + 1) X.A) (hg:Gl X x) (hm:X.mg x=some (.ref C)) (hb:Ke X.K fd ps ks g gV)
  (ha:PA X (e :: es) t) (hkw:PK X kws tk) (bp:(backToKw pos (keywordEach kws X.env)).all (·.1.isSome)=true:=by rfl) (hks:(backToKw pos (keywordEach kws X.env)).filterMap (·.1)=ks:=by rfl)
  (hdb:(x == ("__debug__" : Str))=false:=by decide) (he:starEach (e :: es) X.env=(false,eval e X.env) :: starEach es X.env:=by rfl)
  (hpl:((backTo pos (starEach (e :: es) X.env)).any (·.1) || (backToKw pos (keywordEach kws X.env)).any (·.1.isNone))=false:=by rfl) :
  PE X (.Call (.Name x p) (e :: es) kws pos) (R4 C sp gV E0 t tk):=by
 intro aa s σ H Q I h;refine wpAny_Call_Name_kw (Bp I hg hm ?_ hdb);refine W.callWith_KW (h₀:=X.base) I.ok.mod.kin M.kp bp (thn (ha pos aa s σ H _ I h) fun us s1 ⟨vs,H1,I1,r,q⟩=>?_) hpl he;refine thn (hkw pos aa s1 σ H1 _ I1 q) fun ws s2 ⟨zs,H2,I2,rz,q2⟩=>⟨I2.kIn,?_⟩;rw [hks];have hq:=q2 (s2.heap.objs.size + 1) s2.heap.objs.size (I2.hok.fresh (Nat.le_succ _)) (I2.hok.fresh (Nat.le_refl _)) (Nat.ne_of_lt (Nat.lt_succ_self _));have I3:=Inv.made (C:=C) I2;have r2:Vals (gV (V.ref (s2.heap.objs.size + 1) :: vs) zs) (g (Value.ref (s2.heap.objs.size + 1) :: us) ws):=hb.rel (.cons rfl r) rz;have hl:(g (Value.ref (s2.heap.objs.size + 1) :: us) ws).length=ps.length:=by rw [← r2.length]; exact F.len _ _ _ _ hq
 refine wpAny_call (JB (f:=f) I2.kIn M.makes M.init (beq_iff_eq.mp M.fn) (codeAny_mono (F.run _ X.stack _ _ ⟨Value.ref (s2.heap.objs.size + 1) :: us,ks.zip ws⟩ _ _ _ E0 (hr.make C us (ks.zip ws)) (I3.env0.make C us (ks.zip ws)) (hb.to _ _ _ I3.kIn hl) r2 hq) fun r' s' hq'=>?_));cases r' with
 | error e=>exact hq'.elim
 | ok fl =>
  cases fl with
  | ret u =>
   obtain ⟨v,H',I4,rv,ev,q3⟩:=I3.after hq';subst ev;exact ⟨rv,⟨V.ref (s2.heap.objs.size + 1),H',I4,rfl,q3⟩⟩
  | next=>exact False.elim hq'
  | brk=>exact False.elim hq'
  | cont=>exact False.elim hq'
def Tw (i j:Int):Prop:=Builtin.Int.intBits i <= 2 ^ 20/\Builtin.Int.intBits j <= 2 ^ 20
theorem IE:OpR X (binaryOp .Mult) (rI Tw fun i j=>.int (i * j)):=opI fun _ _ _ _ _ _ _ hc q=>mul_int q (IntMulOk.of_bits hc.1 hc.2)
def S9 (i j:Int):Prop:=0 < j/\Builtin.divisionGoesByPylong i j=false
theorem OY:OpR X (binaryOp .FloorDiv) (rI S9 fun i j=>.int (i / j)):=opI fun i j _ _ _ _ _ hc q=>by
 have h1:(0:Int) < j:=hc.1;exact floordiv_int (by omega) (by rw [Int.fdiv_eq_ediv_of_nonneg i (by omega)]; exact q) (.inl hc.2)
end
section
variable {prog:Program} {x y:Addr} {ox oy:Obj} {od od':Option Obj}
theorem IF {M:Model} {args:List Value} {Q:Option Value->Shared->Prop} (X:K.In s.heap) (I:W.InstAt s.heap x ox C od) (hs:W.findIn K (.ref C) "__ne__" = some (some (.builtin "object.__ne__")))
  (h:wpAny M A (call (.builtin "object.__ne__") (.ref x :: args)) (fun v=>Q (some v)) E s):wpAny M A (callSpecialIfBound? (.ref x) "__ne__" args) Q E s:=by
 simp only [callSpecialIfBound?,bindSpecialIfBound?];refine wpAny_holding (wpAny_bind (wpAny_bind (wpAny_bind (I.type.here ((W.looks_findIn X hs).here ?_)))));simp only [PySem.F.cmp_object.ne.bind];refine wpAny_bind (wpAny_askSetting (wpAny_ite ?_));have fin:wpAny M A (call (.builtin "object.__ne__") ([.ref x]++args) >>= fun v=>pure (some v)) Q E s:=wpAny_bind (wpAny_mono h (fun v s' h'=>wpAny_pure h') fun _ _ h'=>h');split
 ·exact wpAny_bind (wpAny_pure (wpAny_pure fin))
 ·exact wpAny_tryCatch (wpAny_bind (wpAny_pure (wpAny_pure fin)))
theorem JO {Q:VS} (hu:A.units + 1 < cLine) (X:K.In s.heap) (I:W.InstAt s.heap x ox C od) (hm:W.mroIn K C (.type "object")=some true) (hr:W.findIn K (.ref C) "__eq__" = some (some (.ref f))) (hf:W.isFn K (.ref f)=true)
    (h:wpAny (model prog w) A.in1 (call (.ref f) [.ref x,.ref y]) (fun v s'=>∃ b,v=.bool b/\Q (.bool (!b)) s') E s):wpAny (model prog w) A (call (.builtin "object.__ne__") [.ref x,.ref y]) Q E s:=by
  refine wpAny_call (codeAny_call_builtin PySem.F.cmp_object.ne.plain PySem.F.cmpEntry_ne (W.check_slot (i := "object.__ne__") (owner := "object") (n := "__ne__") (by decide +kernel) (by decide +kernel) (I.type.andThen (W.looks_mroIn X hm)) (PySem.F.cmpArgs_ne _ _) ?_));unfold Builtin.«object.__ne__»
  repeat (first
    | with_reducible refine wpAny_cRoomFor (by show A.in1.units < cLine; exact hu) ?_
    | (refine wpAny_bind (m:=callSpecialIfBound? (.ref x) (Str.ofString "__eq__") [.ref y])
        (W.ifBound_K X I hr hf (wpAny_mono h (fun r s' hr=>by
          obtain ⟨b,rfl,hq⟩:=hr
          repeat (first | exact hq | exact ⟨_,rfl,hq⟩ | exact wpAny_pure ⟨_,rfl,hq⟩ | (refine wpAny_bind (m:=truthy (.bool _)) (wpAny_truthy_bool ?_)) | wp_step)) fun _ _ e=>e)))
    | wp_step)
theorem R5 {Q:VS} (hu:A.units + 1 < cLine) (X:K.In s.heap) (I:W.InstAt s.heap x ox C od) (J:W.InstAt s.heap y oy C od') (hm:W.mroIn K C (.type "object")=some true)
  (hn:W.findIn K (.ref C) "__ne__" = some (some (.builtin "object.__ne__"))) (hr:W.findIn K (.ref C) "__eq__" = some (some (.ref f))) (hf:W.isFn K (.ref f)=true)
  (h:wpAny (model prog w) A.in1 (call (.ref f) [.ref x,.ref y]) (fun v s'=>∃ b,v=.bool b/\Q (.bool (!b)) s') E s):wpAny (model prog w) A (compareOp .NotEq (.ref x) (.ref y)) Q E s:=by
 show wpAny _ _ (richCompare .NotEq (.ref x) (.ref y)) _ _ _
 have one:wpAny (model prog w) A (tryCompare (.ref x) (cmpInfo .NotEq).2.1 (.ref y)) (fun r s'=>∃ v,r=some v/\Q v s') E s:=by
  unfold tryCompare;refine wpAny_bind (IF X I hn (JO hu X I hm hr hf (wpAny_mono h (fun v s' hv=>?_) fun _ _ e=>e)));obtain ⟨b,rfl,hq⟩:=hv;exact ⟨b,rfl,wpAny_pure ⟨_,rfl,hq⟩⟩
 unfold richCompare;simp only [oneThing_ref];refine wpAny_holding (wpAny_bind (wpAny_cRoomFor (Nat.lt_of_succ_lt hu) ?_));refine wpAny_bind (I.type.here (wpAny_bind (J.type.here ?_)));rw [if_neg (by simp)];refine wpAny_bind (wpAny_pure ?_);simp only [Bool.false_eq_true,if_false];refine wpAny_bind (wpAny_mono one (fun r s' z=>?_) fun _ _ e=>e);obtain ⟨v,rfl,hq⟩:=z;exact wpAny_pure hq
end
section
variable {k:Nat} {fd:FuncData} {sp:Sp}
def R6 (sp:Sp) (a b:Addr) (H:Hp) (Q:VK):Prop:=sp [.ref a,.ref b] H (fun v H'=>∃ t:Bool,v=.bl t/\Q (.bl t) H') E0
theorem OZ {b:Addr} {Q:VK} (F:FnOk X.prog X.w X.K X.mg X.base CX0 k f fd ["self", "other"] sp) (hr:Room k A) (hA:Env0 X.prog X.w X.K X.mg X.base A X.stack s H) (hb:Binds X.K fd ["self", "other"] []) (I:Inv X aa σ H s) (h:R6 sp a b H Q) :
  wpAny (model X.prog X.w) A (call (.ref f) [.ref a,.ref b]) (fun v s'=>∃ t:Bool,v=.bool t/\EP X aa σ Q (.bool t) s') E s:=by
 refine wpAny_call (codeAny_mono (F.run A X.stack s H ⟨[.ref a,.ref b],[]⟩ [.ref a,.ref b] [.ref a,.ref b] _ E0 hr hA (hb s [.ref a,.ref b] I.kIn rfl) (.cons rfl (.cons rfl .nil)) h) fun r' s' hq=>?_);cases r' with
 | error e=>exact hq.elim
 | ok fl =>
  cases fl with
  | ret u =>
   obtain ⟨v,H',I',rv,t,ev,q'⟩:=I.after hq;subst ev;cases rv;exact ⟨t,rfl,.bl t,H',I',rfl,q'⟩
  | next=>exact False.elim hq
  | brk=>exact False.elim hq
  | cont=>exact False.elim hq
theorem Oa (F:FnOk X.prog X.w X.K X.mg X.base CX0 k f fd ["self", "other"] sp) (hr:Room k X.A) (hb:Binds X.K fd ["self", "other"] []) (hm:Mp X.K C "__eq__" f) :
  OpR X (compareOp .Eq) (fun x y H Q=>∃ a dx fs b,x=.ref a/\y=.ref b/\H a=some (.ins C dx fs)/\((∃ dy gs,H b=some (.ins C dy gs))\/((∃ xs,SqL X.K H b xs)/\W.subIn X.K (.type "list") (.ref C)=some false))/\R6 sp a b H Q):=by
 intro aa s σ H x y v u Q I rx ry h;obtain ⟨a,dx,fs,b,rfl,rfl,ha,hy,q⟩:=h;cases rx;cases ry;obtain ⟨m,Fm⟩:=I.fr;obtain ⟨mA,om,_⟩:=B5 I.hok ha;obtain ⟨od,ia,_⟩:=om.look;have run:=OZ (E:=X.xe) F hr I.env0 hb I q;have hu:X.A.units < cLine:=Nat.lt_of_le_of_lt (Nat.le_add_right _ 64) hr.units
 have run2:wpAny (model X.prog X.w) X.A (call (.ref f) [.ref a,.ref b]) (W.CmpBack (EP X aa σ Q)) X.xe s:=by
  refine thn run fun v s' hv=>?_;obtain ⟨t,rfl,q⟩:=hv;exact q
 show wpAny _ _ (richCompare .Eq (.ref a) (.ref b)) _ _ _;rcases hy with ⟨dy,gs,hy⟩ | ⟨⟨xs,hy⟩,hn⟩
 ·obtain ⟨mB,ob,_⟩:=B5 I.hok hy;obtain ⟨odb,ib,_⟩:=ob.look;exact W.cmp_K hu Fm I.mod.kin ia ib.type (by simp [W.notFirst]) hm.at_ hm.fn run2
 ·obtain ⟨its,rv,⟨o,n,e,c,dd,_⟩,_⟩:=I.list hy;have T:W.Looks (model X.prog X.w) s.heap (typeOf (.ref b)) (.type "list"):=c ▸ (W.Looks.ld e).andThen .now;exact W.cmp_K hu Fm I.mod.kin ia T (by simp [W.notFirst,hn]) hm.at_ hm.fn run2
theorem JP (F:FnOk X.prog X.w X.K X.mg X.base CX0 k f fd ["self", "other"] sp) (hr:Room (k + 1) X.A) (hb:Binds X.K fd ["self", "other"] []) (hm:Mp X.K C "__eq__" f) (hn:W.findIn X.K (.ref C) "__ne__" = some (some (.builtin "object.__ne__"))) (ho:W.mroIn X.K C (.type "object")=some true) :
  OpR X (compareOp .NotEq) (fun x y H Q=>∃ a dx fs b dy gs,x=.ref a/\y=.ref b/\H a=some (.ins C dx fs)/\H b=some (.ins C dy gs)/\R6 sp a b H (fun v H'=>∃ t:Bool,v=.bl t/\Q (.bl (!t)) H')):=by
 intro aa s σ H x y v u Q I rx ry h;obtain ⟨a,dx,fs,b,dy,gs,rfl,rfl,ha,hy,q⟩:=h;cases rx;cases ry;obtain ⟨mA,om,_⟩:=B5 I.hok ha;obtain ⟨od,ia,_⟩:=om.look;obtain ⟨mB,ob,_⟩:=B5 I.hok hy;obtain ⟨odb,ib,_⟩:=ob.look;have run:=OZ (E:=X.xe) F hr.in1 I.env0.in1 hb I q;have hu:X.A.units + 1 < cLine:=Nat.lt_of_le_of_lt (Nat.add_le_add_left (by decide) _) hr.units;refine R5 hu I.kIn ia ib ho hn hm.at_ hm.fn (thn run fun v s' hv=>?_);obtain ⟨t,rfl,v',H',I',rv,t',e,q⟩:=hv;subst e;cases rv;exact ⟨t,rfl,.bl _,H',I',rfl,q⟩
end
structure F0 (fs:List Addr) (e:Addr) (oe:Obj) (vs:Array Value) (old:Addr->Prop) (h h':Heap):Prop where
 tb:∃ T oT ts,h.objs.size <= T/\h'.get? T=some oT/\oT.data=.fields ts/\ts[3]?=some .none/\h'.get? e=some { oe with data:=.fields (vs.setIfInBounds 1 (.ref T)) }
 keep:∀ b o,h.get? b=some o->b ≠ e->¬ old b->b ∉ fs->h'.get? b=some o
 slot:∀ b o,h.get? b=some o->b ≠ e->¬ old b->b ∈ fs->∃ sl,h'.get? b=some { o with slots:=sl }
 there:∀ b o,h.get? b=some o->∃ o',h'.get? b=some o'
section
variable {M:Model}
theorem Dh {o:Obj} {vs:Array Value} (hd:o.data=.fields vs) (f:Array Value->Array Value):Obj.mapFields f o={ o with data:=.fields (f vs) }:=by
 obtain ⟨c,d,dt,sl⟩:=o;cases hd;rfl
theorem M8 {b:Addr} {f:Obj->Obj} (hf:∀ o,h.get? a=some o->(f o).isFreed=false):∀ o,h.get? b=some o->∃ o',(h.update a f).get? b=some o':=fun o ho=>by
 by_cases q:b=a
 ·subst q;exact ⟨_,get?_update_self f ho (hf o ho)⟩
 ·exact ⟨o,(get?_update_other _ _ (Ne.symm q)).trans ho⟩
theorem MD {env:Env} {outer:List Env} {L e:Addr} {oe:Obj} {vs:Array Value} {head:Value} {hadNext:Bool} {Q:Unit->Shared->Prop}
  (hfr:A.frames=some (env :: outer)) (hl:s.heap.FunFrames base (env :: outer)) (hf:env.frame=some L) (he:s.heap.get? e=some oe) (hd:oe.data=.fields vs) (hsz:1 < vs.size)
  (h:∀ h',F0 (frs (env :: outer)) e oe vs (fun _=>False) s.heap h'->Q () { s with heap:=h' }) :
  wpAny M A (do let a ← frameOf env; let pl ← entryPlaceOf L hadNext; let b ← EntryCells.newEntry head a .none (rawInt L) .none pl; setField (.ref e) 1 b) (fun _ s'=>wpAny M A (setFlight (.ref e) none) Q E s') E s:=by
 have hene:e ∉ frs (env :: outer):=fun hm=>by
  obtain ⟨_,o,ho,hnf⟩:=hl.mem hm;rw [he] at ho;cases ho;exact hnf vs hd
 refine wpAny_bind (wpAny_frameOf_fun hfr hl hf fun h1 x1=>wpAny_bind (wpAny_entryPlaceOf fun pl hpl=>?_));unfold EntryCells.newEntry newFields;refine wpAny_bind (wpAny_newObj_type ?_ (hpl.sizeOk5 _ _ _ _ _));generalize hpg:([head,Value.ref L,.none,rawInt L,.none]++(if pl.isEmpty then List.replicate 6 Value.none else pl)).toArray=pg;have hp3:3 < pg.size:=by rw [← hpg]; simp only [size_toArray,length_append,length_cons,length_nil]; omega
 have e1:h1.get? e=some oe:=(x1.2.1 e hene).trans he;have e2:=get?_push_of_some (h:=h1) ⟨.type "traceback", none,.fields pg,#[]⟩ e1;refine wpAny_setField e2 hd hsz ?_;have ne:h1.objs.size ≠ e:=Nat.ne_of_gt (lt_size e1);have d3:=Obj.data_mapFields hd (·.setIfInBounds 1 (Value.ref h1.objs.size));have e3:=get?_update_self (Obj.mapFields (·.setIfInBounds 1 (Value.ref h1.objs.size))) e2 (Obj.isFreed_of_fields d3);have t3:=(get?_update_other (h1.push ⟨.type "traceback", none,.fields pg,#[]⟩) (Obj.mapFields (·.setIfInBounds 1 (Value.ref h1.objs.size))) (Ne.symm ne)).trans (get?_push_size h1 rfl);unfold setFlight;refine wpAny_bind (wpAny_field e3 d3 (x:=.ref h1.objs.size) (by simp [hsz]) ?_);rw [if_pos (show (Value.ref h1.objs.size != Value.none)=true from by simp)];refine wpAny_setField t3 rfl hp3 (h _ ?_)
 have other:∀ b o,b ≠ e->h1.get? b=some o->∀ (g:Obj->Obj),(((h1.push ⟨.type "traceback", none,.fields pg,#[]⟩).update e (Obj.mapFields (·.setIfInBounds 1 (Value.ref h1.objs.size)))).update h1.objs.size g).get? b=some o:=fun b o hb hlt g=>by
  rw [get?_update_other _ _ (Nat.ne_of_gt (lt_size hlt)),get?_update_other _ _ (Ne.symm hb)];exact get?_push_of_some _ hlt
 refine ⟨⟨h1.objs.size,_,_,Nat.le_of_eq x1.1.symm,get?_update_self _ t3 (Obj.isFreed_of_fields (Obj.data_mapFields rfl _)),Obj.data_mapFields rfl _,by simp [hp3],?_⟩,fun b o hb n1 _ n3=>?_,fun b o hb n1 _ n3=>?_,fun b o hb=>?_⟩
 ·rw [get?_update_other _ _ ne,e3,Dh hd]
 ·have hb1:h1.get? b=some o:=(x1.2.1 b n3).trans hb;exact other b o n1 hb1 _
 ·obtain ⟨sl,hs⟩:=x1.2.2 b o hb;exact ⟨sl,other b _ n1 hs _⟩
 ·obtain ⟨sl,hs⟩:=x1.2.2 b o hb;by_cases q:b=e
  ·subst q;exact ⟨_,(get?_update_other _ _ ne).trans e3⟩
  ·exact ⟨_,other b _ q hs _⟩
theorem JQ {env:Env} {outer:List Env} {L e:Addr} {oe:Obj} {vs:Array Value} {Q:Unit->Shared->Prop}
  (hfr:A.frames=some (env :: outer)) (hl:s.heap.FunFrames base (env :: outer)) (hf:env.frame=some L) (he:s.heap.get? e=some oe) (hd:oe.data=.fields vs) (h1:vs[1]?=some .none)
  (h:∀ h',F0 (frs (env :: outer)) e oe vs (fun _=>False) s.heap h'->Q () { s with heap:=h' }):wpAny M A (leaving env (.ref e)) Q E s:=by
 unfold leaving noteFrame;simp only [hf];refine wpAny_bind (wpAny_bind (wpAny_field he hd h1 ?_));rw [if_neg (by decide)];exact MD hfr hl hf he hd (Array.getElem?_eq_some_iff.mp h1).1 h
theorem HU {env:Env} {outer:List Env} {L e T:Addr} {oe oT:Obj} {vs ts:Array Value} {Q:Unit->Shared->Prop}
  (hfr:A.frames=some (env :: outer)) (hl:s.heap.FunFrames base (env :: outer)) (hf:env.frame=some L) (he:s.heap.get? e=some oe) (hd:oe.data=.fields vs) (h1:vs[1]?=some (.ref T)) (hTe:T ≠ e)
  (hT:s.heap.get? T=some oT) (hdT:oT.data=.fields ts) (h3:ts[3]?=some .none)
  (h:∀ h',F0 (frs (env :: outer)) e oe vs (·=T) s.heap h'->Q () { s with heap:=h' }):wpAny M A (noteFrame (.ref e) env) (fun _ s2=>wpAny M A (setFlight (.ref e) none) Q E s2) E s:=by
 unfold noteFrame;simp only [hf];refine wpAny_bind (wpAny_field he hd h1 ?_);rw [if_pos (show (Value.ref T != Value.none)=true from by simp)];refine wpAny_bind (wpAny_field hT hdT h3 ?_);rw [if_neg (show ¬ ((Value.none == rawInt L)=true) from by simp [rawInt])];refine wpAny_bind (wpAny_setField hT hdT (Array.getElem?_eq_some_iff.mp h3).1 ?_);have far:∀ b,b ≠ T->(s.heap.update T (Obj.mapFields (·.setIfInBounds 3 Value.none))).get? b=s.heap.get? b:=fun b hb=>get?_update_other _ _ (Ne.symm hb)
 have nr:∀ b o,s.heap.get? b=some o->(∀ vs,o.data ≠ .fields vs)->b ≠ T:=fun b o hb hn q=>by
  subst q;rw [hT] at hb;cases hb;exact hn ts hdT
 refine MD (hfr:=hfr) (hl.of_keeps fun b o hb hn=>⟨o,(far b (nr b o hb hn)).trans hb,rfl⟩) hf ((far e (Ne.symm hTe)).trans he) hd (Array.getElem?_eq_some_iff.mp h1).1 fun h' x=>h h' ?_
 have fr:∀ o,s.heap.get? T=some o->(Obj.mapFields (·.setIfInBounds 3 Value.none) o).isFreed=false:=fun o ho=>by
  rw [hT] at ho;cases ho;exact Obj.isFreed_of_fields (Obj.data_mapFields hdT _)
 obtain ⟨T',oT',ts',a1,a2⟩:=x.tb;refine ⟨⟨T',oT',ts',by rw [Heap.size_update] at a1; exact a1,a2⟩,fun b o hb n1 n2 n3=>x.keep b o ((far b n2).trans hb) n1 (fun z=>z) n3,fun b o hb n1 n2 n3=>x.slot b o ((far b n2).trans hb) n1 (fun z=>z) n3,fun b o hb=>?_⟩;obtain ⟨o',ho'⟩:=M8 fr o hb;exact x.there b o' ho'
theorem Ks {env:Env} {outer:List Env} {L e T:Addr} {oe oT:Obj} {vs ts:Array Value} {Q:Unit->Shared->Prop}
  (hfr:A.frames=some (env :: outer)) (hl:s.heap.FunFrames base (env :: outer)) (hf:env.frame=some L) (he:s.heap.get? e=some oe) (hd:oe.data=.fields vs) (h1:vs[1]?=some (.ref T)) (hTe:T ≠ e)
  (hT:s.heap.get? T=some oT) (hdT:oT.data=.fields ts) (h3:ts[3]?=some .none)
  (h:∀ h',F0 (frs (env :: outer)) e oe vs (·=T) s.heap h'->Q () { s with heap:=h' }):wpAny M A (leaving env (.ref e)) Q E s:=by
 unfold leaving;exact wpAny_bind (HU hfr hl hf he hd h1 hTe hT hdT h3 h)
end
noncomputable def FP (e C:Addr) (dx:Option Addr):HO:=.ext fun h=>∃ oe vs,h.get? e=some oe/\oe.cls=.ref C/\oe.dict=dx/\oe.data=.fields vs/\5 < vs.size/\vs[2]?=some .none
structure Ob (P:Program) (w:World) (l:List Env) (H:Hp) (s:Shared) (e C:Addr) (dx:Option Addr) (H':Hp) (s':Shared):Prop where
 os:s'.os=s.os
 bare:AllBare s'.gens
 un:Un (frs l) [] H H' s.heap s'.heap
 hok:HOk P w H' s'.heap
 at_:H' e=some (FP e C dx)
def Tb0 (e:Addr) (s':Shared):Prop:=∃ oe vs,s'.heap.get? e=some oe/\oe.data=.fields vs/\vs[1]?=some .none
def Tb1 (e:Addr) (H':Hp) (s s':Shared) (fl:Value):Prop:=∃ oe vs T oT ts,s'.heap.get? e=some oe/\oe.data=.fields vs/\vs[1]?=some (.ref T)/\T ≠ e/\s'.heap.get? T=some oT/\oT.data=.fields ts/\ts[3]?=some fl/\H' T=none/\s.heap.get? T=none
def Fly (P:Program) (w:World) (l:List Env) (H:Hp) (s:Shared) (e C:Addr) (dx:Option Addr) (H':Hp) (s':Shared):Prop:=Ob P w l H s e C dx H' s'/\Tb1 e H' s s' .none
def CXr (P:Program) (w:World):CXT:=fun outer H s E e s'=>∃ ea C dx H',e=.ref ea/\Fly P w outer H s ea C dx H' s'/\E (.ref C) dx H'
theorem ME {base h h':Heap} {fs:List Addr} {H H':Hp} (u:Un fs [] H H' h h'):∀ {l:List Env},(∀ b ∈ frs l,b ∈ fs)->(∀ b ∈ frs l,H b=none)->h.FunFrames base l->h'.FunFrames base l
 | [],_,_,_=>trivial
 | env :: r,hs,hn,⟨hk,⟨L,o,hf,hb,ho,hd⟩,hr⟩=>by
  have hL:L ∈ frs (env :: r):=by unfold frs; rw [filterMap_cons,hf]; exact mem_cons_self
  have sub:∀ b ∈ frs r,b ∈ frs (env :: r):=fun b z=>by unfold frs; rw [filterMap_cons,hf]; exact mem_cons_of_mem _ z
  obtain ⟨sl,e⟩:=u.slot L o ho (hn L hL) (hs L hL) (by simp);exact ⟨hk,⟨L,_,hf,hb,e,hd⟩,ME u (fun b z=>hs b (sub b z)) (fun b z=>hn b (sub b z)) hr⟩
section
variable {H1 H2:Hp} {s1 s2:Shared} {e:Addr} {dx:Option Addr}
structure Kt (X:Cx):Prop where
 stk:X.stack=X.env :: X.outer
 fr:X.env.frame=some X.env.locals
 ex:X.ex=[]
theorem JR {fs:List Addr} {oe:Obj} {vs:Array Value} {old:Addr->Prop} {h':Heap} (ok:HOk P w H2 h) (L:F0 fs e oe vs old h h') (hf:∀ b ∈ fs,H2 b=none) (ho:∀ b,old b->H2 b=none)
  (he:h.get? e=some oe) (hd:oe.data=.fields vs) (at_:H2 e=some (FP e C dx)):HOk P w H2 h':=fun b u q=>by
 have kp:∀ c v,c ≠ e->(∃ z,H2 c=some z)->h.get? c=some v->h'.get? c=some v:=fun c v n ⟨z,hz⟩ hv=>L.keep c v hv n (fun y=>by rw [ho c y] at hz; cases hz) fun y=>by rw [hf c y] at hz; cases hz
 by_cases hb:b=e
 ·subst hb;rw [at_] at q;cases q;obtain ⟨⟨oe',vs',a1,a2,a3,a4,a5,a6⟩,_,st⟩:=ok _ _ at_;rw [he] at a1;cases a1;rw [hd] at a4;cases a4;obtain ⟨T,oT,ts,b1,b2,b3,b4,b5⟩:=L.tb;exact ⟨⟨_,_,b5,a2,a3,rfl,by rw [Array.size_setIfInBounds]; exact a5,by rw [Array.getElem?_setIfInBounds_ne (by decide)]; exact a6⟩,⟨_,b5⟩,st⟩
 ·refine (ok b u q).stay (fun c v hc r=>?_) (fun _ z=>z) fun _ _ z=>z;rcases hc with rfl | hc
  ·exact kp c v hb ⟨u,q⟩ r
  ·refine kp c v (fun z=>?_) ⟨_,hc⟩ r;subst z;rw [at_] at hc;cases hc
theorem JS {oe:Obj} {vs:Array Value} {old:Addr->Prop} {h':Heap} (O:Kt X) (I:Inv X aa σ H1 s1) (F:Ob X.prog X.w X.stack H1 s1 e C dx H2 s2) (he:s2.heap.get? e=some oe) (hd:oe.data=.fields vs) (h1:1 < vs.size)
  (hold:∀ b,old b->H2 b=none/\s1.heap.get? b=none) (L:F0 (frs X.stack) e oe vs old s2.heap h'):Fly X.prog X.w X.outer X.H₀ X.s₀ e C dx H2 { s2 with heap:=h' }:=by
 have b0:Un (frs X.outer) [] X.H₀ H1 X.s₀.heap s1.heap:=by have:=I.base; rw [O.ex] at this; exact this
 have free2:∀ b ∈ frs X.stack,H2 b=none:=fun b hb=>by
  obtain ⟨_,o,ho,_⟩:=I.stack.mem hb;exact F.un.free b o ho (I.stkFree b hb) (by simp)
 have ne:∀ b,H2 b=none->b ≠ e:=fun b n z=>by subst z; rw [F.at_] at n; cases n
 have out:∀ b o,X.s₀.heap.get? b=some o->b ∉ frs X.outer->b ∉ frs X.stack:=fun b o hb hn z=>by
  rw [O.stk] at z;unfold frs at z;rw [filterMap_cons,O.fr] at z;rcases mem_cons.mp z with z | z
  ·exact absurd (Nat.lt_of_lt_of_le (lt_size hb) I.ok.above) (by rw [z]; exact Nat.lt_irrefl _)
  ·exact hn z
 have up:∀ b,b ∈ frs X.outer->b ∈ frs X.stack:=fun b hb=>by
  rw [O.stk];unfold frs;rw [filterMap_cons,O.fr];exact mem_cons_of_mem _ hb
 have nold:∀ b o,X.s₀.heap.get? b=some o->¬ old b:=fun b o hb z=>by
  obtain ⟨o',ho'⟩:=b0.there b o hb (by simp);rw [(hold b z).2] at ho';cases ho'
 have und:Un (frs X.outer) [] X.H₀ H2 X.s₀.heap h':=by
  refine ⟨fun b o q n hb _=>?_,fun b o q n hb _=>?_,fun b o q n _=>?_,fun b o q _=>?_,fun b xs q=>F.un.tups b xs (b0.tups b xs q),fun b o xs q=>F.un.frzs b o xs (b0.frzs b o xs q),fun b ps q=>?_⟩
  ·have q1:=b0.keep b o q n hb (by simp);have n1:=b0.free b o q n (by simp);have q2:=F.un.keep b o q1 n1 (out b o q hb) (by simp);exact L.keep b o q2 (ne b (F.un.free b o q1 n1 (by simp))) (nold b o q) (out b o q hb)
  ·obtain ⟨sl,q1⟩:=b0.slot b o q n hb (by simp);have n1:=b0.free b o q n (by simp);obtain ⟨sl2,q2⟩:=F.un.slot b _ q1 n1 (up b hb) (by simp);obtain ⟨sl3,q3⟩:=L.slot b _ q2 (ne b (F.un.free b _ q1 n1 (by simp))) (nold b o q) (up b hb);exact ⟨sl3,q3⟩
  ·obtain ⟨o1,q1⟩:=b0.there b o q (by simp);exact F.un.free b o1 q1 (b0.free b o q n (by simp)) (by simp)
  ·obtain ⟨o1,q1⟩:=b0.there b o q (by simp);obtain ⟨o2,q2⟩:=F.un.there b o1 q1 (by simp);exact L.there b o2 q2
  ·obtain ⟨m1,e1⟩:=b0.tbls b ps q;obtain ⟨m2,e2⟩:=F.un.tbls b _ e1;exact ⟨m1++m2,by rw [e2,Array.append_assoc]⟩
 refine ⟨⟨F.os.trans I.os,F.bare,und,JR F.hok L free2 (fun b z=>(hold b z).1) he hd F.at_,F.at_⟩,?_⟩;obtain ⟨T,oT,ts,b1,b2,b3,b4,b5⟩:=L.tb;have hT:s2.heap.get? T=none:=Heap.get?_none_of_le b1;refine ⟨_,_,T,oT,ts,b5,rfl,by simp [h1],fun z=>?_,b2,b3,b4,F.hok.fresh b1,?_⟩
 ·subst z;rw [he] at hT;cases hT
 ·cases q:X.s₀.heap.get? T with
  | none=>rfl
  | some o =>
   obtain ⟨o1,q1⟩:=b0.there T o q (by simp);obtain ⟨o2,q2⟩:=F.un.there T o1 q1 (by simp);rw [hT] at q2;cases q2
theorem Di (I:Inv X aa σ H1 s1) (F:Ob X.prog X.w X.stack H1 s1 e C dx H2 s2):s2.heap.FunFrames X.base X.stack:=ME F.un (fun _ z=>z) I.stkFree I.stack
theorem F1 {E':VS} (O:Kt X) (I:Inv X aa σ H1 s1) (F:Fly X.prog X.w X.stack H1 s1 e C dx H2 s2) :
  wpAny (model X.prog X.w) X.A (leaving X.env (.ref e)) (fun _ s3=>Fly X.prog X.w X.outer X.H₀ X.s₀ e C dx H2 s3) E' s2:=by
 obtain ⟨B,oe,vs,T,oT,ts,a1,a2,a3,a4,a5,a6,a7,a8,a9⟩:=F;have fr:=Di I B;have hA:=I.ok.frames;rw [O.stk] at fr hA;refine Ks hA fr O.fr a1 a2 a3 a4 a5 a6 a7 fun h' L=>?_;rw [← O.stk] at L;exact JS O I B a1 a2 (Array.getElem?_eq_some_iff.mp a3).1 (fun b z=>by subst z; exact ⟨a8,a9⟩) L
theorem Ku {E':VS} (O:Kt X) (I:Inv X aa σ H1 s1) (B:Ob X.prog X.w X.stack H1 s1 e C dx H2 s2) (T:Tb0 e s2) :
  wpAny (model X.prog X.w) X.A (leaving X.env (.ref e)) (fun _ s3=>Fly X.prog X.w X.outer X.H₀ X.s₀ e C dx H2 s3) E' s2:=by
 obtain ⟨oe,vs,a1,a2,a3⟩:=T;have fr:=Di I B;have hA:=I.ok.frames;rw [O.stk] at fr hA;refine JQ hA fr O.fr a1 a2 a3 fun h' L=>?_;rw [← O.stk] at L;exact JS O I B a1 a2 (Array.getElem?_eq_some_iff.mp a3).1 (fun b z=>z.elim) L
end
theorem R7 {CX:CXT} {qual:Str} {scope:Scope} {cd:Value} {outer:List Env} {E:XK} :
  Kt (A8 CX P w K mg base N qual scope f cd A outer s H E):=⟨rfl,rfl,rfl⟩
theorem JT {qual:Str} {scope:Scope} {cd:Value} {outer:List Env} {E:XK} :
  BQ (CXr P w) (A8 (CXr P w) P w K mg base N qual scope f cd A outer s H E) E:=by
 rintro aa σ H1 s1 e s2 I ⟨ea,C,dx,H2,rfl,F,q⟩;exact wpAny_mono (F1 (X:=A8 (CXr P w) P w K mg base N qual scope f cd A outer s H E) R7 I F) (fun _ s3 G=>⟨ea,C,dx,H2,rfl,G,q⟩) fun _ _ z=>z
def Oc (X:Cx) (E:XK):Prop:=∀ (aa:LO) (σ:St) (H:Hp) (s:Shared) (e C:Addr) (dx:Option Addr) (H':Hp) (s':Shared),Inv X aa σ H s->Ob X.prog X.w X.stack H s e C dx H' s'->Tb0 e s'->E (.ref C) dx H'->X.xe (.ref e) s'
theorem QQ {qual:Str} {scope:Scope} {cd:Value} {outer:List Env} {E:XK} :
  Oc (A8 (CXr P w) P w K mg base N qual scope f cd A outer s H E) E:=by
 intro aa σ H1 s1 ea C dx H2 s2 I F T q;exact wpAny_mono (Ku (X:=A8 (CXr P w) P w K mg base N qual scope f cd A outer s H E) R7 I F T) (fun _ s3 G=>⟨ea,C,dx,H2,rfl,G,q⟩) fun _ _ z=>z
structure JU (B:String) (bm:List Value):Prop where
 b:bm.contains (.type B)=true
 base:bm.contains (.type "BaseException")=true
 na:bm.contains (.type "AttributeError")=false
 nn:bm.contains (.type "NameError")=false
section
variable {M:Model} {g:Array GenState} {d:Drawn} {t:Nat} {os:OsState}
variable {nm qn:Str} {N:Addr} {bs bm bmB:List Value} {ba:Bool} {sn:List Str} {sub:List Value} {ab:Bool} {col:Option Bool} {dd:Option Addr} {k0 k1 k2 k3 k5:Option Value} {B newId initId:String}
theorem Kv (F:ExcBaseFacts B newId initId bmB) (T:JU B bm) {rest:List Value} {Q:Unit->Shared->Prop} (oC:h.get? C=some (excClassObj nm qn C N bs bm ba sn sub ab col dd k0 k1 k2 k3 k5 newId))
  (fin:Q () ⟨h,g,d,t,os⟩):wpAny M A (checkBuiltinCall newId ⟨.ref C :: rest,[]⟩) Q E ⟨h,g,d,t,os⟩:=by
 have c1:(Value.ref C :: bm).contains (.type B)=true:=by rw [contains_cons,T.b]; simp
 have st:=F.noStar;simp only [checkBuiltinCall,F.newKind,F.newSplit,F.newRow]
 repeat (first | refine wpAny_loadPart_at oC ?_ | (refine wpAny_isSubtype_exc oC ?_; rw [c1]) | refine wpAny_staticBase_exc oC ?_ | refine wpAny_madeBy_exc oC ?_ | simp only [bne_self_eq_false,Bool.false_eq_true,if_false] | wp_step)
 exact fin
end
section
variable {prog:Program} {R:Result->Shared->Prop} {g:Array GenState} {d:Drawn} {t:Nat} {os:OsState}
variable {nm qn:Str} {N:Addr} {bs bm bmB:List Value} {ba:Bool} {sn:List Str} {sub:List Value} {ab:Bool} {col:Option Bool} {dd:Option Addr} {k0 k1 k2 k3 k5:Option Value} {B newId initId:String}
noncomputable abbrev Kw (C:Addr) (h:Heap):Obj:={ cls:=.ref C,data:=.fields #[.ref h.objs.size,.none,.none,.none,.bool false,.none] }
noncomputable abbrev C6 (C:Addr) (rest:List Value) (h:Heap):Heap:=(h.push { cls:=.type "tuple", data:=.seq rest.toArray }).push (Kw C h)
theorem Od (F:ExcBaseFacts B newId initId bmB) (T:JU B bm) {rest:List Value} (oC:h.get? C=some (excClassObj nm qn C N bs bm ba sn sub ab col dd k0 k1 k2 k3 k5 newId))
  (fin:R (.ok (.ret (.ref (h.objs.size + 1)))) ⟨C6 C rest h,g,d,t,os⟩) (hz:rest.length <= sizeLine):codeAny (model prog w) A (.builtin newId ⟨.ref C :: rest,[]⟩) R ⟨h,g,d,t,os⟩:=by
 have e1:=F.ends;have c1:(Value.ref C :: bm).contains (.type B)=true:=by rw [contains_cons,T.b]; simp
 have c2:(Value.ref C :: bm).contains (.type "AttributeError")=false:=by rw [contains_cons,T.na]; rfl
 have c3:(Value.ref C :: bm).contains (.type "NameError")=false:=by rw [contains_cons,T.nn]; rfl
 refine codeAny_builtinAt F.entry ?_;unfold Builtin.«BaseException.__new__»;refine PySem.wpAt_bind ?_;show PySem.wpAt _ _ _ (stack >>= _) _ _ _;refine PySem.wpAt_bind (PySem.wpAt_stack fun p below=>PySem.wpAt_of_wpAny ?_)
 wp_walk
 refine PySem.wpAt_of_wpAny ?_;rw [F.owner]
 repeat (first | with_reducible refine wpAny_madeHere_exc F.canon oC ?_ | with_reducible refine wpAny_loadPart_at oC ?_ | (with_reducible refine wpAny_isSubtype_exc oC ?_; first | rw [c1] | rw [c2] | rw [c3]) | wp_step)
 show R _ _;rw [Heap.size_push];exact fin
theorem Kx (F:ExcBaseFacts B newId initId bmB) (T:JU B bm) {rest:List Value} {fI:Addr} {oI:Obj} {Q:Fin->Shared->Prop}
  (oC:h.get? C=some (excClassObj nm qn C N bs bm ba sn sub ab col dd k0 k1 k2 k3 k5 newId)) (li:W.Looks (model prog w) h (typeLookup (.ref C) "__init__") (some (.ref fI))) (oF:h.get? fI=some oI) (cF:oI.cls=.type "function") (hz:rest.length <= sizeLine)
  (fin:wpAny (model prog w) A (call (.ref fI) (.ref (h.objs.size + 1) :: rest)) (fun r s'=>r=.none/\Q (.done (.ret (.ref (h.objs.size + 1)))) s') E ⟨C6 C rest h,g,d,t,os⟩) :
  wpAny (model prog w) A (Builtin.«type.__call__» ⟨.ref C :: rest,[]⟩) Q E ⟨h,g,d,t,os⟩:=by
 repeat (first | with_reducible refine wpAny_loadPart_at oC ?_ | with_reducible refine wpAny_madeBy_exc oC ?_ | wp_step)
 refine codeAny_call_builtin_code (Code.quiet_builtin _ F.quiet) (Kv F T oC (Od F T oC ?_ hz));show wpAny _ _ _ _ _ _;have kp:∀ b o,h.get? b=some o->(C6 C rest h).get? b=some o:=fun b o z=>get?_push_of_some _ (get?_push_of_some _ z);have oC1:=kp _ _ oC;have ge:(C6 C rest h).get? (h.objs.size + 1)=some (Kw C h):=by unfold C6; heap_get
 have c1:(Value.ref C :: bm).contains (.ref C)=true:=by simp
 unfold isInstance
 repeat (first | with_reducible refine wpAny_loadPart_at ge ?_ | (with_reducible refine wpAny_isSubtype_exc oC1 ?_; rw [c1]) | wp_step)
 refine li A _ E ⟨C6 C rest h,g,d,t,os⟩ kp ?_;refine wpAny_holding (wpAny_bind ?_);unfold bindSpecial;refine wpAny_bind (wpAny_typeOf (T := "function") ⟨_,kp _ _ oF,cF⟩ ?_);rw [if_pos (by decide)];refine wpAny_pure (wpAny_bind (wpAny_mono fin (fun r s' z=>?_) fun _ _ x=>x));obtain ⟨rfl,hQ⟩:=z
 wp_walk
 exact hQ
theorem M9 (F:ExcBaseFacts B newId initId bmB) (T:JU B bm) {rest:List Value} {fI:Addr} {oI:Obj} {Q:VS}
  (oC:h.get? C=some (excClassObj nm qn C N bs bm ba sn sub ab col dd k0 k1 k2 k3 k5 newId)) (li:W.Looks (model prog w) h (typeLookup (.ref C) "__init__") (some (.ref fI))) (oF:h.get? fI=some oI) (cF:oI.cls=.type "function") (hz:rest.length <= sizeLine)
  (fin:wpAny (model prog w) (A.under (.builtin "type.__call__" ⟨.ref C :: rest,[]⟩)) (call (.ref fI) (.ref (h.objs.size + 1) :: rest)) (fun r s'=>r=.none/\Q (.ref (h.objs.size + 1)) s') E ⟨C6 C rest h,g,d,t,os⟩) :
  wpAny (model prog w) A (call (.ref C) rest) Q E ⟨h,g,d,t,os⟩:=by
 have f1:=tc_lookup;have f2:=tc_bind (.ref C);have hT:(⟨h,g,d,t,os⟩:Shared).TypeIs (.ref C) "type" := ⟨_,oC,rfl⟩;refine wpAny_call (codeAny_of_tree ?_);show wpAny _ _ (callAny (.ref C) _) _ _ _
 repeat (any_goals (first | assumption | with_reducible refine wpAny_loadPart_at oC ?_ | wp_step))
 refine ⟨rfl,?_⟩;exact codeAny_call_builtin_at (Code.quiet_builtin _ (by decide +kernel)) entry_typeCall (wpAny_check_type_call_sub oC (Kx F T oC li oF cF hz fin))
end
noncomputable def JV (e C:Addr) (dx:Option Addr):HO:=.ext fun h=>∃ oe vs,h.get? e=some oe/\oe.cls=.ref C/\oe.dict=dx/\oe.data=.fields vs/\vs.size=6/\vs[1]?=some .none/\vs[2]?=some .none
noncomputable def Aw (K:FG) (C:Addr):Bool:=match K.lookup C with
 | some ⟨.type "type", _,.cls cd,sl⟩=>(match cd.mro,sl.toList with
  | .ref C' :: bm,[_,_,_,_,some (.builtin n),_]=>C' == C && !cd.hasDel && n == "ValueError.__new__" && bm.contains (.type "BaseException") && bm.contains (.type "ValueError") && !bm.contains (.type "AttributeError") && !bm.contains (.type "NameError")
  | _,_=>false)
 | _=>false
theorem FW (X:K.In h) (q:Aw K C=true):∃ nm qn N bs bm ba sn sub ab col dd k0 k1 k2 k3 k5,h.get? C=some (excClassObj nm qn C N bs bm ba sn sub ab col dd k0 k1 k2 k3 k5 "ValueError.__new__")/\JU "ValueError" bm:=by
 unfold Aw at q;split at q
 ·rename_i dd cd sl ho;split at q
  ·rename_i C' bm k0 k1 k2 k3 n k5 hm hs;simp only [Bool.and_eq_true,beq_iff_eq,Bool.not_eq_true'] at q;obtain ⟨⟨⟨⟨⟨⟨rfl,hdel⟩,rfl⟩,hb⟩,ht⟩,ha⟩,hn⟩:=q;obtain ⟨nm,bs,mro,ns,qn,hd,sn,sub,ab,col,del⟩:=cd
   dsimp only at hm hdel
   subst hm hdel;obtain ⟨l⟩:=sl;simp only at hs;subst hs;exact ⟨nm,qn,ns,bs,bm,hd,sn,sub,ab,col,dd,k0,k1,k2,k3,k5,X _ _ ho,⟨ht,hb,ha,hn⟩⟩
  ·cases q
 ·cases q
structure MkX (K:FG) (C f:Addr):Prop where
 cls:Aw K C=true
 init:W.findIn K (.ref C) "__init__" = some (some (.ref f))
 fn:W.isFn K (.ref f)=true
 fo:∃ o,K.lookup f=some o/\o.cls=.type "function"
 kp:W.keepIn K (.ref C)=true
section
variable {CX:CXT} {k:Nat} {fd:FuncData} {ps:List Str} {sp:Sp} {dvs:List V} {ds:List Value} {E:XK} {m:Str} {p apos:Pos} {o:Expr} {es:List Expr} {t:TA}
theorem NA (C:Addr) (rest:List Value) (h:Heap):(C6 C rest h).get? (h.objs.size + 1)=some (Kw C h):=by unfold C6; heap_get
theorem Inv.madeX (I:Inv X aa σ H s) (rest:List Value):Inv X aa σ (upd H (s.heap.objs.size + 1) (JV (s.heap.objs.size + 1) C none)) { s with heap:=C6 C rest s.heap }:=by
 have kp:∀ b o,s.heap.get? b=some o->(C6 C rest s.heap).get? b=some o:=fun b o z=>get?_push_of_some _ (get?_push_of_some _ z);refine I.laid (t':=s.toks) kp (Nat.le_succ _) ?_;have ge:=NA C rest s.heap;exact ⟨⟨_,_,ge,rfl,rfl,rfl,rfl,rfl,rfl⟩,⟨_,ge⟩,fun h1 h2 ⟨oe,vs,a,r⟩ k=>⟨oe,vs,k _ a,r⟩⟩
theorem NB {Q:VK} {vs:List V} (M:MkX X.K C f) (F:FnOk X.prog X.w X.K X.mg X.base CX k f fd ps sp) (hr:Room (k + 1) X.A) (hb:Binds X.K fd ps ds) (hd:Vals dvs ds) (hx:BQ CX X E) (I:Inv X aa σ H s) (r:Vals vs us) (hz:vs.length <= 1000)
  (h:∀ x,H x=none->sp (.ref x :: (vs++dvs)) (upd H x (JV x C none)) (fun v H2=>v=.non/\Q (.ref x) H2) E):wpAny (model X.prog X.w) X.A (call (.ref C) us) (EP X aa σ Q) X.xe s:=by
 have hq:=h (s.heap.objs.size + 1) (I.hok.fresh (Nat.le_succ _));have I2:=Inv.madeX (C:=C) I us;have r2:Vals (V.ref (s.heap.objs.size + 1) :: (vs++dvs)) (Value.ref (s.heap.objs.size + 1) :: (us++ds)):=.cons rfl (r.append hd)
 have hl:(Value.ref (s.heap.objs.size + 1) :: us++ds).length=ps.length:=by
  have e:=r2.length;rw [F.len _ _ _ _ hq] at e;exact e.symm
 obtain ⟨nm,qn,N,bs,bm,ba,sn,sub,ab,col,dd,k0,k1,k2,k3,k5,oC,T⟩:=FW I.kIn M.cls;obtain ⟨oF,lF,cF⟩:=M.fo;obtain ⟨hh,g,d,tk,os⟩:=s;refine M9 PySem.F.excBase_ValueError T oC (W.looks_findIn I.kIn M.init) (I.kIn _ _ lF) cF (by rw [← r.length]; exact Nat.le_of_lt (Ae hz)) ?_;refine wpAny_call (codeAny_mono (F.run _ X.stack _ _ ⟨_,[]⟩ (Value.ref (hh.objs.size + 1) :: (us++ds)) _ _ E (hr.make C us []) (I2.env0.make C us []) (hb _ (Value.ref (hh.objs.size + 1) :: us) I2.kIn hl) r2 hq) fun r s' hq'=>?_);cases r with
 | error e=>exact hx aa σ _ _ e s' I2 hq'
 | ok fl =>
  cases fl with
  | ret u =>
   obtain ⟨v,H',I3,rv,ev,q3⟩:=I2.after hq';subst ev;exact ⟨rv,⟨V.ref (hh.objs.size + 1),H',I3,rfl,q3⟩⟩
  | next=>exact False.elim hq'
  | brk=>exact False.elim hq'
  | cont=>exact False.elim hq'
def Oe (C:Addr) (sp:Sp) (dvs:List V) (E:XK) (t:TA):TE:=fun σ H Q=>t σ H fun vs H1=>vs.length <= 1000/\∀ x,H1 x=none->sp (.ref x :: (vs++dvs)) (upd H1 x (JV x C none)) (fun v H2=>v=.non/\Q (.ref x) H2) E
theorem Of (M:MkX X.K C f) (F:FnOk X.prog X.w X.K X.mg X.base CX k f fd ps sp) (hr:Room (k + 1) X.A) (hg:Gl X x) (hm:X.mg x=some (.ref C)) (hb:Binds X.K fd ps ds) (hd:Vals dvs ds) (hx:BQ CX X E)
  (ha:PA X (e :: es) t) (hdb:(x == ("__debug__" : Str))=false:=by decide) (he:starEach (e :: es) X.env=(false,eval e X.env) :: starEach es X.env:=by rfl) (hpl:(backTo pos (starEach es X.env)).any (·.1)=false:=by rfl) :
  PE X (.Call (.Name x p) (e :: es) [] pos) (Oe C sp dvs E t):=by
 intro aa s σ H Q I h;refine wpAny_Call_Name_kw (Bp I hg hm ?_ hdb);refine W.callWith_K (h₀:=X.base) I.ok.mod.kin M.kp (thn (ha pos aa s σ H _ I h) fun us s1 ⟨vs,H1,I1,r,q⟩=>⟨I1.kIn,?_⟩) he hpl;exact NB M F hr hb hd hx I1 r q.1 q.2
def Og (C:Addr) (te:TE) (E:XK):TS:=fun _ σ H=>te σ H fun v H1=>∃ e dx,v=.ref e/\H1 e=some (JV e C dx)/\E (.ref C) dx (upd H1 e (FP e C dx))
theorem NC {H1:Hp} {e:Addr} {dx:Option Addr} (ok:HOk P w H1 h) (at_:H1 e=some (JV e C dx)):HOk P w (upd H1 e (FP e C dx)) h:=by
 obtain ⟨⟨oe,vs,a1,a2,a3,a4,a5,a6,a7⟩,_,_⟩:=ok _ _ at_;refine ok.write (x:=e) (e:=e) (by rw [at_]; exact True.intro) (.inl rfl) (fun b u _ q=>q) ⟨_,a1⟩ ⟨⟨oe,vs,a1,a2,a3,a4,by omega,a7⟩,⟨_,a1⟩,fun h1 h2 ⟨oe,vs,a,r⟩ k=>⟨oe,vs,k _ a,r⟩⟩
end
section
variable {M:Model} {env:Env}
theorem JW {x:Sem Value} {Q:Flow->Shared->Prop} (hh:A.handled=none)
  (h:wpAny M A x (fun v s1=>∃ e oe vs,v=.ref e/\s1.heap.get? e=some oe/\oe.cls=.ref C/\oe.data=.fields vs/\vs[1]?=some .none /\
   (∃ nm qn N bs bm ba sn sub ab col dd k0 k1 k2 k3 k5 nid,s1.heap.get? C=some (excClassObj nm qn C N bs bm ba sn sub ab col dd k0 k1 k2 k3 k5 nid)/\bm.contains (.type "BaseException")=true)/\E (.ref e) s1) E s) :
  wpAny M A (raiseStmt env (some x) none) Q E s:=by
 unfold raiseStmt;refine wpAny_bind (wpAny_mono h (fun v s1 z=>?_) fun _ _ y=>y);obtain ⟨e,oe,vs,rfl,he,bi,hd,h1,⟨nm,qn,N,bs,bm,ba,sn,sub,ab,col,dd,k0,k1,k2,k3,k5,nid,oC,hb⟩,hE⟩:=z;have c1:(Value.ref C :: bm).contains (.type "BaseException")=true:=by rw [contains_cons,hb,Bool.or_true]
 obtain ⟨hp,g,d,tk,os⟩:=s1
 repeat (first | (with_reducible refine wpAny_loadPart_at he ?_; rw [bi]) | with_reducible refine wpAny_loadPart_at oC ?_ | (with_reducible refine wpAny_isSubtype_exc oC ?_; rw [c1]) | wp_step)
 rw [hd];refine wpAny_pure ?_;rw [h1];refine wpAny_pure ?_;rw [if_neg (by decide)];exact wpAny_pure (wpAny_raiseNew_none hh hE)
end
section
variable {E:XK} {o:Expr}
theorem Oh (hR:Oc X E) (hc:X.calm=true) (hC:Aw X.K C=true) (he:PE X o te):PS X (.Raise (some o) none pos) (Og C te E):=by
 intro aa s σ H D I h;rw [arm_exec_Raise];refine wpAny_bind (wpAny_standAt (JW (C:=C) (I.ok.hd hc) (wpAny_bind (wpAny_mono (he aa s σ H _ I h) (fun v s1 z=>wpAny_bind (wpAny_standAt (wpAny_pure ?_))) fun _ _ y=>y))));obtain ⟨u,H1,I1,ru,e,dx,rfl,at_,q⟩:=z;obtain rfl:v=.ref e:=ru;obtain ⟨⟨oe,vs,a1,a2,a3,a4,a5,a6,a7⟩,_,_⟩:=I1.hok _ _ at_;obtain ⟨nm,qn,N,bs,bm,ba,sn,sub,ab,col,dd,k0,k1,k2,k3,k5,oC,T⟩:=FW I1.kIn hC;refine ⟨e,oe,vs,rfl,a1,a2,a4,a6,⟨nm,qn,N,bs,bm,ba,sn,sub,ab,col,dd,k0,k1,k2,k3,k5,_,oC,T.base⟩,?_⟩;refine hR aa σ H1 s1 e C dx _ s1 I1 ⟨rfl,I1.bare,Un.write (x:=e) (e:=e) (by rw [at_]; exact True.intro) (.inl rfl) (fun b u _ r=>r) ⟨_,a1⟩,NC I1.hok at_,AB⟩ ⟨oe,vs,a1,a4,a6⟩ q
end
section
variable {prog:Program} {g:Array GenState} {d:Drawn} {t:Nat} {os:OsState}
variable {nm qn:Str} {N:Addr} {bs bm bmB:List Value} {ba:Bool} {sn:List Str} {sub:List Value} {ab:Bool} {col:Option Bool} {dd:Option Addr} {k0 k1 k2 k3 k5:Option Value} {B newId initId:String}
theorem JX (F:ExcBaseFacts B newId initId bmB) (T:JU B bm) {M:Model} {e:Addr} {oe:Obj} {rest:List Value} {Q:Unit->Shared->Prop}
  (oC:h.get? C=some (excClassObj nm qn C N bs bm ba sn sub ab col dd k0 k1 k2 k3 k5 newId)) (he:h.get? e=some oe) (bi:oe.cls=.ref C) (fin:Q () ⟨h,g,d,t,os⟩) :
  wpAny M A (checkBuiltinCall initId ⟨.ref e :: rest,[]⟩) Q E ⟨h,g,d,t,os⟩:=by
 have c1:(Value.ref C :: bm).contains (.type B)=true:=by rw [contains_cons,T.b]; simp
 have st:=F.noStar;simp only [checkBuiltinCall,F.initKind,F.initSplit,F.initRow]
 repeat (first | (with_reducible refine wpAny_loadPart_at he ?_; rw [bi]) | with_reducible refine wpAny_loadPart_at oC ?_ | (with_reducible refine wpAny_isSubtype_exc oC ?_; rw [c1]) | wp_step)
 refine wpAny_onRaise ?_;rw [show ∀ (a b:String) (n:Nat),Bind.check ⟨.positional, "*", B,.self,[⟨"args", .varPos,false⟩]⟩ a b n (List.map (fun x=>x.fst) ({ pos:=Value.ref e :: rest }:Args).kw)=pure () from fun a b n=>check_star_args _ _ _ _ _ _];exact wpAny_pure fin
theorem Ky (F:ExcBaseFacts B newId initId bmB) (T:JU B bm) {e:Addr} {oe:Obj} {vs:Array Value} {v0:Value} {rest:List Value} {Q:VS}
  (oC:h.get? C=some (excClassObj nm qn C N bs bm ba sn sub ab col dd k0 k1 k2 k3 k5 newId)) (he:h.get? e=some oe) (bi:oe.cls=.ref C) (hd:oe.data=.fields vs) (h0:vs[0]?=some v0) (hz:rest.length <= sizeLine)
  (fin:Q .none ⟨(h.push { cls:=.type "tuple", data:=.seq rest.toArray }).update e (Obj.mapFields (·.setIfInBounds 0 (.ref h.objs.size))),g,d,t,os⟩) :
  wpAny (model prog w) A (call (.builtin initId) (.ref e :: rest)) Q E ⟨h,g,d,t,os⟩:=by
 refine wpAny_call (codeAny_call_builtin F.init.plain F.initEntry (JX F T oC he bi ?_));have e1:=get?_push_of_some { cls:=.type "tuple", data:=.seq rest.toArray } he;unfold Builtin.«BaseException.__init__»
 wp_walk
 rw [hd];refine wpAny_pure ?_;rw [h0];refine wpAny_pure (wpAny_bind (wpAny_setField e1 hd (Array.getElem?_eq_some_iff.mp h0).1 ?_))
 have done:∀ {E':VS},wpAny (model prog w) A.in1 (match v0 with | Value.ref _=>letGo [v0] | _=>pure ()) (fun _ s'=>Q .none s') E' ⟨(h.push { cls:=.type "tuple", data:=.seq rest.toArray }).update e (Obj.mapFields (·.setIfInBounds 0 (.ref h.objs.size))),g,d,t,os⟩:=fun {E'}=>by
  cases v0 <;> first | exact wpAny_pure fin | (wp_walk; exact fin)
 exact wpAny_mono done (fun _ s' q=>wpAny_pure q) fun _ _ z=>z
end
theorem Oi {o:HO} (h:H a=some o):upd H a o=H:=by
 funext b;unfold upd;split
 ·rename_i e;rw [e,h]
 ·rfl
theorem ND {x:V}:∀ {us:List Value},Vals (x :: xs) us->∃ u ls,us=u :: ls/\RelV x u/\Vals xs ls
 | _ :: _,.cons a b=>⟨_,_,rfl,a,b⟩
section
variable {es:List Expr} {t:TA} {np apos:Pos}
def R8 (K:FG) (t:TA):TE:=fun σ H Q=>t σ H fun vs H1=>∃ a C dx rest,vs=.ref a :: rest/\rest.length <= 1000/\Aw K C=true/\H1 a=some (JV a C dx)/\Q .non H1
theorem QR:typeOf (.type "ValueError")=pure (.type "type"):=by kernel_rfl
theorem QS:Manifest.isStub "ValueError" = false:=by decide +kernel
theorem QT (K:FG):W.findCls K (.type "ValueError") (.type "type") "__init__" = some (.val (.builtin "ValueError.__init__")):=by kernel_rfl
theorem QU:W.handedIn (.builtin "ValueError.__init__")=true:=by decide +kernel
theorem MF:bootBuiltins "ValueError" = some (.type "ValueError"):=by decide +kernel
theorem Oj {pl:Sem Bool} (hg:Gl X "ValueError") (hm:X.mg "ValueError" = none) (ha:PA X (e :: es) t) (he:starEach (e :: es) X.env=(false,eval e X.env) :: starEach es X.env:=by rfl) (hpl:(backTo pos (starEach es X.env)).any (·.1)=false:=by rfl)
  (ht:eval (.Call (.Attribute (.Name "ValueError" np) "__init__" apos) (e :: es) [] pos) X.env=(do
   let ov ← eval (.Name "ValueError" np) X.env
   standAt apos.atName
   let (f,first) ← holding [ov] (getMethod ov "__init__" pl)
   callWith pos f first (backTo pos (starEach (e :: es) X.env)) (backToKw pos (keywordEach [] X.env))):=by rfl) :
  PE X (.Call (.Attribute (.Name "ValueError" np) "__init__" apos) (e :: es) [] pos) (R8 X.K t):=by
 intro aa s σ H Q I h;refine W.methodCall_KW (pl:=pl) ?_ ht;refine Dc (u:=.type "ValueError") I hg hm MF ?_;obtain ⟨m,Fm⟩:=I.fr;have L1:=fun (Q':Value × List Value->Shared->Prop) hq=>W.method_type (prog:=X.prog) (w:=X.w) (A:=X.A) (E:=X.xe) (K:=X.K) (T := "ValueError") (name := "__init__") (pl:=pl) (v:=.builtin "ValueError.__init__") (Q:=Q') Fm I.ok.mod.kin QR QS (QT X.K) QU hq;refine L1 _ ?_;refine PyProof.Rows.callWith_builtin1 (thn (ha pos aa _ σ H _ (I.tok _) h) fun us s1 ⟨vs,H1,I1,r1,a,C,dx,rest,ev,hz,hC,at_,q⟩=>?_) he hpl;subst ev;obtain ⟨nm,qn,N,bs,bm,ba,sn,sub,ab,col,dd,k0,k1,k2,k3,k5,oC,T⟩:=FW I1.kIn hC;obtain ⟨⟨oe,ws,a1,a2,a3,a4,a5,a6,a7⟩,_,st⟩:=I1.hok _ _ at_;obtain ⟨u0,ls,eu,ra,rr⟩:=ND r1;subst eu
 ·obtain rfl:=ra;obtain ⟨hp,g,d,tk,os⟩:=s1;refine Ky PySem.F.excBase_ValueError T oC a1 a2 a4 (v0:=ws[0]'(by omega)) (by rw [Array.getElem?_eq_getElem]) (by rw [← rr.length]; exact Nat.le_of_lt (Ae hz)) ?_;have J:=I1.kept (h':=hp.push { cls:=.type "tuple", data:=.seq ls.toArray }) (t':=tk) fun b u z=>get?_push_of_some _ z;have e1:=get?_push_of_some { cls:=.type "tuple", data:=.seq ls.toArray } a1;have e2:=get?_update_self (Obj.mapFields (·.setIfInBounds 0 (.ref hp.objs.size))) e1 (Obj.isFreed_of_fields (Obj.data_mapFields a4 _));rw [Dh a4] at e2
  have J2:=J.write (x:=a) (e:=a) (o:=JV a C dx) (t':=tk) (by rw [at_]; exact True.intro) (.inl rfl) (fun b u n z=>(get?_update_other _ _ (Ne.symm n)).trans z) ⟨_,e2⟩
   ⟨⟨_,_,e2,a2,a3,rfl,by rw [Array.size_setIfInBounds]; exact a5,by rw [Array.getElem?_setIfInBounds_ne (by decide)]; exact a6,by rw [Array.getElem?_setIfInBounds_ne (by decide)]; exact a7⟩,⟨_,e2⟩,st⟩
  rw [Oi at_] at J2;exact ⟨.non,H1,J2,rfl,q⟩
end
noncomputable def F2 (P:Program) (w:World) (K:FG) (mg:SV) (base:Heap) (N:List Str) (qual:Str) (scope:Scope) (f:Addr) (cd:Value) (A:Around) (outer:List Env) (s:Shared) (H:Hp) (e:Addr) (oe:Obj):Cx :=
 { A8 CX0 P w K mg base N qual scope f cd A outer s H (fun _ _ _=>False) with calm:=false,pn:=[(e,oe)],xe:=fun _ _=>False }
structure RoomS (k:Nat) (A:Around):Prop where
 dp:A.depth + 3 * k + 5 < recursionLimit
 un:A.units + 16 * k + 200 < cLine
theorem RoomS.deeper {k:Nat} {A:Around} (r:RoomS (k + 1) A) (env:Env):RoomS k (A.deeper env):=⟨by have:=r.dp; show A.depth + 1 + 3 * k + 5 < _; omega,by have:=r.un; show A.units + 3 + 16 * k + 200 < _; omega⟩
theorem Kz {ps:List Str} {qual:Str} {scope:Scope} {cd:Value} {outer:List Env} {s1:Shared} {vs:List V} {e:Addr} {oe:Obj}
  (S:AL N ps scope) (e0:Env0 P w K mg base A outer s H) (hl:vs.length=ps.length) (r:Vals vs us) (he:s.heap.get? e=some oe) (hn:H e=none) (ho:e ∉ frs outer) (hd:∀ v,oe.data ≠ .cell v)
  (x:InCallC s s.heap.objs.size (bindL (envOfC qual scope s.heap.objs.size f cd).kindOf (ps.zip us) fun _=>none) (cellsFrom (s.heap.objs.size + 1) scope.names []) (bindC (envOfC qual scope s.heap.objs.size f cd).kindOf (ps.zip us) fun _=>none) s1) :
  Inv (F2 P w K mg base N qual scope f cd A outer s H e oe) [] (BS N vs) H s1:=by
 have A0:∃ A0:Around,A0.handled=none/\A0.frames=A.frames:=⟨{ A with handled:=none },rfl,rfl⟩;obtain ⟨A0,h1,h2⟩:=A0;have I:=Ej (CX:=CX0) (E:=fun _ _ _=>False) (A:=A0) S h1 ⟨h2.trans e0.frames,e0.mod,e0.bs,e0.bsz,e0.funs,e0.frf,e0.hok,e0.bare⟩ hl r x;obtain ⟨hh,tk,rfl,hk⟩:=x.done;have ok:=I.ok;refine ⟨⟨ok.mod,ok.kind,ok.glob,ok.blt,ok.above,ok.inj,ok.has,ok.cab,(fun z=>by cases (show false=true from z)),Around.frames_deeper e0.frames,ok.stk,ok.exf,ok.bs,ok.bsz,ok.noex,ok.exfs,ok.funs,ok.frf⟩,I.os,I.bare,I.base,I.loc,I.cell,I.free,I.freeC,fun p hp=>?_,I.hok,I.len⟩;have q:p=(e,oe):=by simpa [F2] using hp
 subst q;exact ⟨hk _ _ he,hn,Nat.ne_of_lt (lt_size he),ho,hd⟩
end L2
namespace L2
open PySem PySem.Spec PyProof.Rows
abbrev SpS:=Addr->Obj->List V->Hp->VK->Prop
structure MH (P:Program) (w:World) (K:FG) (mg:SV) (base:Heap) (k:Nat) (f:Addr) (fd:FuncData) (ps:List Str) (sp:SpS):Prop where
 len:∀ e oe vs H Q,sp e oe vs H Q->vs.length=ps.length
 run:∀ (A:Around) (outer:List Env) (s:Shared) (H:Hp) (args:Args) (us:List Value) (vs:List V) (Q:VK) (e:Addr) (oe:Obj),RoomS k A->Env0 P w K mg base A outer s H->A.handled=some (.ref e)->s.heap.get? e=some oe->H e=none->e ∉ frs outer->(∀ v,oe.data ≠ .cell v) ->
  BindsTo s fd args (ps.zip us)->Vals vs us->sp e oe vs H Q->codeAny (model P w) A (.call (.ref f) args) (CR CX0 outer P w H s Q fun _ _ _=>False) s
section
theorem Fun.okS {qual:Str} {st:Stmt} {fd:FuncData} {ps:List Str} {k:Nat} {sp:SpS} (F:Fun K x qual st f fd) (S:AL N ps (defScope st)) (len:∀ e oe vs H Q,sp e oe vs H Q->vs.length=ps.length)
  (bd:∀ (ad:Value) (A:Around) (outer:List Env) (s:Shared) (H:Hp) (vs:List V) (Q:VK) (e:Addr) (oe:Obj),A.handled=some (.ref e)->RoomS k (A.deeper (envOfC qual (defScope st) s.heap.objs.size f ad))->sp e oe vs H Q ->
   ∃ t,PSs (F2 P w K mg base N qual (defScope st) f ad A outer s H e oe) (defBody st) t/\t { nx:=fun _ H'=>Q .non H',rt:=Q } (BS N vs) H):MH P w K mg base (k + 1) f fd ps sp:=by
 obtain ⟨oc,od,kV,doc,pm,an,ad,ct,osl,rfl,lk,hcd⟩:=F.ex;refine ⟨len,fun A outer s H args us vs Q e oe hr e0 hh he hn ho hd hb r hsp=>?_⟩;have hl:=len _ _ _ _ _ hsp;have KX:K.In s.heap:=e0.mod.kin.keeps fun b o z=>(e0.bs b o z).1;have lim:s.heap.NoLimit:=e0.mod.nolimit.keeps fun b o z=>(e0.bs b o z).1
 have hk:∀ y ∈ ps.zip us,(defScope st).names.lookup y.1=some .local\/((defScope st).names.lookup y.1=some .cell/\((cellsFrom (s.heap.objs.size + 1) (defScope st).names []).lookup y.1).isSome=true):=fun ⟨n,v⟩ hy=>by
  rcases S.par n (of_mem_zip hy).1 with q | q
  ·exact .inl q
  ·exact .inr ⟨q,W.cellsFrom_some _ _ _ (.inl q)⟩
 refine codeAny_call_function (by have:=hr.dp; omega) (KX _ _ lk) rfl S.co S.gen rfl (W.codeRec_of KX hcd) (hb _ _ _ _ (wpAny_newFunctionEnv_cells S.kind hk fun env ee s1 x=>?_));subst ee;refine ⟨lim.keeps x.toInCall.keep,codeAny_func ?_⟩;obtain ⟨t,ht,hq⟩:=bd ad A outer s H vs Q e oe hh (hr.deeper _) hsp;have I:Inv (F2 P w K mg base N qual (defScope st) f ad A outer s H e oe) [] (BS N vs) H s1:=Kz S e0 hl r he hn ho hd x;refine wpAny_mono (ht [] s1 (BS N vs) H _ I hq) (fun fl s' z=>?_) fun _ _ z=>z.elim;cases fl with
 | ret u =>
  obtain ⟨v,σ',H',J,rv,q⟩:=z;exact ⟨v,H',J.os,J.bare,J.base,J.hok,rv,q⟩
 | next =>
  obtain ⟨σ',H',J,q⟩:=z;exact ⟨.non,H',J.os,J.bare,J.base,J.hok,rfl,q⟩
 | brk =>
  obtain ⟨_,_,_,q⟩:=z;exact q.elim
 | cont =>
  obtain ⟨_,_,_,q⟩:=z;exact q.elim
theorem QV {qual:Str} {scope:Scope} {cd:Value} {outer:List Env} {e:Addr} {oe:Obj} {vs:Array Value} (hh:A.handled=some (.ref e)) (hd:oe.data=.fields vs) (h2:vs[2]?=some .none) :
  Rdy (F2 P w K mg base N qual scope f cd A outer s H e oe):=.inr ⟨e,oe,vs,hh,mem_cons_self,hd,h2⟩
end
noncomputable def del (H:Hp) (a:Addr):Hp:=fun b=>if b=a then none else H b
theorem JY:del H a a=none:=if_pos rfl
theorem C7 {b:Addr} (h:b ≠ a):del H a b=H b:=if_neg h
section
variable {H1 H2:Hp} {s1 s2:Shared} {e:Addr} {dx:Option Addr}
theorem Ol {fs:List Addr} {oe:Obj} {vs:Array Value} {old:Addr->Prop} {h2 h':Heap} (u:Un fs [] H1 H2 h h2) (L:F0 fs e oe vs old h2 h') (at_:H2 e=some (FP e C dx)) (hold:∀ b,old b->H2 b=none/\h.get? b=none):Un fs [] H1 (del H2 e) h h':=by
 have ne:∀ b,H2 b=none->b ≠ e:=fun b n z=>by subst z; rw [at_] at n; cases n
 have nold:∀ b o,h.get? b=some o->¬ old b:=fun b o hb z=>by rw [(hold b z).2] at hb; cases hb
 have ne2:∀ b v,H2 b=some v->(∀ φ,v ≠ .ext φ)->b ≠ e:=fun b v hv hn z=>by subst z; rw [at_] at hv; cases hv; exact hn _ rfl
 refine ⟨fun b o q n hb _=>?_,fun b o q n hb _=>?_,fun b o q n _=>?_,fun b o q _=>?_,fun b xs q=>?_,fun b o xs q=>?_,fun b ps q=>?_⟩
 ·exact L.keep b o (u.keep b o q n hb (by simp)) (ne b (u.free b o q n (by simp))) (nold b o q) hb
 ·obtain ⟨sl,q1⟩:=u.slot b o q n hb (by simp);obtain ⟨sl2,q2⟩:=L.slot b _ q1 (ne b (u.free b o q n (by simp))) (nold b o q) hb;exact ⟨sl2,q2⟩
 ·have z:=u.free b o q n (by simp);rw [C7 (ne b z)];exact z
 ·obtain ⟨o1,q1⟩:=u.there b o q (by simp);exact L.there b o1 q1
 ·have z:=u.tups b xs q;rw [C7 (ne2 b _ z fun _ y=>nomatch y)];exact z
 ·have z:=u.frzs b o xs q;rw [C7 (ne2 b _ z fun _ y=>nomatch y)];exact z
 ·obtain ⟨m,z⟩:=u.tbls b ps q;exact ⟨m,by rw [C7 (ne2 b _ z fun _ y=>nomatch y)]; exact z⟩
theorem QW (ok:HOk P w H2 h) (at_:H2 e=some (FP e C dx)):HOk P w (del H2 e) h:=fun b u q=>by
 have hb:b ≠ e:=fun z=>by subst z; rw [JY] at q; cases q
 rw [C7 hb] at q;have ne2:∀ c v,H2 c=some v->(∀ φ,v ≠ .ext φ)->c ≠ e:=fun c v hv hn z=>by subst z; rw [at_] at hv; cases hv; exact hn _ rfl
 exact (ok b u q).stay (fun _ _ _ z=>z) (fun c z=>by rw [C7 (ne2 c _ z fun _ y=>nomatch y)]; exact z) fun c xs z=>by rw [C7 (ne2 c _ z fun _ y=>nomatch y)]; exact z
structure Cgt (C:Addr) (dx:Option Addr) (e:Addr) (oe:Obj) (T:Addr) (oT:Obj):Prop where
 cls:oe.cls=.ref C
 dict:oe.dict=dx
 fld:∃ vs,oe.data=.fields vs/\vs[1]?=some (.ref T)/\vs[2]?=some .none
 tb:∃ ts,oT.data=.fields ts/\ts[3]?=some .none
theorem R9 {E':VS} {Q:Unit->Shared->Prop} (O:Kt X) (I:Inv X aa σ H1 s1) (F:Fly X.prog X.w X.stack H1 s1 e C dx H2 s2)
  (h:∀ s3 oe T oT,Cgt C dx e oe T oT->Inv X ((e,oe) :: (T,oT) :: aa) σ (del H2 e) s3->Q () s3) :
  wpAny (model X.prog X.w) X.A (noteFrame (.ref e) X.env) (fun _ s3=>wpAny (model X.prog X.w) X.A (setFlight (.ref e) none) Q E' s3) E' s2:=by
 obtain ⟨B,oe,vs,T,oT,ts,a1,a2,a3,a4,a5,a6,a7,a8,a9⟩:=F;have fr:=Di I B;have hA:=I.ok.frames;rw [O.stk] at fr hA;refine HU hA fr O.fr a1 a2 a3 a4 a5 a6 a7 fun h' L=>?_;rw [← O.stk] at L;have hold:∀ b,b=T->H2 b=none/\s1.heap.get? b=none:=fun b z=>by subst z; exact ⟨a8,a9⟩
 have free2:∀ b ∈ frs X.stack,H2 b=none:=fun b hb=>by
  obtain ⟨_,o,ho,_⟩:=I.stack.mem hb;exact B.un.free b o ho (I.stkFree b hb) (by simp)
 have ok3:=JR B.hok L free2 (fun b z=>(hold b z).1) a1 a2 B.at_;obtain ⟨T',oT',ts',b1,b2,b3,b4,b5⟩:=L.tb;obtain ⟨⟨oe',vs',c1,c2,c3,c4,c5,c6⟩,_,_⟩:=B.hok _ _ B.at_;rw [a1] at c1;cases c1;rw [a2] at c4;cases c4;have I3:Inv X aa σ (del H2 e) { s2 with heap:=h' }:=I.call' (ch:=[]) B.os (Ol B.un L B.at_ hold) (QW ok3 B.at_) B.bare fun b z=>nomatch z;have hT0:s2.heap.get? T'=none:=Heap.get?_none_of_le b1;have hTH:H2 T'=none:=B.hok.fresh b1;have hTe:T' ≠ e:=fun z=>by subst z; rw [a1] at hT0; cases hT0
 have locs:∃ o,s2.heap.get? X.env.locals=some o:=by
  obtain ⟨m,⟨o,_,_,ho,_⟩,_⟩:=id I.loc;exact B.un.there _ o ho (by simp)
 have fsIn:∀ b ∈ X.fs,∃ o,s2.heap.get? b=some o:=fun b hb=>by
  obtain ⟨_,o,ho,_⟩:=I.funs.mem hb;exact B.un.there b o ho (by simp)
 have upfs:∀ b ∈ X.fs,b ∈ frs X.stack:=fun b hb=>by
  rw [O.stk];unfold frs;rw [filterMap_cons,O.fr];exact mem_cons_of_mem _ hb
 refine h _ { oe with data:=.fields (vs.setIfInBounds 1 (.ref T')) } T' oT' ⟨c2,c3,⟨vs.setIfInBounds 1 (.ref T'),rfl,by simp [(Array.getElem?_eq_some_iff.mp a3).1],by rw [Array.getElem?_setIfInBounds_ne (by decide)]; exact c6⟩,⟨ts',b3,b4⟩⟩ (I3.pins_of fun p hp=>?_);rcases mem_cons.mp hp with z | z
 ·subst z;refine ⟨b5,JY,fun z=>?_,fun z=>?_,fun v z=>by cases z⟩
  ·obtain ⟨m,⟨o,_,_,ho,_⟩,_⟩:=id I.loc;have n1:=B.un.free _ _ ho I.free (by simp);rw [← z,B.at_] at n1;cases n1
  ·have n1:=free2 e (upfs e z);rw [B.at_] at n1;cases n1
 rcases mem_cons.mp z with z | z
 ·subst z;refine ⟨b2,by rw [C7 hTe]; exact hTH,fun z=>?_,fun z=>?_,fun v z=>by rw [b3] at z; cases z⟩
  ·obtain ⟨o,ho⟩:=locs;rw [← z,hT0] at ho;cases ho
  ·obtain ⟨o,ho⟩:=fsIn _ z;rw [hT0] at ho;cases ho
 ·exact I3.pin p (mem_append_right _ z)
end
noncomputable def DT (K:FG) (C:Addr):List Value:=match K.lookup C with
 | some ⟨_,_,.cls cd,_⟩=>cd.mro
 | _=>[]
theorem JZ (X:K.In h) (q:Aw K C=true):∃ nm qn N bs bm ba sn sub ab col dd k0 k1 k2 k3 k5,h.get? C=some (excClassObj nm qn C N bs bm ba sn sub ab col dd k0 k1 k2 k3 k5 "ValueError.__new__")/\JU "ValueError" bm/\DT K C=.ref C :: bm:=by
 obtain ⟨nm,qn,N,bs,bm,ba,sn,sub,ab,col,dd,k0,k1,k2,k3,k5,oC,T⟩:=FW X q;refine ⟨nm,qn,N,bs,bm,ba,sn,sub,ab,col,dd,k0,k1,k2,k3,k5,oC,T,?_⟩;unfold Aw at q;unfold DT;split at q
 ·rename_i dd' cd sl ho;rw [ho];have e:=X _ _ ho;rw [oC] at e;have e1:=Option.some.inj e;have e3:=congrArg Obj.data e1;injection e3 with e2
  rw [← e2]
 ·cases q
section
variable {M:Model} {g:Array GenState} {d:Drawn} {t:Nat} {os:OsState}
variable {nm qn nm' qn':Str} {N D N':Addr} {bs bm bs' bm':List Value} {ba hdct':Bool} {sn sn':List Str} {sub sub':List Value} {ab ab':Bool} {col col':Option Bool} {dd dd':Option Addr} {k0 k1 k2 k3 k5 l0 l1 l2 l3 l5:Option Value} {newId newId':String}
theorem IG {e:Addr} {oe:Obj} {Q:Bool->Shared->Prop} (oC:h.get? C=some (excClassObj nm qn C N bs bm ba sn sub ab col dd k0 k1 k2 k3 k5 newId)) (oD:h.get? D=some (excClassObj nm' qn' D N' bs' bm' hdct' sn' sub' ab' col' dd' l0 l1 l2 l3 l5 newId'))
  (he:h.get? e=some oe) (bi:oe.cls=.ref C) (bj:bm'.contains (.type "BaseException")=true) (hq:Q ((Value.ref C :: bm).contains (.ref D)) ⟨h,g,d,t,os⟩):wpAny M A (excMatches (.ref e) (.ref D)) Q E ⟨h,g,d,t,os⟩:=by
 have hcB:(Value.ref D :: bm').contains (.type "BaseException")=true:=by rw [contains_cons,bj,Bool.or_true]
 have f:=tc_notTuple;unfold excMatches;generalize hb:(Value.ref C :: bm).contains (.ref D)=b at hq
 repeat (first | (with_reducible refine wpAny_loadPart_at he ?_; rw [bi]) | with_reducible refine wpAny_loadPart_at oD ?_ | (with_reducible refine wpAny_isSubtype_exc oD ?_; rw [hcB]) | (with_reducible refine wpAny_isSubtype_exc oC ?_; rw [hb]) | wp_step)
 cases b <;> (wp_walk; exact hq)
end
noncomputable def BA (X:Cx) (e:Addr) (oe:Obj) (T:Addr) (oT:Obj):Cx:={ X with A:=X.A.mark (some (.ref e)),calm:=false,pn:=X.pn++[(e,oe),(T,oT)],xe:=fun _ _=>False }
section
variable {e T:Addr} {oe oT:Obj}
theorem Inv.mark (I:Inv X ((e,oe) :: (T,oT) :: aa) σ H s):Inv (BA X e oe T oT) aa σ H s :=
 ⟨⟨I.ok.mod,I.ok.kind,I.ok.glob,I.ok.blt,I.ok.above,I.ok.inj,I.ok.has,I.ok.cab,(fun z=>by cases (show false=true from z)),I.ok.frames,I.ok.stk,I.ok.exf,I.ok.bs,I.ok.bsz,I.ok.noex,I.ok.exfs,I.ok.funs,I.ok.frf⟩,I.os,I.bare,I.base,I.loc,I.cell,I.free,I.freeC,
  fun p hp=>I.pin p (by simpa [BA] using hp),I.hok,I.len⟩
theorem Inv.unmark (ok:X.Ok) (I:Inv (BA X e oe T oT) aa σ H s):Inv X ((e,oe) :: (T,oT) :: aa) σ H s :=
 ⟨ok,I.os,I.bare,I.base,I.loc,I.cell,I.free,I.freeC,fun p hp=>I.pin p (by simpa [BA] using hp),I.hok,I.len⟩
theorem Inv.less {q:LO} (I:Inv X (q++aa) σ H s):Inv X aa σ H s:=I.pins_of fun p hp=>I.pin p (mem_append_right _ (mem_append_right _ hp))
theorem Inv.nameless {h':Heap} {m':SV} {tk:Nat} (I:Inv X aa σ H s) (hn:h'.Ns X.env.locals m') (hs:Heap.SameBut X.env.locals s.heap h'):Inv X aa (List.replicate σ.length none) H { s with heap:=h',toks:=tk }:=by
 obtain ⟨m,⟨oL,_,_,hoL,_⟩,_⟩:=id I.loc;refine ⟨I.ok,I.os,I.bare,⟨fun b o e n hb hx=>?_,fun b o e n hb hx=>?_,I.base.free,fun b o e hx=>?_,I.base.tups,I.base.frzs,I.base.tbls⟩,⟨_,hn,fun j y v' e1 e2 e3=>?_⟩,fun y c e=>?_,I.free,I.freeC,fun p hp=>?_,fun b ob e=>?_,by simpa using I.len⟩
 ·exact (hs.2 b (Nat.ne_of_lt (Nat.lt_of_lt_of_le (lt_size e) I.ok.above))).trans (I.base.keep b o e n hb hx)
 ·obtain ⟨sl,e1⟩:=I.base.slot b o e n hb hx;exact ⟨sl,(hs.2 b (Nat.ne_of_lt (Nat.lt_of_lt_of_le (lt_size e) I.ok.above))).trans e1⟩
 ·obtain ⟨o',e1⟩:=I.base.there b o e hx;exact ⟨o',(hs.2 b (Nat.ne_of_lt (Nat.lt_of_lt_of_le (lt_size e) I.ok.above))).trans e1⟩
 ·rw [List.getElem?_replicate] at e2;split at e2 <;> cases e2
 ·obtain ⟨w',z⟩:=I.cell y c e;exact ⟨w',z.sameBut hs (I.cne y c e)⟩
 ·obtain ⟨e,n,ne,nf,d⟩:=I.pin p hp;exact ⟨(hs.2 p.1 ne).trans e,n,ne,nf,d⟩
 ·refine (I.hok b ob e).stay (fun c w' hc q=>(hs.2 c ?_).trans q) (fun _ q=>q) fun _ _ q=>q;intro z;subst z;rcases hc with z | hc
  ·rw [← z,I.free] at e; cases e
  ·rw [I.free] at hc; cases hc
end
def PH (X:Cx) (C:Addr) (dx:Option Addr) (hs:List ExceptHandler) (t:Addr->TS):Prop :=
 ∀ (aa:LO) (s:Shared) (σ:St) (H:Hp) (D:Db) (e:Addr) (oe:Obj) (T:Addr) (oT:Obj),Cgt C dx e oe T oT->Inv X ((e,oe) :: (T,oT) :: aa) σ H s->t e D σ H->wpAny (model X.prog X.w) X.A (handleBy (.ref e) X.env hs) (SP X aa D) X.xe s
section
variable {Dn:Addr} {dx:Option Addr} {hs:List ExceptHandler} {t:Addr->TS} {np:Pos} {name:Option Str} {body:List Stmt}
theorem HV (e:Addr):Value.ref e ≠ byPass:=by intro q; cases q
theorem HW {e T:Addr} {oe oT:Obj} (hC:Aw X.K C=true) (hD:Aw X.K Dn=true) (c:Cgt C dx e oe T oT) (I:Inv X ((e,oe) :: (T,oT) :: aa) σ H s) {Q:Bool->Shared->Prop}
  (h:Q ((DT X.K C).contains (.ref Dn)) s):wpAny (model X.prog X.w) A (excMatches (.ref e) (.ref Dn)) Q E s:=by
 obtain ⟨nm,qn,N,bs,bm,ba,sn,sub,ab,col,dd,k0,k1,k2,k3,k5,oC,T1,e1⟩:=JZ I.kIn hC;obtain ⟨nm',qn',N',bs',bm',hdct',sn',sub',ab',col',dd',l0,l1,l2,l3,l5,oD,T2,e2⟩:=JZ I.kIn hD;have he:=(I.pin (e,oe) (by simp)).1;rw [e1] at h;obtain ⟨hp,g,d,tk,os⟩:=s;exact IG oC oD he c.cls T2.base h
theorem Bk (hC:Aw X.K C=true) (hD:Aw X.K Dn=true) (hg:Gl X x) (hm:X.mg x=some (.ref Dn)) (hs':(DT X.K C).contains (.ref Dn)=false) (hr:PH X C dx hs t) (hdb:(x == ("__debug__" : Str))=false:=by decide) :
  PH X C dx (.ExceptHandler (some (.Name x np)) name body pos :: hs) t:=by
 intro aa s σ H D e oe T oT c I h;refine wpAny_handleBy_cons (codeAny_handlers_test ?_) (HV e);refine Bp (X:=BA X e oe T oT) I.mark hg hm ?_ hdb;refine HW hC hD c I ?_;rw [hs'];exact hr aa s σ H D e oe T oT c I h
def MJ (i:Nat) (tb:TS):Addr->TS:=fun e D σ H=>tb { nx:=fun _ _=>False,rt:=D.rt } (σ.set i (some (.ref e))) H
theorem ML {n:Str} {b₀:Stmt} {i:Nat} {tb:Addr->TS} (hN:X.N.Nodup) (hi:X.N[i]?=some n) (hl:X.env.scope.names.lookup n=some .local) (hC:Aw X.K C=true) (hD:Aw X.K Dn=true) (hg:Gl X x) (hm:X.mg x=some (.ref Dn)) (hs':(DT X.K C).contains (.ref Dn)=true)
  (hb:∀ e oe T oT,Cgt C dx e oe T oT->PSs (BA X e oe T oT) (b₀ :: body) (tb e)) (hdb:(x == ("__debug__" : Str))=false:=by decide) :
  PH X C dx (.ExceptHandler (some (.Name x np)) (some n) (b₀ :: body) pos :: hs) (fun e=>MJ i (tb e) e):=by
 intro aa s σ H D e oe T oT c I h;refine wpAny_handleBy_cons (codeAny_handlers_test ?_) (HV e);refine Bp (X:=BA X e oe T oT) I.mark hg hm ?_ hdb;refine HW hC hD c I ?_;rw [hs'];refine codeAny_handlers_suite_as ?_;obtain ⟨vs,hd,h1,h2⟩:=c.fld;obtain ⟨ts,hdT,h3⟩:=c.tb;have he:=(I.pin (e,oe) (by simp)).1;have hT:=(I.pin (T,oT) (by simp)).1;refine wpAny_setFlight_none he hd h1 hT hdT (Array.getElem?_eq_some_iff.mp h3).1 ?_
 have I1:Inv X ((e,oe) :: (T,oT) :: aa) σ H { s with heap:=s.heap.update T (Obj.mapFields (·.setIfInBounds 3 .none)) }:=I.kept (t':=s.toks) fun b u q=>by
  by_cases z:b=T
  ·subst z;have e1:=get?_update_self (Obj.mapFields (·.setIfInBounds 3 Value.none)) hT (Obj.isFreed_of_fields (Obj.data_mapFields hdT _));rw [Dh hdT] at e1
   have e2:ts.setIfInBounds 3 Value.none=ts:=by
    obtain ⟨l1,l2⟩:=Array.getElem?_eq_some_iff.mp h3;rw [Array.setIfInBounds,dif_pos l1]
    conv=>lhs; rw [← l2]
    exact Array.set_getElem_self l1
   rw [e2,← hdT] at e1;rw [show s.heap.get? b=some oT from hT] at q;cases q;exact e1
  ·exact (get?_update_other _ _ (Ne.symm z)).trans q
 refine CL (X:=BA X e oe T oT) (v:=.ref e) I1.mark hN hi (.inl hl) rfl (fun s2 I2=>?_) (.inr hl);refine wpAny_mono (hb e oe T oT c aa s2 _ H _ I2 h) (fun fl s3 z=>?_) fun _ _ z=>z.elim;cases fl with
 | ret u =>
  obtain ⟨v,σ',H',J,rv,q⟩:=z;have J':=J.unmark I.ok;obtain ⟨m,hn,_⟩:=id J'.loc;have bi:(X.env.scope.kind == .class || (X.env.scope.kind == .module && X.env.locals != X.env.globals))=false:=by rw [I.ok.kind]; rfl
  exact wpAny_nameGoes hl hn bi fun h' m' hn' hs'=>⟨v,_,H',(J'.nameless hn' hs').less (q:=[(e,oe),(T,oT)]),rv,q⟩
 | next =>
  obtain ⟨_,_,_,q⟩:=z;exact q.elim
 | brk =>
  obtain ⟨_,_,_,q⟩:=z;exact q.elim
 | cont =>
  obtain ⟨_,_,_,q⟩:=z;exact q.elim
end
noncomputable def EE (X:Cx) (P0:LO) (xe:VS):Cx:={ X with pn:=X.pn++P0,xe:=xe }
section
variable {P0:LO} {xe:VS}
theorem Cx.Ok.tr (ok:X.Ok):(EE X P0 xe).Ok:=⟨ok.mod,ok.kind,ok.glob,ok.blt,ok.above,ok.inj,ok.has,ok.cab,ok.hd,ok.frames,ok.stk,ok.exf,ok.bs,ok.bsz,ok.noex,ok.exfs,ok.funs,ok.frf⟩
theorem Cx.Ok.untr (ok:(EE X P0 xe).Ok):X.Ok:=⟨ok.mod,ok.kind,ok.glob,ok.blt,ok.above,ok.inj,ok.has,ok.cab,ok.hd,ok.frames,ok.stk,ok.exf,ok.bs,ok.bsz,ok.noex,ok.exfs,ok.funs,ok.frf⟩
theorem Inv.tr (I:Inv X P0 σ H s):Inv (EE X P0 xe) [] σ H s:=⟨I.ok.tr,I.os,I.bare,I.base,I.loc,I.cell,I.free,I.freeC,fun p hp=>I.pin p (by simpa [EE] using hp),I.hok,I.len⟩
theorem Inv.untr (I:Inv (EE X P0 xe) aa σ H s):Inv X P0 σ H s:=⟨I.ok.untr,I.os,I.bare,I.base,I.loc,I.cell,I.free,I.freeC,fun p hp=>I.pin p (by
 rcases mem_append.mp hp with z | z
 ·exact mem_append_left _ (mem_append_left _ z)
 ·exact mem_append_left _ (mem_append_right _ z)),I.hok,I.len⟩
end
def QX (n:Nat) (th:Addr->Option Addr->Addr->TS) (D:Db):XK:=fun Cv dx H2=>∃ C,Cv=.ref C/\∀ e,H2 e=some (FP e C dx)->th C dx e D (List.replicate n none) (del H2 e)
def Tx (n:Nat) (tb:XK->TS) (th:Addr->Option Addr->Addr->TS):TS:=fun D σ H=>tb (QX n th D) { D with nx:=D.nx } σ H
section
variable {body:List Stmt} {h₀:ExceptHandler} {hs:List ExceptHandler} {tb:XK->TS} {th:Addr->Option Addr->Addr->TS} {Cs:Addr->Prop}
theorem SA (O:Kt X) (hb:∀ P0 xe E,BQ (CXr X.prog X.w) (EE X P0 xe) E->PSs (EE X P0 xe) body (tb E)) (hh:∀ C dx,PH X C dx (h₀ :: hs) (th C dx)) :
  PS X (.Try body (h₀ :: hs) [] [] pos) (Tx X.N.length tb th):=by
 intro aa s σ H D I h;refine wpAny_Try_except ?_
 let E:XK:=QX X.N.length th D
 let xe:Value->Shared->Prop:=fun ev s2=>∃ σ1 H1 s1 ea C dx H2,ev=.ref ea/\Inv X aa σ1 H1 s1/\Fly X.prog X.w X.stack H1 s1 ea C dx H2 s2/\E (.ref C) dx H2
 have hp:BQ (CXr X.prog X.w) (EE X aa xe) E:=by
  rintro pins' σ1 H1 s1 ev s2 I1 ⟨ea,C,dx,H2,rfl,F,q⟩;exact ⟨σ1,H1,s1,ea,C,dx,H2,rfl,I1.untr,F,q⟩
 have ok:=I.ok;refine wpAny_mono (hb aa xe E hp [] s σ H _ I.tr h) (fun fl s1 z=>?_) fun ev s2 z=>?_
 ·cases fl with
  | next =>
   obtain ⟨σ',H',J,q⟩:=z;exact wpAny_execs_nil ⟨σ',H',J.untr,q⟩
  | brk=>obtain ⟨σ',H',J,q⟩:=z; exact ⟨σ',H',J.untr,q⟩
  | cont=>obtain ⟨σ',H',J,q⟩:=z; exact ⟨σ',H',J.untr,q⟩
  | ret u=>obtain ⟨v,σ',H',J,r,q⟩:=z; exact ⟨v,σ',H',J.untr,r,q⟩
 ·obtain ⟨σ1,H1,s1,ea,C,dx,H2,rfl,I1,F,C',eC,q⟩:=z;cases eC;refine R9 O I1 F fun s3 oe T oT c I3=>?_
  have I4:Inv X ((ea,oe) :: (T,oT) :: aa) (List.replicate X.N.length none) (del H2 ea) s3:=I3.weak (by rw [List.length_replicate,I3.len]) fun i v z=>by
   rw [List.getElem?_replicate] at z;split at z <;> cases z
  exact hh C dx aa s3 _ _ D ea oe T oT c I4 (q ea F.1.at_)
end
structure Dj (K:FG) (C:Addr):Prop where
 ga:W.findIn K (.ref C) "__getattribute__" = some (some (.builtin "BaseException.__getattribute__"))
 gr:W.findIn K (.ref C) "__getattr__" = some none
 mb:W.mroIn K C (.type "BaseException")=some true
section
variable {prog:Program} {x:Addr} {ox:Obj} {od:Option Obj} {name:Str} {g:Array GenState} {d:Drawn} {t:Nat} {os:OsState}
theorem NE {M:Model} {nameV:Value} {Q:Unit->Shared->Prop} (p:Dj K C) (X:K.In h) (I:W.InstAt h x ox C od) (hq:Q () ⟨h,g,d,t,os⟩):wpAny M A (checkBuiltinCall "BaseException.__getattribute__" ⟨[.ref x,nameV],[]⟩) Q E ⟨h,g,d,t,os⟩:=by
 have hk:builtinKind "BaseException.__getattribute__" = some .slot:=by decide +kernel
 have hsplit:splitId "BaseException.__getattribute__" = some ("BaseException", "__getattribute__"):=by decide +kernel
 have ha:=F.args_bexc_ga (.ref x) nameV;have L0:=I.type (M:=M);have L1:=W.looks_mroIn (M:=M) X p.mb;simp only [checkBuiltinCall,hk,hsplit];refine wpAny_bind ?_
 ·unfold isInstance
  repeat (first | with_reducible refine L0.at ?_ | with_reducible refine L1.at ?_ | wp_step)
  exact hq
theorem NF {v:Value} {tk:Tok} {Q:Fin->Shared->Prop} (X:K.In h) (I:W.InstAt h x ox C od) (hf:W.findObj K C od name=some (.value v)) (hq:Q (.done (.ret v)) ⟨h,g,d,t,os⟩) :
  wpAny (model prog w) A (Builtin.«object.__getattribute__» ⟨[.ref x,.str name tk],[]⟩) Q E ⟨h,g,d,t,os⟩:=by
 have L0:=I.type (M:=model prog w);have L1:=W.looks_find (M:=model prog w) X I hf
 repeat (any_goals (first | assumption | with_reducible refine L0.at ?_ | with_reducible refine L1.at ?_ | wp_step))
theorem NG {tk:Tok} {Q:Fin->Shared->Prop} (X:K.In h) (I:W.InstAt h x ox C od) (hf:W.findObj K C od name=some (.bind (.builtin "getset_descriptor.__get__") (.builtin "object.__class__"))) (hm:W.mroIn K C (.type "object")=some true)
  (hq:Q (.done (.ret (.ref C))) ⟨h,g,d,t,os⟩) :
  wpAny (model prog w) A (Builtin.«object.__getattribute__» ⟨[.ref x,.str name tk],[]⟩) Q E ⟨h,g,d,t,os⟩:=by
 have L0:=I.type (M:=model prog w);have L1:=W.looks_find (M:=model prog w) X I hf
 repeat (any_goals (first | assumption | with_reducible refine L0.at ?_ | with_reducible refine L1.at ?_ | wp_step))
 exact W.class_get X I hm (wpAny_pure hq)
theorem Om {tk:Tok} {v:Value} {R:Result->Shared->Prop} (p:Dj K C) (X:K.In h) (I:W.InstAt h x ox C od)
  (hb:∀ (A':Around) (E':VS) (Q:Fin->Shared->Prop),Q (.done (.ret v)) ⟨h,g,d,t,os⟩->wpAny (model prog w) A' (Builtin.«object.__getattribute__» ⟨[.ref x,.str name tk],[]⟩) Q E' ⟨h,g,d,t,os⟩) (hq:R (.ok (.ret v)) ⟨h,g,d,t,os⟩) :
  codeAny (model prog w) A (.call (.builtin "BaseException.__getattribute__") ⟨[.ref x,.str name tk],[]⟩) R ⟨h,g,d,t,os⟩ :=
 codeAny_call_builtin F.excAttr_ValueError.ga.plain F.entry_bexc_ga (NE p X I (hb _ _ _ hq))
theorem On {tk:Tok} {v:Value} {fill expr:Bool} {Q:VS} (p:Dj K C) (X:K.In h) (I:W.InstAt h x ox C od) (hh:W.handedIn v=true)
  (hb:∀ (A':Around) (E':VS) (Q:Fin->Shared->Prop),Q (.done (.ret v)) ⟨h,g,d,t,os⟩->wpAny (model prog w) A' (Builtin.«object.__getattribute__» ⟨[.ref x,.str name tk],[]⟩) Q E' ⟨h,g,d,t,os⟩) (hq:Q v ⟨h,g,d,t,os⟩) :
  wpAny (model prog w) A (getAttrBy (.ref x) (.str name tk) fill expr) Q E ⟨h,g,d,t,os⟩:=by
 have L0:=I.type (M:=model prog w);have L1:=W.looks_findIn (M:=model prog w) X p.ga;have L2:=W.looks_findIn (M:=model prog w) X p.gr;have f3:=F.excAttr_ValueError.ga.bind (.ref x);have hx0:(expr && onTheHeap (Value.builtin "BaseException.__getattribute__"))=false:=by cases expr <;> rfl
 have hx2:(Value.builtin "BaseException.__getattribute__" == Value.builtin "object.__getattribute__")=false:=by decide +kernel
 have hx1:(onTheHeap (Value.ref C) && Value.builtin "BaseException.__getattribute__" == Value.builtin "object.__getattribute__")=false:=by rw [hx2]; rfl
 have ho:=W.handedOut_of hh
 repeat (any_goals (first | assumption | with_reducible refine L0.at ?_ | with_reducible refine L1.at ?_ | with_reducible refine L2.at ?_ | wp_step))
 refine Om p X I hb ?_
 repeat (any_goals (first | assumption | (rw [ho]; exact wpAny_pure hq) | wp_step))
theorem Oo {v:Value} {expr:Bool} {Q:VS} (p:Dj K C) (X:K.In h) (I:W.InstAt h x ox C od) (hf:W.findObj K C od name=some (.value v)) (hh:W.handedIn v=true) (hq:Q v ⟨h,g,d,t + 1,os⟩) :
  wpAny (model prog w) A (getAttr (.ref x) name expr) Q E ⟨h,g,d,t,os⟩:=by
 unfold getAttr;refine wpAny_bind (wpAny_mkText ?_);exact On p X I hh (fun A' E' Q' z=>NF X I hf z) hq
theorem Ja {Q:Option Value->Shared->Prop} (p:Dj K C) (X:K.In h) (I:W.InstAt h x ox C od) (hf:W.findObj K C od "__class__" = some (.bind (.builtin "getset_descriptor.__get__") (.builtin "object.__class__"))) (hm:W.mroIn K C (.type "object")=some true)
  (hq:Q (some (.ref C)) ⟨h,g,d,t + 1,os⟩):wpAny (model prog w) A (getAttr? (.ref x) "__class__") Q E ⟨h,g,d,t,os⟩:=by
 unfold getAttr? getAttrBy?;refine wpAny_bind (wpAny_mkText (wpAny_bind (wpAny_attempt ?_)));exact On (v:=.ref C) p X I rfl (fun A' E' Q' z=>NG X I hf hm z) (wpAny_pure hq)
end
theorem Gz {name:Str} {od:Option Obj} {a g:Value} (hc:(W.clsIn K C).isSome=true) (ha:W.findIn K (.ref C) name=some (some a)) (hg:W.specialIn K a "__get__" = some (some g)) (ht:W.takesIn K a=some true):W.findObj K C od name=some (.bind g a):=by
 obtain ⟨cd,hc⟩:=Option.isSome_iff_exists.mp hc;unfold W.findObj;rw [hc,Option.bind_some,ha,Option.bind_some];simp [hg,ht]
structure QY (K:FG) (C:Addr):Prop where
 hg:Dj K C
 hc:(W.clsIn K C).isSome=true
 ha:W.findIn K (.ref C) "__class__" = some (some (.builtin "object.__class__"))
 hn:W.specialIn K (.builtin "object.__class__") "__get__" = some (some (.builtin "getset_descriptor.__get__"))
 htk:W.takesIn K (.builtin "object.__class__")=some true
 hm:W.mroIn K C (.type "object")=some true
theorem Op {x D:Addr} {ox:Obj} {od:Option Obj} (k:QY K D):W.KitX K (.ref x) (.ref D) (fun h=>W.InstAt h x ox D od) where
 ty:=fun _ _ _ I=>I.type
 it:=fun _ _ X _=>by
  have hcD:=k.hc;unfold W.clsIn at hcD;split at hcD
  ·rename_i c' d' cd' sl' ho;intro A' Q' E' s' k q;unfold isType loadHead;exact wpAny_bind (wpAny_loadPart (k _ _ (X _ _ ho)) (wpAny_pure q))
  ·cases hcD
 ne:=fun h tp dd its n sl X htp=>by
  have hcD:=k.hc;refine Bool.eq_false_iff.mpr fun q=>?_;have e:D=tp:=Value.ref.inj (beq_iff_eq.mp q);subst e;unfold W.clsIn at hcD;split at hcD
  ·rename_i c' d' cd' sl' ho;have z:=(X _ _ ho).symm.trans htp;cases z
  ·cases hcD
 ca:=fun {prog w A E Q s} X I h=>by
  obtain ⟨hh,g,d,t,os⟩:=s;exact Ja k.hg X I (Gz k.hc k.ha k.hn k.htk) k.hm h
structure ExcP (X:Cx) (e:Addr) (oe:Obj) (C:Addr):Prop where
 at_:(e,oe) ∈ X.pn
 cls:oe.cls=.ref C
 fld:∃ vs,oe.data=.fields vs
section
variable {e:Addr} {oe:Obj}
theorem ExcP.inst (p:ExcP X e oe C) (I:Inv X aa σ H s) (hd:oe.dict=none\/∃ d u,oe.dict=some d/\H d=some u):∃ od,W.InstAt s.heap e oe C od:=by
 have he:=(I.pin (e,oe) (mem_append_left _ p.at_)).1;obtain ⟨vs,hv⟩:=p.fld;have no:W.notCls oe=true:=by unfold W.notCls; rw [hv]
 rcases hd with z | ⟨d,u,z,hu⟩
 ·exact ⟨none,he,p.cls,no,by rw [z]; trivial⟩
 ·have hlt:=(I.hok d u hu).lt
  have:∃ o,s.heap.get? d=some o:=by
   have q:=(I.hok d u hu);cases u with
   | lst xs=>obtain ⟨_,_,_,_,e⟩:=q; exact ⟨_,e⟩
   | tup xs=>obtain ⟨_,_,_,o,e,_⟩:=q; exact ⟨o,e⟩
   | dK kvs=>obtain ⟨_,_,_,_,o,_,_,e,_⟩:=q; exact ⟨o,e⟩
   | dT kvs=>obtain ⟨_,_,_,_,o,_,_,e,_⟩:=q; exact ⟨o,e⟩
   | set S n=>obtain ⟨o,_,_,_,e,_⟩:=q; exact ⟨o,e⟩
   | ins C dx fs=>obtain ⟨_,_,_,e,_⟩:=q; exact ⟨_,e⟩
   | own y=>exact q
   | xd fs=>obtain ⟨_,⟨o,_,_,e,_⟩,_⟩:=q; exact ⟨o,e⟩
   | rng lo hi=>obtain ⟨_,_,_,e⟩:=q; exact ⟨_,e⟩
   | frz ob u=>exact ⟨_,q.1⟩
   | tbl ps=>exact ⟨_,(show s.heap.get? d=some _ from q)⟩
   | met f y=>exact ⟨_,(show s.heap.get? d=some _ from q)⟩
   | ext φ=>exact q.2.1
  obtain ⟨o,ho⟩:=this;exact ⟨some o,he,p.cls,no,by rw [z]; exact ho⟩
theorem HX (p:ExcP X e oe C) (k:QY X.K C):BJ X (.builtin "isinstance") (fun xs H Q=>∃ v c b,xs=[.ref e,v]/\((∃ D,v=.ref D/\c=.ref D)\/∃ T,v=.ty T/\c=.type T)/\(oe.dict=none\/∃ d u,oe.dict=some d/\H d=some u)/\W.kitOne X.K (.ref C) c=some b/\Q (.bl b) H):=by
 intro aa s σ H xs us Q I r h;obtain ⟨v,c,b,rfl,hv,hd,hk,q⟩:=h;obtain ⟨u,uT,rfl,ru,ruT⟩:=G9 r;cases (show u=Value.ref e from ru);obtain ⟨od,J⟩:=p.inst I hd
 have hc:uT=c:=by
  rcases hv with ⟨D,rfl,rfl⟩ | ⟨T,rfl,rfl⟩
  ·exact ruT
  ·exact ruT
 subst hc;exact W.kia_one (Op k) I.kIn J hk (fun z=>nomatch z) fun tk=>⟨.bl b,H,I.tok tk,rfl,q⟩
end
section
variable {k:Nat} {e:Addr} {oe:Obj} {fd:FuncData} {ps:List Str} {sp:SpS} {p:Pos} {a:Expr} {es:List Expr} {t:TA}
def IH (sp:SpS) (e:Addr) (oe:Obj) (t:TA):TE:=fun σ H Q=>t σ H fun vs H1=>sp e oe vs H1 Q
theorem Jb (F:MH X.prog X.w X.K X.mg X.base k f fd ps sp) (hr:RoomS k X.A) (hh:X.A.handled=some (.ref e)) (at_:(e,oe) ∈ X.pn) (hg:Gl X x) (hm:X.mg x=some (.ref f)) (hk:W.keepIn X.K (.ref f)=true) (hb:Binds X.K fd ps [])
  (ha:PA X (a :: es) t) (hdb:(x == ("__debug__" : Str))=false:=by decide) (he:starEach (a :: es) X.env=(false,eval a X.env) :: starEach es X.env:=by rfl) (hpl:(backTo pos (starEach es X.env)).any (·.1)=false:=by rfl) :
  PE X (.Call (.Name x p) (a :: es) [] pos) (IH sp e oe t):=by
 intro aa s σ H Q I h;refine wpAny_Call_Name_kw (Bp I hg hm ?_ hdb);refine W.callWith_K (h₀:=X.base) I.ok.mod.kin hk (thn (ha pos aa s σ H _ I h) fun us s1 ⟨vs,H1,I1,r,q⟩=>⟨I1.kIn,?_⟩) he hpl;obtain ⟨e1,e2,e3,e4,e5⟩:=I1.pin (e,oe) (mem_append_left _ at_);have hl:(us++[]).length=ps.length:=by rw [append_nil,← r.length]; exact F.len _ _ _ _ _ q
 have bb:=hb s1 us I1.kIn hl;rw [append_nil] at bb;refine wpAny_call (codeAny_mono (F.run X.A X.stack s1 H1 ⟨us,[]⟩ us vs Q e oe hr I1.env0 hh e1 e2 (fun z=>(mem_cons.mp (I1.stkSub e z)).elim e3 e4) e5 bb r q) fun r s' hq=>?_);cases r with
 | error e=>exact False.elim hq
 | ok fl =>
  cases fl with
  | ret u=>exact I1.after hq
  | next=>exact False.elim hq
  | brk=>exact False.elim hq
  | cont=>exact False.elim hq
end
theorem Oq (a b:Bool):MeetsSeq.EqGives (.bool a) (.bool b) (a == b):=fun prog w A E s Q h=>SeqAt.EqAt.bool_bool a b prog w E Q h
theorem HY:∀ {bs:List Bool} {us:List Value},Vals (bs.map V.bl) us->us=bs.map Value.bool
 | [],_,.nil=>rfl
 | _ :: _,_,.cons r t=>by rw [map_cons,← HY t]; cases r; rfl
def QZ:V->List V->Hp->VK->Prop:=fun x vs H Q=>∃ (l:Addr) (bs:List Bool) (j:Nat),x=.ref l/\vs=[.bl true]/\H l=some (.lst (bs.map V.bl))/\bs[j]?=some true/\(∀ m,m < j->bs[m]?=some false)/\Q (.int (j:Nat)) H
section
theorem NH:MtM X "list.index" QZ:=by
 intro aa s σ H x vs v us Q I rx rv h;obtain ⟨l,bs,j,rfl,rfl,hH,hj,hno,q⟩:=h;cases rx;obtain ⟨u,rfl,ru⟩:=rv.one;obtain rfl:u=Value.bool true:=ru;obtain ⟨z,its,n,r,hl,e⟩:=I.lstM hH;have ei:=HY r;subst ei;have hjs:j < bs.length:=(List.getElem?_eq_some_iff.mp hj).1
 have hz:(j:Int) < 2 ^ 63 - 1:=by
  have hs:sizeLine < 2 ^ 62:=by decide
  rw [AK] at z;omega
 refine call_meets F.slot_list_index ⟨_,e,rfl⟩ F.entry_list_index (F.args_list_index_2 _ _)
  (MeetsSeq.list_index l (bs.map Value.bool).toArray n (.bool true) (fun y=>match y with | .bool a=>a == true | _=>false) (fun y hy=>?_) j (by simpa using hjs) hz ?_ fun m hm hlt=>?_) ⟨e,?_⟩
 ·obtain ⟨a,_,rfl⟩:=mem_map.mp (List.mem_toArray.mp hy);exact Oq a true
 ·have:=(List.getElem?_eq_some_iff.mp hj).2;simp [this]
 ·have:=(List.getElem?_eq_some_iff.mp (hno m hlt)).2;simp [this]
 ·exact ⟨.int (j:Nat),H,I.tok _,⟨_,rfl⟩,q⟩
end
noncomputable def FnO (f:Addr) (o:Obj):HO:=.ext fun h=>h.get? f=some o
noncomputable def EG (c:Addr) (qual:Str):HO:=.ext fun h=>h.CodeRec (.ref c) qual
noncomputable def C8 (P:Program) (w:World) (K:FG) (mg:SV) (base:Heap) (N:List Str) (qual:Str) (scope:Scope) (f:Addr) (cd:Value) (cl:List (Str × Addr)) (A:Around) (outer:List Env) (s:Shared) (H:Hp) (E:XK):Cx where
 prog:=P
 w:=w
 K:=K
 mg:=mg
 base:=base
 A:=A.deeper (W.envX qual scope s.heap.objs.size f cd cl)
 N:=N
 s₀:=s
 H₀:=H
 env:=W.envX qual scope s.heap.objs.size f cd cl
 outer:=outer
 stack:=W.envX qual scope s.heap.objs.size f cd cl :: outer
 ex:=[]
 calm:=true
 fn:=fun _=>false
 pn:=[]
 xe:=fun e s'=>wpAny (model P w) (A.deeper (W.envX qual scope s.heap.objs.size f cd cl)) (leaving (W.envX qual scope s.heap.objs.size f cd cl) e) (fun _ s''=>CXr P w outer H s E e s'') (fun e' s''=>CXr P w outer H s E e' s'') s'
structure F3 (N:List Str) (scope:Scope) (cl:List (Str × Addr)) (σ:St) (H:Hp) (h:Heap):Prop where
 inj:∀ x y c,cl.lookup x=some c->cl.lookup y=some c->x=y
 has:∀ x,(scope.names.lookup x=some .cell\/scope.names.lookup x=some .free)->∃ c,cl.lookup x=some c
 cell:∀ x c,cl.lookup x=some c->(∃ v,h.IsCell c v)/\H c=none
 val:∀ (i:Nat) x v,N[i]?=some x->σ[i]?=some (some v)->scope.names.lookup x=some .free/\∃ u c,RelV v u/\cl.lookup x=some c/\h.IsCell c (some u)
 len:σ.length=N.length
section
variable {qual name:Str} {scope:Scope} {c':Addr} {cd:Value} {cl:List (Str × Addr)} {outer:List Env} {E:XK}
theorem Ty:Kt (C8 P w K mg base N qual scope f cd cl A outer s H E):=⟨rfl,rfl,rfl⟩
theorem TB:BQ (CXr P w) (C8 P w K mg base N qual scope f cd cl A outer s H E) E:=by
 rintro aa σ H1 s1 e s2 I ⟨ea,C,dx,H2,rfl,F,q⟩;exact wpAny_mono (F1 (X:=C8 P w K mg base N qual scope f cd cl A outer s H E) Ty I F) (fun _ s3 G=>⟨ea,C,dx,H2,rfl,G,q⟩) fun _ _ z=>z
theorem K0 {h1:Heap} {m0:SV} {tk:Nat} (hk0:scope.kind=.function) (hd:A.handled=none) (e0:Env0 P w K mg base A outer s H) (C:F3 N scope cl σ H s.heap) (hns:h1.Ns s.heap.objs.size m0) (hk:∀ b o,s.heap.get? b=some o->h1.get? b=some o) :
  Inv (C8 P w K mg base N qual scope f cd cl A outer s H E) [] σ H { s with heap:=h1,toks:=tk }:=by
 have noA:∀ b:Addr,b ∉ (C8 P w K mg base N qual scope f cd cl A outer s H E).ex:=fun b z=>absurd (show b ∈ ([]:List Addr) from z) (by simp);have cellK:∀ {c:Addr} {v:Option Value},s.heap.IsCell c v->h1.IsCell c v:=fun {c v} ⟨o,ho,hd⟩=>⟨o,hk _ _ ho,hd⟩
 refine ⟨⟨e0.mod,hk0,rfl,rfl,Nat.le_refl _,C.inj,C.has,fun y c z _=>(by cases (show false=true from z)),fun _=>hd,Around.frames_deeper e0.frames,.inr ⟨rfl,rfl⟩,fun b z=>absurd z (noA b),e0.bs,e0.bsz,fun b _ _=>noA b,fun b z=>absurd z (noA b),e0.funs,e0.frf⟩,
  rfl,e0.bare,Un.kept hk,⟨m0,hns,fun i x v h1 h2 h3=>?_⟩,fun y c h=>?_,e0.hok.fresh (Nat.le_refl _),fun y c h=>(C.cell y c h).2,fun p hp=>absurd (show p ∈ ([]:LO) from hp) (by simp),e0.hok.kept hk,C.len⟩
 ·obtain ⟨k,u,c,r,e,z⟩:=C.val i x v h1 h2;exact ⟨u,r,.inr ⟨.inr k,c,e,cellK z⟩⟩
 ·obtain ⟨⟨v,z⟩,_⟩:=C.cell y c h;exact ⟨v,cellK z⟩
theorem Os {k:Nat} {params:Arguments} {body:Expr} {pm ctv:Value} {Q:VK} {tb:TE} (hr:Room k A) (e0:Env0 P w K mg base A outer s H) (C:F3 N scope cl σ H s.heap)
  (ho:s.heap.get? f=some (W.kla_obj name qual params body scope cl pm c' ctv)) (hcd:s.heap.CodeRec (.ref c') qual) (bn:bindArgs (W.kla_fn name qual params body scope cl pm (.ref c') ctv) ⟨[],[]⟩=pure [])
  (hco:scope.isCoroutine=false) (bq:scope.isGenerator=false) (hk:scope.kind=.function) (be:∀ x ∈ scope.names,x.2 ≠ .cell)
  (hb:PE (C8 P w K mg base N qual scope f (.ref c') cl A outer s H E) body tb) (h:tb σ H Q):codeAny (model P w) A (.call (.ref f) ⟨[],[]⟩) (CR (CXr P w) outer P w H s Q E) s:=by
 have lim:s.heap.NoLimit:=e0.mod.nolimit.keeps fun b o e=>(e0.bs b o e).1;refine W.kla_callFunE hr.depth ho rfl hco bq rfl hcd ?_;rw [bn];refine wpAny_pure (wpAny_newFunctionEnv be (fun y hy=>nomatch hy) (fun h₁ hns hsb=>⟨lim.fresh _ hsb,?_⟩) hk);show codeAny _ _ (.expr body (W.envX qual scope s.heap.objs.size f (.ref c') cl)) _ _;have hk₁:∀ b o,s.heap.get? b=some o->h₁.get? b=some o:=fun b o e=>hsb.extBut b o (Nat.ne_of_lt (lt_size e)) (get?_push_of_some _ e);have I:Inv (C8 P w K mg base N qual scope f (.ref c') cl A outer s H E) [] σ H _:=K0 (tk:=s.toks + ([]:List (Str × Value)).length) hk hr.hd e0 C hns hk₁;exact W.kla_codeExpr (wpAny_mono (hb [] _ σ H Q I h) (fun v s' ⟨x,H',J,rv,q⟩=>⟨x,H',J.os,J.bare,J.base,J.hok,rv,q⟩) fun e s' z=>z)
end
section
theorem Inv.cells {scope:Scope} {cl:List (Str × Addr)} {σl:St} (I:Inv X aa σ H s) (C:F3 N scope cl σl X.H₀ X.s₀.heap) (hfs:∀ x c,cl.lookup x=some c->c ∉ X.fs) (hex:X.ex=[]):F3 N scope cl σl H s.heap:=by
 have kp:∀ x c v,cl.lookup x=some c->X.s₀.heap.IsCell c v->s.heap.IsCell c v:=fun x c v e ⟨o,ho,hd⟩=>⟨o,I.base.keep c o ho (C.cell x c e).2 (hfs x c e) (by rw [hex]; simp),hd⟩;refine ⟨C.inj,C.has,fun x c e=>?_,fun i x v h1 h2=>?_,C.len⟩
 ·obtain ⟨⟨v,z⟩,n⟩:=C.cell x c e;obtain ⟨o,ho,_⟩:=id z;exact ⟨⟨v,kp x c v e z⟩,I.base.free c o ho n (by rw [hex]; simp)⟩
 ·obtain ⟨k,u,c,r,e,z⟩:=C.val i x v h1 h2;exact ⟨k,u,c,r,e,kp x c _ e z⟩
def Jc (i:Nat) (f c':Addr) (qual:Str) (o:Obj) (σl:St) (tb:TE):TE:=fun σ H Q=>σ[i]?=some (some (.ref f))/\H f=some (FnO f o)/\H c'=some (EG c' qual)/\tb σl H Q
theorem K3 {i k:Nat} {name qual:Str} {p:Pos} {Nl:List Str} {scope:Scope} {cl:List (Str × Addr)} {σl:St} {c':Addr} {params:Arguments} {body:Expr} {pm ctv:Value} {tb:TE} {E:XK}
  (hN:X.N[i]?=some x) (hv:Vis X.env.scope x) (hr:Room k X.A) (C:F3 Nl scope cl σl X.H₀ X.s₀.heap) (hfs:∀ x c,cl.lookup x=some c->c ∉ X.fs) (hex:X.ex=[]) (hx:BQ (CXr X.prog X.w) X E)
  (bn:bindArgs (W.kla_fn name qual params body scope cl pm (.ref c') ctv) ⟨[],[]⟩=pure [])
  (hco:scope.isCoroutine=false) (bq:scope.isGenerator=false) (hk:scope.kind=.function) (be:∀ x ∈ scope.names,x.2 ≠ .cell)
  (hb:∀ s H,PE (C8 X.prog X.w X.K X.mg X.base Nl qual scope f (.ref c') cl X.A X.stack s H E) body tb) (hd:(x == ("__debug__" : Str))=false:=by decide) (hcd:(x == ("__classdict__" : Str))=false:=by decide) :
  PE X (.Call (.Name x p) [] [] pos) (Jc i f c' qual (W.kla_obj name qual params body scope cl pm c' ctv) σl tb):=by
 intro aa s σ H Q I h;obtain ⟨h1,h2,h3,h4⟩:=h;refine wpAny_Call_Name_kw (thn (KK hN hv hd hcd aa s σ H (fun v H'=>v=.ref f/\H'=H) I ⟨_,h1,rfl,rfl⟩) fun u s1 ⟨v,H1,I1,r,ev,eH⟩=>?_);subst ev eH;obtain rfl:u=Value.ref f:=r;obtain ⟨ho,_,_⟩:=I1.hok _ _ h2;obtain ⟨hc,_,_⟩:=I1.hok _ _ h3;refine callWith_meth0 rfl ho (wpAny_call (codeAny_mono (Os hr I1.env0 (I1.cells C hfs hex) ho hc bn hco bq hk be (hb s1 H1) h4) fun r s' hq=>?_));cases r with
 | error e=>exact hx aa σ H1 s1 e s' I1 hq
 | ok fl =>
  cases fl with
  | ret u=>exact I1.after hq
  | next=>exact False.elim hq
  | brk=>exact False.elim hq
  | cont=>exact False.elim hq
end
section
variable {CX:CXT}
theorem Fun.at {qual:Str} {st:Stmt} {fd:FuncData} {ps:List Str} {k:Nat} {outer:List Env} {args:Args} {vs:List V} {Q:VK} {E:XK} (F:Fun K x qual st f fd) (S:AL N ps (defScope st)) (hl:vs.length=ps.length)
  (hr:Room (k + 1) A) (e0:Env0 P w K mg base A outer s H) (hb:BindsTo s fd args (ps.zip us)) (r:Vals vs us)
  (bd:∀ ad,Room k (A.deeper (envOfC qual (defScope st) s.heap.objs.size f ad))->∃ t,PSs (A8 CX P w K mg base N qual (defScope st) f ad A outer s H E) (defBody st) t/\t { nx:=fun _ H'=>Q .non H',rt:=Q } (BS N vs) H) :
  codeAny (model P w) A (.call (.ref f) args) (CR CX outer P w H s Q E) s:=by
 obtain ⟨oc,od,kV,doc,pm,an,ad,ct,osl,rfl,lk,hcd⟩:=F.ex;have KX:K.In s.heap:=e0.mod.kin.keeps fun b o z=>(e0.bs b o z).1;have lim:s.heap.NoLimit:=e0.mod.nolimit.keeps fun b o z=>(e0.bs b o z).1
 have hk:∀ y ∈ ps.zip us,(defScope st).names.lookup y.1=some .local\/((defScope st).names.lookup y.1=some .cell/\((cellsFrom (s.heap.objs.size + 1) (defScope st).names []).lookup y.1).isSome=true):=fun ⟨n,v⟩ hy=>by
  rcases S.par n (of_mem_zip hy).1 with q | q
  ·exact .inl q
  ·exact .inr ⟨q,W.cellsFrom_some _ _ _ (.inl q)⟩
 refine codeAny_call_function hr.depth (KX _ _ lk) rfl S.co S.gen rfl (W.codeRec_of KX hcd) (hb _ _ _ _ (wpAny_newFunctionEnv_cells S.kind hk fun env ee s1 x=>?_));subst ee;refine ⟨lim.keeps x.toInCall.keep,codeAny_func ?_⟩;obtain ⟨t,ht,hq⟩:=bd ad (hr.deeper _);have I:Inv (A8 CX P w K mg base N qual (defScope st) f ad A outer s H E) [] (BS N vs) H s1:=Ej S hr.hd e0 hl r x;refine wpAny_mono (ht [] s1 (BS N vs) H _ I hq) (fun fl s' z=>?_) fun _ _ z=>z;cases fl with
 | ret u =>
  obtain ⟨v,σ',H',J,rv,q⟩:=z;exact ⟨v,H',J.os,J.bare,J.base,J.hok,rv,q⟩
 | next =>
  obtain ⟨σ',H',J,q⟩:=z;exact ⟨.non,H',J.os,J.bare,J.base,J.hok,rfl,q⟩
 | brk =>
  obtain ⟨_,_,_,q⟩:=z;exact q.elim
 | cont =>
  obtain ⟨_,_,_,q⟩:=z;exact q.elim
end
theorem FQ {q:Pos} {c:Value} (ax:(q.line == pos.line && q.col == pos.col)=false) (l:List Value) (h:TriplesOk l):codeAmong q (l++[rawInt pos.line,rawInt pos.col,c])=codeAmong q l:=by
 fun_induction TriplesOk l with
 | case1 =>
  have:((pos.line:Int) == (q.line:Int) && (pos.col:Int) == (q.col:Int))=false:=by
   rw [Bool.and_eq_false_iff] at ax ⊢;rcases ax with z | z
   ·left; rw [beq_eq_false_iff_ne] at z ⊢; omega
   ·right; rw [beq_eq_false_iff_ne] at z ⊢; omega
  simp [codeAmong,rawInt,this]
 | case2 a t b u x rest ih =>
  simp only [List.cons_append,codeAmong];split
  ·rfl
  ·exact ih h
 | case3 l h1 h2=>exact h.elim
def TabOk (H:Hp) (P0:Addr) (qual:Str) (ls:List Pos):Prop:=∃ ps,H P0=some (.tbl ps)/\TriplesOk ps.toList/\∀ q ∈ ls,codeAmong q ps.toList=none\/∃ c',codeAmong q ps.toList=some (.ref c')/\H c'=some (EG c' qual)
def Jd (P0:Addr) (H H':Hp):Prop:=∀ b u,b ≠ P0->H b=some u->H' b=some u
structure Qa (X:Cx) (c P0:Addr):Prop where
 code:X.env.code=.ref c
 hd:W.CodeHd X.base c P0
 bu:X.base.BuiltinsAt X.mg P0
section
variable {c P0:Addr} {ls:List Pos} {lpos:Pos}
def TC (P0:Addr) (qual:Str) (ls:List Pos) (o:Addr->Value->Obj):TE:=fun σ H Q=>TabOk H P0 qual ls/\∀ f c' ctv H',H f=none->Jd P0 H H'->TabOk H' P0 qual ls->H' f=some (FnO f (o c' ctv))->H' c'=some (EG c' qual)->Q (.ref f) H'
theorem Qb {c':Addr} {qual:Str} (r:h.CodeRec (.ref c') qual):ObjOk P w H h c' (EG c' qual):=by
 obtain ⟨c1,oc,vs,t,e,ho,hd,hq⟩:=id r;cases e;exact ⟨r,⟨_,ho⟩,fun h1 h2 ⟨c2,o2,v2,t2,e2,a,b⟩ k=>by cases e2; exact ⟨_,o2,v2,t2,rfl,k _ a,b⟩⟩
theorem RW {o:Obj} (r:h.get? f=some o):ObjOk P w H h f (FnO f o):=⟨r,⟨_,r⟩,fun h1 h2 a k=>k _ a⟩
theorem SB {params:Arguments} {body:Expr} {scope:Scope} {clos:List (Str × Addr)} (L:Qa X c P0) (hm:lpos ∈ ls) (ax:∀ q ∈ ls,q=lpos\/(q.line == lpos.line && q.col == lpos.col)=false)
  (af:closureFor scope X.env=pure clos) (ci:defaultsOf params X.env=([],[])) :
  PE X (.Lambda params body scope lpos) (TC P0 (X.env.qual ++ "<lambda>") ls (fun c' ctv=>W.kla_obj "<lambda>" (X.env.qual ++ "<lambda>") params body scope clos ((X.mg "__name__").getD .none) c' ctv)):=by
 intro aa s σ H Q I h;obtain ⟨⟨ps,hP,ht,hls⟩,k⟩:=h;have bk:∀ b o,X.base.get? b=some o->s.heap.get? b=some o:=fun b o e=>(I.bs b o e).1;have hPg:s.heap.get? P0=some (W.tabObj ps):=I.hok _ _ hP;have hgs:s.heap.Ns mainGlobals X.mg:=I.ok.mod.glob.keeps bk
 have hgP:mainGlobals ≠ P0:=fun q=>by
  obtain ⟨o,es,ep,e,_⟩:=I.ok.mod.glob;have n:=(I.bs _ _ e).2;rw [q,hP] at n;cases n
 have C:=L.hd.keeps bk
 have B:s.heap.BuiltinsAt X.mg P0:=by
  obtain ⟨bm,o,a1,a2,a3,a4,a5,a6⟩:=L.bu;exact ⟨bm,o,a1,a2,a3,a4,bk _ _ a5,a6⟩
 refine W.kla_eval ci ?_;rcases hls lpos hm with hn | ⟨c',hf,hc'⟩
 ·refine W.kla_makeFunction (mg:=X.mg) af I.ok.glob hgs L.code C hPg ht hn hgP B fun c' ctv h' tk hx hge hlt hrec av=>?_;have kp:∀ b o,b ≠ P0->s.heap.get? b=some o->(h'.push (W.kla_obj "<lambda>" (X.env.qual ++ "<lambda>") params body scope clos ((X.mg "__name__").getD .none) c' ctv)).get? b=some o:=fun b o n e=>get?_push_of_some _ (hx b o n e);have lt:∀ b u,H b=some u->b < s.heap.objs.size:=fun b u e=>I.hok.lt e;have hfs:s.heap.objs.size <= h'.objs.size:=Nat.le_trans hge (Nat.le_of_lt hlt);have hPl:P0 < s.heap.objs.size:=lt _ _ hP;have hcP:c' ≠ P0:=fun z=>by rw [z] at hge; exact absurd hPl (Nat.not_lt_of_le hge)
  have hfP:h'.objs.size ≠ P0:=fun z=>by rw [z] at hfs; exact absurd hPl (Nat.not_lt_of_le hfs)
  have hcf:c' ≠ h'.objs.size:=Nat.ne_of_lt hlt;generalize br:upd (upd (upd H P0 (.tbl (ps++#[rawInt lpos.line,rawInt lpos.col,.ref c']))) c' (EG c' (X.env.qual ++ "<lambda>"))) h'.objs.size (FnO h'.objs.size (W.kla_obj "<lambda>" (X.env.qual ++ "<lambda>") params body scope clos ((X.mg "__name__").getD .none) c' ctv))=H'
  have oth:∀ b,b < s.heap.objs.size->b ≠ P0->H' b=H b:=fun b hb n=>by
   rw [← br,AG (Nat.ne_of_lt (Nat.lt_of_lt_of_le hb hfs)),AG (Nat.ne_of_lt (Nat.lt_of_lt_of_le hb hge)),AG n]
  have atP:H' P0=some (.tbl (ps++#[rawInt lpos.line,rawInt lpos.col,.ref c'])):=by rw [← br,AG (Ne.symm hfP),AG (Ne.symm hcP),AB]
  have atc:H' c'=some (EG c' (X.env.qual ++ "<lambda>")):=by rw [← br,AG hcf,AB]
  have atf:H' h'.objs.size=some (FnO h'.objs.size (W.kla_obj "<lambda>" (X.env.qual ++ "<lambda>") params body scope clos ((X.mg "__name__").getD .none) c' ctv)):=by rw [← br,AB]
  have ntbl:∀ b u,H b=some u->(∀ qs,u ≠ .tbl qs)->b ≠ P0:=fun b u e n z=>by subst z; rw [hP] at e; cases e; exact n _ rfl
  have un:Un X.fs [] H H' s.heap (h'.push (W.kla_obj "<lambda>" (X.env.qual ++ "<lambda>") params body scope clos ((X.mg "__name__").getD .none) c' ctv)):=by
   have nP:∀ b,H b=none->b ≠ P0:=fun b n z=>by subst z; rw [hP] at n; cases n
   refine ⟨fun b o q n _ _=>kp b o (nP b n) q,fun b o q n _ _=>⟨o.slots,kp b o (nP b n) q⟩,fun b o q n _=>by rw [oth b (lt_size q) (nP b n)]; exact n,fun b o q _=>?_,fun b xs e=>?_,fun b o u e=>?_,fun b qs e=>?_⟩
   ·by_cases z:b=P0
    ·subst z; exact ⟨_,get?_push_of_some _ av⟩
    ·exact ⟨o,kp b o z q⟩
   ·rw [oth b (lt _ _ e) (ntbl b _ e fun _ y=>nomatch y)]; exact e
   ·rw [oth b (lt _ _ e) (ntbl b _ e fun _ y=>nomatch y)]; exact e
   ·by_cases z:b=P0
    ·subst z;rw [hP] at e;cases e;exact ⟨_,atP⟩
    ·exact ⟨#[],by rw [oth b (lt _ _ e) z,e]; simp⟩
  have hok:HOk X.prog X.w H' (h'.push (W.kla_obj "<lambda>" (X.env.qual ++ "<lambda>") params body scope clos ((X.mg "__name__").getD .none) c' ctv)):=fun b u e=>by
   by_cases z1:b=h'.objs.size
   ·subst z1;rw [atf] at e;cases e;exact RW (get?_push_size _ rfl)
   by_cases z2:b=c'
   ·subst z2;rw [atc] at e;cases e;obtain ⟨c1,oc,vs,t,ec,ho,hd⟩:=hrec;exact Qb ⟨c1,oc,vs,t,ec,get?_push_of_some _ ho,hd⟩
   by_cases z3:b=P0
   ·subst z3;rw [atP] at e;cases e;exact get?_push_of_some _ av
   ·have e':H b=some u:=by rw [← br,AG z1,AG z2,AG z3] at e; exact e
    refine (I.hok b u e').stay (fun b2 o hb q=>kp b2 o ?_ q) (fun b2 q=>?_) fun b2 xs q=>?_
    ·rcases hb with z | z
     ·rw [z]; exact z3
     ·exact ntbl b2 _ z fun _ y=>nomatch y
    ·rw [oth b2 (lt _ _ q) (ntbl b2 _ q fun _ y=>nomatch y)]; exact q
    ·rw [oth b2 (lt _ _ q) (ntbl b2 _ q fun _ y=>nomatch y)]; exact q
  have I':=I.un (t':=tk) un hok;refine ⟨.ref h'.objs.size,H',I',rfl,k _ c' ctv H' (I.hok.fresh hfs) (fun b u n e=>by rw [oth b (lt _ _ e) n]; exact e) ⟨_,atP,?_,fun q hq=>?_⟩ atf atc⟩
  ·rw [Array.toList_append]; exact TriplesOk_snoc _ _ _ _ ht
  ·rw [Array.toList_append];rcases ax q hq with z | z
   ·subst z;exact .inr ⟨c',codeAmong_snoc _ ht hn,atc⟩
   ·show codeAmong q (ps.toList++[rawInt lpos.line,rawInt lpos.col,.ref c'])=none\/_;rw [FQ z _ ht];rcases hls q hq with y | ⟨c2,y1,y2⟩
    ·exact .inl y
    ·exact .inr ⟨c2,y1,by rw [oth c2 (lt _ _ y2) (ntbl c2 _ y2 fun _ y=>nomatch y)]; exact y2⟩
 ·refine W.kla_makeFunctionHit (mg:=X.mg) af I.ok.glob hgs L.code C hPg ht hf B fun ctv h' tk hk hsz=>?_;have I':=I.laid (t':=tk) (a:=h'.objs.size) (o:=FnO h'.objs.size (W.kla_obj "<lambda>" (X.env.qual ++ "<lambda>") params body scope clos ((X.mg "__name__").getD .none) c' ctv)) (fun b o e=>get?_push_of_some _ (hk b o e)) hsz (RW (get?_push_size _ rfl));have fr:H h'.objs.size=none:=I.hok.fresh hsz
  have sm:∀ b u,H b=some u->upd H h'.objs.size (FnO h'.objs.size (W.kla_obj "<lambda>" (X.env.qual ++ "<lambda>") params body scope clos ((X.mg "__name__").getD .none) c' ctv)) b=some u:=fun b u e=>by
   rw [AG (AJ e fr)]; exact e
  refine ⟨.ref h'.objs.size,_,I',rfl,k _ c' ctv _ fr (fun b u _ e=>sm b u e) ⟨ps,sm _ _ hP,ht,fun q hq=>?_⟩ AB (sm _ _ hc')⟩;rcases hls q hq with y | ⟨c2,y1,y2⟩
  ·exact .inl y
  ·exact .inr ⟨c2,y1,sm _ _ y2⟩
end
def Ot (P0:Addr) (H:Hp):Prop:=∀ b,H b=none\/(∃ o xs,H b=some (.frz o (.lst xs)))\/(b=P0/\H b=some (.tbl #[]))
theorem NI {mb:SV} {CX:CXT} {k:Nat} {fa c P0:Addr} {fd:FuncData} {sp:Sp} {s₁:Shared} {vs:List Value} {ns:List Int}
  (KX:K.In s₁.heap) (hns:s₁.heap.Ns mainGlobals mg) (hb:s₁.heap.Ns builtinsNs mb) (hbb:∀ x:Str,x ≠ "__name__" -> mb x=bootBuiltins x) (hlim:s₁.heap.NoLimit) (hg:s₁.gens=#[])
  (ha:s₁.heap.get? a=some { cls:=.type "list", data:=.seq vs.toArray }) (hi:IntsAre vs ns) (hl:ns.length <= sizeLine) (hr:Room k callerA)
  (hP:s₁.heap.get? P0=some (W.tabObj #[])) (hKP:K.lookup P0=none) (hC:W.CodeHd s₁.heap c P0) (hB:s₁.heap.BuiltinsAt mg P0)
  (F:∀ base:Heap,K.In base->base.Ns mainGlobals mg->W.CodeHd base c P0->base.BuiltinsAt mg P0->FnOk P w K mg base CX k fa fd [x] sp) (bn:∀ (s:Shared) (u:Value),BindsTo s fd ⟨[u],[]⟩ [(x,u)])
  (hsp:∀ H:Hp,Ot P0 H->H P0=some (.tbl #[])->SqL K H a (ns.map V.int)->sp [.ref a] H (fun v _=>v=.bl true) fun _ _ _=>False)
  (hCX:∀ H e s',CX [] H s₁ (fun _ _ _=>False) e s'->False) :
  codeAny (model P w) callerA (.call (.ref fa) ⟨[.ref a],[]⟩) (fun r s'=>r=.ok (.ret (.bool true))/\OldK s₁.heap s'.heap/\s'.os=s₁.os/\AllBare s'.gens) s₁:=by
 have rv:=Bu hi;have lenV:=hi.length;have haP:a ≠ P0:=fun z=>by subst z; rw [ha] at hP; cases hP
 have core:∀ H:Hp,Ot P0 H->H P0=some (.tbl #[])->SqL K H a (ns.map V.int)->HOk P w H s₁.heap->(∀ b,H b ≠ none->b=a\/b=P0)->(H a ≠ none->K.lookup a=none) ->
   codeAny (model P w) callerA (.call (.ref fa) ⟨[.ref a],[]⟩) (fun r s'=>r=.ok (.ret (.bool true))/\OldK s₁.heap s'.heap/\s'.os=s₁.os/\AllBare s'.gens) s₁:=by
  intro H hO hHP hS hok hA hK;have base_of:∀ {b:Addr} {o:Obj},s₁.heap.get? b=some o->H b=none->(Ff s₁.heap H).get? b=some o:=fun e n=>Nv e n
  have noS:∀ {b:Addr} {o:Obj},s₁.heap.get? b=some o->(∀ xs n,o.data ≠ .seq xs n)->o.cls ≠ .none->H b=none:=fun {b o} e d1 d2=>by
   cases q:H b with
   | none=>rfl
   | some u =>
    rcases hA b (by rw [q]; simp) with e' | e'
    ·subst e';rw [ha] at e; cases e;exact absurd rfl (d1 _ _)
    ·subst e';rw [hP] at e; cases e;exact absurd rfl d2
  have noA:∀ {b:Addr} {o:Obj} {es:Array DictEntry} {ep:Nat},s₁.heap.get? b=some o->o.data=.dict es ep->H b=none:=fun {b o es ep} e d=>by
   cases q:H b with
   | none=>rfl
   | some u =>
    rcases hA b (by rw [q]; simp) with e' | e'
    ·subst e';rw [ha] at e; cases e;cases (show Data.seq vs.toArray _=Data.dict es ep from d)
    ·subst e';rw [hP] at e; cases e;cases (show Data.fields #[]=Data.dict es ep from d)
  have nsK:∀ {b:Addr} {m:SV},s₁.heap.Ns b m->(Ff s₁.heap H).Ns b m:=fun {b m} ⟨o,es,ep,e,d,r⟩=>⟨o,es,ep,base_of e (noA e d),d,r⟩
  have hKb:K.In (Ff s₁.heap H):=fun b o e=>base_of (KX b o e) (by
   cases q:H b with
   | none=>rfl
   | some u =>
    rcases hA b (by rw [q]; simp) with e' | e'
    ·subst e';rw [hK (by rw [q]; simp)] at e; cases e
    ·subst e'
     rw [hKP] at e; cases e)
  have hM:Mod K mg (Ff s₁.heap H):=⟨hKb,nsK hns,⟨mb,nsK hb,hbb⟩,let ⟨mc,h1,h2⟩:=hlim; ⟨mc,nsK h1,h2⟩⟩
  have hCb:W.CodeHd (Ff s₁.heap H) c P0:=by
   obtain ⟨o,vs',file,tf,flags,tg,inF,text,tt,e,af,hda,r⟩:=id hC;exact ⟨o,vs',file,tf,flags,tg,inF,text,tt,base_of e (noS e (fun xs n z=>by rw [hda] at z; cases z) (by rw [af]; exact fun z=>nomatch z)),af,hda,r⟩
  have hBb:(Ff s₁.heap H).BuiltinsAt mg P0:=by
   obtain ⟨bm,o,a1,a2,a3,a4,a5,a6,a7,a8⟩:=id hB;exact ⟨bm,o,a1,a2,a3,a4,base_of a5 (noS a5 (fun xs n z=>by rw [a8] at z; cases z) (by rw [a6]; exact fun z=>nomatch z)),a6,a7,a8⟩
  have e0:Env0 P w K mg (Ff s₁.heap H) callerA [] s₁ H:=⟨rfl,hM,fun b o e=>P5 e,Nat.le_of_eq (Mi _ _),trivial,fun b hb=>absurd (show b ∈ ([]:List Addr) from hb) (by simp),hok,.of_eq hg⟩;refine codeAny_mono ((F _ hKb (nsK hns) hCb hBb).run callerA [] s₁ H ⟨[.ref a],[]⟩ [.ref a] [.ref a] _ _ hr e0 (bn s₁ (.ref a)) (.cons rfl .nil) (hsp H hO hHP hS)) fun r s' h=>?_;cases r with
  | error e=>exact (hCX H e s' h).elim
  | ok fl =>
   cases fl with
   | next=>exact False.elim h
   | brk=>exact False.elim h
   | cont=>exact False.elim h
   | ret u =>
    obtain ⟨v,H',os,bare,un,hok',r',q⟩:=h;have q':v=.bl true:=q;subst q';obtain rfl:u=Value.bool true:=r'
    have tabNow:∃ more,s'.heap.get? P0=some (W.tabObj (#[]++more)):=by
     obtain ⟨more,e⟩:=un.tbls P0 #[] hHP;exact ⟨more,hok' _ _ e⟩
    have rest:∀ b o,b ≠ P0->s₁.heap.get? b=some o->s'.heap.get? b=some o:=fun b o hb e=>by
     cases q:H b with
     | none=>exact un.keep b o e q (by intro z; exact absurd (show b ∈ ([]:List Addr) from z) (by simp)) (by simp)
     | some u =>
      rcases hO b with z | ⟨ob,xs,z⟩ | ⟨z,_⟩
      ·rw [q] at z; cases z
      ·have z2:=un.frzs b ob _ z;obtain ⟨e1,_⟩:=hok b _ z;obtain ⟨e2,_⟩:=hok' b _ z2;rw [e] at e1; cases e1;exact e2
      ·exact absurd z hb
    refine ⟨rfl,⟨fun b o e=>?_,fun b o e=>?_⟩,os,bare⟩
    ·by_cases hb:b=P0
     ·subst hb;rw [hP] at e;cases e;obtain ⟨more,e2⟩:=tabNow;exact .inr (.inl ⟨(hC.tab hP).isCodeTable,rfl,#[],more,rfl,e2⟩)
     ·exact .inl (rest b o hb e)
    ·by_cases hb:b=P0
     ·subst hb;obtain ⟨more,e2⟩:=tabNow;exact ⟨_,e2⟩
     ·exact ⟨o,rest b o hb e⟩
 cases hk:K.lookup a with
 | some o =>
  have e:=KX a o hk;rw [ha] at e;cases e;refine core (fun b=>if b=P0 then some (.tbl #[]) else none) (fun b=>?_) (if_pos rfl) (.inr ⟨_,vs.toArray,_,hk,rfl,rfl,rfl,by rw [size_toArray,lenV]; exact hl,by simpa using rv⟩) (fun b u z=>?_) (fun b z=>?_) fun z=>absurd (if_neg haP) z
  ·by_cases hb:b=P0
   ·exact .inr (.inr ⟨hb,if_pos hb⟩)
   ·exact .inl (if_neg hb)
  ·by_cases hb:b=P0
   ·have z':=(if_pos hb).symm.trans z;cases z';subst hb;exact hP
   ·have z':=(if_neg hb).symm.trans z;cases z'
  ·by_cases hb:b=P0
   ·exact .inr hb
   ·exact absurd (if_neg hb) z
 | none =>
  refine core (fun b=>if b=P0 then some (.tbl #[]) else if b=a then some (.frz { cls:=.type "list", data:=.seq vs.toArray } (.lst (ns.map V.int))) else none) (fun b=>?_) (if_pos rfl) (.inl (.inr ⟨{ cls:=.type "list", data:=.seq vs.toArray },(if_neg haP).trans (if_pos rfl)⟩)) (fun b u z=>?_) (fun b z=>?_) fun _=>hk
  ·by_cases hb:b=P0
   ·exact .inr (.inr ⟨hb,if_pos hb⟩)
   ·by_cases hb2:b=a
    ·exact .inr (.inl ⟨_,_,(if_neg hb).trans (if_pos hb2)⟩)
    ·exact .inl ((if_neg hb).trans (if_neg hb2))
  ·by_cases hb:b=P0
   ·have z':=(if_pos hb).symm.trans z;cases z';subst hb;exact hP
   ·by_cases hb2:b=a
    ·have z':=((if_neg hb).trans (if_pos hb2)).symm.trans z;cases z';subst hb2;exact ⟨ha,by rw [AK]; exact hl,vs,_,rv,ha⟩
    ·have z':=((if_neg hb).trans (if_neg hb2)).symm.trans z;cases z'
  ·by_cases hb:b=P0
   ·exact .inr hb
   ·by_cases hb2:b=a
    ·exact .inl hb2
    ·exact absurd ((if_neg hb).trans (if_neg hb2)) z
theorem Ou {l:W.OpenLaw} {n k:Nat} {q:Program} {loose:List Str} {XP:(Str->Option Value)->Heap->Prop} {YP:World->Heap->Prop} {d:DefRec} {K:Params->FG} {CX:World->CXT} {sp:World->Sp} {c P0:Addr}
  (hn:l.most=some n) (hn2:n <= sizeLine) (hdf:d.params.defaults=[]) (hr:Room k callerA)
  (hY:∀ (w:World) (h:Heap),YP w h->(K w.params).In h/\h.get? P0=some (W.tabObj #[])/\(K w.params).lookup P0=none/\W.CodeHd h c P0)
  (F:∀ (w:World) (mg:SV) (fa:Addr) (h:Heap),(K w.params).In h->h.Ns mainGlobals mg->mg d.name=some (.ref fa) ->
   ∃ fd:FuncData,(∀ (s:Shared) (u:Value),BindsTo s fd ⟨[u],[]⟩ [(x,u)]) /\
    ∀ base:Heap,(K w.params).In base->base.Ns mainGlobals mg->W.CodeHd base c P0->base.BuiltinsAt mg P0->FnOk l.prog w (K w.params) mg base (CX w) k fa fd [x] (sp w))
  (hsp:∀ (w:World) (H:Hp) (a:Addr) (ns:List Int),ns.length <= n->Ot P0 H->H P0=some (.tbl #[])->SqL (K w.params) H a (ns.map V.int)->sp w [.ref a] H (fun v _=>v=.bl true) fun _ _ _=>False)
  (hCX:∀ (w:World) (H:Hp) (s:Shared) (e:Value) (s':Shared),CX w [] H s (fun _ _ _=>False) e s'->False) :
  W.WalkO q loose XP YP l.row.toRowW d [] (fun f vs=>PySem.call f vs):=by
 refine Att.attach_call hn hdf fun w s₀ s₁ mg mb fa o pm cd doc a vs ns G Y ho hd hcd hmg cg bf a0 hg=>?_;obtain ⟨KX,hP,hKP,hC⟩:=hY w _ Y;obtain ⟨fd,hb,hF⟩:=F w mg fa _ KX G.T.g hmg
 have hB:s₁.heap.BuiltinsAt mg P0:=by
  obtain ⟨bm,ob,b1,b2,b3,b4,b5,b6⟩:=G.T.bmain;refine ⟨bm,ob,b1,b2,fun z=>?_,fun z=>?_,b3,b4,b5,b6⟩
  ·obtain ⟨o',es,ep,e,hd',_⟩:=G.T.g;rw [z,e] at b3; cases b3; rw [hd'] at b6; cases b6
  ·rw [z,hP] at b3; cases b3; cases b4
 exact NI KX G.T.g G.T.b G.T.builtins G.T.nolimit hg cg bf (Nat.le_trans a0 hn2) hr hP hKP hC hB hF hb (fun H hO hH hS=>hsp w H a ns a0 hO hH hS) fun H e s'=>hCX w H s₁ e s'
section
theorem Fun.okX {qual:Str} {st:Stmt} {fd:FuncData} {ps:List Str} {k:Nat} {sp:Sp} (F:Fun K x qual st f fd) (S:AL N ps (defScope st)) (len:∀ vs H Q E,sp vs H Q E->vs.length=ps.length)
  (bd:∀ (ad:Value) (A:Around) (outer:List Env) (s:Shared) (H:Hp) (vs:List V) (Q:VK) (E:XK),Room k (A.deeper (envOfC qual (defScope st) s.heap.objs.size f ad))->sp vs H Q E ->
   ∃ t,PSs (A8 (CXr P w) P w K mg base N qual (defScope st) f ad A outer s H E) (defBody st) t/\t { nx:=fun _ H'=>Q .non H',rt:=Q } (BS N vs) H):FnOk P w K mg base (CXr P w) (k + 1) f fd ps sp:=by
 obtain ⟨oc,od,kV,doc,pm,an,ad,ct,osl,rfl,lk,hcd⟩:=F.ex;exact Lu lk hcd S len fun A outer s H vs Q E hr hsp=>bd ad A outer s H vs Q E hr hsp
structure BdX (P:Program) (w:World) (K:FG) (mg:SV) (base:Heap) (f:Addr) (qual:Str) (st:Stmt) (N ps:List Str) (k:Nat) (vs:List V) (H:Hp) (Q:VK) (E:XK):Prop where
 len:vs.length=ps.length
 ok:∀ (ad:Value) (A:Around) (outer:List Env) (s:Shared),Room k (A.deeper (envOfC qual (defScope st) s.heap.objs.size f ad)) ->
  ∃ t,PSs (A8 (CXr P w) P w K mg base N qual (defScope st) f ad A outer s H E) (defBody st) t/\t { nx:=fun _ H'=>Q .non H',rt:=Q } (BS N vs) H
theorem Fun.n {qual:Str} {st:Stmt} {fd:FuncData} {ps:List Str} {k:Nat} {sp:Sp} (F:Fun K x qual st f fd) (S:AL N ps (defScope st)) (h:∀ vs H Q E,sp vs H Q E->BdX P w K mg base f qual st N ps k vs H Q E) :
  FnOk P w K mg base (CXr P w) (k + 1) f fd ps sp:=F.okX S (fun vs H Q E q=>(h vs H Q E q).len) fun c A o s H vs Q E r q=>(h vs H Q E q).ok c A o s r
structure FunD (K:FG) (x qual:Str) (st:Stmt) (f:Addr) (fd:FuncData):Prop where
 ex:∃ (oc:Value) (od:Option Addr) (dV kV doc pm:Value) (an:Option Addr) (ad ct:Value) (osl:Array (Option Value)),
  fd=W.fnOf x qual (defArgs st) (defBody st) (defScope st) dV kV doc pm an ad ct/\K.lookup f=some ⟨oc,od,.func fd,osl⟩/\W.codeIn K ad qual=true
theorem FunD.ok {qual:Str} {st:Stmt} {fd:FuncData} {ps:List Str} {k:Nat} {sp:Sp} (F:FunD K x qual st f fd) (S:AL N ps (defScope st)) (len:∀ vs H Q E,sp vs H Q E->vs.length=ps.length)
  (bd:∀ (ad:Value) (A:Around) (outer:List Env) (s:Shared) (H:Hp) (vs:List V) (Q:VK) (E:XK),Room k (A.deeper (envOfC qual (defScope st) s.heap.objs.size f ad))->sp vs H Q E ->
   ∃ t,PSs (A8 CX0 P w K mg base N qual (defScope st) f ad A outer s H E).nox (defBody st) t/\t { nx:=fun _ H'=>Q .non H',rt:=Q } (BS N vs) H):FnOk P w K mg base CX0 (k + 1) f fd ps sp:=by
 obtain ⟨oc,od,dV,kV,doc,pm,an,ad,ct,osl,rfl,lk,hcd⟩:=F.ex;refine Lu lk hcd S len fun A outer s H vs Q E hr hsp=>?_;obtain ⟨t,h,q⟩:=bd ad A outer s H vs Q E hr hsp;exact ⟨t,h.nox,q⟩
theorem K4 {CX:CXT} {k i:Nat} {fd:FuncData} {ps:List Str} {sp:Sp} {E:XK} {p:Pos} {es:List Expr} {t:TA} (F:FnOk X.prog X.w X.K X.mg X.base CX k f fd ps sp) (hr:Room k X.A) (hN:X.N[i]?=some x) (hv:Vis X.env.scope x)
  (hk:W.keepIn X.K (.ref f)=true) (hb:Binds X.K fd ps []) (hx:BQ CX X E) (ha:PA X (e :: es) t)
  (hd:(x == ("__debug__" : Str))=false:=by decide) (hcd:(x == ("__classdict__" : Str))=false:=by decide) (he:starEach (e :: es) X.env=(false,eval e X.env) :: starEach es X.env:=by rfl) (hpl:(backTo pos (starEach es X.env)).any (·.1)=false:=by rfl) :
  PE X (.Call (.Name x p) (e :: es) [] pos) (fun σ H Q=>σ[i]?=some (some (.ref f))/\OC sp [] E t σ H Q):=by
 intro aa s σ H Q I ⟨h1,h⟩;refine wpAny_Call_Name_kw (thn (KK hN hv hd hcd aa s σ H (fun v H'=>v=.ref f/\H'=H) I ⟨_,h1,rfl,rfl⟩) fun u s0 ⟨v,H0,I0,r,ev,eH⟩=>?_);subst ev eH;obtain rfl:u=Value.ref f:=r;refine W.callWith_K (h₀:=X.base) I0.ok.mod.kin hk (thn (ha pos aa s0 σ H0 _ I0 h) fun us s1 ⟨vs,H1,I1,r,q⟩=>⟨I1.kIn,?_⟩) he hpl;exact Kd F hr hb .nil hx I1 r q
end
structure TD (K:FG) (C:Addr) (f:Str):Prop where
 hg:Dj K C
 hh:W.hasDictIn K C=true
 ha:W.findIn K (.ref C) f=some none
section
variable {e:Addr} {oe:Obj} {o:Expr} {f:Str} {ta:TE}
def Ov (e:Addr) (oe:Obj) (f:Str) (ta:TE):TE:=fun σ H Q=>ta σ H fun x H1=>∃ d fs v,x=.ref e/\oe.dict=some d/\H1 d=some (.xd fs)/\fs.lookup f=some v/\Q v H1
theorem Qc (p:ExcP X e oe C) (g:TD X.K C f) (he:PE X o ta) (hb:attributeBase o f X.env (eval o X.env)=eval o X.env):PE X (.Attribute o f pos) (Ov e oe f ta):=by
 intro aa s σ H Q I h;refine Ls hb (thn (he aa s σ H _ I h) fun u s1 ⟨x,H1,I1,rx,d,fs,v,ex,hd,hH,l,q⟩=>?_);subst ex;obtain rfl:u=Value.ref e:=rx;obtain ⟨mA,hn,r⟩:=I1.hok _ _ hH;obtain ⟨od,ho,hl⟩:=HA hn;obtain ⟨w,hw,rw'⟩:=RelO.some_of (v:=v) (o:=mA f) (by rw [← l]; exact r f);have hp:=(I1.pin (e,oe) (mem_append_left _ p.at_)).1;obtain ⟨vs,hv⟩:=p.fld;have J:W.InstAt s1.heap e oe C (some od):=⟨hp,p.cls,by unfold W.notCls; rw [hv],by rw [hd]; exact ho⟩;exact Oo g.hg I1.kIn J (W.findObj_own g.hh g.ha rfl (by rw [hl,hw])) (HB rw') ⟨v,H1,I1.tok _,rw',q⟩
end
def EH (xs:Array Nat):Prop:=∀ i j (hi:i < xs.size) (hj:j < xs.size),i < j->xs[i] < xs[j]
structure BlS (xs:Array Nat) (j k:Nat):Prop where
 le:k <= xs.size
 lo:∀ i (h:i < xs.size),i < k->xs[i] < j
 hi:∀ i (h:i < xs.size),k <= i->j <= xs[i]
theorem F4 {xs:Array Nat} (hs:EH xs) (j:Nat):∀ (fuel lo hi:Nat),lo <= hi->hi <= xs.size->hi - lo <= fuel->(∀ i (h:i < xs.size),i < lo->xs[i] < j)->(∀ i (h:i < xs.size),hi <= i->j <= xs[i])->BlS xs j (SetTable.below.go xs j fuel lo hi)
 | 0,lo,hi,h1,h2,h3,h4,h5=>by
  rw [SetTable.below.go];have e:lo=hi:=by omega
  subst e;exact ⟨h2,h4,h5⟩
 | fuel + 1,lo,hi,h1,h2,h3,h4,h5=>by
  rw [SetTable.below.go];by_cases hlt:lo < hi
  ·rw [if_pos hlt];have hm:(lo + hi) / 2 < xs.size:=by omega
   have eg:xs.getD ((lo + hi) / 2) j=xs[(lo + hi) / 2]:=by
    rw [Array.getD_eq_getD_getElem?,Array.getElem?_eq_getElem hm];rfl
   show BlS xs j (if xs.getD ((lo + hi) / 2) j < j then _ else _);rw [eg];by_cases hc:xs[(lo + hi) / 2] < j
   ·rw [if_pos hc];refine F4 hs j fuel _ _ (by omega) h2 (by omega) (fun i hi' hl=>?_) h5;by_cases e:i=(lo + hi) / 2
    ·subst e; exact hc
    ·exact Nat.lt_trans (hs i ((lo + hi) / 2) hi' hm (by omega)) hc
   ·rw [if_neg hc];refine F4 hs j fuel _ _ (by omega) (by omega) (by omega) h4 (fun i hi' hl=>?_);by_cases e:i=(lo + hi) / 2
    ·subst e; omega
    ·have:=hs ((lo + hi) / 2) i hm hi' (by omega);omega
  ·rw [if_neg hlt];have e:lo=hi:=by omega
   subst e;exact ⟨h2,h4,h5⟩
theorem EI {xs:Array Nat} (hs:EH xs) (j:Nat):BlS xs j (SetTable.below xs j):=by
 unfold SetTable.below;exact F4 hs j xs.size 0 xs.size (Nat.zero_le _) (Nat.le_refl _) (by omega) (fun i _ h=>absurd h (Nat.not_lt_zero _)) (fun i h h'=>absurd h (by omega))
theorem SC {xs:Array Nat} (hs:EH xs) {j:Nat} (h:SetTable.has xs j=false):∀ i (h:i < xs.size),xs[i] ≠ j:=by
 intro i hi e;have B:=EI hs j;unfold SetTable.has at h
 have hk:SetTable.below xs j=i:=by
  rcases Nat.lt_trichotomy (SetTable.below xs j) i with z | z | z
  ·have h1:=B.hi _ (by omega) (Nat.le_refl (SetTable.below xs j));have h2:=hs (SetTable.below xs j) i (by omega) hi z;omega
  ·exact z
  ·have:=B.lo i hi z;omega
 rw [hk,Array.getElem?_eq_getElem hi,e] at h;simp at h
theorem G0 {α:Type} (xs:Array α) (p:Nat) (x:α):(SetTable.insertAt xs p x).toList=xs.toList.take p++x :: xs.toList.drop p:=by
 unfold SetTable.insertAt;rw [Array.toList_append,Array.toList_push,Array.toList_extract,Array.toList_extract];simp [List.extract_eq_drop_take];exact List.take_of_length_le (by simp)
def Ow (l:List Nat):Prop:=l.Pairwise (· < ·)
theorem Je {xs:Array Nat}:EH xs ↔ Ow xs.toList:=by
 unfold Ow;rw [List.pairwise_iff_getElem];constructor
 ·intro h i j hi hj hij;exact h i j (by simpa using hi) (by simpa using hj) hij
 ·intro h i j hi hj hij;exact h i j (by simpa using hi) (by simpa using hj) hij
theorem Jf {xs:Array Nat} (hs:EH xs) {j:Nat} (hn:∀ i (h:i < xs.size),xs[i] ≠ j):EH (SetTable.insertAt xs (SetTable.below xs j) j):=by
 have B:=EI hs j;rw [Je] at hs ⊢;rw [G0];generalize SetTable.below xs j=k at B;unfold Ow at hs ⊢;have hd:=hs;rw [← List.take_append_drop k xs.toList,List.pairwise_append] at hd;obtain ⟨h1,h2,h3⟩:=hd;rw [List.pairwise_append,List.pairwise_cons];refine ⟨h1,⟨fun y hy=>?_,h2⟩,fun a ha b hb=>?_⟩
 ·obtain ⟨i,hi,rfl⟩:=List.getElem_of_mem hy;rw [List.length_drop] at hi;have hsz:k + i < xs.size:=by have:xs.toList.length=xs.size:=Array.length_toList; omega
  rw [List.getElem_drop];have:=B.hi (k + i) hsz (by omega);have ne:=hn (k + i) hsz;simp only [Array.getElem_toList];omega
 ·have haj:a < j:=by
   obtain ⟨i,hi,rfl⟩:=List.getElem_of_mem ha;rw [length_take] at hi;have hsz:i < xs.size:=by have:xs.toList.length=xs.size:=Array.length_toList; omega
   rw [List.getElem_take];have:=B.lo i hsz (by omega);simpa using this
  rcases mem_cons.mp hb with rfl | hb
  ·exact haj
  ·exact h3 a ha b hb
theorem K5 (n:Nat):EH (Array.range n):=fun i j hi hj h=>by simpa using h
structure EJ (t:SetTable) (n:Nat):Prop where
 fits:t.fits n=true
 rise:EH t.place
 nod:t.dummies=#[]
theorem Qd {t:SetTable} {j:Nat} (h:t.slot j=.empty) (hs:EH t.place):∀ i (h:i < t.place.size),t.place[i] ≠ j:=by
 refine SC hs ?_;unfold SetTable.slot at h;unfold SetTable.has;cases e:(t.place[SetTable.below t.place j]? == some j) with
 | false=>rfl
 | true =>
  simp only [e,if_true] at h;cases h
theorem Jg (j:Nat):SetTable.has #[] j=false:=by
 unfold SetTable.has;simp
theorem K6 {t:SetTable} {j:Nat} (hd:t.dummies=#[]):t.slot j ≠ .dummy:=by
 unfold SetTable.slot;rw [hd,Jg];intro h;simp only [Bool.false_eq_true,if_false] at h;split at h <;> cases h
theorem NJ (t:SetTable) (p:SetTable.Probe):(t.advance p).dummy=p.dummy:=by
 unfold SetTable.advance;split <;> rfl
theorem Jh {t:SetTable} {hashAt:Nat->Int} {h:Int} (hd:t.dummies=#[]):∀ (fuel:Nat) (p:SetTable.Probe) {j:Nat} {d:Option Nat},p.dummy=none->SetTable.probe.go t hashAt h fuel p=some (.empty j d)->d=none/\t.slot j=.empty
 | 0,p,j,d,hp,e=>by rw [SetTable.probe.go] at e; cases e
 | fuel + 1,p,j,d,hp,e=>by
  rw [SetTable.probe.go] at e;cases hs:t.slot p.j with
  | empty =>
   rw [hs] at e;cases e;exact ⟨hp,hs⟩
  | dummy=>exact absurd hs (K6 hd)
  | live i =>
   rw [hs] at e;simp only at e;split at e
   ·cases e
   ·exact Jh hd fuel _ (by rw [NJ]; exact hp) e
theorem Qe {t:SetTable} {h:Int} {j:Nat} {wd:Bool} (hs:EH t.place) (hd:t.dummies=#[]) (e:t.freeSlot h=some (j,wd)):(∀ i (h:i < t.place.size),t.place[i] ≠ j)/\wd=false:=by
 unfold SetTable.freeSlot at e;cases q:t.probe (fun _=>h + 1) h (t.probeStart h) with
 | none=>rw [q] at e; cases e
 | some m =>
  rw [q] at e;cases m with
  | candidate a b c=>cases e
  | empty a b =>
   unfold SetTable.probe at q;obtain ⟨rfl,h2⟩:=Jh hd _ _ rfl q;cases e;exact ⟨Qd h2 hs,rfl⟩
theorem EK (t:SetTable) (n:Nat):EJ (t.standIn n) n/\(t.standIn n).led=t.led:=⟨⟨SetTable.standIn_fits t n,K5 n,rfl⟩,rfl⟩
theorem K7 {t:SetTable} (n:Nat) (hs:EH t.place) (hd:t.dummies=#[]):EJ (t.orStandIn n) n/\(t.orStandIn n).led=t.led:=by
 unfold SetTable.orStandIn;split
 ·rename_i h;exact ⟨⟨h,hs,hd⟩,rfl⟩
 ·exact EK t n
theorem NK {t:SetTable} {es:Array (Int × Value)} (h:Int) (x:Value) (T:EJ t es.size):EJ (layNew t es h x).2.1 (layNew t es h x).1.size/\(layNew t es h x).2.1.led=t.led:=by
 unfold layNew;cases e:t.freeSlot h with
 | none =>
  have:=EK t (es.size + 1);simpa using this
 | some q =>
  obtain ⟨j,wd⟩:=q;obtain ⟨h1,_⟩:=Qe T.rise T.nod e;have hr:=Jf T.rise h1
  exact K7 (t:=(t.put j).1) _ hr (by
   show (if SetTable.has t.dummies j=true then _ else t.dummies)=#[];rw [T.nod,Jg]
   rfl)
theorem NL (f:Nat->Option Nat) (n:Nat):EH (((List.range n).filterMap fun j=>(f j).map fun x=>(j,x)).map (·.1)).toArray:=by
 rw [Je];show List.Pairwise _ _;rw [List.toList_toArray,pairwise_map,List.pairwise_filterMap];refine List.Pairwise.imp ?_ (List.pairwise_lt_range (n:=n));intro a b hab p hp q hq;obtain ⟨x,_,rfl⟩:=Option.map_eq_some_iff.mp hp;obtain ⟨y,_,rfl⟩:=Option.map_eq_some_iff.mp hq;exact hab
theorem Ji {t:SetTable} {es:Array (Int × Value)} (n:Nat) (T:EJ t es.size):EJ (relayAll t es n).2.1 (relayAll t es n).1.size/\(relayAll t es n).2.1.led=t.led:=by
 unfold relayAll;cases e:t.relaid (es.map (·.1)) n with
 | none=>exact EK t es.size
 | some q =>
  obtain ⟨t',order⟩:=q;simp only;split
  ·rename_i h;rw [Bool.and_eq_true] at h;unfold SetTable.relaid SetTable.laid at e;obtain ⟨owner,_,e2⟩:=Option.bind_eq_some_iff.mp e;cases e2;exact ⟨⟨h.2,NL (fun j=>owner.getD j none) _,rfl⟩,rfl⟩
  ·exact EK t es.size
theorem Ox {t:SetTable} {n:Nat} (b:Bool) (T:EJ t n):EJ { t with plain:=b } n:=⟨T.fits,T.rise,T.nod⟩
theorem Oy (a b:Nat) (led:Bool):EJ (SetTable.fresh a b led) 0:=⟨by rfl,fun i j hi _ _=>absurd hi (Nat.not_lt_zero _),rfl⟩
section
variable {prog:Program} {K:Type} [DecidableEq K]
structure EnK (knd:KeyKind prog w K) (k:K) (e:Int × Value):Prop where
 is:knd.is k e.2=true
 hs:e.1=knd.hash k
 sc:e.2.scannable=true
def SetX (knd:KeyKind prog w K) (h:Heap) (a:Addr) (ks:List K) (led:Bool):Prop :=
 ∃ (o:Obj) (ar:Array (Int × Value)) (ep:Nat) (t:SetTable) (ks':List K),h.get? a=some o/\o.ExactSet/\o.data=.set ar ep t/\EJ t ar.size/\t.led=led/\ks'.Perm ks/\Paired (EnK knd) ks' ar.toList/\ar.size < scanBound
theorem NM {knd:KeyKind prog w K} {ks:List K} {es:List (Int × Value)} (h:Paired (EnK knd) ks es):ElemsOf knd es:=by
 induction h with
 | nil=>intro e he; cases he
 | cons r t ih =>
  intro e he;rcases mem_cons.mp he with rfl | he
  ·exact ⟨⟨_,r.is,r.hs⟩,r.sc⟩
  ·exact ih e he
theorem Jj {knd:KeyKind prog w K} {k:K}:∀ {ks:List K} {es:List (Int × Value)},Paired (EnK knd) ks es->(es.findIdx? (fun e=>knd.is k e.2)).isSome=decide (k ∈ ks)
 | _,_,.nil=>rfl
 | k' :: ks,e :: es,.cons r t=>by
  rw [List.findIdx?_cons]
  have hk:knd.is k e.2=decide (k=k'):=by
   cases q:knd.is k e.2 with
   | true=>rw [knd.inj _ _ _ q r.is,decide_eq_true rfl]
   | false =>
    symm
    refine decide_eq_false fun z=>?_;rw [z,r.is] at q;cases q
  rw [hk];by_cases z:k=k'
  ·rw [decide_eq_true z,if_pos rfl,z];simp
  ·rw [decide_eq_false z,if_neg (by decide)];have:=Jj (knd:=knd) (k:=k) t;simp only [Option.isSome_map,this,mem_cons,z,false_or]
theorem Jk {knd:KeyKind prog w K} {es es':List (Int × Value)} (p:es'.Perm es):∀ {ks:List K},Paired (EnK knd) ks es->∃ ks',ks'.Perm ks/\Paired (EnK knd) ks' es':=by
 induction p with
 | nil=>intro ks h; exact ⟨ks,List.Perm.refl _,h⟩
 | cons x p ih =>
  intro ks h;cases h with
  | cons r t =>
   obtain ⟨ks',p',h'⟩:=ih t;exact ⟨_ :: ks',p'.cons _,.cons r h'⟩
 | swap x y l =>
  intro ks h;cases h with
  | cons r t =>
   cases t with
   | cons r2 t=>exact ⟨_ :: _ :: _,List.Perm.swap ..,.cons r2 (.cons r t)⟩
 | trans p1 p2 ih1 ih2 =>
  intro ks h;obtain ⟨k1,q1,h1⟩:=ih2 h;obtain ⟨k2,q2,h2⟩:=ih1 h1;exact ⟨k2,q2.trans q1,h2⟩
theorem SetX.put {knd:KeyKind prog w K} {o:Obj} {ar:Array (Int × Value)} {ep:Nat} {t:SetTable} (e:h.get? a=some o) (x:o.ExactSet) (d:o.data=.set ar ep t) {ar':Array (Int × Value)} {t':SetTable} {ks ks':List K} {led:Bool}
  (T:EJ t' ar'.size) (hl:t'.led=led) (p:ks'.Perm ks) (pr:Paired (EnK knd) ks' ar'.toList) (hs:ar'.size < scanBound):SetX knd (h.update a (Obj.putSet ar' t')) a ks led:=by
 refine ⟨_,ar',ep + 1,t',ks',get?_update_self _ e (by rw [putSet_of ar' t' d]; rfl),?_,?_,T,hl,p,pr,hs⟩
 ·rw [putSet_of ar' t' d];exact ⟨x.1,x.2.1,x.2.2⟩
 ·rw [putSet_of ar' t' d]
theorem Tz {knd:KeyKind prog w K} {ks:List K} {led:Bool} {k:K} {x:Value} {Q:Bool->Shared->Prop} (hx:knd.is k x=true) (hsc:x.scannable=true) (hS:SetX knd s.heap a ks led) (hn:ks.length + 1 < scanBound)
  (h1:k ∈ ks->Q false s) (h2:k ∉ ks->∀ h',Heap.SameBut a s.heap h'->SetX knd h' a (k :: ks) led->Q true { s with heap:=h' }):wpAny (model prog w) A (setAddHashed a x (knd.hash k)) Q E s:=by
 obtain ⟨o,ar,ep,t,ks',e,xs,d,T,hl,p,pr,hs⟩:=hS;have el:=NM pr
 have a0:ar.size=ks.length:=by
  have:=pr.length;rw [← p.length_eq,this];simp
 unfold setAddHashed;refine wpAny_holding ?_;rw [setAddHashedIn.eq_def];refine wpAny_bind (wpAny_setState_of e d T.fits ?_);show wpAny _ _ (if byScan x ar=true then _ else _) _ _ _;rw [if_pos (byScan_of hsc hs el)];refine wpAny_bind ?_;unfold setAddByScan;refine wpAny_bind ?_
 wp_step
 refine wpAny_bind (wpAny_setScan_of hx e d T.fits el ?_);have hf:=Jj (knd:=knd) (k:=k) pr;cases q:ar.toList.findIdx? (fun e=>knd.is k e.2) with
 | some j =>
  rw [q] at hf;have hm:k ∈ ks:=p.mem_iff.mp (of_decide_eq_true hf.symm);exact wpAny_pure (wpAny_pure (h1 hm))
 | none =>
  rw [q] at hf;have hm:k ∉ ks:=fun z=>absurd (p.mem_iff.mpr z) (of_decide_eq_false hf.symm);obtain ⟨T1,l1⟩:=NK (knd.hash k) x T;have p1:=layNew_perm t ar (knd.hash k) x
  have hq:∃ ksn,ksn.Perm (k :: ks)/\Paired (EnK knd) ksn (layNew t ar (knd.hash k) x).1.toList:=by
   have pr2:Paired (EnK knd) (ks'++[k]) (ar.push (knd.hash k,x)).toList:=by
    rw [Array.toList_push];exact Paired.snoc pr ⟨hx,rfl,hsc⟩
   obtain ⟨k2,q2,h2'⟩:=Jk p1 pr2;refine ⟨k2,q2.trans ?_,h2'⟩;exact (List.perm_append_comm).trans (p.cons k)
  have hsz:(layNew t ar (knd.hash k) x).1.size < scanBound:=by
   have:=p1.length_eq;rw [Array.length_toList,Array.length_toList,Array.size_push] at this;omega
  rw [hl] at l1
  dsimp only
  generalize layNew t ar (knd.hash k) x=L at T1 l1 hq hsz ⊢;obtain ⟨ar1,t1,wd,gv⟩:=L;obtain ⟨kn1,pk1,pr1⟩:=hq;have hsz:ar1.size < scanBound:=hsz
  have fin:∀ t2:SetTable,EJ t2 ar1.size->t2.led=led->∀ g:Bool->Sem Unit,(∀ b s₁ (Q':Unit->Shared->Prop),Q' () s₁->wpAny (model prog w) A (g b) Q' E s₁) ->
    wpAny (model prog w) A (do storeSet a ar1 t2; if (!wd && t2.tooFull)=true then (do g (relayAll t2 ar1 (SetTable.grown ar1.size)).2.2; storeSet a (relayAll t2 ar1 (SetTable.grown ar1.size)).1 (relayAll t2 ar1 (SetTable.grown ar1.size)).2.1; pure (some true)) else pure (some true)) (fun b s'=>b=some true/\∃ h',Heap.SameBut a s.heap h'/\SetX knd h' a (k :: ks) led/\s'={ s with heap:=h' }) E s:=fun t2 T2 hl2 g hg=>by
   refine wpAny_bind (wpAny_storeSet_of e d ?_ (fits_of_scanBound hsz));have S1:=SetX.put (knd:=knd) e xs d T2 hl2 pk1 pr1 hsz;have B1:Heap.SameBut a s.heap (s.heap.update a (Obj.putSet ar1 t2)):=Heap.SameBut.update _ _ _;split
   ·refine wpAny_bind (hg _ _ _ ?_);have e1:(s.heap.update a (Obj.putSet ar1 t2)).get? a=some (Obj.putSet ar1 t2 o):=get?_update_self _ e (by rw [putSet_of ar1 t2 d]; rfl);have d1:(Obj.putSet ar1 t2 o).data=.set ar1 (ep + 1) t2:=by rw [putSet_of ar1 t2 d]
    have x1:(Obj.putSet ar1 t2 o).ExactSet:=by rw [putSet_of ar1 t2 d]; exact ⟨xs.1,xs.2.1,xs.2.2⟩
    obtain ⟨T3,l3⟩:=Ji (SetTable.grown ar1.size) T2;have p3:=relayAll_perm t2 ar1 (SetTable.grown ar1.size)
    have hs3:(relayAll t2 ar1 (SetTable.grown ar1.size)).1.size < scanBound:=by
     have:=p3.length_eq;rw [Array.length_toList,Array.length_toList] at this;omega
    obtain ⟨k3,q3,pr3⟩:=Jk p3 pr1;refine wpAny_bind (wpAny_storeSet_of e1 d1 ?_ (fits_of_scanBound hs3));exact wpAny_pure ⟨rfl,_,B1.trans (Heap.SameBut.update _ _ _),SetX.put e1 x1 d1 T3 (l3.trans hl2) (q3.trans pk1) pr3 hs3,rfl⟩
   ·exact wpAny_pure ⟨rfl,_,B1,S1,rfl⟩
  have out:∀ {b:Option Bool} {s':Shared},(b=some true/\∃ h',Heap.SameBut a s.heap h'/\SetX knd h' a (k :: ks) led/\s'={ s with heap:=h' })->wpAny (model prog w) A (match b with | some added=>pure added | none=>setAddHashedIn a x (knd.hash k) 99999) Q E s':=fun {b s'} hb=>by
   obtain ⟨rfl,h',B,S,rfl⟩:=hb;exact wpAny_pure (h2 hm h' B S)
  refine wpAny_mono (Q:=fun b s'=>b=some true/\∃ h',Heap.SameBut a s.heap h'/\SetX knd h' a (k :: ks) led/\s'={ s with heap:=h' }) ?_ (fun b s' hb=>out hb) (fun _ _ z=>z)
  have gw:∀ (b:Bool) (s₁:Shared) (Q':Unit->Shared->Prop),Q' () s₁->wpAny (model prog w) A (match b with | true=>rule "set.scan.the-table-gave-way" | false=>pure ()) Q' E s₁:=fun b s₁ Q' hq'=>by
   cases b
   ·exact wpAny_pure hq'
   ·show wpAny _ _ (rule _) _ _ _
    wp_step
    exact hq'
  refine wpAny_bind (gw gv s _ ?_)
  have go:∀ byv:Bool,wpAny (model prog w) A (do storeSet a ar1 (if byv=true then t1 else { t1 with plain:=false }); if (!wd && (if byv=true then t1 else { t1 with plain:=false }).tooFull)=true then (do (match (relayAll (if byv=true then t1 else { t1 with plain:=false }) ar1 (SetTable.grown ar1.size)).2.2 with | true=>rule "set.scan.the-table-gave-way" | false=>pure ()); storeSet a (relayAll (if byv=true then t1 else { t1 with plain:=false }) ar1 (SetTable.grown ar1.size)).1 (relayAll (if byv=true then t1 else { t1 with plain:=false }) ar1 (SetTable.grown ar1.size)).2.1; pure (some true)) else pure (some true)) (fun b s'=>b=some true/\∃ h',Heap.SameBut a s.heap h'/\SetX knd h' a (k :: ks) led/\s'={ s with heap:=h' }) E s:=fun byv=>by
   cases byv
   ·exact fin _ (Ox false T1) l1 _ gw
   ·exact fin _ T1 l1 _ gw
  split
  ·rw [hashByValue_scannable 8 hsc];refine wpAny_bind (wpAny_pure ?_);exact go _
  ·exact go true
end
theorem II:entryFor table "set.__new__" = some Builtin.«set.__new__»:=entryFor_of_tree (by kernel_rfl)
theorem DY:entryFor table "set.update.loop" = some Builtin.«set.update.loop»:=entryFor_of_tree (by kernel_rfl)
theorem Bm:plainId "set.update.loop" = true:=by decide +kernel
noncomputable abbrev CO (w:World):Bool:=!w.params.followText "set-order"
theorem Jl {prog:Program} (a:Value) {Q₁:VS} (h:Q₁ (.ref s.heap.objs.size) { s with heap:=s.heap.push { cls:=.type "set", data:=.set #[] 0 (SetTable.fresh 0 0 (CO w)) } }) :
  codeAny (model prog w) A (.call (.builtin "set.__new__") ⟨[.type "set", a],[]⟩) (wants Q₁ E) s:=by
 refine codeAny_call_builtin (by decide +kernel) II ?_;rw [PySem.F.newCall_set_1];refine wpAny_pure ?_;unfold Builtin.«set.__new__»;refine wpAny_bind ?_;unfold Builtin.Frozenset.newClass;refine wpAny_bind ?_;have ht:isType (.type "set")=pure true:=by rfl
 rw [ht];refine wpAny_pure ?_;show wpAny _ _ (isSubtype (.type "set") (.type "set") >>= _) _ _ _;rw [PySem.F.called_set.sub];refine wpAny_bind (wpAny_pure (wpAny_pure ?_));refine wpAny_bind ?_;unfold newSet setsByText;refine wpAny_bind (wpAny_bind (wpAny_askSetting (wpAny_pure ?_)));show wpAny _ _ (newObj (.type "set") (.set #[] 0 (SetTable.fresh 0 0 (CO w)))) _ _ _;exact wpAny_newObj_type (wpAny_pure h)
noncomputable def CP (P:Program) (w:World) (a:Addr) (ks:List Key):HO:=.ext fun h=>SetX (AU P w) h a ks (CO w)
theorem Oz {ks:List Key} (hs:SetX (AU P w) h a ks (CO w)):ObjOk P w H h a (CP P w a ks):=by
 refine ⟨hs,?_,fun h1 h2 s1 hk=>?_⟩
 ·obtain ⟨o,_,_,_,_,e,_⟩:=hs;exact ⟨o,e⟩
 ·obtain ⟨o,ar,ep,t,ks',e,r⟩:=s1;exact ⟨o,ar,ep,t,ks',hk _ e,r⟩
theorem O0 {ks:List Key} (hok:HOk P w H h) (e:H a=some (CP P w a ks)):SetX (AU P w) h a ks (CO w):=(hok a _ e).1
open Classical in
noncomputable def EL (acc:List Key) (k:Key):List Key:=if k ∈ acc then acc else k :: acc
theorem O1 (acc:List Key) (k:Key):(EL acc k).length <= acc.length + 1:=by
 unfold EL;split <;> simp
theorem K8 {acc:List Key} (h:acc.Nodup) (k:Key):(EL acc k).Nodup:=by
 unfold EL;split
 ·exact h
 ·rename_i hk;exact nodup_cons.mpr ⟨hk,h⟩
theorem O2 {acc:List Key} {k x:Key}:x ∈ EL acc k ↔ x=k\/x ∈ acc:=by
 unfold EL;split
 ·rename_i hk;exact ⟨.inr,fun h=>h.elim (fun e=>e ▸ hk) id⟩
 ·exact mem_cons
theorem O3 {k:Key} {v:Value} (h:(AU P w).is k v=true):v.scannable=true:=by
 cases v <;> first | rfl | (cases k <;> cases h)
section
variable {R:Result->Shared->Prop} {it p:Addr} {ks:List Key}
noncomputable def B0 (acc ks:List Key):List Key:=ks.foldl EL acc
theorem O4 (hA:A.in1.handled=none) (hpa:p ≠ a) (hpit:p ≠ it) (hz:ks.length <= 1000)
  (hqs:∀ acc,SqL X.K (upd H p (CP X.prog X.w p acc)) a (ks.map kV)) (f0:∀ acc,(upd H p (CP X.prog X.w p acc)) it=none) (f1:it ≠ X.env.locals) (f3:it ∈ X.ex\/X.s₀.heap.objs.size <= it) (f4:∀ (x:Str) (c:Addr),X.env.cells.lookup x=some c->c ≠ it) (f5:∀ q:Addr × Obj,q ∈ X.pn++aa->q.1 ≠ it) :
  ∀ (k i:Nat) (s:Shared) (acc:List Key),ks.length - i=k->i <= ks.length->acc.length <= i->Inv X aa σ (upd H p (CP X.prog X.w p acc)) s->s.heap.IsListIter it a i->(∀ s',Inv X aa σ (upd H p (CP X.prog X.w p (B0 acc (ks.drop i)))) s'->R (.ok (.ret .none)) s') ->
   codeAny (model X.prog X.w) A (.builtin "set.update.loop" ⟨[.ref p,.ref it],[]⟩) R s:=by
 intro k;induction k with
 | zero =>
  intro i s acc hk hi hkl I st hR;have hin:i=ks.length:=by omega
  obtain ⟨its,rv,pl,_⟩:=I.list (hqs acc);have a0:=rv.length;refine codeAny_builtin DY ?_;rw [Around.under_plainId Bm _];show wpAny _ A.in1 (pyNext (.ref it) >>= _) _ _ s;refine wpAny_bind (wpAny_pyNext_list_end hA st pl.isList (by rw [AK] at a0; simp; omega) fun h' eb=>?_);refine wpAny_pure (hR _ ?_);have e:B0 acc (ks.drop i)=acc:=by rw [hin,List.drop_length]; rfl
  rw [e];exact I.turned (t':=s.toks) (fun b o hb e=>eb b o hb e) (f0 acc) f1 f3 f4 f5
 | succ k ih =>
  intro i s acc hk hi hkl I st hR;have hlt:i < ks.length:=by omega
  obtain ⟨its,rv,pl,_⟩:=I.list (hqs acc);have hki:ks[i]?=some ks[i]:=List.getElem?_eq_getElem hlt;obtain ⟨u,hu,ru⟩:=rv.get (i:=i) (x:=kV ks[i]) (by rw [getElem?_map,hki]; rfl);have hx:=FC (P:=X.prog) (w:=X.w) ru;refine codeAny_builtin DY ?_;rw [Around.under_plainId Bm _];show wpAny _ A.in1 (pyNext (.ref it) >>= _) _ _ s;refine wpAny_bind (wpAny_pyNext_list_item st pl.isList (x:=u) (by simpa using hu) fun h' st' sb=>?_);have I1:Inv X aa σ (upd H p (CP X.prog X.w p acc)) { s with heap:=h' }:=I.turned (t':=s.toks) (fun b o hb e=>(sb.2 b hb).trans e) (f0 acc) f1 f3 f4 f5;have hp:(upd H p (CP X.prog X.w p acc)) p=some (CP X.prog X.w p acc):=AB;have SX:=O0 I1.hok hp;have e3:ks.drop i=ks[i] :: ks.drop (i + 1):=List.drop_eq_getElem_cons hlt
  have hb:acc.length + 1 < scanBound:=by
   have:(4096:Nat)=scanBound:=rfl;omega
  have hln:=O1 acc ks[i];show wpAny _ A.in1 (holding [u] (setAdd p u) >>= _) _ _ _;refine wpAny_bind (wpAny_holding ?_);unfold setAdd;refine wpAny_holding (wpAny_bind ((AU X.prog X.w).pyHash hx ?_));refine Tz hx (O3 hx) SX hb (fun hm=>?_) (fun hm h2 sb2 SX2=>?_)
  ·refine wpAny_pure ⟨plainId_quiet Bm _,?_⟩;have ea:EL acc ks[i]=acc:=by unfold EL; rw [if_pos hm]
   refine ih (i + 1) _ acc (by omega) (by omega) (by omega) (I1.tok _) st' (fun s' I'=>hR s' ?_);rw [e3];show Inv X aa σ (upd H p (CP X.prog X.w p (B0 (EL acc ks[i]) (ks.drop (i + 1))))) s';rw [ea];exact I'
  ·refine wpAny_pure ⟨plainId_quiet Bm _,?_⟩;have ea:EL acc ks[i]=ks[i] :: acc:=by unfold EL; rw [if_neg hm]
   have I2:=D8 (t':=s.toks + 1) (I1.tok _) (by rw [hp]; exact True.intro) sb2 (let ⟨q,_,_,_,_,hq',_⟩:=SX2; ⟨q,hq'⟩) (Oz (H:=upd (upd H p (CP X.prog X.w p acc)) p (CP X.prog X.w p (ks[i] :: acc))) SX2);rw [Ll] at I2;refine ih (i + 1) _ (ks[i] :: acc) (by omega) (by omega) (by simp; omega) I2 (st'.extBut sb2.extBut (Ne.symm hpit)) (fun s' I'=>hR s' ?_);rw [e3];show Inv X aa σ (upd H p (CP X.prog X.w p (B0 (EL acc ks[i]) (ks.drop (i + 1))))) s';rw [ea];exact I'
end
theorem IJ {prog:Program} {a:Value} {Q Q₁:VS}
  (br:codeAny (model prog w) A.in1 (.call (.builtin "set.__new__") ⟨[.type "set", a],[]⟩) (wants Q₁ E) s)
  (hnext:∀ obj s₁,Q₁ obj s₁->s₁.TypeIs obj "set" /\
   wpAny (model prog w) A.in1.in1 (Builtin.«set.__init__» ⟨[obj,a],[]⟩)
    (fun fin s'=>match fin with | .done f=>wants (fun r s₂=>r=.none/\Q obj s₂) E (.ok f) s' | .again c'=>c'.quiet=true/\codeAny (model prog w) A.in1 c' (wants (fun r s₂=>r=.none/\Q obj s₂) E) s')
    (fun e s'=>wants (fun r s₂=>r=.none/\Q obj s₂) E (.error e) s') s₁) :
  wpAny (model prog w) A (call (.type "set") [a]) Q E s:=by
 have ft:=PySem.F.called_set;obtain ⟨c,tl,hmro⟩:=ft.mro;have hmade:=ft.made;have bv:=ft.sub;have hct:=PySem.F.typeCall_set_1 a;refine wpAny_call (codeAny_of_tree ?_);show wpAny _ _ (callAny (.type "set") _) _ _ _;refine wpAny_pure ⟨Code.quiet_builtin _ (by decide +kernel),codeAny_builtin PySem.F.entry_type_call ?_⟩;rw [Around.under_plain (weight_type_call_type "set" [a] []) rfl];have h1:=ft.notType;have h2:=ft.canCreate
 repeat (any_goals (first | assumption | wp_step))
 refine codeAny_mono br fun r s₁ hr=>?_;cases r with
 | error e=>exact hr
 | ok fl =>
  cases fl with
  | ret obj =>
   obtain ⟨hT,hsi⟩:=hnext _ _ hr;have hli:=ft.init.lookup;have hbi:=ft.init.bind obj
   repeat (any_goals (first | assumption | wp_step))
   refine codeAny_mono (codeAny_call_builtin ft.init.plain PySem.F.entry_set_init (check_set_init_1 hT hsi)) fun r₂ s₂ hr₂=>?_;cases r₂ with
   | error e=>exact hr₂
   | ok fl₂ =>
    cases fl₂ with
    | ret r =>
     obtain ⟨rfl,hq⟩:=hr₂
     repeat (any_goals (first | assumption | wp_step))
    | _=>exact hr₂.elim
  | _=>exact hr.elim
section
theorem NN {d:Addr} (e:h.get? d=some { cls:=.type "set", data:=.set #[] 0 (SetTable.fresh 0 0 (CO w)) }):SetX (AU P w) h d [] (CO w) :=
 ⟨_,#[],0,_,[],e,⟨rfl,rfl,rfl⟩,rfl,Oy _ _ _,rfl,List.Perm.refl _,.nil,by decide⟩
theorem NO (hc:X.calm=true):BJ X (.type "set") (fun xs H Q=>∃ (a:Addr) (ks:List Key),xs=[.ref a]/\SqL X.K H a (ks.map kV)/\ks.length <= 1000 /\
  ∀ p,H p=none->Q (.ref p) (upd H p (CP X.prog X.w p (B0 [] ks)))):=by
 intro aa s σ H xs us Q I r h;obtain ⟨a,ks,rfl,hq,hz,q⟩:=h;obtain ⟨u,rfl,ru⟩:=Bc r;cases (show u=Value.ref a from ru);have hp0:H s.heap.objs.size=none:=I.hok.fresh (Nat.le_refl _)
 have sH:∀ o,Same H (upd H s.heap.objs.size o):=fun o b v e=>by
  rw [AG (AJ e hp0)];exact e
 refine IJ (Q₁:=fun obj s₁=>obj=.ref s.heap.objs.size/\s₁={ s with heap:=s.heap.push { cls:=.type "set", data:=.set #[] 0 (SetTable.fresh 0 0 (CO X.w)) } }) (Jl _ ⟨rfl,rfl⟩) ?_;rintro obj s₁ ⟨rfl,rfl⟩;have hS:(s.heap.push { cls:=.type "set", data:=.set #[] 0 (SetTable.fresh 0 0 (CO X.w)) }).get? s.heap.objs.size=some { cls:=.type "set", data:=.set #[] 0 (SetTable.fresh 0 0 (CO X.w)) }:=get?_push_size _ rfl;have I1:Inv X aa σ (upd H s.heap.objs.size (CP X.prog X.w s.heap.objs.size [])) { s with heap:=s.heap.push { cls:=.type "set", data:=.set #[] 0 (SetTable.fresh 0 0 (CO X.w)) } }:=I.laid (a:=s.heap.objs.size) (o:=CP X.prog X.w s.heap.objs.size []) (t':=s.toks) (fun _ _ q=>get?_push_of_some _ q) (Nat.le_refl _) (Oz (NN hS));obtain ⟨its,rv,pl,_⟩:=I1.list ((sH _).seq hq);have hTd:Shared.TypeIs { s with heap:=s.heap.push { cls:=.type "set", data:=.set #[] 0 (SetTable.fresh 0 0 (CO X.w)) } } (.ref s.heap.objs.size) "set" := ⟨_,hS,rfl⟩;refine ⟨hTd,?_⟩;have hA:X.A.handled=none:=I.ok.hd hc;have hA2:X.A.in1.in1.in1.handled=none:=hA;obtain ⟨its0,_,⟨o0,_,e0,_⟩,_⟩:=I.list hq;have au:a < s.heap.objs.size:=lt_size e0;have hl1:=pl.isList;obtain ⟨ol,nl,hol,af,hdl,hdat⟩:=id pl;obtain ⟨ocls,odict,odata,oslots⟩:=ol;simp only at af hdat;subst af;have hsls:=PySem.F.sub_list_set;have hslf:=PySem.F.sub_list_frozenset;have ax:(Value.type "list" == Value.type "dict")=false:=by decide
 unfold Builtin.«set.__init__» noKeywords Builtin.Frozenset.updateFrom;generalize hPI:pyIter=PI
 wp_walk
 subst hPI;refine wpAny_pyIter_list hl1 ?_;refine wpAny_bind (wpAny_runValue ?_);have hsz:(s.heap.push { cls:=.type "set", data:=.set #[] 0 (SetTable.fresh 0 0 (CO X.w)) }).objs.size=s.heap.objs.size + 1:=Heap.size_push _ _;have bg:s.heap.objs.size ≠ (s.heap.push { cls:=.type "set", data:=.set #[] 0 (SetTable.fresh 0 0 (CO X.w)) }).objs.size:=by rw [hsz]; exact Nat.ne_of_lt (Nat.lt_succ_self _)
 have hn0:(upd H s.heap.objs.size (CP X.prog X.w s.heap.objs.size [])) (s.heap.push { cls:=.type "set", data:=.set #[] 0 (SetTable.fresh 0 0 (CO X.w)) }).objs.size=none:=I1.hok.fresh (Nat.le_refl _);obtain ⟨_,f1,_,f3,f4,f5⟩:=I1.fpOk (Nat.le_refl (s.heap.push { cls:=.type "set", data:=.set #[] 0 (SetTable.fresh 0 0 (CO X.w)) }).objs.size) hn0;have I3:Inv X aa σ (upd H s.heap.objs.size (CP X.prog X.w s.heap.objs.size [])) { s with heap:=(s.heap.push { cls:=.type "set", data:=.set #[] 0 (SetTable.fresh 0 0 (CO X.w)) }).push { cls:=.type "list_iterator", data:=.fields #[.ref a,.int 0 0] } }:=I1.kept (t':=s.toks) fun b o e=>get?_push_of_some _ e;refine O4 (X:=X) (aa:=aa) (σ:=σ) (H:=H) (a:=a) (it:=(s.heap.push { cls:=.type "set", data:=.set #[] 0 (SetTable.fresh 0 0 (CO X.w)) }).objs.size) (p:=s.heap.objs.size) (ks:=ks) hA2 (Nat.ne_of_gt au) bg hz (fun acc=>(sH _).seq hq) (fun acc=>?_) f1 f3 f4 f5 (ks.length - 0) 0 _ [] (by omega) (Nat.zero_le _) (Nat.le_refl _) I3 ⟨_,get?_push_size _ rfl,rfl,rfl⟩ (fun s' I'=>?_)
 ·rw [AG (Ne.symm bg)];rw [AG (Ne.symm bg)] at hn0;exact hn0
 ·show wpAny _ _ _ _ _ _;refine wpAny_pure ?_;show wpAny _ _ (ret Value.none) _ _ _;exact wpAny_pure ⟨rfl,.ref s.heap.objs.size,_,I',rfl,q _ hp0⟩
end
theorem slot_setit_next:Slot "set_iterator" "__next__" "set_iterator.__next__" :=
 .of (owner := "set_iterator") (n := "__next__") (by rw [typeLookup_type,builtinLookup_eq_fast]; kernel_rfl) (by decide +kernel) (by decide +kernel) (by decide +kernel)
  (by first | exact .inl (by decide +kernel) | exact .inr (by decide +kernel)) (by rw [isSubtype_type]; kernel_rfl)
theorem BH:entryFor table "set_iterator.__next__" = some Builtin.«set_iterator.__next__»:=entryFor_of_tree (by kernel_rfl)
theorem BO (a:Value):argsOk "set_iterator.__next__" ⟨[a],[]⟩:=by unfold argsOk; kernel_rfl
theorem F5:entryFor table "set.__iter__" = some Builtin.«frozenset.__iter__»:=entryFor_alias (id' := "frozenset.__iter__") (by kernel_rfl) (by first | rfl | decide +kernel) (by decide +kernel) (by kernel_rfl)
theorem Dk {α:Type}:∀ (xs:List α) (i:Nat) (h:i < xs.length),(xs[i] :: xs.eraseIdx i).Perm xs
 | [],i,h=>absurd h (Nat.not_lt_zero _)
 | x :: r,0,h=>List.Perm.refl _
 | x :: r,i + 1,h=>(List.Perm.swap ..).trans ((Dk r i (Nat.lt_of_succ_lt_succ h)).cons x)
def SIt (h:Heap) (I a:Addr) (first:Value) (i n ep:Nat):Prop:=∃ o,h.get? I=some o/\o.cls=.type "set_iterator" /\ o.data=.fields #[first,.int i 0,.ref a,.int n 0,.int ep 0]
theorem SIt.typeIs {I a first i n ep} (x:SIt s.heap I a first i n ep):s.TypeIs (.ref I) "set_iterator" := let ⟨o,ho,hc,_⟩:=x; ⟨o,ho,hc⟩
section
variable {prog:Program}
theorem IK {src:Source} {n:Nat} {Q:Nat->Shared->Prop} (hn:n ≠ 0) (h:∀ i d,i < n->Q i { s with drawn:=d }):wpAny (model prog w) A (choose src n) Q E s:=fun Γ p hΓ=>⟨hn,h _ _ (Nat.mod_lt _ (Nat.pos_of_ne_zero hn))⟩
theorem Cn {α:Type}:∀ (n:Nat) (xs:List α) (s:Shared) {Q:List α->Shared->Prop},xs.length <= n->(∀ ys d,List.Perm ys xs->Q ys { s with drawn:=d })->wpAny (model prog w) A (drawOrder n xs) Q E s
 | 0,xs,s,Q,hl,h=>by
  have e:xs=[]:=List.length_eq_zero_iff.mp (Nat.le_zero.mp hl);subst e;unfold drawOrder;exact wpAny_pure (h _ s.drawn (List.Perm.refl _))
 | n + 1,[],s,Q,hl,h=>by
  unfold drawOrder;exact wpAny_pure (h _ s.drawn (List.Perm.refl _))
 | n + 1,x :: r,s,Q,hl,h=>by
  unfold drawOrder;refine wpAny_bind (IK (by simp) fun i d hi=>?_);rw [List.getElem?_eq_getElem hi]
  have a0:((x :: r).eraseIdx i).length <= n:=by
   rw [List.length_eraseIdx,if_pos hi];simp at hl ⊢;omega
  refine wpAny_bind (Cn n _ _ a0 fun ys d' hp=>wpAny_pure (h _ d' ?_));exact (hp.cons _).trans (Dk _ _ hi)
theorem MM {α:Type} (next:Nat->Nat):∀ (fuel k:Nat) (left:List α) (out:Array α),left.length <= fuel->(pickOrder.go next fuel k left out).toList.Perm (out.toList++left)
 | 0,k,left,out,h=>by
  have e:left=[]:=List.length_eq_zero_iff.mp (Nat.le_zero.mp h);subst e;unfold pickOrder.go;simp
 | fuel + 1,k,[],out,h=>by
  unfold pickOrder.go;simp
 | fuel + 1,k,x :: r,out,h=>by
  unfold pickOrder.go;have hi:next k % (x :: r).length < (x :: r).length:=Nat.mod_lt _ (by simp)
  rw [List.getElem?_eq_getElem hi]
  have a0:((x :: r).eraseIdx (next k % (x :: r).length)).length <= fuel:=by
   rw [List.length_eraseIdx,if_pos hi];simp at h ⊢;omega
  refine (MM next fuel (k + 1) _ _ a0).trans ?_;rw [Array.toList_push,List.append_assoc];exact (Dk _ _ hi).append_left _
theorem HZ {α:Type} (next:Nat->Nat) (xs:Array α):(pickOrder next xs).toList.Perm xs.toList:=by
 unfold pickOrder;exact (MM next xs.size 0 xs.toList #[] (by simp)).trans (by simp)
section
variable {I:Addr} {slot nx i n ep:Nat} {o:Obj} {ar:Array (Int × Value)} {t:SetTable} {x:Value} {Q:Option Value->Shared->Prop}
theorem EM (hit:SIt s.heap I a (.int slot 0) i n ep) (ho:s.heap.get? a=some o) (hd:o.data=.set ar ep t) (hf:t.fits ar.size=true) (hn:ar.size=n)
  (hN:∀ {A:Around} {E:VS} {Q:Option (Value × Nat)->Shared->Prop},Q (some (x,nx)) s->wpAny (model prog w) A (setNext a slot i ep) Q E s)
  (hQ:∀ h',SIt h' I a (.int nx 0) (i + 1) n ep->Heap.SameBut I s.heap h'->Q (some x) { s with heap:=h' }):wpAny (model prog w) A (pyNext (.ref I)) Q E s:=by
 obtain ⟨oi,hoi,hci,hdi⟩:=id hit;unfold pyNext
 refine wpAny_bind (wpAny_attempt (wpAny_callSpecial?_slot (name:=Str.ofString "__next__") hit.typeIs slot_setit_next
  (wpAny_call_entry slot_setit_next hit.typeIs BH ?_ (BO _))))
 unfold Builtin.«set_iterator.__next__»;refine wpAny_bind (wpAny_pure ?_);refine wpAny_bind (wpAny_fieldsOf hoi hdi ?_);show wpAny _ _ (setEntries a >>= _) _ _ _;refine wpAny_bind (wpAny_setEntries_of ho hd hf ?_);rw [if_neg (by rw [hn]; simp)];show wpAny _ _ (setNext a slot i ep >>= _) _ _ _;refine wpAny_bind (hN ?_);show wpAny _ _ (setField (.ref I) 0 (rawInt nx) >>= _) _ _ _;refine wpAny_bind (wpAny_setField hoi hdi (by simp) ?_);have cb:=get?_update_self (Obj.mapFields (·.setIfInBounds 0 (rawInt nx))) hoi (Obj.isFreed_of_fields (Obj.data_mapFields hdi _));have hd1:=Obj.data_mapFields hdi (·.setIfInBounds 0 (rawInt nx));show wpAny _ _ (setField (.ref I) 1 (rawInt ((i:Int) + 1)) >>= _) _ _ _;refine wpAny_bind (wpAny_setField cb hd1 (by simp) ?_);refine wpAny_pure ⟨_,rfl,wpAny_pure (hQ _ ?_ ((Heap.SameBut.update ..).trans (Heap.SameBut.update ..)))⟩;exact ⟨_,get?_update_self _ cb (Obj.isFreed_of_fields (Obj.data_mapFields hd1 _)),(Obj.cls_mapFields ..).trans ((Obj.cls_mapFields ..).trans hci),by rw [Obj.data_mapFields hd1]; simp [rawInt]⟩
theorem FF (hh:A.handled=none) (hit:SIt s.heap I a (.int slot 0) i n ep) (ho:s.heap.get? a=some o) (hd:o.data=.set ar ep t) (hf:t.fits ar.size=true) (hn:ar.size=n)
  (hN:∀ {A:Around} {E:VS} {Q:Option (Value × Nat)->Shared->Prop},Q none s->wpAny (model prog w) A (setNext a slot i ep) Q E s)
  (hQ:∀ h',Heap.ExtBut I s.heap h'->Q none { s with heap:=h' }):wpAny (model prog w) A (pyNext (.ref I)) Q E s:=by
 obtain ⟨oi,hoi,hci,hdi⟩:=id hit;unfold pyNext
 refine wpAny_bind (wpAny_attempt (wpAny_callSpecial?_slot (name:=Str.ofString "__next__") hit.typeIs slot_setit_next
  (wpAny_call_entry slot_setit_next hit.typeIs BH ?_ (BO _))))
 unfold Builtin.«set_iterator.__next__»;refine wpAny_bind (wpAny_pure ?_);refine wpAny_bind (wpAny_fieldsOf hoi hdi ?_);show wpAny _ _ (setEntries a >>= _) _ _ _;refine wpAny_bind (wpAny_setEntries_of ho hd hf ?_);rw [if_neg (by rw [hn]; simp)];show wpAny _ _ (setNext a slot i ep >>= _) _ _ _;refine wpAny_bind (hN ?_);show wpAny _ _ (setField (.ref I) 2 .none >>= _) _ _ _;refine wpAny_bind (wpAny_setField hoi hdi (by simp) ?_);show wpAny _ _ (newExc (.type "StopIteration") [] >>= _) _ _ _;refine wpAny_bind ?_;simp only [newExc,newTuple];refine wpAny_bind (wpAny_newObj_type ?_ (by size_fits));refine wpAny_bind (m:=firstArgMember _ _) (wpAny_of_eq (a:=Value.none) (by first | rfl | (simp only [firstArgMember]; rfl)) ?_);refine wpAny_newObj_type ?_ (by size_fits);simp only [raiseNew];refine wpAny_bind (wpAny_handled ?_);rw [show A.in1.handled=none from hh];refine wpAny_bind (wpAny_pure (wpAny_throw ?_));refine wpAny_bind (wpAny_isInstance (T := "StopIteration") (b:=true) ⟨_,get?_push_size _ rfl,rfl⟩ isSubtype_stop ?_);exact wpAny_pure (hQ _ (((Heap.SameBut.update ..).extBut.push _).push _))
theorem IL {T:Addr} {ot:Obj} {tp:Array Value} {m pl:Nat} {hx:Int} (hit:SIt s.heap I a (.ref T) i n ep) (ho:s.heap.get? a=some o) (hd:o.data=.set ar ep t) (hf:t.fits ar.size=true) (hn:ar.size=n)
  (hT:s.heap.get? T=some ot) (htd:ot.data=.seq tp m) (hi:tp[i]?=some (.int pl 0)) (he:ar[pl]?=some (hx,x))
  (hQ:∀ h',SIt h' I a (.ref T) (i + 1) n ep->Heap.SameBut I s.heap h'->Q (some x) { s with heap:=h' }):wpAny (model prog w) A (pyNext (.ref I)) Q E s:=by
 obtain ⟨oi,hoi,hci,hdi⟩:=id hit;unfold pyNext
 refine wpAny_bind (wpAny_attempt (wpAny_callSpecial?_slot (name:=Str.ofString "__next__") hit.typeIs slot_setit_next
  (wpAny_call_entry slot_setit_next hit.typeIs BH ?_ (BO _))))
 unfold Builtin.«set_iterator.__next__»;refine wpAny_bind (wpAny_pure ?_);refine wpAny_bind (wpAny_fieldsOf hoi hdi ?_);show wpAny _ _ (setEntries a >>= _) _ _ _;refine wpAny_bind (wpAny_setEntries_of ho hd hf ?_);rw [if_neg (by rw [hn]; simp)];show wpAny _ _ (seqItems? (.ref T) >>= _) _ _ _;refine wpAny_bind ?_;unfold seqItems?;refine wpAny_bind (wpAny_load hT ?_);rw [htd];refine wpAny_pure ?_
 dsimp only
 rw [Int.toNat_natCast,hi]
 dsimp only
 unfold setNextDrawn;refine wpAny_bind (wpAny_bind (wpAny_setState_of ho hd hf ?_))
 dsimp only
 rw [if_neg (by simp),Int.toNat_natCast,he];refine wpAny_pure ?_;show wpAny _ _ (setField (.ref I) 1 (rawInt ((i:Int) + 1)) >>= _) _ _ _;refine wpAny_bind (wpAny_setField hoi hdi (by simp) ?_);refine wpAny_pure ⟨_,rfl,wpAny_pure (hQ _ ?_ (Heap.SameBut.update ..))⟩;exact ⟨_,get?_update_self _ hoi (Obj.isFreed_of_fields (Obj.data_mapFields hdi _)),(Obj.cls_mapFields ..).trans hci,by rw [Obj.data_mapFields hdi]; simp [rawInt]⟩
theorem Jm {T:Addr} {ot:Obj} {tp:Array Value} {m:Nat} (hh:A.handled=none) (hit:SIt s.heap I a (.ref T) i n ep) (ho:s.heap.get? a=some o) (hd:o.data=.set ar ep t) (hf:t.fits ar.size=true) (hn:ar.size=n)
  (hT:s.heap.get? T=some ot) (htd:ot.data=.seq tp m) (hi:tp[i]?=none)
  (hQ:∀ h',Heap.ExtBut I s.heap h'->Q none { s with heap:=h' }):wpAny (model prog w) A (pyNext (.ref I)) Q E s:=by
 obtain ⟨oi,hoi,hci,hdi⟩:=id hit;unfold pyNext
 refine wpAny_bind (wpAny_attempt (wpAny_callSpecial?_slot (name:=Str.ofString "__next__") hit.typeIs slot_setit_next
  (wpAny_call_entry slot_setit_next hit.typeIs BH ?_ (BO _))))
 unfold Builtin.«set_iterator.__next__»;refine wpAny_bind (wpAny_pure ?_);refine wpAny_bind (wpAny_fieldsOf hoi hdi ?_);show wpAny _ _ (setEntries a >>= _) _ _ _;refine wpAny_bind (wpAny_setEntries_of ho hd hf ?_);rw [if_neg (by rw [hn]; simp)];show wpAny _ _ (seqItems? (.ref T) >>= _) _ _ _;refine wpAny_bind ?_;unfold seqItems?;refine wpAny_bind (wpAny_load hT ?_);rw [htd];refine wpAny_pure ?_
 dsimp only
 rw [Int.toNat_natCast,hi]
 dsimp only
 refine wpAny_bind (wpAny_setField hoi hdi (by simp) ?_);have cb:=get?_update_self (Obj.mapFields (·.setIfInBounds 0 (rawInt 0))) hoi (Obj.isFreed_of_fields (Obj.data_mapFields hdi _));have hd1:=Obj.data_mapFields hdi (·.setIfInBounds 0 (rawInt 0));refine wpAny_bind (wpAny_setField cb hd1 (by simp) ?_);show wpAny _ _ (newExc (.type "StopIteration") [] >>= _) _ _ _;refine wpAny_bind ?_;simp only [newExc,newTuple];refine wpAny_bind (wpAny_newObj_type ?_ (by size_fits));refine wpAny_bind (m:=firstArgMember _ _) (wpAny_of_eq (a:=Value.none) (by first | rfl | (simp only [firstArgMember]; rfl)) ?_);refine wpAny_newObj_type ?_ (by size_fits);simp only [raiseNew];refine wpAny_bind (wpAny_handled ?_);rw [show A.in1.handled=none from hh];refine wpAny_bind (wpAny_pure (wpAny_throw ?_));refine wpAny_bind (wpAny_isInstance (T := "StopIteration") (b:=true) ⟨_,get?_push_size _ rfl,rfl⟩ isSubtype_stop ?_);exact wpAny_pure (hQ _ ((((Heap.SameBut.update ..).trans (Heap.SameBut.update ..)).extBut.push _).push _))
end
end
theorem Co:Slot "set_iterator" "__iter__" "set_iterator.__iter__" :=
 .of (owner := "set_iterator") (n := "__iter__") (by rw [typeLookup_type,builtinLookup_eq_fast]; kernel_rfl) (by decide +kernel) (by decide +kernel) (by decide +kernel)
  (by first | exact .inl (by decide +kernel) | exact .inr (by decide +kernel)) (by rw [isSubtype_type]; kernel_rfl)
theorem Eo:entryFor table "set_iterator.__iter__" = some Builtin.«dict_keyiterator.__iter__»:=entryFor_alias (id' := "dict_keyiterator.__iter__") (by kernel_rfl) (by first | rfl | decide +kernel) (by decide +kernel) (by kernel_rfl)
theorem FR (a:Value):argsOk "set_iterator.__iter__" ⟨[a],[]⟩:=by unfold argsOk; kernel_rfl
theorem SIt.at {h':Heap} {I a first i n ep} (x:SIt h I a first i n ep) (e:∀ o,h.get? I=some o->h'.get? I=some o):SIt h' I a first i n ep:=let ⟨o,ho,r⟩:=x; ⟨o,e _ ho,r⟩
section
variable {prog:Program} {I T:Addr} {n ep:Nat} {o ot:Obj} {ar:Array (Int × Value)} {t:SetTable}
theorem K9 {first:Value} {i:Nat} {Q:VS} (hit:SIt s.heap I a first i n ep) (h:Q (.ref I) s):wpAny (model prog w) A (pyIter (.ref I)) Q E s:=by
 refine wpAny_pyIter_slot hit.typeIs Co (wpAny_call_entry Co hit.typeIs Eo ?_ (FR _));show wpAny _ _ (ret (.ref I)) _ _ s;exact wpAny_pure ⟨_,rfl, "set_iterator", _,hit.typeIs,slot_setit_next.lookup,h⟩
theorem Ep {G:Nat->Value->Prop} {vs:List Value} (haI:a ≠ I) (hTI:T ≠ I)
  (hIt:∀ i (s:Shared) first,i < n->s.heap.get? a=some o->s.heap.get? T=some ot->SIt s.heap I a first i n ep->G i first->∀ (Q:Option Value->Shared->Prop) (E:VS),(∀ first' h' v,vs[i]?=some v->SIt h' I a first' (i + 1) n ep->G (i + 1) first'->Heap.SameBut I s.heap h'->Q (some v) { s with heap:=h' })->wpAny (model prog w) A (pyNext (.ref I)) Q E s)
  (hEn:∀ (s:Shared) first,s.heap.get? a=some o->s.heap.get? T=some ot->SIt s.heap I a first n n ep->G n first->∀ (Q:Option Value->Shared->Prop) (E:VS),(∀ h',Heap.ExtBut I s.heap h'->Q none { s with heap:=h' })->wpAny (model prog w) A (pyNext (.ref I)) Q E s) :
  WalksS prog w A I [I,a,T] [I] (fun a b=>b=a) n (fun i v=>vs[i]?=some v) (fun i s=>s.heap.get? a=some o/\s.heap.get? T=some ot/\∃ first,SIt s.heap I a first i n ep/\G i first) where
 sub:=fun b hb=>by simp at hb; simp [hb]
 grefl:=fun _=>rfl
 gtrans:=fun _ _ _ h1 h2=>h2.trans h1
 frame:=fun i s h' tk st _ hk=>⟨hk a (by simp) _ st.1,hk T (by simp) _ st.2.1,let ⟨f,x,g⟩:=st.2.2; ⟨f,x.at fun o e=>hk I (by simp) o e,g⟩⟩
 item:=fun i s Q E hi st hQ=>by
  obtain ⟨ha,hT,first,hit,g⟩:=st;refine hIt i s first hi ha hT hit g Q E fun first' h' v hv hit' g' sb=>?_
  exact hQ v _ hv ⟨(sb.2 a haI).trans ha,(sb.2 T hTI).trans hT,first',hit',g'⟩ ⟨fun b ob hb e=>(sb.2 b (fun z=>hb (by simp [z]))).trans e,rfl,rfl,rfl,Nat.le_refl _⟩
 done:=fun s Q E st hQ=>by
  obtain ⟨ha,hT,first,hit,g⟩:=st;exact hEn s first ha hT hit g Q E fun h' eb=>hQ _ ⟨fun b ob hb e=>eb b ob (fun z=>hb (by simp [z])) e,rfl,rfl,rfl,Nat.le_refl _⟩
 self:=fun i s Q E st hQ=>let ⟨_,_,f,x,_⟩:=st; K9 x hQ
theorem LA {xs:Array Nat} (hs:EH xs):SetTable.below xs 0=0:=by
 have B:=EI hs 0;rcases Nat.eq_zero_or_pos (SetTable.below xs 0) with h | h
 ·exact h
 ·exact absurd (B.lo 0 (Nat.lt_of_lt_of_le h B.le) h) (Nat.not_lt_zero _)
theorem LB {xs:Array Nat} (hs:EH xs) {i:Nat} (hi:i < xs.size):SetTable.below xs (xs[i] + 1)=i + 1:=by
 have B:=EI hs (xs[i] + 1)
 have h1:i < SetTable.below xs (xs[i] + 1):=by
  rcases Nat.lt_or_ge i (SetTable.below xs (xs[i] + 1)) with h | h
  ·exact h
  ·exact absurd (B.hi i hi h) (by omega)
 have h2:SetTable.below xs (xs[i] + 1) <= i + 1:=by
  rcases Nat.lt_or_ge (i + 1) (SetTable.below xs (xs[i] + 1)) with h | h
  ·have hlt:=Nat.lt_of_lt_of_le h B.le;have h3:=B.lo (i + 1) hlt h;have h4:=hs i (i + 1) hi hlt (Nat.lt_succ_self _);omega
  ·exact h
 omega
theorem Hg {slot i:Nat} {Q:Option (Value × Nat)->Shared->Prop} (ho:s.heap.get? a=some o) (hd:o.data=.set ar ep t) (hf:t.fits ar.size=true) (hw:w.params.followText "set-order" = true)
  (h:Q ((pickOrder (w.params.setOrder a ep) ar)[i]?.map fun e=>(e.2,slot)) s):wpAny (model prog w) A (setNext a slot i ep) Q E s:=by
 unfold setNext;refine wpAny_bind (wpAny_setState_of ho hd hf ?_);unfold setsByText;refine wpAny_bind (wpAny_bind (wpAny_askSetting (wpAny_pure ?_)));show wpAny _ _ (if w.params.followText "set-order" = true then _ else _) _ _ _;rw [if_pos hw];show wpAny _ _ (if (ep != ep)=true then _ else _) _ _ _;rw [if_neg (by simp)];unfold setWalk;refine wpAny_bind (wpAny_bind (wpAny_setState_of ho hd hf ?_));unfold setsByText;refine wpAny_bind (wpAny_bind (wpAny_askSetting (wpAny_pure ?_)));show wpAny _ _ (if w.params.followText "set-order" = true then _ else _) _ _ _;rw [if_pos hw];refine wpAny_bind (wpAny_askSetting (wpAny_pure ?_));exact wpAny_pure h
theorem Hh {slot i:Nat} {Q:Option (Value × Nat)->Shared->Prop} (ho:s.heap.get? a=some o) (hd:o.data=.set ar ep t) (hf:t.fits ar.size=true) (hw:w.params.followText "set-order" = false) (hl:t.led=true) (hp:(!t.plain && decide (ar.size > 1))=false)
  (h:Q (match ar[SetTable.below t.place slot]?,t.place[SetTable.below t.place slot]? with | some (_,x),some j=>some (x,j + 1) | _,_=>none) s):wpAny (model prog w) A (setNext a slot i ep) Q E s:=by
 unfold setNext;refine wpAny_bind (wpAny_setState_of ho hd hf ?_);unfold setsByText;refine wpAny_bind (wpAny_bind (wpAny_askSetting (wpAny_pure ?_)));show wpAny _ _ (if w.params.followText "set-order" = true then _ else _) _ _ _;rw [if_neg (by rw [hw]; decide)];show wpAny _ _ (if (!t.plain && decide (ar.size > 1))=true then _ else _) _ _ _;rw [if_neg (by rw [hp]; decide)];show wpAny _ _ ((if (!t.led && !ar.isEmpty)=true then unsupported _ else pure ()) >>= _) _ _ _;rw [if_neg (by rw [hl]; simp)];exact wpAny_bind (wpAny_pure (wpAny_pure h))
end
section
variable {prog:Program} {ep:Nat} {o:Obj} {ar:Array (Int × Value)} {t:SetTable}
theorem LD {α β:Type} (ar:Array α) (f:α->β) (z:β) {ys:List Nat} (hp:ys.Perm (List.range ar.size)):(ys.map fun i=>(ar[i]?.map f).getD z).Perm (ar.toList.map f):=by
 refine (hp.map _).trans (List.Perm.of_eq ?_);refine List.ext_getElem (by simp) fun i h1 h2=>?_;simp at h1 h2;simp [h2]
theorem LF {Q:VS} (hx:o.ExactSet) (ho:s.heap.get? a=some o) (hd:o.data=.set ar ep t) (K:EJ t ar.size) (hl:t.led=CO w) (hb:ar.size < scanBound)
  (hQ:∀ (h':Heap) (d:Drawn) (I:Addr) (fp:List Addr) (vs:List Value) (St:Nat->Shared->Prop),vs.Perm (ar.toList.map (·.2))->(∀ A:Around,A.handled=none->WalksS prog w A I fp [I] (fun a b=>b=a) ar.size (fun i v=>vs[i]?=some v) St)->St 0 { s with heap:=h',drawn:=d } ->
   (∀ b o,s.heap.get? b=some o->h'.get? b=some o)->s.heap.objs.size <= I->(∀ b ∈ fp,b=a\/s.heap.objs.size <= b)->Q (.ref I) { s with heap:=h',drawn:=d }) :
  wpAny (model prog w) A (pyIter (.ref a)) Q E s:=by
 have hT:s.TypeIs (.ref a) "set" := ⟨o,ho,hx.1⟩;have au:a < s.heap.objs.size:=lt_size ho
 have hps:t.place.size=ar.size:=by
  have:=K.fits;unfold SetTable.fits at this;simp at this;exact this.1
 refine wpAny_pyIter_slot hT PySem.F.slot_set_iter (wpAny_call_entry PySem.F.slot_set_iter hT F5 ?_ (PySem.F.args_set_iter_1 _));unfold Builtin.«frozenset.__iter__»;refine wpAny_bind (m:=Builtin.Frozenset.slot0 _ _) (wpAny_pure ?_);unfold Builtin.Frozenset.sizeOf;refine wpAny_bind (wpAny_bind (wpAny_setEntries_of ho hd K.fits (wpAny_pure ?_)));unfold setDrawn;refine wpAny_bind (wpAny_bind (wpAny_setState_of ho hd K.fits ?_));unfold setsByText;refine wpAny_bind (wpAny_bind (wpAny_askSetting (wpAny_pure (wpAny_pure ?_))));show wpAny _ _ (if (!w.params.followText "set-order" && (!t.plain && decide (ar.size > 1)))=true then _ else _) _ _ _;cases hw:w.params.followText "set-order" with
 | true =>
  rw [if_neg (by simp)];refine wpAny_bind (wpAny_pure ?_);refine wpAny_bind (wpAny_setEpoch_of ho hd K.fits ?_);refine wpAny_bind (wpAny_newObj_type (wpAny_pure ⟨_,rfl, "set_iterator", _,⟨_,get?_push_size _ rfl,rfl⟩,slot_setit_next.lookup,?_⟩));have haI:a ≠ s.heap.objs.size:=Nat.ne_of_lt au
  have hsz:(pickOrder (w.params.setOrder a ep) ar).size=ar.size:=by
   have:=(HZ (w.params.setOrder a ep) ar).length_eq;simpa using this
  refine hQ _ s.drawn _ [s.heap.objs.size,a,a] ((pickOrder (w.params.setOrder a ep) ar).toList.map (·.2)) _ ((HZ _ ar).map _) (fun A' hA'=>Ep (I:=s.heap.objs.size) (T:=a) (o:=o) (ot:=o) (n:=ar.size) (ep:=ep) (G:=fun i f=>f=.int 0 0) haI haI ?_ ?_) ⟨get?_push_of_some _ ho,get?_push_of_some _ ho,_,⟨_,get?_push_size _ rfl,rfl,rfl⟩,rfl⟩ (fun b o e=>get?_push_of_some _ e) (Nat.le_refl _) ?_
  ·rintro i s1 first hi ha _ hit rfl Q1 E1 h1
   have hg:(pickOrder (w.params.setOrder a ep) ar)[i]?=some (pickOrder (w.params.setOrder a ep) ar)[i]:=Array.getElem?_eq_getElem (by omega);refine EM (slot:=0) (nx:=0) (x:=(pickOrder (w.params.setOrder a ep) ar)[i].2) hit ha hd K.fits rfl (fun {A2 E2 Q2} h2=>Hg ha hd K.fits hw ?_) (fun h' hit' sb=>h1 _ h' _ ?_ hit' rfl sb)
   ·rw [hg];exact h2
   ·rw [getElem?_map,Array.getElem?_toList,hg];rfl
  ·rintro s1 first ha _ hit rfl Q1 E1 h1
   have hg:(pickOrder (w.params.setOrder a ep) ar)[ar.size]?=none:=Array.getElem?_eq_none (by omega);refine FF (slot:=0) hA' hit ha hd K.fits rfl (fun {A2 E2 Q2} h2=>Hg ha hd K.fits hw ?_) h1;rw [hg];exact h2
  ·intro b hb;simp at hb;rcases hb with h | h
   ·exact .inr (Nat.le_of_eq h.symm)
   ·exact .inl h
 | false =>
  have hled:t.led=true:=by rw [hl]; show (!w.params.followText "set-order")=true; rw [hw]; rfl
  cases hp:(!t.plain && decide (ar.size > 1)) with
  | false =>
   rw [if_neg (by simp)];refine wpAny_bind (wpAny_pure ?_);refine wpAny_bind (wpAny_setEpoch_of ho hd K.fits ?_);refine wpAny_bind (wpAny_newObj_type (wpAny_pure ⟨_,rfl, "set_iterator", _,⟨_,get?_push_size _ rfl,rfl⟩,slot_setit_next.lookup,?_⟩));have haI:a ≠ s.heap.objs.size:=Nat.ne_of_lt au;refine hQ _ s.drawn _ [s.heap.objs.size,a,a] (ar.toList.map (·.2)) _ (List.Perm.refl _) (fun A' hA'=>Ep (I:=s.heap.objs.size) (T:=a) (o:=o) (ot:=o) (n:=ar.size) (ep:=ep) (G:=fun i f=>∃ slot:Nat,f=.int slot 0/\SetTable.below t.place slot=i) haI haI ?_ ?_) ⟨get?_push_of_some _ ho,get?_push_of_some _ ho,_,⟨_,get?_push_size _ rfl,rfl,rfl⟩,0,rfl,LA K.rise⟩ (fun b o e=>get?_push_of_some _ e) (Nat.le_refl _) ?_
   ·rintro i s1 first hi ha _ hit ⟨slot,rfl,hsl⟩ Q1 E1 h1
    have hg:ar[i]?=some ar[i]:=Array.getElem?_eq_getElem hi;have hi2:i < t.place.size:=by omega
    have hg2:t.place[i]?=some t.place[i]:=Array.getElem?_eq_getElem hi2;refine EM (slot:=slot) (nx:=t.place[i] + 1) (x:=ar[i].2) hit ha hd K.fits rfl (fun {A2 E2 Q2} h2=>Hh ha hd K.fits hw hled hp ?_) (fun h' hit' sb=>h1 _ h' _ ?_ hit' ⟨_,rfl,LB K.rise hi2⟩ sb)
    ·rw [hsl,hg,hg2];exact h2
    ·rw [getElem?_map,Array.getElem?_toList,hg];rfl
   ·rintro s1 first ha _ hit ⟨slot,rfl,hsl⟩ Q1 E1 h1
    refine FF (slot:=slot) hA' hit ha hd K.fits rfl (fun {A2 E2 Q2} h2=>Hh ha hd K.fits hw hled hp ?_) h1;rw [hsl,Array.getElem?_eq_none (Nat.le_refl _)];exact h2
   ·intro b hb;simp at hb;rcases hb with h | h
    ·exact .inr (Nat.le_of_eq h.symm)
    ·exact .inl h
  | true =>
   rw [if_pos (by simp)];refine wpAny_bind (Cn _ _ _ (by simp) fun ys d bh=>?_);have hyl:ys.length=ar.size:=by rw [bh.length_eq]; simp
   have h4:scanBound=4096:=rfl
   have a0:(ys.map fun (i:Nat)=>rawInt i).toArray.size <= sizeLine:=by
    have:sizeLine=2 ^ 24:=rfl;simp;omega
   refine wpAny_bind (wpAny_newObj_type ?_ (by size_fits));have ho1:(s.heap.push { cls:=.type "tuple", data:=.seq (ys.map fun (i:Nat)=>rawInt i).toArray }).get? a=some o:=get?_push_of_some _ ho;refine wpAny_bind (wpAny_setEpoch_of ho1 hd K.fits ?_);refine wpAny_bind (wpAny_newObj_type (wpAny_pure ⟨_,rfl, "set_iterator", _,⟨_,get?_push_size _ rfl,rfl⟩,slot_setit_next.lookup,?_⟩));have hs1:(s.heap.push { cls:=.type "tuple", data:=.seq (ys.map fun (i:Nat)=>rawInt i).toArray }).objs.size=s.heap.objs.size + 1:=Heap.size_push _ _;have haI:a ≠ (s.heap.push { cls:=.type "tuple", data:=.seq (ys.map fun (i:Nat)=>rawInt i).toArray }).objs.size:=by rw [hs1]; exact Nat.ne_of_lt (Nat.lt_succ_of_lt au)
   have hTI:s.heap.objs.size ≠ (s.heap.push { cls:=.type "tuple", data:=.seq (ys.map fun (i:Nat)=>rawInt i).toArray }).objs.size:=by rw [hs1]; exact Nat.ne_of_lt (Nat.lt_succ_self _)
   refine hQ _ d _ [(s.heap.push { cls:=.type "tuple", data:=.seq (ys.map fun (i:Nat)=>rawInt i).toArray }).objs.size,a,s.heap.objs.size] (ys.map fun i=>(ar[i]?.map (·.2)).getD .none) _ (LD ar _ _ bh) (fun A' hA'=>Ep (I:=(s.heap.push { cls:=.type "tuple", data:=.seq (ys.map fun (i:Nat)=>rawInt i).toArray }).objs.size) (T:=s.heap.objs.size) (o:=o) (ot:={ cls:=.type "tuple", data:=.seq (ys.map fun (i:Nat)=>rawInt i).toArray }) (n:=ar.size) (ep:=ep) (G:=fun i f=>f=.ref s.heap.objs.size) haI hTI ?_ ?_) ⟨get?_push_of_some _ ho1,get?_push_of_some _ (get?_push_size _ rfl),_,⟨_,get?_push_size _ rfl,rfl,rfl⟩,rfl⟩ (fun b o e=>get?_push_of_some _ (get?_push_of_some _ e)) (Nat.le_trans (Nat.le_succ _) (Nat.le_of_eq hs1.symm)) ?_
   ·rintro i s1 first hi ha hT1 hit rfl Q1 E1 h1
    have hyi:ys[i]?=some (ys[i]'(by omega)):=List.getElem?_eq_getElem (by omega)
    have hyr:ys[i]'(by omega) < ar.size:=by
     have:=bh.mem_iff.mp (getElem_mem (l:=ys) (n:=i) (by omega));simpa using this
    have hg:ar[ys[i]'(by omega)]?=some (ar[ys[i]'(by omega)]):=Array.getElem?_eq_getElem hyr;refine IL (pl:=ys[i]'(by omega)) (hx:=(ar[ys[i]'(by omega)]).1) (x:=(ar[ys[i]'(by omega)]).2) hit ha hd K.fits rfl hT1 rfl ?_ hg (fun h' hit' sb=>h1 _ h' _ ?_ hit' rfl sb)
    ·rw [List.getElem?_toArray,getElem?_map,hyi];rfl
    ·rw [getElem?_map,hyi];simp [hyr]
   ·rintro s1 first ha hT1 hit rfl Q1 E1 h1
    refine Jm hA' hit ha hd K.fits rfl hT1 rfl ?_ h1;rw [List.getElem?_toArray,List.getElem?_eq_none (by simp [hyl])]
   ·intro b hb;simp at hb;rcases hb with h | h | h
    ·exact .inr (by rw [h]; exact Nat.le_succ _)
    ·exact .inl h
    ·exact .inr (Nat.le_of_eq h.symm)
end
theorem Jn {α β:Type} {F:α->β->Prop} {es es':List β} (p:es'.Perm es):∀ {ks:List α},Paired F ks es->∃ ks',ks'.Perm ks/\Paired F ks' es':=by
 induction p with
 | nil=>intro ks h; exact ⟨ks,List.Perm.refl _,h⟩
 | cons x p ih =>
  intro ks h;cases h with
  | cons r t =>
   obtain ⟨ks',p',h'⟩:=ih t;exact ⟨_ :: ks',p'.cons _,.cons r h'⟩
 | swap x y l =>
  intro ks h;cases h with
  | cons r t =>
   cases t with
   | cons r2 t=>exact ⟨_ :: _ :: _,List.Perm.swap ..,.cons r2 (.cons r t)⟩
 | trans p1 p2 ih1 ih2 =>
  intro ks h;obtain ⟨k2,q2,h2⟩:=ih2 h;obtain ⟨k1,q1,h1⟩:=ih1 h2;exact ⟨k1,q1.trans q2,h1⟩
theorem F6 {P:Program} {w:World}:∀ {ks:List Key} {es:List (Int × Value)},Paired (EnK (AU P w)) ks es->Paired (fun k v=>RelV (kV k) v) ks (es.map (·.2))
 | _,_,.nil=>.nil
 | _,_,.cons r t=>.cons (EB r.is) (F6 t)
section
variable {prog:Program} {ep:Nat} {o:Obj} {ar:Array (Int × Value)} {t:SetTable}
theorem Qf:typeLookup (.type "set") "__len__" = pure (some (.builtin "set.__len__")):=by rw [typeLookup_type,builtinLookup_eq_fast]; kernel_rfl
theorem Jo {Q:List Value->Shared->Prop} (hh:A.handled=none) (hx:o.ExactSet) (ho:s.heap.get? a=some o) (hd:o.data=.set ar ep t) (K:EJ t ar.size) (hl:t.led=CO w) (hb:ar.size < scanBound)
  (hQ:∀ s' acc,(∀ b o,s.heap.get? b=some o->s'.heap.get? b=some o)->s'.gens=s.gens->s'.os=s.os->acc.Perm (ar.toList.map (·.2))->Q acc s') :
  wpAny (model prog w) A (collect (.ref a)) Q E s:=by
 have au:a < s.heap.objs.size:=lt_size ho;have ax:a ≠ s.heap.objs.size:=Nat.ne_of_lt au
 have hn:ar.size <= sizeLine:=by
  have h4:scanBound=4096:=rfl;have:sizeLine=2 ^ 24:=rfl;omega
 unfold collect;refine wpAny_bind (wpAny_runValue (codeAny_builtin PySem.F.entry_proto_collect ?_));rw [Around.under_plainId PySem.F.plain_proto_collect _];show wpAny _ A.in1 (newList [] >>= fun l=>again (.builtin "list.__iadd__" ⟨[l,.ref a],[]⟩)) _ _ s;refine wpAny_bind (wpAny_newObj_type ?_);refine wpAny_pure ⟨plainId_quiet PySem.F.plain_list_iadd _,codeAny_builtin PySem.F.entry_list_iadd ?_⟩;rw [Around.under_plainId PySem.F.plain_list_iadd _];show wpAny _ A.in1 (Builtin.List.listExtendWith (.ref s.heap.objs.size) (.ref a) (.ref s.heap.objs.size)) _ _ _;unfold Builtin.List.listExtendWith;have ho1:(s.heap.push { cls:=.type "list", data:=.seq ([]:List Value).toArray }).get? a=some o:=get?_push_of_some _ ho;have hT1:Shared.TypeIs { s with heap:=s.heap.push { cls:=.type "list", data:=.seq ([]:List Value).toArray } } (.ref a) "set" := ⟨o,ho1,hx.1⟩;refine wpAny_bind (wpAny_typeOf hT1 ?_);have h1:Builtin.List.listSameRef (.ref s.heap.objs.size) (.ref a)=false:=by simp [Builtin.List.listSameRef,Ne.symm ax]
 have h2:(Value.type "set" == Value.type "list")=false:=by decide
 have h3:(Value.type "set" == Value.type "tuple")=false:=by decide
 simp only [h1,h2,h3,Bool.or_false,Bool.false_eq_true,if_false];refine wpAny_bind (LF hx ho1 hd K hl hb fun h' d I fp vs St bh W hst keep hI hfp=>?_);have hT2:Shared.TypeIs { s with heap:=h',drawn:=d } (.ref a) "set" := ⟨o,keep _ _ ho1,hx.1⟩;refine wpAny_bind (wpAny_holding ?_);unfold Builtin.List.listLengthHint;refine wpAny_bind (wpAny_specialOf hT2 Qf ?_)
 wp_delta
 refine wpAny_bind (wpAny_isInstance (b:=true) hT2 (by rw [isSubtype_type]; kernel_rfl) ?_);show wpAny _ A.in1 (typeOf (Value.ref a) >>= _) _ _ _;refine wpAny_bind (wpAny_typeOf hT2 ?_);refine wpAny_pure ?_;rw [if_pos (by decide)];have hHs:(s.heap.push { cls:=.type "list", data:=.seq ([]:List Value).toArray }).objs.size=s.heap.objs.size + 1:=Heap.size_push _ _
 have hSf:s.heap.objs.size ∉ fp:=fun hm=>by
  rcases hfp _ hm with z | z
  ·exact ax z.symm
  ·exact absurd z (by show ¬ ((s.heap.push { cls:=.type "list", data:=.seq ([]:List Value).toArray }).objs.size <= s.heap.objs.size); rw [hHs]; exact Nat.not_succ_le_self _)
 have hS:h'.get? s.heap.objs.size=some { cls:=.type "list", data:=.seq ([]:List Value).toArray }:=keep _ _ (get?_push_size _ rfl);refine wpAny_bind (wpAny_rule ?_);refine wpAny_bind ?_;show wpAny _ A.in1 (updateSeq s.heap.objs.size (·.push .none) >>= fun _=>updateSeq s.heap.objs.size (·.pop)) _ _ _;refine wpAny_bind (wpAny_updateSeq hS rfl ?_);have hS₂:=get?_update_self (Obj.mapSeq (·.push Value.none)) hS rfl;refine wpAny_updateSeq (hz:=by seq_fits) hS₂ rfl ?_;have hS₃:=get?_update_self (Obj.mapSeq (·.pop)) hS₂ rfl
 have oth:∀ b o,b ≠ s.heap.objs.size->h'.get? b=some o->((h'.update s.heap.objs.size (Obj.mapSeq (·.push Value.none))).update s.heap.objs.size (Obj.mapSeq (·.pop))).get? b=some o :=
  fun b o hb e=>(get?_update_other _ _ (Ne.symm hb)).trans ((get?_update_other _ _ (Ne.symm hb)).trans e)
 refine wpAny_pure ⟨plainId_quiet PySem.F.plain_extend_loop _,codeAny_extend_loopS (W A.in1 hh) hn _ hSf _ ar.size 0 _ _ _ rfl (Nat.zero_le _) ((W A.in1 hh).frame 0 { s with heap:=h',drawn:=d } _ s.toks hst (Nat.le_refl _) fun b hb o e=>oth b o (fun h=>hSf (h ▸ hb)) e) hS₃ (ItemsOf.nil _) fun s' acc' c' hm hS' bt=>?_⟩;show wpAny _ A (load s.heap.objs.size >>= _) _ _ s';refine wpAny_bind (wpAny_load hS' ?_);refine wpAny_pure (hQ s' acc'.toList (fun b ob e=>hm.heap b ob (fun hb=>?_) (oth _ _ (Nat.ne_of_lt (lt_size e)) (keep _ _ (get?_push_of_some _ e)))) hm.gens hm.os ?_)
 ·have hlt:=lt_size e;rcases mem_cons.mp hb with h | h
  ·exact absurd hlt (h ▸ Nat.lt_irrefl _)
  ·rw [mem_singleton.mp h] at hlt;have hI':s.heap.objs.size + 1 <= I:=by rw [← hHs]; exact hI
   exact absurd (Nat.lt_of_lt_of_le hlt (Nat.le_of_succ_le hI')) (Nat.lt_irrefl _)
 ·have e:acc'.toList=vs:=by
   refine List.ext_getElem? fun i=>?_;rw [Array.getElem?_toList];cases q:acc'[i]? with
   | none =>
    have hv:vs.length=ar.size:=by rw [bh.length_eq]; simp
    rw [Array.getElem?_eq_none_iff,bt.1] at q;rw [List.getElem?_eq_none (by omega)]
   | some v=>exact (bt.2 i v q).symm
  rw [e];exact bh
end
section
theorem Inv.went {s':Shared} (I:Inv X aa σ H s) (k:∀ b u,s.heap.get? b=some u->s'.heap.get? b=some u) (hg:s'.gens=s.gens) (ho:s'.os=s.os):Inv X aa σ H s':=by
 have I1:=I.kept (t':=s'.toks) k;exact ⟨I1.ok,ho.trans I.os,hg ▸ I.bare,I1.base,I1.loc,I1.cell,I1.free,I1.freeC,I1.pin,I1.hok,I1.len⟩
theorem IM (hc:X.calm=true):BJ X (.builtin "sorted") (fun xs H Q=>∃ (a:Addr) (ms:List Int),xs=[.ref a]/\H a=some (CP X.prog X.w a (ms.map Sum.inl))/\ms.length < 64 /\
  ∀ (l:Addr) (ns:List Int),H l=none->ns.Perm ms->ns.Pairwise (· <= ·)->Q (.ref l) (upd H l (.lst (ns.map V.int)))):=by
 intro aa s σ H xs us Q I r h;obtain ⟨a,ms,rfl,hS,h64,q⟩:=h;obtain ⟨u,rfl,ru⟩:=Bc r;cases ru;obtain ⟨o,ar,ep,t,ks',ho,hx,hd,K,hl,hp,hpr,hb⟩:=O0 I.hok hS;have hA:X.A.handled=none:=I.ok.hd hc;refine Calls.call_function_entry kind_sorted plain_sorted entry_sorted (args_sorted1 _) ?_;unfold Builtin.«sorted»;refine wpAny_bind (m:=checkCount "sorted" 1 1 _) (wpAny_pure ?_);refine wpAny_bind (Jo (A:=X.A.in1) hA hx ho hd K hl hb fun s' acc keep hg hos bh=>?_);obtain ⟨k2,p2,h2⟩:=Jn bh (F6 hpr);have hk2:k2.Perm (ms.map Sum.inl):=p2.trans hp
 obtain ⟨m2,e2⟩:∃ m2:List Int,k2=m2.map Sum.inl:=by
  refine ⟨k2.map fun k=>match k with | Sum.inl i=>i | Sum.inr _=>0,?_⟩;rw [map_map];refine (map_id k2).symm.trans (List.map_congr_left fun k hk=>?_);obtain ⟨i,_,e⟩:=mem_map.mp (hk2.mem_iff.mp hk);subst e;rfl
 subst e2
 have hm2:m2.Perm ms:=by
  have:=hk2.map (fun k:Key=>match k with | Sum.inl i=>i | Sum.inr _=>0);simpa [map_map,Function.comp_def] using this
 have bf:IntsAre acc m2:=by
  refine Bf (show Vals (m2.map V.int) acc from ?_)
  have:∀ {ms:List Int} {vs:List Value},Paired (fun k v=>RelV (kV k) v) (ms.map Sum.inl) vs->Vals (ms.map V.int) vs:=by
   intro ms;induction ms with
   | nil=>intro vs h; cases h; exact .nil
   | cons x r ih=>intro vs h; cases h with | cons r t=>exact .cons r (ih t)
  exact this h2
 have au:acc.length=ms.length:=by
  rw [← hm2.length_eq];exact (IntsAre.length bf)
 have hz:acc.length <= sizeLine:=by
  have:sizeLine=2 ^ 24:=rfl;omega
 refine wpAny_bind (wpAny_newList ?_ hz);have I1:Inv X aa σ H s':=I.went keep hg hos;have hoL:(s'.heap.push { cls:=.type "list", data:=.seq acc.toArray }).get? s'.heap.objs.size=some (seqObj "list" acc.toArray 0):=get?_push_size _ rfl;refine wpAny_bind (wpAny_holding (wpAny_call_entry slot_list_sort ⟨_,hoL,rfl⟩ entry_list_sort (list_sort_tree hoL bf (by rw [au]; exact h64) fun out ns' a1 a2 a3=>⟨_,rfl,?_⟩) (args_list_sort _)));refine wpAny_pure ⟨_,rfl,?_⟩;have hn:H s'.heap.objs.size=none:=I1.hok.fresh (Nat.le_refl _);have a0:ns'.length=acc.length:=by rw [a2.length_eq,← IntsAre.length bf]
 refine ⟨.ref s'.heap.objs.size,_,I1.laid (t':=s'.toks) (o:=.lst (ns'.map V.int)) (h':=sortedHeap (s'.heap.push { cls:=.type "list", data:=.seq acc.toArray }) s'.heap.objs.size acc out) (fun b o e=>?_) (Nat.le_refl _) ⟨by rw [AK,a0]; exact hz,out.toList,?_⟩,rfl,q _ ns' hn (a2.trans hm2) a3⟩
 ·rw [sortedHeap_old (Nat.ne_of_lt (lt_size e)) (lt_size (get?_push_of_some _ e))];exact get?_push_of_some _ e
 ·obtain ⟨c,hcx⟩:=sortedHeap_at (out:=out) hoL;exact ⟨c,Bu a1,by rw [Array.toArray_toList]; exact hcx⟩
theorem IN (hK:X.K=K):BJ X (.builtin "sorted") (fun xs H Q=>∃ (p:Addr) (ms:List Int),xs=[.ref p]/\SqL K H p (ms.map V.int)/\ms.length < 64 /\
  ∀ (l:Addr) (ns:List Int),H l=none->ns.Perm ms->ns.Pairwise (· <= ·)->Q (.ref l) (upd H l (.lst (ns.map V.int)))):=by
 subst hK;intro aa s σ H xs us Q I r h;obtain ⟨p,ms,rfl,hq,h64,q⟩:=h;obtain ⟨u,rfl,ru⟩:=Bc r;cases ru;obtain ⟨its,rv,pl,hzl⟩:=I.list hq;have a0:ms.length=its.length:=by have:=rv.length; rw [AK] at this; exact this
 have hI:=Bf rv;refine sorted_ints pl.isList hI (by omega) fun out ns a1 a2 a3=>?_;have hn:H (s.heap.objs.size + 1)=none:=I.hok.fresh (Nat.le_succ _);have hl2:ns.length=ms.length:=a2.length_eq;refine ⟨.ref (s.heap.objs.size + 1),_,I.laid (t':=s.toks) (o:=.lst (ns.map V.int)) (h':=sortedAll s.heap its out) (fun b o e=>sortedAll_old e) (Nat.le_succ _) ⟨by rw [AK,sizeLine_eq]; omega,out.toList,?_⟩,rfl,q _ ns hn a2 a3⟩;obtain ⟨c,hcx⟩:=sortedAll_at s.heap its out;exact ⟨c,Bu a1,by rw [Array.toArray_toList]; exact hcx⟩
end
end L2
end
section
namespace MK
open PySem
theorem Br (a b:Nat):Builtin.bitAnd (a:Int) (b:Int)=((a &&& b:Nat):Int):=by
 rw [PyProof.Rows.bitAnd_pp (Int.natCast_nonneg _) (Int.natCast_nonneg _)]; simp
theorem Cd (a b:Nat):Builtin.bitOr (a:Int) (b:Int)=((a ||| b:Nat):Int):=by
 have ha:¬ (0:Int) <= Builtin.bitNot (a:Int):=by unfold Builtin.bitNot; omega
 have hb:¬ (0:Int) <= Builtin.bitNot (b:Int):=by unfold Builtin.bitNot; omega
 unfold Builtin.bitOr;rw [PyProof.Rows.bitAnd_nn ha hb];have e:∀ n:Nat,(Builtin.bitNot (Builtin.bitNot (n:Int))).toNat=n:=fun n=>by unfold Builtin.bitNot; omega
 rw [e a,e b];unfold Builtin.bitNot; omega
theorem Dl (a b:Nat):Builtin.bitAnd (a:Int) (Builtin.bitNot (b:Int))=((a - (a &&& b):Nat):Int):=by
 rw [PyProof.Rows.bitAnd_not,Br];have:a &&& b <= a:=Nat.and_le_left;omega
noncomputable def Ao (l:List Nat):Nat:=l.foldl (· ||| ·) 0
theorem EN (k:Nat):∀ (l:List Nat) (a:Nat),(l.foldl (· ||| ·) a).testBit k=(a.testBit k || l.any (·.testBit k))
 | [],a=>by simp
 | x :: r,a=>by rw [foldl_cons,EN k r,Nat.testBit_or,any_cons,Bool.or_assoc]
theorem CQ (l:List Nat) (k:Nat):(Ao l).testBit k=l.any (·.testBit k):=by
 unfold Ao; rw [EN]; simp
theorem F7 {l:List Nat} {m:Nat} (h:∀ n ∈ l,n < 2 ^ m):Ao l < 2 ^ m:=by
 have:∀ (l:List Nat) (a:Nat),a < 2 ^ m->(∀ n ∈ l,n < 2 ^ m)->l.foldl (· ||| ·) a < 2 ^ m:=by
  intro l;induction l with
  | nil=>intro a ha _; exact ha
  | cons x r ih=>intro a ha hl; exact ih _ (Nat.or_lt_two_pow ha (hl x mem_cons_self)) fun n hn=>hl n (mem_cons_of_mem _ hn)
 exact this l 0 (Nat.two_pow_pos m) h
theorem Dm (l:List Nat) (n:Nat):Ao (l++[n])=Ao l ||| n:=by unfold Ao; rw [foldl_append]; rfl
noncomputable def Ar (n:Nat):Bool:=decide (0 < n) && decide (n &&& (n - 1)=0)
theorem LG (k:Nat):Ar (2 ^ k)=true:=by
 unfold Ar;have h0:0 < 2 ^ k:=Nat.two_pow_pos k
 have h1:2 ^ k &&& (2 ^ k - 1)=0:=by
  apply Nat.eq_of_testBit_eq;intro i;rw [Nat.testBit_and,Nat.testBit_two_pow,Nat.testBit_two_pow_sub_one,Nat.zero_testBit];by_cases e:k=i
  ·subst e; simp
  ·simp [e]
 simp [h0,h1]
theorem CI {n:Nat} (h:Ar n=true):∃ k,n=2 ^ k:=by
 unfold Ar at h;simp only [Bool.and_eq_true,decide_eq_true_eq] at h;obtain ⟨h0,h1⟩:=h;refine ⟨n.log2,?_⟩;have hlo:2 ^ n.log2 <= n:=Nat.log2_self_le (by omega);have hhi:n < 2 ^ (n.log2 + 1):=Nat.lt_log2_self;rcases Nat.eq_or_lt_of_le hlo with e | hlt
 ·exact e.symm
 ·exfalso
  have b1:n.testBit n.log2=true:=by
   rw [Nat.testBit_eq_decide_div_mod_eq];simp
   have:n / 2 ^ n.log2=1:=by
    apply Nat.div_eq_of_lt_le <;> (try rw [Nat.pow_succ] at hhi) <;> omega
   rw [this]
  have b2:(n - 1).testBit n.log2=true:=by
   rw [Nat.testBit_eq_decide_div_mod_eq];simp
   have:(n - 1) / 2 ^ n.log2=1:=by
    apply Nat.div_eq_of_lt_le <;> (try rw [Nat.pow_succ] at hhi) <;> omega
   rw [this]
  have:(n &&& (n - 1)).testBit n.log2=true:=by rw [Nat.testBit_and,b1,b2]; rfl
  rw [h1,Nat.zero_testBit] at this;cases this
noncomputable def BY (n:Nat):List Nat:=(List.range 42).filter fun k=>n.testBit k
theorem F8 {α:Type} [DecidableEq α] {p:α->Bool}:∀ {l:List α} {a:α},l.Nodup->a ∈ l->(∀ b ∈ l,p b=true ↔ b=a)->l.filter p=[a]
 | [],_,_,h,_=>by cases h
 | b :: r,a,hn,ha,hp=>by
  obtain ⟨n1,n2⟩:=nodup_cons.mp hn;by_cases e:b=a
  ·subst e;have hb:p b=true:=(hp b mem_cons_self).mpr rfl;rw [filter_cons,if_pos hb];congr 1;apply List.filter_eq_nil_iff.mpr;intro c hc hpc;have:=(hp c (mem_cons_of_mem _ hc)).mp hpc;exact n1 (this ▸ hc)
  ·have hb:¬ p b=true:=fun z=>e ((hp b mem_cons_self).mp z);rw [filter_cons,if_neg hb];rcases mem_cons.mp ha with z | z
   ·exact absurd z.symm e
   ·exact F8 n2 z fun c hc=>hp c (mem_cons_of_mem _ hc)
theorem G1 {n:Nat} (hn:n < 2 ^ 42):decide ((BY n).length=1)=Ar n:=by
 rw [Bool.eq_iff_iff,decide_eq_true_eq];constructor
 ·intro h;obtain ⟨k,hk⟩:∃ k,BY n=[k]:=List.length_eq_one_iff.mp h
  have mem:∀ i,i < 42->(n.testBit i=true ↔ i=k):=fun i hi=>by
   have:i ∈ BY n ↔ i=k:=by rw [hk]; simp
   unfold BY at this;rw [mem_filter] at this;constructor
   ·intro hb; exact this.mp ⟨mem_range.mpr hi,hb⟩
   ·intro e; exact (this.mpr e).2
  have hk42:k < 42:=by
   have:k ∈ BY n:=by rw [hk]; simp
   unfold BY at this;exact mem_range.mp (mem_filter.mp this).1
  have e:n=2 ^ k:=by
   apply Nat.eq_of_testBit_eq;intro i;rw [Nat.testBit_two_pow];by_cases hi:i < 42
   ·rw [Bool.eq_iff_iff,mem i hi,decide_eq_true_eq]; exact eq_comm
   ·have h1:n.testBit i=false:=Nat.testBit_lt_two_pow (Nat.lt_of_lt_of_le hn (Nat.pow_le_pow_right (by decide) (by omega)));rw [h1]; symm; rw [decide_eq_false_iff_not]; omega
  rw [e]; exact LG k
 ·intro h;obtain ⟨k,rfl⟩:=CI h;have hk:k < 42:=(Nat.pow_lt_pow_iff_right (by decide)).mp hn
  have:BY (2 ^ k)=[k]:=by
   unfold BY;refine F8 List.nodup_range (mem_range.mpr hk) fun b _=>?_;rw [Nat.testBit_two_pow,decide_eq_true_eq]; exact eq_comm
  rw [this]; rfl
noncomputable def BB (m:Nat):Nat:=2 ^ (Builtin.Int.intBits (m:Int))
theorem C9 {m:Nat} (h:0 < m):Builtin.Int.intBits (m:Int)=m.log2 + 1:=by
 unfold Builtin.Int.intBits;have:((m:Int) == 0)=false:=by rw [beq_eq_false_iff_ne]; omega
 rw [this]; simp
theorem Jp {m k:Nat} (h1:m < 2 ^ k) (h2:k=0\/2 ^ (k - 1) <= m):2 ^ k=BB m:=by
 unfold BB;congr 1;rcases Nat.eq_zero_or_pos m with e | hm
 ·subst e
  have:k=0:=by
   rcases h2 with z | z
   ·exact z
   ·have:=Nat.two_pow_pos (k - 1); omega
  rw [this]; rfl
 ·rw [C9 hm];rcases h2 with z | z
  ·subst z; simp at h1; omega
  ·have hk:0 < k:=by rcases Nat.eq_zero_or_pos k with e | e
                     ·subst e; simp at h1; omega
                     ·exact e
   have e:m.log2=k - 1:=by
    apply Nat.le_antisymm
    ·have:m.log2 < k:=(Nat.log2_lt (by omega)).mpr h1;omega
    ·exact (Nat.le_log2 (by omega)).mpr z
   omega
theorem O5:∀ {l:List Nat} {a:Nat},(∀ n ∈ l,Ar n=true)->l.Pairwise (· < ·)->(∀ n ∈ l,a &&& n=0)->a + l.sum=l.foldl (· ||| ·) a
 | [],a,_,_,_=>by simp
 | n :: r,a,hm,hp,ha=>by
  obtain ⟨p1,p2⟩:=List.pairwise_cons.mp hp;have han:=ha n mem_cons_self
  have e:a ||| n=a + n:=by
   have h:=PyProof.Rows.bitOr_and (a:Int) (n:Int);rw [Cd,Br,han] at h;omega
  rw [sum_cons,foldl_cons,← O5 (a:=a ||| n) (fun m hm'=>hm m (mem_cons_of_mem _ hm')) p2 (fun m hm'=>?_),e]
  ·omega
  ·obtain ⟨i,rfl⟩:=CI (hm n mem_cons_self);obtain ⟨j,rfl⟩:=CI (hm m (mem_cons_of_mem _ hm'));have hlt:=p1 _ hm';have haj:=ha _ (mem_cons_of_mem _ hm');apply Nat.eq_of_testBit_eq;intro t;rw [Nat.testBit_and,Nat.testBit_or,Nat.zero_testBit];have h1:(a &&& 2 ^ j).testBit t=false:=by rw [haj]; exact Nat.zero_testBit t
   rw [Nat.testBit_and] at h1;rw [Bool.and_or_distrib_right,h1,Nat.testBit_two_pow,Nat.testBit_two_pow];have:i ≠ j:=fun e=>by subst e; omega
   by_cases e1:i=t
   ·have:¬ j=t:=by omega
    simp [this]
   ·simp [e1]
theorem NP {l:List Nat} (hm:∀ n ∈ l,Ar n=true) (hp:l.Pairwise (· < ·)):l.sum=Ao l:=by
 have:=O5 (a:=0) hm hp (fun n _=>by simp);unfold Ao;omega
end MK
end
end
variable {P:PySem.Program} {w:PySem.World} {K:FG} {mg:SV} {base:PySem.Heap} {f:PySem.Addr} {fd:PySem.FuncData} {H:L2.Hp} {H':L2.Hp} {due:Aa} {ac:Aa} {C:PySem.Addr} {VC:PySem.Addr} {EC:PySem.Addr}
section
namespace Mk
open PySem L2 MK
noncomputable def top (i:Nat):Stmt:=PySem.Challenge.pw_markworks_k22_whole_sets.main.body.getD i (.Pass ⟨0,0,0,0⟩)
noncomputable abbrev Au:Stmt:=inClass (top 1) 0
noncomputable abbrev F9:Stmt:=top 18
noncomputable abbrev IP:Stmt:=top 19
noncomputable abbrev IQ:Stmt:=top 20
noncomputable abbrev GA:Stmt:=top 21
noncomputable abbrev GG:Stmt:=top 22
noncomputable abbrev Er:Stmt:=top 24
noncomputable abbrev Do:Stmt:=top 25
noncomputable abbrev Ce:Stmt:=top 26
noncomputable abbrev Dp:Stmt:=top 27
noncomputable abbrev Es:Stmt:=top 28
noncomputable abbrev DA:Stmt:=top 29
noncomputable abbrev A6:Stmt:=inClass (top 30) 0
noncomputable abbrev Et:Stmt:=inClass (top 30) 1
noncomputable abbrev Dq:Stmt:=inClass (top 30) 5
noncomputable abbrev Dr:Stmt:=inClass (top 30) 6
noncomputable abbrev Eu:Stmt:=inClass (top 30) 7
noncomputable abbrev IR:Stmt:=inClass (top 30) 8
noncomputable abbrev Ev:Stmt:=top 33
noncomputable abbrev IS:Stmt:=top 34
noncomputable abbrev Ds:Stmt:=inClass (top 35) 0
noncomputable abbrev Cf:Stmt:=inClass (top 35) 1
noncomputable abbrev Dt:Stmt:=inClass (top 35) 2
noncomputable abbrev GH:Stmt:=inClass (top 35) 5
noncomputable abbrev DJ:Stmt:=top 36
noncomputable abbrev IT:Stmt:=top 37
noncomputable abbrev IU:Stmt:=top 38
noncomputable abbrev FX:Stmt:=top 39
noncomputable abbrev EO:Stmt:=top 40
noncomputable abbrev IV:Stmt:=top 41
noncomputable abbrev FY:Stmt:=top 42
noncomputable abbrev GJ:Stmt:=top 44
noncomputable abbrev Ew:Stmt:=top 45
noncomputable abbrev GP:Stmt:=top 46
noncomputable abbrev Du:Stmt:=top 47
noncomputable abbrev DB:Stmt:=top 48
noncomputable abbrev Ai:Stmt:=top 49
noncomputable abbrev B2:Stmt:=top 50
noncomputable abbrev Dv:Stmt:=top 51
noncomputable abbrev Bg:Stmt:=top 52
noncomputable abbrev DC:Stmt:=top 53
noncomputable abbrev Cg:Stmt:=top 54
noncomputable abbrev EQ:Stmt:=top 55
structure Fn (P:Program) (w:World) (K:FG) (mg:SV) (base:Heap) (x:Str) (k:Nat) (ps:List Str) (sp:Sp):Prop where
 ex:∃ f fd,FnOk P w K mg base CX0 k f fd ps sp/\mg x=some (.ref f)/\W.keepIn K (.ref f)=true/\Binds K fd ps []
structure Bl (mg:SV):Prop where
 len:mg "len" = none
 isi:mg "isinstance" = none
 max:mg "max" = none
 min:mg "min" = none
 range:mg "range" = none
 list:mg "list" = none
 tuple:mg "tuple" = none
 sorted:mg "sorted" = none
 sum:mg "sum" = none
 all:mg "all" = none
 enum:mg "enumerate" = none
 int:mg "int" = none
 bool:mg "bool" = none
 str:mg "str" = none
noncomputable def AS (ns:List Nat):List V:=ns.map fun (n:Nat)=>V.int (n:Int)
section
def GQ:Sp:=fun vs H Q _=>∃ n:Nat,vs=[.int (n:Int)]/\Q (.bl (Ar n)) H
theorem O6:AL ["number"] ["number"] (defScope IQ):=fsc
theorem LH (n:Nat):(decide (0 < (n:Int)) && decide (V.int (Builtin.bitAnd (n:Int) ((n:Int) - 1))=V.int 0))=Ar n:=by
 unfold Ar;rcases Nat.eq_zero_or_pos n with e | h
 ·subst e; rfl
 ·have e1:((n:Int) - 1)=((n - 1:Nat):Int):=by omega
  rw [e1,Br];have e2:decide (0 < (n:Int))=true:=decide_eq_true (by omega);have e3:decide (0 < n)=true:=decide_eq_true h;rw [e2,e3];congr 1;rw [Bool.eq_iff_iff,decide_eq_true_eq,decide_eq_true_eq];constructor
  ·intro z; injection z with z; omega
  ·intro z; rw [z]; rfl
theorem NQ (F:Fun K "is_mark" "is_mark" IQ f fd):FnOk P w K mg base CX0 1 f fd ["number"] GQ:=by
 refine F.m O6 fun vs H Q E h=>?_;obtain ⟨n,rfl,k⟩:=h;refine ⟨rfl,fun ad A outer s hr=>?_⟩;refine ⟨_,AE (AO (CG (Bj N9 (pv 0) AI (Ac _)) (Cr (Bj DU (AQ CY (pv 0) (AQ Rq (pv 0) AI)) AI (Ac _))))),?_⟩;rw [← LH] at k;refine ⟨_,rfl,_,_,rfl,rfl,_,rfl,?_⟩;refine BX (fun h=>?_) (fun h=>?_)
 ·rw [h,Bool.true_and] at k;exact ⟨_,rfl,_,rfl,_,_,rfl,rfl,_,_,rfl,rfl,rfl,k⟩
 ·rw [Bool.eq_false_iff.mpr h,Bool.false_and] at k;exact k
def DK (K:FG):Sp:=fun vs H Q _=>∃ (a:Addr) (ns:List Nat),vs=[.ref a]/\SqL K H a (AS ns)/\Q (.int (Ao ns:Nat)) H
theorem scUnionOf:AL ["numbers", "bits", "number"] ["numbers"] (defScope GA):=fsc
theorem IW {ns:List Nat} {i:Nat} {x:V} (h:(AS ns)[i]?=some x):∃ n,ns[i]?=some n/\x=V.int (n:Int):=by
 unfold AS at h;rw [getElem?_map] at h;cases e:ns[i]? with
 | none=>rw [e] at h; cases h
 | some n=>rw [e] at h; exact ⟨n,rfl,(Option.some.inj h).symm⟩
theorem LI (F:Fun K "union_of" "union_of" GA f fd):FnOk P w K mg base CX0 1 f fd ["numbers"] (DK K):=by
 refine F.m scUnionOf fun vs H Q E h=>?_;obtain ⟨a,ns,rfl,hS,k⟩:=h;refine ⟨rfl,fun ad A outer s hr=>?_⟩
 refine ⟨_,AF (Aj (i:=1) scUnionOf.nd rfl (Or.inl rfl) AI)
  (AF (Cu PassesOwn.never rfl (BF (pv 0)) (AZ (i:=2) scUnionOf.nd rfl (Or.inl rfl))
   (AE (Rn (i:=1) scUnionOf.nd rfl (Or.inl rfl) (pv 2) (Rs:OpR _ _ _))))
  (AE (AO (pv 1)))),?_⟩
 refine ⟨_,rfl,a,rfl,⟨_,hS⟩,Cw (K:=K) (a:=a) (xs:=AS ns) (fun i σ H2=>∃ v:Option V,σ=[some (.ref a),some (.int (Ao (ns.take i):Nat)),v]/\H2=H) ⟨none,rfl,rfl⟩ (fun i σ H2 _ ⟨_,_,e⟩=>e ▸ hS) ?_ ?_⟩
 ·rintro i x σ H2 hi ⟨v,rfl,rfl⟩;obtain ⟨n,hn,rfl⟩:=IW hi;refine ⟨_,rfl,_,rfl,_,_,rfl,rfl,?_⟩;refine ⟨some (V.int (n:Int)),?_,rfl⟩;rw [take_add_one,hn,Option.toList_some,Dm];show [some (V.ref a),some (V.int (Builtin.bitOr (Ao (ns.take i):Nat) (n:Nat))),some (V.int (n:Int))]=_;rw [Cd]
 ·rintro σ H2 ⟨v,rfl,rfl⟩;refine ⟨_,rfl,?_⟩;have e:(AS ns).length=ns.length:=by unfold AS; rw [AK]
  rw [e,take_length];exact k
end
end Mk
end
section
namespace L2
open PySem
theorem O7 {x:Str} {g:TG} {tt:TT} {te:TE} {ix:List (Option Nat)} {R:List V->Hp->Prop} {σ:St} {H1:Hp} (Pv:Nat->List V->Hp->Prop) (h0:Pv 0 [] H1) (hz:∀ i ys H,Pv i ys H->ys.length <= 1000)
  (hs:∀ (i c:Nat) ys H,x.cps[i]?=some c->Pv i ys H->g (.str ⟨#[c]⟩) (Bz ix σ) H fun σ2 H2=>tt σ2 H2 fun b H3=>if b=true then te σ2 H3 fun y H4=>Pv (i + 1) (ys++[y]) H4 else Pv (i + 1) ys H3) (hd:∀ ys H,Pv x.cps.size ys H->R ys H) :
  ∃ W:Nat->Nat->List V->Hp->Prop,(∃ m,W 0 m [] H1)/\∀ i m ys H,W i m ys H ->
   ((Its x).stop i H/\ys.length <= sizeLine/\R ys H) \/
   ((Its x).go i H/\∃ N:List V->Hp->Prop,(∀ ys' H',N ys' H'->ys'.length <= sizeLine/\∃ m',m' < m/\W (i + 1) m' ys' H') /\
    ∀ v H',(Its x).yld i H v H'->g v (Bz ix σ) H' fun σ2 H2=>tt σ2 H2 fun b H3=>if b=true then te σ2 H3 fun y H4=>N (ys++[y]) H4 else N ys H3):=by
 refine ⟨fun i m ys H=>m=x.cps.size - i/\i <= x.cps.size/\Pv i ys H,⟨_,rfl,Nat.zero_le _,h0⟩,?_⟩;rintro i m ys H ⟨rfl,hi,hp⟩;by_cases hlt:i < x.cps.size
 ·refine .inr ⟨hlt,Pv (i + 1),fun ys' H' q=>⟨Nat.le_of_lt (Ae (hz _ ys' H' q)),x.cps.size - (i + 1),by omega,rfl,hlt,q⟩,?_⟩;rintro v H' ⟨rfl,c,hc,rfl⟩;exact hs i c ys H' hc hp
 ·have e:i=x.cps.size:=by omega
  subst e;exact .inl ⟨Nat.le_refl _,Nat.le_of_lt (Ae (hz _ ys H hp)),hd ys H hp⟩
end L2
namespace Mk
open PySem L2 MK
theorem O8:bootBuiltins "all" = some (.builtin "all"):=by decide +kernel
theorem GY:bootBuiltins "isinstance" = some (.builtin "isinstance"):=by decide +kernel
theorem DL:bootBuiltins "sorted" = some (.builtin "sorted"):=by decide +kernel
theorem O9:bootBuiltins "sum" = some (.builtin "sum"):=by decide +kernel
theorem SD:bootBuiltins "min" = some (.builtin "min"):=by decide +kernel
theorem SE:bootBuiltins "max" = some (.builtin "max"):=by decide +kernel
theorem LJ:bootBuiltins "str" = some (.type "str"):=by decide +kernel
theorem PB:bootBuiltins "int" = some (.type "int"):=by decide +kernel
theorem MO:bootBuiltins "bool" = some (.type "bool"):=by decide +kernel
theorem GZ:bootBuiltins "tuple" = some (.type "tuple"):=by decide +kernel
theorem FZ:bootBuiltins "list" = some (.type "list"):=by decide +kernel
theorem AD {H1:Hp} {p:Addr} {o:HO} (s:Same H H1) (hp:H1 p=none):Same H (upd H1 p o):=fun b u e=>by
 have e':=s b u e;rw [AG (AJ e' hp)];exact e'
noncomputable def G2 (c:Nat):Bool:=decide (65 <= c) && decide (c <= 90)
noncomputable def G3 (x:Str):Bool:=(decide (1 <= x.length) && decide (x.length <= 6)) && x.cps.toList.all G2
section
theorem Bs {X:Cx} {e:Expr} {te:TE} {T:String} {x:Str} {p p2 pos:Pos} (K:FG) (hK:X.K=K) (hg:Gl X "isinstance") (hm:X.mg "isinstance" = none) (hgT:Gl X x) (hmT:X.mg x=none) (hvT:bootBuiltins x=some (.type T)) (he:PE X e te)
  (hn:x ≠ "__name__" := by decide) (hdb:(x == ("__debug__" : Str))=false:=by decide)
  (hs:starEach [e,.Name x p2] X.env=(false,eval e X.env) :: starEach [.Name x p2] X.env:=by rfl) (hpl:(backTo pos (starEach [.Name x p2] X.env)).any (·.1)=false:=by rfl) (hs2:starEach [.Name x p2] X.env=(false,eval (.Name x p2) X.env) :: starEach [] X.env:=by rfl) :
  PE X (.Call (.Name "isinstance" p) [e,.Name x p2] [] pos) (tCB (fun xs H Q=>∃ v T t b,xs=[v,.ty T]/\TyOf K H v t/\W.kitOne K t (.type T)=some b/\Q (.bl b) H) (Al te (Al (tC (.ty T)) Cz))):=by
 subst hK;exact Ab OV hg hm GY (AA he (AA (Lm hgT hmT hvT rfl hn hdb) AC hs2) hs) (by decide) (by decide) hs hpl
theorem Az {X:Cx} (K:FG) (hK:X.K=K):IxR X (Sz K):=hK ▸ QD
theorem MP {X:Cx} (K:FG) (hK:X.K=K):IxR X (S0 K):=hK ▸ Ru
theorem Bh {X:Cx} (K:FG) (hK:X.K=K):BJ X (.builtin "len") (fun xs H Q=>∃ p ys,xs=[.ref p]/\(SqL K H p ys\/SqT K H p ys)/\Q (.int ys.length) H):=hK ▸ D7
theorem Qg {X:Cx} {e:Expr} {f:Str} {pos:Pos} {ta:TE} (K:FG) (hK:X.K=K) (he:PE X e ta) (hb:attributeBase e f X.env (eval e X.env)=eval e X.env):PE X (.Attribute e f pos) (Sv K ta f):=hK ▸ BW he hb
def Ga:Sp:=fun vs H Q _=>∃ x:Str,vs=[.str x]/\x.cps.all (· < 128)=true/\x.length <= 1000/\∀ H',Same H H'->Q (.bl (G3 x)) H'
theorem PD:AL ["thing"] ["thing"] (defScope IP):=fsc
theorem PF (c:Nat):(if (!decide ((⟨#[c]⟩:Str).cps.toList < ("A" : Str).cps.toList))=true then (!decide (("Z" : Str).cps.toList < (⟨#[c]⟩:Str).cps.toList)) else false)=G2 c:=by
 have hA:("A" : Str).cps.toList=[65]:=by decide +kernel
 have hZ:("Z" : Str).cps.toList=[90]:=by decide +kernel
 rw [hA,hZ];show (if (!decide ([c] < [65]))=true then !decide ([90] < [c]) else false)=G2 c;unfold G2
 have e1:decide ([c] < [65])=decide (c < 65):=by
  rw [Bool.eq_iff_iff,decide_eq_true_eq,decide_eq_true_eq,List.cons_lt_cons_iff];simp
 have e2:decide ([90] < [c])=decide (90 < c):=by
  rw [Bool.eq_iff_iff,decide_eq_true_eq,decide_eq_true_eq,List.cons_lt_cons_iff];simp
 rw [e1,e2];by_cases h1:c < 65 <;> by_cases h2:90 < c <;> simp [h1,h2] <;> omega
theorem NR {t6:Tok} (F:Fun K "is_name" "is_name" IP f fd) (B:Bl mg) (hL:mg "LONGEST_NAME" = some (.int 6 t6)):FnOk P w K mg base CX0 1 f fd ["thing"] Ga:=by
 refine F.m PD fun vs H Q E h=>?_;obtain ⟨x,rfl,ha,hz,k⟩:=h;refine ⟨rfl,fun ad A outer s hr=>?_⟩
 refine ⟨_,AF (At (PW.pt (FA (Bn (Bd (Bs K rfl rfl B.isi rfl B.str LJ (pv 0)))) (Cq (Bn (Fl FB FB AI (Ab IB rfl B.len PySem.boot_len (AA (pv 0) AC)) (BE (v:=.int 6) rfl hL ⟨t6,rfl⟩))))))
   (AE (AO Nw)) AY)
  (AE (AO (Ab (JM rfl) rfl B.all O8 (AA (A9 [] [] (by kernel_rfl) (by decide +kernel) (by kernel_rfl) rfl (Rz (pv 0)) (fun _ _ _ _ _ _=>B8) (fun _ _ _ _ _ _=>JA HR HR Af (pv 0) Af)) AC)))),?_⟩
 refine ⟨_,rfl,_,_,_,true,rfl,.str x,rfl,_,rfl,?_⟩;refine BG ?_;refine ⟨_,rfl,x,rfl,Nat.le_of_lt (Ae hz),_,_,rfl,rfl,_,rfl,?_⟩;refine BX (fun h1=>?_) (fun h1=>?_)
 ·have h1':1 <= x.length:=by have:=of_decide_eq_true h1; omega
  refine ⟨_,_,rfl,rfl,_,rfl,?_⟩;refine BX (fun h2=>?_) (fun h2=>?_)
  ·have h2':¬ x.length <= 6:=by
    intro z;rw [decide_eq_true (show (x.length:Int) <= 6 by omega)] at h2;cases h2
   have e:G3 x=false:=by unfold G3; simp [h2']
   have:=k H (Same.refl H);rw [e] at this;exact this
  ·have h2':x.length <= 6:=Decidable.byContradiction fun z=>h2 (by rw [decide_eq_false (show ¬ (x.length:Int) <= 6 by omega)]; rfl);refine ⟨_,rfl,x,rfl,ha,O7 (x:=x) (fun i ys H2=>H2=H/\ys=(x.cps.toList.take i).map fun c=>V.bl (G2 c)) ⟨rfl,rfl⟩ (fun i ys H2 ⟨_,e⟩=>?_) ?_ ?_⟩
   ·rw [e,AK,length_take];have:x.cps.toList.length=x.length:=by rw [Array.length_toList]; rfl
    omega
   ·rintro i c ys H2 hc ⟨rfl,rfl⟩;refine ⟨_,rfl,_,_,rfl,rfl,_,rfl,?_⟩
    have fin:∀ b,b=G2 c->(H2=H2/\(x.cps.toList.take i).map (fun c=>V.bl (G2 c))++[V.bl b]=(x.cps.toList.take (i + 1)).map fun c=>V.bl (G2 c)):=fun b hb=>by
     refine ⟨rfl,?_⟩;have hc':x.cps.toList[i]?=some c:=by rw [Array.getElem?_toList]; exact hc
     rw [take_add_one,hc',map_append,hb];rfl
    have hu:=PF c;refine BX (fun h3=>?_) (fun h3=>?_)
    ·rw [if_pos h3] at hu;exact ⟨_,_,rfl,rfl,fin _ hu⟩
    ·rw [if_neg h3] at hu;exact fin _ hu
   ·rintro ys H2 ⟨rfl,rfl⟩ p hp;have el:x.cps.toList.take x.cps.size=x.cps.toList:=List.take_of_length_le (by rw [Array.length_toList]; exact Nat.le_refl _);refine ⟨p,x.cps.toList.map G2,rfl,SqL.of (by rw [AB,el,map_map]; rfl),?_⟩
    have e:G3 x=((x.cps.toList.map G2).all id):=by
     unfold G3;rw [decide_eq_true h1',decide_eq_true h2',all_map];rfl
    rw [← e];exact k _ (AD (Same.refl _) hp)
 ·have h1':¬ 1 <= x.length:=fun z=>h1 (decide_eq_true (by omega));refine ⟨_,rfl,?_⟩;refine Em ?_;have e:G3 x=false:=by unfold G3; simp [h1']
  have:=k H (Same.refl H);rw [e] at this;exact this
end
inductive Th where
 | non | num (n:Nat) | nms (ns:List Str)
def ThAt (H:Hp) (v:V):Th->Prop
 | .non=>v=.non
 | .num n=>v=.int (n:Int)
 | .nms ns=>∃ a,v=.ref a/\H a=some (.tup (ns.map V.str))
noncomputable def Cp (ns:List Nat):Nat:=ns.foldl max 0
noncomputable def look (due:Aa) (x:Str):Nat:=((due.find? fun p=>decide (p.1=x)).map (·.2)).getD 0
noncomputable def Av (due:Aa):LK:=due.map fun p=>(Sum.inr p.1,V.int (p.2:Int))
noncomputable def CA (due:Aa):Th->Nat
 | .non=>BB (Cp (due.map (·.2)))
 | .num n=>n
 | .nms ns=>Ao (ns.map (look due))
theorem Dw (x:Str):∀ due:Aa,BL (Av due) (Sum.inr x)=(due.find? fun p=>decide (p.1=x)).map fun p=>V.int (p.2:Int)
 | []=>rfl
 | p :: r=>by
  show BL ((Sum.inr p.1,V.int (p.2:Int)) :: Av r) (Sum.inr x)=_;by_cases e:p.1=x
  ·rw [C2 (p:=(Sum.inr p.1,V.int (p.2:Int))) (by rw [← e]),List.find?_cons_of_pos (by simpa using e)]; rfl
  ·rw [C3 (p:=(Sum.inr p.1,V.int (p.2:Int))) (fun z=>e (Sum.inr.inj z)),List.find?_cons_of_neg (by simpa using e)]; exact Dw x r
theorem NS {x:Str} (h:x ∈ due.map (·.1)):(due.find? fun p=>decide (p.1=x)).isSome=true:=by
 obtain ⟨p,hp,e⟩:=mem_map.mp h;rw [List.find?_isSome];exact ⟨p,hp,by simpa using e⟩
theorem FH {x:Str} (h:x ∈ due.map (·.1)):BL (Av due) (Sum.inr x)=some (V.int (look due x:Int)):=by
 rw [Dw];unfold look;obtain ⟨p,hp⟩:=Option.isSome_iff_exists.mp (NS h);rw [hp]; rfl
theorem ER {x:Str} (h:x ∉ due.map (·.1)):BL (Av due) (Sum.inr x)=none:=by
 rw [Dw]
 have:(due.find? fun p=>decide (p.1=x))=none:=by
  rw [List.find?_eq_none];intro p hp e;exact h (mem_map.mpr ⟨p,hp,by simpa using e⟩)
 rw [this]; rfl
theorem ES {m:Nat}:∀ (l:List Nat) (a:Nat),a < m->(∀ n ∈ l,n < m)->l.foldl max a < m
 | [],a,h,_=>h
 | x :: r,a,h,k=>ES r (max a x) (by have:=k x mem_cons_self; omega) fun n hn=>k n (mem_cons_of_mem _ hn)
theorem Jq {ns:List Nat} {m:Nat} (h0:0 < m) (h:∀ n ∈ ns,n < m):Cp ns < m:=ES ns 0 h0 h
theorem PJ (a b:Nat):max (a:Int) (b:Int)=((max a b:Nat):Int):=by omega
theorem Gb:∀ (r:List Nat) (a:Nat),(r.map fun n:Nat=>(n:Int)).foldl max (a:Int)=((r.foldl max a:Nat):Int)
 | [],_=>rfl
 | x :: r,a=>by rw [map_cons,foldl_cons,PJ,Gb r]; rfl
theorem Jr {ns:List Nat} (h:ns ≠ []):JN 0 (ns.map fun n:Nat=>(n:Int))=(Cp ns:Nat):=by
 cases ns with
 | nil=>exact absurd rfl h
 | cons a r =>
  show (r.map fun n:Nat=>(n:Int)).foldl max (a:Int)=_;rw [Gb];unfold Cp;rw [foldl_cons];have:max 0 a=a:=by omega
  rw [this]
theorem LL {m:Nat} (h:m < 2 ^ 20):Builtin.Int.intBits (m:Int) <= 20:=by
 rcases Nat.eq_zero_or_pos m with e | hm
 ·subst e; decide
 ·rw [C9 hm];have:m.log2 < 20:=(Nat.log2_lt (by omega)).mpr h;omega
section
def Dx (K:FG):Sp:=fun vs H Q _=>∃ (a:Addr) (ns:List Nat),vs=[.ref a]/\SqL K H a (AS ns)/\(∀ n ∈ ns,n < 2 ^ 20)/\Q (.int (BB (Cp ns):Nat)) H
theorem LM:AL ["numbers"] ["numbers"] (defScope Er):=fsc
theorem ET (ns:List Nat):AS ns=(ns.map fun n:Nat=>(n:Int)).map V.int:=by unfold AS; rw [map_map]; rfl
theorem Js (F:Fun K "next_mark" "next_mark" Er f fd) (B:Bl mg):FnOk P w K mg base CX0 1 f fd ["numbers"] (Dx K):=by
 refine F.m LM fun vs H Q E h=>?_;obtain ⟨a,ns,rfl,hS,hlt,k⟩:=h;refine ⟨rfl,fun ad A outer s hr=>?_⟩;refine ⟨_,AE (AO (AQ Fj AI (Rw PySem.F.plainAttrs_int PySem.F.slot_int_bit_length PySem.F.type_int_bit_length ID (MC rfl rfl B.max (pv 0) AI)))),?_⟩;have hm:=Jq (m:=2 ^ 20) (by decide) hlt
 have fin:∀ m:Int,m=(Cp ns:Nat)->tyV K "int" (.int m) H/\∃ i,V.int m=.int i/\([]:List V)=[]/\rI Rp (fun i j=>V.int (i * 2 ^ j.toNat)) (V.int 1) (V.int (Builtin.Int.intBits i:Nat)) H Q:=fun m e=>by
  subst e;refine ⟨rfl,_,rfl,rfl,1,_,rfl,rfl,⟨Int.natCast_nonneg _,?_,by decide⟩,?_⟩
  ·have:=LL hm; omega
  ·have e:(1:Int) * 2 ^ ((Builtin.Int.intBits (Cp ns:Nat):Nat):Int).toNat=((BB (Cp ns):Nat):Int):=by
    unfold BB;rw [Int.one_mul,Int.toNat_natCast];simp
   show Q (V.int (1 * 2 ^ ((Builtin.Int.intBits (Cp ns:Nat):Nat):Int).toNat)) H;rw [e];exact k
 refine ⟨_,rfl,a,ns.map (fun n:Nat=>(n:Int)),0,rfl,rfl,by rw [← ET]; exact hS,fun e=>?_,fun e=>?_⟩
 ·have e':ns=[]:=List.map_eq_nil_iff.mp e;exact fin 0 (by rw [e']; rfl)
 ·have e':ns ≠ []:=fun z=>e (by rw [z]; rfl);exact fin _ (Jr e')
def DN (K:FG):Sp:=fun vs H Q _=>(∃ (x:Str) (d:Addr) (kvs:LK),vs=[.str x,.ref d]/\Rd H d (.dK kvs)/\Q (.bl (BL kvs (Sum.inr x:Key)).isSome) H) \/
 (∃ (x:Str) (t:Addr) (xs:List Str),vs=[.str x,.ref t]/\SqT K H t (xs.map V.str)/\Q (.bl (inV (.str x) (xs.map V.str))) H)
theorem NT:AL ["thing", "names"] ["thing", "names"] (defScope GG):=fsc
theorem Hi:∀ xs:List Str,(xs.map V.str).all DV=true
 | []=>rfl
 | _ :: r=>Hi r
theorem LP (F:Fun K "is_one_of" "is_one_of" GG f fd) (B:Bl mg):FnOk P w K mg base CX0 1 f fd ["thing", "names"] (DN K):=by
 refine F.ok NT (fun vs H Q E h=>?_) (fun ad A outer s H vs Q E hr h=>?_)
 ·rcases h with ⟨x,d,kvs,rfl,_⟩ | ⟨x,t,xs,rfl,_⟩ <;> rfl
 ·have hu:=FD hr;rcases h with ⟨x,d,kvs,rfl,hd,k⟩ | ⟨x,t,xs,rfl,ht,k⟩
  ·refine ⟨_,AE (AO (CG (Bs K rfl rfl B.isi rfl B.str LJ (pv 0)) (Cr (Rh (OH hu (pv 0) (pv 1)))))),?_⟩;refine ⟨_,rfl,_,_,_,true,rfl,.str x,rfl,_,rfl,?_⟩;exact ⟨_,rfl,_,rfl,d,_,rfl,.inl ⟨kvs,Sum.inr x,hd,rfl,rfl⟩,k⟩
  ·refine ⟨_,AE (AO (CG (Bs K rfl rfl B.isi rfl B.str LJ (pv 0)) (Cr (Bj Ek (pv 0) (pv 1) (by with_unfolding_all rfl))))),?_⟩;refine ⟨_,rfl,_,_,_,true,rfl,.str x,rfl,_,rfl,?_⟩;exact ⟨_,rfl,_,rfl,t,_,rfl,.inr ht,rfl,Hi xs,k⟩
def DD:Sp:=fun vs H Q _=>∃ (a d:Addr) (ns:List Str) (kvs:LK),vs=[.ref a,.ref d]/\H a=some (.tup (ns.map V.str))/\ns.length <= 1000/\Rd H d (.dK kvs) /\
 ∀ H',Same H H'->Q (.bl (decide (0 < ns.length) && ns.all fun x=>(BL kvs (Sum.inr x:Key)).isSome)) H'
theorem Jt:AL ["parts", "ahead"] ["parts", "ahead"] (defScope Do):=fsc
theorem Same.rd {a:Addr} {u:HO} (s:Same H H') (h:Rd H a u):Rd H' a u:=by
 rcases h with h | ⟨o,h⟩
 ·exact .inl (s _ _ h)
 ·exact .inr ⟨o,s _ _ h⟩
theorem IY (F:Fun K "is_names_of" "is_names_of" Do f fd) (B:Bl mg) (GO:Fn P w K mg base "is_one_of" 1 ["thing", "names"] (DN K)):FnOk P w K mg base CX0 2 f fd ["parts", "ahead"] DD:=by
 obtain ⟨fO,dO,GO,mO,kO,bO⟩:=GO.ex;refine F.m Jt fun vs H Q E h=>?_;obtain ⟨a,d,ns,kvs,rfl,ha,hz,hd,k⟩:=h;refine ⟨rfl,fun ad A outer s hr=>?_⟩;have hu:=FD hr
 refine ⟨_,AE (AO (CG (Bj N9 (Ab D7 rfl B.len PySem.boot_len (AA (pv 0) AC)) AI (Ac _))
  (Cr (Ab (JM rfl) rfl B.all O8 (AA (A9 ["ahead"] [some 1] (by kernel_rfl) (by decide +kernel) (by kernel_rfl) rfl (N3 (pv 0)) (fun _ _ _ _ _ _=>B8)
   (fun _ _ _ _ _ _=>AH GO hr rfl mO kO bO .nil AM (AA (pv 0) (AA (pv 1) AC)))) AC))))),?_⟩
 have hl:(ns.map V.str).length=ns.length:=AK _;refine ⟨_,rfl,a,_,rfl,.inr (SqT.of ha),_,_,rfl,rfl,_,rfl,?_⟩;refine BX (fun h1=>?_) (fun h1=>?_)
 ·have h1':0 < ns.length:=by have:=of_decide_eq_true h1; rw [hl] at this; omega
  refine ⟨_,rfl,a,rfl,⟨_,SqT.of ha⟩,JL (K:=K) (a:=a) (xs:=ns.map V.str) (fun i ys H2=>H2=H/\ys=(ns.take i).map fun x=>V.bl (BL kvs (Sum.inr x:Key)).isSome) ⟨rfl,rfl⟩ (fun i ys H2 _ ⟨e,_⟩=>e ▸ SqT.of ha) (fun i ys H2 ⟨_,e⟩=>?_) ?_ ?_⟩
  ·rw [e,AK,length_take]; omega
  ·rintro i v ys H2 hi ⟨rfl,rfl⟩;rw [getElem?_map] at hi
   obtain ⟨x,hx,rfl⟩:∃ x,ns[i]?=some x/\v=V.str x:=by
    cases e:ns[i]? with
    | none=>rw [e] at hi; cases hi
    | some x=>rw [e] at hi; exact ⟨x,rfl,(Option.some.inj hi).symm⟩
   refine ⟨_,rfl,_,rfl,.inl ⟨x,d,kvs,rfl,hd,rfl,?_⟩⟩;rw [take_add_one,hx,map_append];rfl
  ·rintro ys H2 ⟨rfl,rfl⟩ p hp;have el:ns.take (ns.map V.str).length=ns:=by rw [hl]; exact take_length
   refine ⟨p,ns.map fun x=>(BL kvs (Sum.inr x:Key)).isSome,rfl,SqL.of (by rw [AB,el,map_map]; rfl),?_⟩
   have e:(decide (0 < ns.length) && ns.all fun x=>(BL kvs (Sum.inr x:Key)).isSome)=(ns.map fun x=>(BL kvs (Sum.inr x:Key)).isSome).all id:=by
    rw [decide_eq_true h1',Bool.true_and,all_map];rfl
   rw [← e];exact k _ (AD (Same.refl _) hp)
 ·have h1':¬ 0 < ns.length:=fun z=>h1 (decide_eq_true (by rw [hl]; omega));have:=k H (Same.refl H);rw [decide_eq_false h1',Bool.false_and] at this;exact this
def DP:Sp:=fun vs H Q _=>∃ n:Int,vs=[.int n]/\Q (.bl true) H
theorem NU:AL ["thing"] ["thing"] (defScope F9):=fsc
theorem LQ (F:Fun K "is_whole" "is_whole" F9 f fd) (B:Bl mg):FnOk P w K mg base CX0 1 f fd ["thing"] DP:=by
 refine F.m NU fun vs H Q E h=>?_;obtain ⟨n,rfl,k⟩:=h;refine ⟨rfl,fun ad A outer s hr=>?_⟩;refine ⟨_,AE (AO (CG (Bs K rfl rfl B.isi rfl B.int PB (pv 0)) (Cr (Ri (Bs K rfl rfl B.isi rfl B.bool MO (pv 0)))))),?_⟩;refine ⟨_,rfl,_,_,_,true,rfl,.int n,rfl,_,rfl,?_⟩;exact ⟨_,rfl,_,_,_,false,rfl,.int n,(by kernel_rfl),_,rfl,k⟩
structure DueOk (due:Aa):Prop where
 len:due.length <= 10
 lt:∀ p ∈ due,p.2 < 2 ^ 20
 nd:(due.map (·.1)).Nodup
 nm:∀ p ∈ due,G3 p.1=true/\p.1.cps.all (· < 128)=true/\p.1.length <= 1000
def Qh (due:Aa):Th->Prop
 | .non=>True
 | .num _=>True
 | .nms ns=>ns ≠ []/\ns.length <= 10/\∀ x ∈ ns,x ∈ due.map (·.1)
def IZ:Sp:=fun vs H Q _=>∃ (tv:V) (th:Th) (d:Addr) (due:Aa),vs=[tv,.ref d]/\ThAt H tv th/\Rd H d (.dK (Av due))/\DueOk due/\Qh due th/\∀ H',Same H H'->Q (.int (CA due th:Nat)) H'
theorem Qi:AL ["thing", "ahead"] ["thing", "ahead"] (defScope Ce):=fsc
theorem PL (due:Aa):(Av due).map (·.2)=AS (due.map (·.2)):=by unfold Av AS; rw [map_map,map_map]; rfl
theorem PM (F:Fun K "thing_number" "thing_number" Ce f fd) (B:Bl mg) (GN:Fn P w K mg base "next_mark" 1 ["numbers"] (Dx K)) (GI:Fn P w K mg base "is_names_of" 2 ["parts", "ahead"] DD)
  (GU:Fn P w K mg base "union_of" 1 ["numbers"] (DK K)) (GW:Fn P w K mg base "is_whole" 1 ["thing"] DP):FnOk P w K mg base CX0 3 f fd ["thing", "ahead"] IZ:=by
 obtain ⟨fN,dN,GN,mN,kN,bN⟩:=GN.ex;obtain ⟨fI,dI,GI,mI,kI,bI⟩:=GI.ex;obtain ⟨fU,dU,GU,mU,kU,bU⟩:=GU.ex;obtain ⟨fW,dW,GW,mW,kW,bW⟩:=GW.ex;refine F.m Qi fun vs H Q E h=>?_;obtain ⟨tv,th,d,due,rfl,hT,hd,DO,TO,k⟩:=h;refine ⟨rfl,fun ad A outer s hr=>?_⟩;have hu:=FD hr;have hr1:Room 1 _:=hr.mono (by decide)
 refine ⟨_,AF (At (Fg (KL (pv 0))) (AE (AO (AH GN hr1 rfl mN kN bN .nil AM (AA (Bt (Kq rfl) rfl B.list FZ (AA (OS PySem.F.slot_dict_values PySem.F.type_dict_values M0 (pv 1)) AC)) AC)))) AY)
  (AF (At (PW.pt (Hx (Bd (Bs K rfl rfl B.isi rfl B.tuple GZ (pv 0))) (FS (Bd (AH GI hr rfl mI kI bI .nil AM (AA (pv 0) (AA (pv 1) AC)))))))
   (AE (AO (AH GU hr1 rfl mU kU bU .nil AM (AA (A9 ["ahead"] [some 1] (by kernel_rfl) (by decide +kernel) (by kernel_rfl) rfl (N3 (pv 0)) (fun _ _ _ _ _ _=>B8) (fun _ _ _ _ _ _=>Ca hu (pv 1) (pv 0) (fun _ _=>rfl))) AC)))) AY)
  (AF (At (Bd (AH GW hr1 rfl mW kW bW .nil AM (AA (pv 0) AC))) (AE (AO (pv 0))) AY)
  (AE Ag))),?_⟩
 refine ⟨_,rfl,_,rfl,?_⟩;cases th with
 | non =>
  have e:tv=.non:=hT;subst e;refine BX (fun _=>?_) (fun z=>absurd rfl z);refine ⟨_,rfl,d,rfl,.inl ⟨_,hd⟩,d,_,rfl,rfl,hd,fun p hp=>?_⟩;refine ⟨p,d,_,rfl,AB,Same.rd (AD (Same.refl _) hp) hd,fun l hl=>?_⟩;refine ⟨l,due.map (·.2),rfl,SqL.of (by rw [AB,PL]),fun n hn=>?_,?_⟩
  ·obtain ⟨q,hq,rfl⟩:=mem_map.mp hn;exact DO.lt q hq
  ·exact k _ (AD (AD (Same.refl _) hp) hl)
 | num n =>
  have e:tv=.int (n:Int):=hT;subst e;refine BX (fun z=>absurd (of_decide_eq_true z) (by intro q; cases q)) (fun _=>?_);refine ⟨_,rfl,_,_,_,false,rfl,.int _,(by kernel_rfl),_,rfl,?_⟩;refine BG ?_;refine ⟨_,rfl,n,rfl,_,rfl,?_⟩;refine Em ?_;exact ⟨_,rfl,k H (Same.refl H)⟩
 | nms ns =>
  obtain ⟨a,rfl,ha⟩:=hT;obtain ⟨ax,hln,hin⟩:=TO;refine BX (fun z=>absurd (of_decide_eq_true z) (by intro q; cases q)) (fun _=>?_);refine ⟨_,rfl,_,_,_,true,rfl,.tup ha,rfl,_,rfl,?_⟩;have hl:(ns.map V.str).length=ns.length:=AK _;refine ⟨_,rfl,_,rfl,a,d,ns,Av due,rfl,ha,by omega,hd,fun H1 s1=>⟨_,rfl,?_⟩⟩
  have e1:(decide (0 < ns.length) && ns.all fun x=>(BL (Av due) (Sum.inr x:Key)).isSome)=true:=by
   rw [Bool.and_eq_true,decide_eq_true_eq,List.all_eq_true];refine ⟨List.length_pos_iff.mpr ax,fun x hx=>?_⟩;rw [FH (hin x hx)];rfl
  rw [e1];refine Em ?_;refine ⟨_,rfl,a,rfl,⟨_,SqT.of (s1 _ _ ha)⟩,JL (K:=K) (a:=a) (xs:=ns.map V.str) (fun i ys H2=>H2=H1/\ys=AS ((ns.take i).map (look due))) ⟨rfl,rfl⟩ (fun i ys H2 _ ⟨e,_⟩=>e ▸ SqT.of (s1 _ _ ha)) (fun i ys H2 ⟨_,e⟩=>?_) ?_ ?_⟩
  ·rw [e];unfold AS;rw [AK,AK,length_take];omega
  ·rintro i v ys H2 hi ⟨rfl,rfl⟩;rw [getElem?_map] at hi
   obtain ⟨x,hx,rfl⟩:∃ x,ns[i]?=some x/\v=V.str x:=by
    cases e:ns[i]? with
    | none=>rw [e] at hi; cases hi
    | some x=>rw [e] at hi; exact ⟨x,rfl,(Option.some.inj hi).symm⟩
   refine ⟨_,rfl,_,rfl,d,_,rfl,.inl ⟨Av due,Sum.inr x,Same.rd s1 hd,rfl,(FH (hin x (mem_of_getElem? hx))).symm⟩,rfl,?_⟩;rw [take_add_one,hx,map_append];unfold AS;rw [map_append];rfl
  ·rintro ys H2 ⟨rfl,rfl⟩ p hp;have el:ns.take (ns.map V.str).length=ns:=by rw [hl]; exact take_length
   refine ⟨p,ns.map (look due),rfl,SqL.of (by rw [AB,el]),?_⟩;exact k _ (AD s1 hp)
end
end Mk
end
section
namespace L2
open PySem
theorem PN {a:Addr} {xs:List V} {g:TG} {tb:TS} {D:Db} {σ:St} (Pv:Nat->St->Hp->Prop) (h0:Pv 0 σ H) (hl:∀ i σ H,i <= xs.length->Pv i σ H->SqL K H a xs)
  (hs:∀ i x σ H p,xs[i]?=some x->Pv i σ H->H p=none->g (.ref p) σ (upd H p (.tup [.int i,x])) fun σ2 H2=>tb { D with nx:=Pv (i + 1),ct:=Pv (i + 1),bk:=D.nx } σ2 H2) (hd:∀ σ H,Pv xs.length σ H->D.nx σ H) :
  ∃ W:Nat->Nat->St->Hp->Prop,(∃ m,W 0 m σ H)/\∀ i m σ H,W i m σ H ->
   ((Ite K a).stop i H/\D.nx σ H)\/((Ite K a).go i H/\∃ N:St->Hp->Prop,(∀ σ' H',N σ' H'->∃ m',m' < m/\W (i + 1) m' σ' H')/\∀ x H',(Ite K a).yld i H x H'->g x σ H' fun σ2 H2=>tb { D with nx:=N,ct:=N,bk:=D.nx } σ2 H2):=by
 refine ⟨fun i m σ H=>m=xs.length - i/\i <= xs.length/\Pv i σ H,⟨_,rfl,Nat.zero_le _,h0⟩,?_⟩;rintro i m σ H ⟨rfl,hi,hp⟩;by_cases hlt:i < xs.length
 ·have hx:xs[i]?=some xs[i]:=List.getElem?_eq_getElem hlt;refine .inr ⟨⟨xs,xs[i],hl i σ H hi hp,hx⟩,Pv (i + 1),fun σ' H' q=>⟨xs.length - (i + 1),by omega,rfl,hlt,q⟩,?_⟩;rintro x H' ⟨p,y,hn,rfl,hy,rfl⟩
  have ex:y=xs[i]:=by
   have:=hy xs (hl i σ H hi hp);rw [hx] at this;exact (Option.some.inj this).symm
  subst ex;exact hs i xs[i] σ H p hx hp hn
 ·have e:i=xs.length:=by omega
  subst e;exact .inl ⟨⟨xs,hl _ σ H hi hp,Nat.le_refl _⟩,hd σ H hp⟩
theorem NV {a:Addr} {o:Obj} {kvs:LK} {g:TG} {tb:TS} {D:Db} {σ:St} (Pv:Nat->St->Hp->Prop) (h0:Pv 0 σ H) (hl:∀ i σ H,Pv i σ H->H a=some (.frz o (.dK kvs)))
  (hs:∀ i kv σ H p,kvs[i]?=some kv->Pv i σ H->H p=none->g (.ref p) σ (upd H p (.tup [kV kv.1,kv.2])) fun σ2 H2=>tb { D with nx:=Pv (i + 1),ct:=Pv (i + 1),bk:=D.nx } σ2 H2) (hd:∀ σ H,Pv kvs.length σ H->D.nx σ H) :
  ∃ W:Nat->Nat->St->Hp->Prop,(∃ m,W 0 m σ H)/\∀ i m σ H,W i m σ H ->
   ((Iti a o kvs).stop i H/\D.nx σ H)\/((Iti a o kvs).go i H/\∃ N:St->Hp->Prop,(∀ σ' H',N σ' H'->∃ m',m' < m/\W (i + 1) m' σ' H')/\∀ x H',(Iti a o kvs).yld i H x H'->g x σ H' fun σ2 H2=>tb { D with nx:=N,ct:=N,bk:=D.nx } σ2 H2):=by
 refine ⟨fun i m σ H=>m=kvs.length - i/\i <= kvs.length/\Pv i σ H,⟨_,rfl,Nat.zero_le _,h0⟩,?_⟩;rintro i m σ H ⟨rfl,hi,hp⟩;by_cases hlt:i < kvs.length
 ·refine .inr ⟨⟨hl i σ H hp,hlt⟩,Pv (i + 1),fun σ' H' q=>⟨kvs.length - (i + 1),by omega,rfl,hlt,q⟩,?_⟩;rintro x H' ⟨p,kv,hn,rfl,hkv,rfl⟩;exact hs i kv σ H p hkv hp hn
 ·have e:i=kvs.length:=by omega
  subst e;exact .inl ⟨⟨hl _ σ H hp,Nat.le_refl _⟩,hd σ H hp⟩
end L2
namespace Mk
open PySem L2 MK
def TF (x:Str):Prop:=G3 x=true/\x.cps.all (· < 128)=true/\x.length <= 1000
structure MQ (due:Aa) (r:Str × Th):Prop where
 ahead:DueOk due
 few:due.length < 10
 nm:TF r.1
 new:r.1 ∉ due.map (·.1)
 th:Qh due r.2
 lt:CA due r.2 < 2 ^ 20
noncomputable def AV (rows:List (Str × Th)):Aa:=rows.foldl (fun due r=>due++[(r.1,CA due r.2)]) []
theorem CS (rows:List (Str × Th)) (r:Str × Th):AV (rows++[r])=AV rows++[(r.1,CA (AV rows) r.2)]:=by unfold AV; rw [foldl_append]; rfl
def CJ (rows:List (Str × Th)):Prop:=∀ (i:Nat) r,rows[i]?=some r->MQ (AV (rows.take i)) r
def RowAt (H:Hp) (b:Addr) (r:Str × Th):Prop:=∃ tv,H b=some (.tup [.str r.1,tv])/\ThAt H tv r.2
def PO (H:Hp) (l:Addr) (rows:List (Str × Th)):Prop:=∃ as:List Addr,H l=some (.lst (as.map V.ref))/\Paired (RowAt H) as rows
theorem ThAt.same {v:V} {th:Th} (s:Same H H') (h:ThAt H v th):ThAt H' v th:=by
 cases th with
 | non=>exact h
 | num n=>exact h
 | nms ns=>obtain ⟨a,e,h⟩:=h; exact ⟨a,e,s _ _ h⟩
theorem RowAt.same {b:Addr} {r:Str × Th} (s:Same H H') (h:RowAt H b r):RowAt H' b r:=by
 obtain ⟨tv,e,t⟩:=h;exact ⟨tv,s _ _ e,t.same s⟩
theorem Dy {α β:Type} {F:α->β->Prop}:∀ {xs:List α} {ys:List β} {i:Nat} {x:α},Paired F xs ys->xs[i]?=some x->∃ y,ys[i]?=some y/\F x y
 | _,_,_,_,.nil,e=>by simp at e
 | _,_,0,_,.cons r _,e=>by simp at e; subst e; exact ⟨_,rfl,r⟩
 | _,_,i + 1,x,.cons _ t,e=>by
  obtain ⟨u,h1,h2⟩:=Dy (i:=i) (x:=x) t (by simpa using e);exact ⟨u,by simpa using h1,h2⟩
theorem Gc {H1:Hp} {d:Addr} {o:HO} (s:Same H H1) (hd:H d=none):Same H (upd H1 d o):=fun b u e=>by
 rw [AG (AJ e hd)];exact s b u e
section
def PP:Sp:=fun vs H Q _=>∃ (b d:Addr) (r:Str × Th) (due:Aa),vs=[.ref b,.ref d]/\RowAt H b r/\Rd H d (.dK (Av due))/\MQ due r/\∀ H',Same H H'->Q (.int (CA due r.2:Nat)) H'
theorem scRow:AL ["row", "ahead", "name", "thing", "number"] ["row", "ahead"] (defScope Dp):=fsc
theorem SF {tg:Tok} (F:Fun K "row_number" "row_number" Dp f fd) (B:Bl mg) (hG:mg "GREATEST" = some (.int 1048575 tg)) (GN:Fn P w K mg base "is_name" 1 ["thing"] Ga) (GT:Fn P w K mg base "thing_number" 3 ["thing", "ahead"] IZ) :
  FnOk P w K mg base CX0 4 f fd ["row", "ahead"] PP:=by
 obtain ⟨fN,dN,GN,mN,kN,bN⟩:=GN.ex;obtain ⟨fT,dT,GT,mT,kT,bT⟩:=GT.ex;refine F.m scRow fun vs H Q E h=>?_;obtain ⟨b,d,r,due,rfl,⟨tv,hb,hT⟩,hd,RO,k⟩:=h;refine ⟨rfl,fun ad A outer s hr=>?_⟩;have hu:=FD hr;have hr1:Room 1 _:=hr.mono (by decide)
 refine ⟨_,AF (At (PW.pt (FA (Bn (Bd (Bs K rfl rfl B.isi rfl B.tuple GZ (pv 0)))) (Cq (AW Fk (Ab (Bh K rfl) rfl B.len PySem.boot_len (AA (pv 0) AC)) AI (Ac _))))) (AE Ag) AY)
  (AF (Ct (pv 0) (Bx rfl (Ad (AZ (i:=2) scRow.nd rfl (Or.inl rfl)) (Ad (AZ (i:=3) scRow.nd rfl (Or.inl rfl)) BV))))
  (AF (At (PW.pt (FA (Bn (Bd (AH GN hr1 rfl mN kN bN .nil AM (AA (pv 2) AC)))) (Cq (Fg (OH hu (pv 2) (pv 1)))))) (AE Ag) AY)
  (AF (Aj (i:=4) scRow.nd rfl (Or.inl rfl) (AH GT hr rfl mT kT bT .nil AM (AA (pv 3) (AA (pv 1) AC))))
  (AF (At (PW.pt (FA (Fg (KL (pv 4))) (Cq (Bn (Fl FB FB AI (pv 4) (BE (v:=.int 1048575) rfl hG ⟨tg,rfl⟩)))))) (AE Ag) AY)
  (AE (AO (pv 4))))))),?_⟩
 refine ⟨_,rfl,_,_,_,true,rfl,.tup hb,rfl,_,rfl,?_⟩;refine BG ?_;refine ⟨_,rfl,b,_,rfl,.inr (SqT.of hb),rfl,_,rfl,?_⟩;refine OJ rfl ?_;refine ⟨_,rfl,b,_,rfl,SqT.of hb,rfl,_,_,rfl,_,_,rfl,rfl,?_⟩;refine ⟨_,rfl,r.1,rfl,RO.nm.2.1,RO.nm.2.2,fun H1 s1=>⟨_,rfl,?_⟩⟩;rw [RO.nm.1];refine BG ?_;refine ⟨_,rfl,_,rfl,d,_,rfl,.inl ⟨Av due,Sum.inr r.1,Same.rd s1 hd,rfl,(ER RO.new).symm⟩,_,rfl,?_⟩;refine BG ?_;refine ⟨_,rfl,_,rfl,tv,r.2,d,due,rfl,hT.same s1,Same.rd s1 hd,RO.ahead,RO.th,fun H2 s2=>?_⟩;refine ⟨_,rfl,_,rfl,?_⟩;refine BX (fun z=>absurd (of_decide_eq_true z) (by intro q; cases q)) (fun _=>?_);refine ⟨_,rfl,_,_,rfl,rfl,_,rfl,?_⟩;refine BX (fun _=>?_) (fun z=>absurd (decide_eq_true (Int.natCast_nonneg _)) z);refine ⟨_,_,rfl,rfl,_,rfl,?_⟩;have hlt:=RO.lt;refine OJ (show ((CA due r.2:Nat):Int) <= 1048575 by omega) ?_;exact ⟨_,rfl,k _ (s1.trans s2)⟩
def Dz:Sp:=fun vs H Q _=>∃ (l:Addr) (rows:List (Str × Th)),vs=[.ref l]/\PO H l rows/\0 < rows.length/\rows.length <= 10/\CJ rows /\
 ∀ d H',Same H H'->H d=none->H' d=some (.dK (Av (AV rows)))->Q (.ref d) H'
theorem scNumbered:AL ["rows", "numbers", "at", "row", "number"] ["rows"] (defScope Es):=fsc
theorem Qj {x:Str} {n:Nat} (h:x ∉ due.map (·.1)):CH (Av due) (Sum.inr x:Key) (V.int (n:Int))=Av (due++[(x,n)]):=by
 rw [JE _ (ER h)];unfold Av;rw [map_append];rfl
theorem Hn (due:Aa):(Av due).length=due.length:=AK _
theorem BC:∀ rows:List (Str × Th),(AV rows).length=rows.length:=fun rows=>by
 have:∀ (l:List (Str × Th)) (a:Aa),(l.foldl (fun due r=>due++[(r.1,CA due r.2)]) a).length=a.length + l.length:=by
  intro l;induction l with
  | nil=>intro a; rfl
  | cons x r ih=>intro a; rw [foldl_cons,ih,length_append,length_cons,length_cons,length_nil]; omega
 have e:=this rows [];rw [length_nil] at e;unfold AV;omega
theorem Ju {tm:Tok} (F:Fun K "numbered" "numbered" Es f fd) (B:Bl mg) (hM:mg "MOST_ROWS" = some (.int 10 tm)) (GR:Fn P w K mg base "row_number" 4 ["row", "ahead"] PP):FnOk P w K mg base CX0 5 f fd ["rows"] Dz:=by
 obtain ⟨fR,dR,GR,mR,kR,bR⟩:=GR.ex;refine F.m scNumbered fun vs H Q E h=>?_;obtain ⟨l,rows,rfl,⟨as,hl,hP⟩,h0,h10,RO,k⟩:=h;refine ⟨rfl,fun ad A outer s hr=>?_⟩;have hu:=FD hr;have a0:as.length=rows.length:=hP.length
 refine ⟨_,AF (At (PW.pt (FA (Bn (Bd (Bs K rfl rfl B.isi rfl B.list FZ (pv 0)))) (Cq (Bn (Fl FB FB AI (Ab (Bh K rfl) rfl B.len PySem.boot_len (AA (pv 0) AC)) (BE (v:=.int 10) rfl hM ⟨tm,rfl⟩)))))) (AE Ag) AY)
  (AF (Aj (i:=1) scNumbered.nd rfl (Or.inl rfl) Ft)
  (AF (Cu PassesOwn.never rfl (QO rfl B.enum (AA (pv 0) AC)) (Bx rfl (Ad (AZ (i:=2) scNumbered.nd rfl (Or.inl rfl)) (Ad (AZ (i:=3) scNumbered.nd rfl (Or.inl rfl)) BV)))
   (AF (Aj (i:=4) scNumbered.nd rfl (Or.inl rfl) (AH GR hr rfl mR kR bR .nil AM (AA (pv 3) (AA (pv 1) AC))))
   (AF (At (Fg (KL (pv 4))) (AE Ag) AY)
   (AE (Lz hu (pv 1) (By (MP K rfl) (pv 3) AI (fun _ _=>rfl)) (pv 4) rfl)))))
  (AE (AO (pv 1))))),?_⟩
 refine ⟨_,rfl,_,_,_,true,rfl,.lst hl,rfl,_,rfl,?_⟩;refine BG ?_;have hll:(as.map V.ref).length=rows.length:=by rw [AK,a0]
 refine ⟨_,rfl,l,_,rfl,.inl (SqL.of hl),_,_,rfl,rfl,_,rfl,?_⟩;refine BX (fun _=>?_) (fun z=>absurd (decide_eq_true (by rw [hll]; omega)) z);refine ⟨_,_,rfl,rfl,_,rfl,?_⟩;refine OJ (show (((as.map V.ref).length:Nat):Int) <= 10 by rw [hll]; omega) ?_;intro d hdn
 refine ⟨_,rfl,l,rfl,⟨_,SqL.of (AD (Same.refl _) hdn _ _ hl)⟩,PN (K:=K) (a:=l) (xs:=as.map V.ref) (fun i σ H2=>∃ v1 v2 v3:Option V,σ=[some (.ref l),some (.ref d),v1,v2,v3]/\Same H H2/\H2 d=some (.dK (Av (AV (rows.take i)))))
  ⟨none,none,none,rfl,AD (Same.refl _) hdn,AB⟩ (fun i σ H2 _ ⟨_,_,_,_,s2,_⟩=>SqL.of (s2 _ _ hl)) ?_ ?_⟩
 ·rintro i y σ H2 p hi ⟨v1,v2,v3,rfl,s2,hd2⟩ hp;rw [getElem?_map] at hi
  obtain ⟨b,hb,rfl⟩:∃ b,as[i]?=some b/\y=V.ref b:=by
   cases e:as[i]? with
   | none=>rw [e] at hi; cases hi
   | some x=>rw [e] at hi; exact ⟨x,rfl,(Option.some.inj hi).symm⟩
  obtain ⟨r,hr',hra⟩:=Dy hP hb;have R1:=RO i r hr';have s3:Same H (upd H2 p (.tup [.int i,.ref b])):=AD s2 hp;have hd3:(upd H2 p (.tup [.int i,.ref b])) d=some (.dK (Av (AV (rows.take i)))):=by rw [AG (AJ hd2 hp)]; exact hd2
  refine ⟨p,_,rfl,SqT.of AB,rfl,_,_,rfl,_,_,rfl,rfl,?_⟩;refine ⟨_,rfl,_,rfl,b,d,r,AV (rows.take i),rfl,hra.same s3,.inl hd3,R1,fun H4 s4=>?_⟩;refine ⟨_,rfl,_,rfl,?_⟩;refine BX (fun z=>absurd (of_decide_eq_true z) (by intro q; cases q)) (fun _=>?_);obtain ⟨tv,ai,_⟩:=hra.same (s3.trans s4);refine ⟨_,rfl,_,rfl,_,rfl,b,_,0,.str r.1,rfl,rfl,SqT.of ai,rfl,d,_,rfl,DPut.k (k:=Sum.inr r.1) (s4 _ _ hd3) (Ae (by rw [Hn,BC,length_take]; omega)),?_⟩;refine ⟨_,_,_,rfl,Gc (s3.trans s4) hdn,?_⟩;rw [AB,Qj R1.new,take_add_one,hr',Option.toList_some,CS]
 ·rintro σ H2 ⟨v1,v2,v3,rfl,s2,hd2⟩;rw [hll,take_length] at hd2;exact ⟨_,rfl,k d H2 s2 hdn hd2⟩
end
noncomputable def AT (due:Aa):List (Nat × Str):=due.foldl (fun fs p=>if (fs.map (·.1)).contains p.2 then fs else fs++[(p.2,p.1)]) []
noncomputable def Bb (fs:List (Nat × Str)):LK:=fs.map fun q=>(Sum.inl (q.1:Int),V.str q.2)
noncomputable def Ho (fs:List (Nat × Str)) (n:Nat):Str:=((fs.find? fun q=>decide (q.1=n)).map (·.2)).getD (Str.ofString "")
theorem CB (due:Aa) (p:Str × Nat):AT (due++[p])=if ((AT due).map (·.1)).contains p.2 then AT due else AT due++[(p.2,p.1)]:=by unfold AT; rw [foldl_append]; rfl
theorem Ex (n:Nat):∀ fs:List (Nat × Str),BL (Bb fs) (Sum.inl (n:Int):Key)=(fs.find? fun q=>decide (q.1=n)).map fun q=>V.str q.2
 | []=>rfl
 | q :: r=>by
  show BL ((Sum.inl (q.1:Int),V.str q.2) :: Bb r) (Sum.inl (n:Int))=_;by_cases e:q.1=n
  ·rw [C2 (p:=(Sum.inl (q.1:Int),V.str q.2)) (by rw [← e]),List.find?_cons_of_pos (by simpa using e)]; rfl
  ·rw [C3 (p:=(Sum.inl (q.1:Int),V.str q.2)) (fun z=>e (by have:=Sum.inl.inj z; omega)),List.find?_cons_of_neg (by simpa using e)]; exact Ex n r
theorem LR {fs:List (Nat × Str)} {n:Nat} (h:n ∈ fs.map (·.1)):(fs.find? fun q=>decide (q.1=n)).isSome=true:=by
 obtain ⟨q,hq,e⟩:=mem_map.mp h;rw [List.find?_isSome];exact ⟨q,hq,by simpa using e⟩
theorem EU {fs:List (Nat × Str)} {n:Nat} (h:n ∈ fs.map (·.1)):BL (Bb fs) (Sum.inl (n:Int):Key)=some (V.str (Ho fs n)):=by
 rw [Ex];unfold Ho;obtain ⟨q,hq⟩:=Option.isSome_iff_exists.mp (LR h);rw [hq]; rfl
theorem Ey {fs:List (Nat × Str)} {n:Nat} (h:n ∉ fs.map (·.1)):BL (Bb fs) (Sum.inl (n:Int):Key)=none:=by
 rw [Ex]
 have:(fs.find? fun q=>decide (q.1=n))=none:=by
  rw [List.find?_eq_none];intro q hq e;exact h (mem_map.mpr ⟨q,hq,by simpa using e⟩)
 rw [this]; rfl
theorem Jv {fs:List (Nat × Str)} {n:Nat} {x:Str} (h:n ∉ fs.map (·.1)):CH (Bb fs) (Sum.inl (n:Int):Key) (V.str x)=Bb (fs++[(n,x)]):=by
 rw [JE _ (Ey h)];unfold Bb;rw [map_append];rfl
theorem B3 (due:Aa):(AT due).length <= due.length:=by
 have:∀ (l:Aa) (a:List (Nat × Str)),(l.foldl (fun fs p=>if (fs.map (·.1)).contains p.2 then fs else fs++[(p.2,p.1)]) a).length <= a.length + l.length:=by
  intro l;induction l with
  | nil=>intro a; exact Nat.le_refl _
  | cons x r ih =>
   intro a;rw [foldl_cons];refine Nat.le_trans (ih _) ?_;split
   ·rw [length_cons]; omega
   ·rw [length_append,length_cons,length_cons,length_nil]; omega
 have e:=this due [];rw [length_nil] at e;unfold AT;omega
theorem DE (due:Aa):∀ (a:List (Nat × Str)),(a.map (·.1)).Nodup->(∀ n ∈ a.map (·.1),n ∈ (due.foldl (fun fs p=>if (fs.map (·.1)).contains p.2 then fs else fs++[(p.2,p.1)]) a).map (·.1)) /\
  ((due.foldl (fun fs p=>if (fs.map (·.1)).contains p.2 then fs else fs++[(p.2,p.1)]) a).map (·.1)).Nodup/\(∀ p ∈ due,p.2 ∈ (due.foldl (fun fs p=>if (fs.map (·.1)).contains p.2 then fs else fs++[(p.2,p.1)]) a).map (·.1)) /\
  (∀ q ∈ due.foldl (fun fs p=>if (fs.map (·.1)).contains p.2 then fs else fs++[(p.2,p.1)]) a,q ∈ a\/(q.2,q.1) ∈ due):=by
 induction due with
 | nil=>intro a ha; exact ⟨fun n hn=>hn,ha,fun p hp=>(nomatch hp),fun q hq=>.inl hq⟩
 | cons p r ih =>
  intro a ha;rw [foldl_cons];by_cases hc:(a.map (·.1)).contains p.2=true
  ·rw [if_pos hc];obtain ⟨i1,i2,i3,i4⟩:=ih a ha;refine ⟨i1,i2,fun q hq=>?_,fun q hq=>?_⟩
   ·rcases mem_cons.mp hq with rfl | hq
    ·exact i1 _ (by simpa using hc)
    ·exact i3 q hq
   ·rcases i4 q hq with z | z
    ·exact .inl z
    ·exact .inr (mem_cons_of_mem _ z)
  ·rw [if_neg hc];have hnot:p.2 ∉ a.map (·.1):=fun z=>hc (by simpa using z);obtain ⟨i1,i2,i3,i4⟩:=ih (a++[(p.2,p.1)]) (by rw [map_append]; exact MA ha hnot);refine ⟨fun n hn=>i1 n (by rw [map_append]; exact mem_append_left _ hn),i2,fun q hq=>?_,fun q hq=>?_⟩
   ·rcases mem_cons.mp hq with rfl | hq
    ·exact i1 _ (by rw [map_append]; exact mem_append_right _ (by simp))
    ·exact i3 q hq
   ·rcases i4 q hq with z | z
    ·rcases mem_append.mp z with z | z
     ·exact .inl z
     ·have:q=(p.2,p.1):=by simpa using z
      subst this;exact .inr mem_cons_self
    ·exact .inr (mem_cons_of_mem _ z)
theorem NW (due:Aa):((AT due).map (·.1)).Nodup:=(DE due [] nodup_nil).2.1
theorem NX {p:Str × Nat} (h:p ∈ due):p.2 ∈ (AT due).map (·.1):=(DE due [] nodup_nil).2.2.1 p h
theorem Hq {q:Nat × Str} (h:q ∈ AT due):(q.2,q.1) ∈ due:=by
 rcases (DE due [] nodup_nil).2.2.2 q h with z | z
 ·cases z
 ·exact z
section
def Gd:Sp:=fun vs H Q _=>∃ (d:Addr) (o:Obj) (due:Aa),vs=[.ref d]/\H d=some (.frz o (.dK (Av due)))/\due.length <= 100/\∀ e H',Same H H'->H e=none->H' e=some (.dK (Bb (AT due)))->Q (.ref e) H'
theorem scFirsts:AL ["numbers", "firsts", "name", "number"] ["numbers"] (defScope DA):=fsc
theorem PQ {i:Nat} {kv:Key × V} (h:(Av due)[i]?=some kv):∃ p,due[i]?=some p/\kv=(Sum.inr p.1,V.int (p.2:Int)):=by
 unfold Av at h;rw [getElem?_map] at h;cases e:due[i]? with
 | none=>rw [e] at h; cases h
 | some p=>rw [e] at h; exact ⟨p,rfl,(Option.some.inj h).symm⟩
theorem NY (F:Fun K "first_names" "first_names" DA f fd):FnOk P w K mg base CX0 1 f fd ["numbers"] Gd:=by
 refine F.m scFirsts fun vs H Q E h=>?_;obtain ⟨d,o,due,rfl,hd,hz,k⟩:=h;refine ⟨rfl,fun ad A outer s hr=>?_⟩
 refine ⟨_,AF (Aj (i:=1) scFirsts.nd rfl (Or.inl rfl) Ft)
  (AF (Cu PassesOwn.never rfl (ON (pv 0)) (Bx rfl (Ad (AZ (i:=2) scFirsts.nd rfl (Or.inl rfl)) (Ad (AZ (i:=3) scFirsts.nd rfl (Or.inl rfl)) BV)))
   (AE (FU (Ly PySem.F.plainAttrs_dict PySem.F.slot_dict_setdefault PySem.F.type_dict_setdefault Gy (pv 1) (AA (pv 3) (AA (pv 2) AC))))))
  (AE (AO (pv 1)))),?_⟩
 intro e he
 refine ⟨_,rfl,d,o,Av due,rfl,AD (Same.refl _) he _ _ hd,NV (a:=d) (o:=o) (kvs:=Av due) (fun i σ H2=>∃ v1 v2:Option V,σ=[some (.ref d),some (.ref e),v1,v2]/\Same H H2/\H2 e=some (.dK (Bb (AT (due.take i)))))
  ⟨none,none,rfl,AD (Same.refl _) he,AB⟩ (fun i σ H2 ⟨_,_,_,s2,_⟩=>s2 _ _ hd) ?_ ?_⟩
 ·rintro i kv σ H2 p hkv ⟨v1,v2,rfl,s2,he2⟩ hp;obtain ⟨pr,hpr,rfl⟩:=PQ hkv;have s3:Same H (upd H2 p (.tup [.str pr.1,.int (pr.2:Int)])):=AD s2 hp;have he3:(upd H2 p (.tup [.str pr.1,.int (pr.2:Int)])) e=some (.dK (Bb (AT (due.take i)))):=by rw [AG (AJ he2 hp)]; exact he2
  have et:due.take (i + 1)=due.take i++[pr]:=by rw [take_add_one,hpr]; rfl
  have hle:(Bb (AT (due.take i))).length <= 100:=by
   unfold Bb;rw [AK];have:=B3 (due.take i);rw [length_take] at this;omega
  refine ⟨p,_,rfl,SqT.of AB,rfl,_,_,rfl,_,_,rfl,rfl,?_⟩;refine ⟨_,rfl,.inr (.inr (.inl ⟨rfl,.inl ⟨_,he3⟩⟩)),_,rfl,_,rfl,e,_,Sum.inl (pr.2:Int),.str pr.1,rfl,rfl,he3,Ae (by omega),fun w' hw=>?_,fun hn=>?_⟩
  ·refine ⟨_,_,rfl,s3,?_⟩;have z:pr.2 ∈ (AT (due.take i)).map (·.1):=Decidable.byContradiction fun z=>by rw [Ey z] at hw; cases hw
   rw [et,CB,if_pos (by simpa using z)];exact he3
  ·have z:pr.2 ∉ (AT (due.take i)).map (·.1):=fun z=>by rw [EU z] at hn; cases hn
   refine ⟨_,_,rfl,Gc s3 he,?_⟩;rw [AB,et,CB,if_neg (by simpa using z),Jv z]
 ·rintro σ H2 ⟨v1,v2,rfl,s2,he2⟩;rw [Hn,take_length] at he2;exact ⟨_,rfl,k e H2 s2 he he2⟩
end
theorem n12:¬ (("numbers" : Str) = "firsts"):=by decide +kernel
theorem n13:¬ (("numbers" : Str) = "rule"):=by decide +kernel
theorem n23:¬ (("firsts" : Str) = "rule"):=by decide +kernel
noncomputable def G4 (d1 d2:Addr) (r:Str):List (Str × V):=BU "rule" (.str r) (BU "firsts" (.ref d2) (BU "numbers" (.ref d1) []))
theorem PR (d1 d2:Addr) (r:Str):(G4 d1 d2 r).lookup ("numbers" : Str)=some (.ref d1):=by
 unfold G4;rw [AX,if_neg n13,AX,if_neg n12,AX,if_pos rfl]
theorem Ge (d1 d2:Addr) (r:Str):(G4 d1 d2 r).lookup ("firsts" : Str)=some (.ref d2):=by
 unfold G4;rw [AX,if_neg n23,AX,if_pos rfl]
theorem Ez (d1 d2:Addr) (r:Str):(G4 d1 d2 r).lookup ("rule" : Str)=some (.str r):=by
 unfold G4;rw [AX,if_pos rfl]
theorem EV (d1 d2:Addr) (r:Str) {m:Str} (h1:¬ m = "rule" := by decide +kernel) (h2:¬ m = "firsts" := by decide +kernel) (h3:¬ m = "numbers" := by decide +kernel):(G4 d1 d2 r).lookup m=none:=by
 unfold G4;rw [AX,if_neg h1,AX,if_neg h2,AX,if_neg h3];rfl
theorem Qk (d1:Addr):(BU "numbers" (V.ref d1) []).lookup ("numbers" : Str)=some (.ref d1):=by rw [AX,if_pos rfl]
structure KindAt (C:Addr) (H:Hp) (p:Addr) (due:Aa) (r:Str):Prop where
 ex:∃ dx d1 o1 d2 o2,H p=some (.ins C dx (G4 d1 d2 r))/\H d1=some (.frz o1 (.dK (Av due)))/\H d2=some (.frz o2 (.dK (Bb (AT due))))
theorem KindAt.same {p:Addr} {r:Str} (s:Same H H') (h:KindAt C H p due r):KindAt C H' p due r:=by
 obtain ⟨dx,d1,o1,d2,o2,a,b,c⟩:=h.ex;exact ⟨⟨dx,d1,o1,d2,o2,s _ _ a,s _ _ b,s _ _ c⟩⟩
structure E3 (K:FG) (C:Addr):Prop where
 cl:Cls K C
 nN:NoAttr K C "numbers"
 nF:NoAttr K C "firsts"
 nR:NoAttr K C "rule"
noncomputable def ruleNames:List Str:=["bar", "drop", "keep", "leave"]
section
def PU (C:Addr):Sp:=fun vs H Q _=>∃ (p dx l:Addr) (rows:List (Str × Th)) (r:Str),vs=[.ref p,.ref l,.str r]/\H p=some (.ins C dx [])/\PO H l rows/\0 < rows.length/\rows.length <= 10/\CJ rows/\r ∈ ruleNames /\
 ∀ H',(∀ b o,H b=some o->b ≠ p->H' b=some o)->KindAt C H' p (AV rows) r->Q .non H'
theorem SG:AL ["self", "rows", "rest"] ["self", "rows", "rest"] (defScope A6):=fsc
theorem PV {r:Str} (h:r ∈ ruleNames):inV (.str r) (ruleNames.map V.str)=true:=by
 unfold inV;rw [any_map,any_eq_true];exact ⟨r,h,by show (r == r)=true; simp⟩
theorem Ql {aR:Addr} (F:Fun K "__init__" "Kind.__init__" A6 f fd) (B:Bl mg) (T:E3 K C) (hR:mg "RULES" = some (.ref aR)) (hRT:∀ H:Hp,SqT K H aR (ruleNames.map V.str))
  (GN:Fn P w K mg base "numbered" 5 ["rows"] Dz) (GF:Fn P w K mg base "first_names" 1 ["numbers"] Gd) (GO:Fn P w K mg base "is_one_of" 1 ["thing", "names"] (DN K)):FnOk P w K mg base CX0 6 f fd ["self", "rows", "rest"] (PU C):=by
 obtain ⟨fN,dN,GN,mN,kN,bN⟩:=GN.ex;obtain ⟨fF,dF,GF,mF,kF,bF⟩:=GF.ex;obtain ⟨fO,dO,GO,mO,kO,bO⟩:=GO.ex;refine F.m SG fun vs H Q E h=>?_;obtain ⟨p,dx,l,rows,r,rfl,hp,RA,h0,h10,RO,ao,k⟩:=h;refine ⟨rfl,fun ad A outer s hr=>?_⟩;have hr1:Room 1 _:=hr.mono (by decide)
 refine ⟨_,AF (Fp (pv 0) (AH GN hr rfl mN kN bN .nil AM (AA (pv 1) AC)) rfl)
  (Fx (AF (At (Bn (Bd (AH GO hr1 rfl mO kO bO .nil AM (AA (pv 2) (AA (BE (v:=.ref aR) rfl hR rfl) AC))))) (AE Ag) AY)
  (AF (Fp (pv 0) (AH GF hr1 rfl mF kF bF .nil AM (AA (BW (pv 0) rfl) AC)) rfl)
  (Fx (AE (Fp (pv 0) (pv 2) rfl)))))),?_⟩
 refine ⟨_,rfl,l,rows,rfl,RA,h0,h10,RO,fun d1 H1 s1 hd1n hd1=>?_⟩;have npd:p ≠ d1:=AJ hp hd1n;refine ⟨_,rfl,p,C,dx,[],rfl,s1 _ _ hp,T.cl,T.nN,(by show 0 < 1000; decide),?_⟩;refine ⟨d1,Av (AV rows),by rw [AG (Ne.symm npd)]; exact hd1,fun o1=>?_⟩;refine ⟨_,rfl,.inr ⟨r,aR,ruleNames,rfl,hRT _,_,rfl,?_⟩⟩;rw [PV ao];refine BG ?_;have ak:∀ o,(upd (upd H1 p (.ins C dx (BU "numbers" (.ref d1) []))) d1 o) p=some (.ins C dx (BU "numbers" (.ref d1) [])):=fun o=>by rw [AG npd,AB]
 refine ⟨_,rfl,p,C,dx,_,_,rfl,ak _,T.cl,T.nN,Qk d1,d1,o1,AV rows,rfl,AB,by rw [BC]; omega,fun d2 H2 s2 hd2n hd2=>?_⟩;have npd2:p ≠ d2:=AJ (ak _) hd2n;have hp3:=s2 _ _ (ak _);refine ⟨_,rfl,p,C,dx,_,rfl,hp3,T.cl,T.nF,(by show 1 < 1000; decide),?_⟩;refine ⟨d2,Bb (AT (AV rows)),by rw [AG (Ne.symm npd2)]; exact hd2,fun o2=>?_⟩;have hp4:∀ o,(upd (upd H2 p (.ins C dx (BU "firsts" (.ref d2) (BU "numbers" (.ref d1) [])))) d2 o) p=some (.ins C dx (BU "firsts" (.ref d2) (BU "numbers" (.ref d1) []))):=fun o=>by rw [AG npd2,AB]
 refine ⟨_,rfl,_,rfl,p,C,dx,_,rfl,hp4 _,T.cl,T.nR,Nat.lt_of_le_of_lt (B4 _ _ _) (by show 2 < 1000; decide),?_⟩;have nd12:d1 ≠ d2:=AJ (AB (H:=upd H1 p (.ins C dx (BU "numbers" (.ref d1) []))) (o:=.frz o1 (.dK (Av (AV rows))))) hd2n;refine k _ (fun b o e hb=>?_) ⟨⟨dx,d1,o1,d2,o2,AB,?_,?_⟩⟩
 ·rw [AG hb,AG,AG hb]
  ·refine s2 _ _ ?_;rw [AG (AJ e hd1n),AG hb];exact s1 _ _ e
  ·intro z;subst z
   have:(upd (upd H1 p (.ins C dx (BU "numbers" (.ref d1) []))) d1 (.frz o1 (.dK (Av (AV rows))))) b=some o:=by
    rw [AG (AJ e hd1n),AG hb];exact s1 _ _ e
   rw [hd2n] at this;cases this
 ·rw [AG (Ne.symm npd),AG nd12,AG (Ne.symm npd)];exact s2 _ _ AB
 ·rw [AG (Ne.symm npd2),AB]
end
structure Mt (P:Program) (w:World) (K:FG) (mg:SV) (base:Heap) (C:Addr) (m:Str) (k:Nat) (ps:List Str) (sp:Sp):Prop where
 ex:∃ f fd,FnOk P w K mg base CX0 k f fd ps sp/\Mp K C m f/\Binds K fd ps []
noncomputable def Ch (due:Aa):List (V × V):=due.map fun p=>(V.str p.1,V.int (p.2:Int))
noncomputable def Ak (due:Aa):List Nat:=((AT due).map (·.1)).mergeSort fun a b=>decide (a <= b)
noncomputable def Ax (due:Aa):List Nat:=(Ak due).filter Ar
noncomputable def Jw (due:Aa):List (V × V):=(Ax due).map fun n=>(V.str (Ho (AT due) n),V.int (n:Int))
theorem Ci (due:Aa):(Ak due).Perm ((AT due).map (·.1)):=List.mergeSort_perm _ _
theorem EW (due:Aa):(Ak due).Pairwise (· <= ·):=by
 have:=List.pairwise_mergeSort (le:=fun a b:Nat=>decide (a <= b)) (fun a b c h1 h2=>by simp at h1 h2 ⊢; omega) (fun a b=>by simp; omega) ((AT due).map (·.1));exact this.imp fun h=>by simpa using h
theorem Jx {ns:List Int} (hp:ns.Perm ((Bb (AT due)).map fun kv=>match kv.1 with | Sum.inl i=>i | Sum.inr _=>0)) (hs:ns.Pairwise (· <= ·)):ns=(Ak due).map fun n:Nat=>(n:Int):=by
 refine List.Perm.eq_of_pairwise (le:=(· <= ·)) (fun a b _ _ h1 h2=>Int.le_antisymm h1 h2) hs ?_ ?_
 ·rw [pairwise_map];exact (EW due).imp fun h=>by omega
 ·have e:((Bb (AT due)).map fun kv=>match kv.1 with | Sum.inl i=>i | Sum.inr _=>0)=((AT due).map (·.1)).map fun n:Nat=>(n:Int):=by
   unfold Bb;rw [map_map,map_map];rfl
  rw [e] at hp;exact hp.trans ((Ci due).symm.map _)
theorem mem_keysS {n:Nat}:n ∈ Ak due ↔ n ∈ (AT due).map (·.1):=(Ci due).mem_iff
theorem E4 (due:Aa):(Ak due).length <= due.length:=by
 rw [(Ci due).length_eq,AK];exact B3 due
section
def LU (C:Addr):Sp:=fun vs H Q _=>∃ (p:Addr) (due:Aa) (r:Str),vs=[.ref p]/\KindAt C H p due r/\∀ l as H',Same H H'->H' l=some (.lst (as.map V.ref))->TupsAt H' as (Ch due)->Q (.ref l) H'
theorem SH:AL ["self"] ["self"] (defScope Et):=fsc
theorem Qm (due:Aa):(Av due).map (fun kv=>(kV kv.1,kv.2))=Ch due:=by unfold Av Ch; rw [map_map]; rfl
theorem Qn (F:Fun K "rows" "Kind.rows" Et f fd) (B:Bl mg) (T:E3 K C):FnOk P w K mg base CX0 1 f fd ["self"] (LU C):=by
 refine F.m SH fun vs H Q E h=>?_;obtain ⟨p,due,r,rfl,KA,k⟩:=h;refine ⟨rfl,fun ad A outer s hr=>?_⟩;obtain ⟨dx,d1,o1,d2,o2,hp,h1,h2⟩:=KA.ex;refine ⟨_,AE (AO (Bt (Kr rfl) rfl B.list FZ (AA (OS PySem.F.slot_dict_items PySem.F.type_dict_items OT (BW (pv 0) rfl)) AC))),?_⟩;refine ⟨_,rfl,p,C,dx,_,_,rfl,hp,T.cl,T.nN,PR _ _ _,d1,rfl,.inl ⟨_,.inr ⟨o1,h1⟩⟩,d1,_,rfl,rfl,.inr ⟨o1,h1⟩,fun v hv=>?_⟩;have s1:Same H (upd H v (MB d1 v)):=AD (Same.refl _) hv;refine ⟨v,d1,_,rfl,AB,Same.rd s1 (.inr ⟨o1,h1⟩),fun l as H' s2 _ hl ht=>?_⟩;rw [Qm] at ht;exact k l as H' (s1.trans s2) hl ht
def Fa (C:Addr):Sp:=fun vs H Q _=>∃ (p:Addr) (due:Aa) (r:Str),vs=[.ref p]/\KindAt C H p due r/\∀ H',Same H H'->Q (.int (Ao ((AT due).map (·.1)):Nat)) H'
theorem Qo:AL ["self"] ["self"] (defScope Dr):=fsc
theorem PX (F:Fun K "known" "Kind.known" Dr f fd) (B:Bl mg) (T:E3 K C) (GU:Fn P w K mg base "union_of" 1 ["numbers"] (DK K)):FnOk P w K mg base CX0 2 f fd ["self"] (Fa C):=by
 obtain ⟨fU,dU,GU,mU,kU,bU⟩:=GU.ex;refine F.m Qo fun vs H Q E h=>?_;obtain ⟨p,due,r,rfl,KA,k⟩:=h;refine ⟨rfl,fun ad A outer s hr=>?_⟩;obtain ⟨dx,d1,o1,d2,o2,hp,h1,h2⟩:=KA.ex;refine ⟨_,AE (AO (AH GU hr rfl mU kU bU .nil AM (AA (Bt (Kp rfl) rfl B.list FZ (AA (BW (pv 0) rfl) AC)) AC))),?_⟩;refine ⟨_,rfl,p,C,dx,_,_,rfl,hp,T.cl,T.nF,Ge _ _ _,d2,_,rfl,.inr ⟨o2,h2⟩,fun l hl=>?_⟩;refine ⟨l,(AT due).map (·.1),rfl,SqL.of (by rw [AB]; unfold Bb AS; rw [map_map,map_map]; rfl),k _ (AD (Same.refl _) hl)⟩
def MR (C:Addr):Sp:=fun vs H Q _=>∃ (p:Addr) (due:Aa) (r:Str),vs=[.ref p]/\KindAt C H p due r/\due.length <= 60/\∀ l as H',Same H H'->H' l=some (.lst (as.map V.ref))->TupsAt H' as (Jw due)->Q (.ref l) H'
theorem Qp:AL ["self"] ["self"] (defScope Dq):=fsc
theorem Hr {as:List Addr} {ps:List (V × V)} {b:Addr} {p:V × V} (s:Same H H') (h:TupsAt H as ps) (hb:H' b=some (.tup [p.1,p.2])):TupsAt H' (as++[b]) (ps++[p]):=Paired.snoc (TupsAt.same s h) hb
theorem PY (F:Fun K "marks" "Kind.marks" Dq f fd) (B:Bl mg) (T:E3 K C) (GM:Fn P w K mg base "is_mark" 1 ["number"] GQ):FnOk P w K mg base CX0 2 f fd ["self"] (MR C):=by
 obtain ⟨fM,dM,GM,mM,kM,bM⟩:=GM.ex;refine F.m Qp fun vs H Q E h=>?_;obtain ⟨p,due,r,rfl,KA,h60,k⟩:=h;refine ⟨rfl,fun ad A outer s hr=>?_⟩;have hu:=FD hr;obtain ⟨dx,d1,o1,d2,o2,hp,h1,h2⟩:=KA.ex
 refine ⟨_,AE (AO (A9 ["self"] [some 0] (by kernel_rfl) (by decide +kernel) (by kernel_rfl) rfl (BF (Ab (ED rfl) rfl B.sorted DL (AA (BW (pv 0) rfl) AC)))
  (fun _ _ _ _ _ _=>B9 (Bd (AH GM hr rfl mM kM bM .nil AM (AA (pv 0) AC))))
  (fun _ _ _ _ _ _=>Be (AA (Ca hu (Qg K rfl (pv 1) rfl) (pv 0) (fun _ _=>rfl)) (AA (pv 0) AC))))),?_⟩
 have hle:(Bb (AT due)).length <= due.length:=by unfold Bb; rw [AK]; exact B3 due
 refine ⟨_,rfl,p,C,dx,_,_,rfl,hp,T.cl,T.nF,Ge _ _ _,d2,_,rfl,.inr ⟨o2,h2⟩,by omega,fun kv hkv=>?_,fun l ns hl bh cj=>?_⟩
 ·unfold Bb at hkv;obtain ⟨q,_,rfl⟩:=mem_map.mp hkv;exact ⟨_,rfl⟩
 ·have en:=Jx bh cj;subst en;have s1:Same H (upd H l (.lst (((Ak due).map fun n:Nat=>(n:Int)).map V.int))):=AD (Same.refl _) hl;have exs:((Ak due).map fun n:Nat=>(n:Int)).map V.int=AS (Ak due):=(ET _).symm
  refine ⟨l,rfl,⟨_,SqL.of AB⟩,Bv (K:=K) (a:=l) (xs:=AS (Ak due))
   (fun i ys H2=>∃ as,ys=as.map V.ref/\Same H H2/\H2 l=some (.lst (AS (Ak due)))/\TupsAt H2 as ((((Ak due).take i).filter Ar).map fun n=>(V.str (Ho (AT due) n),V.int (n:Int)))) ⟨[],rfl,s1,by rw [AB,exs],.nil⟩
   (fun i ys H2 _ ⟨_,_,_,e,_⟩=>SqL.of e) (fun i ys H2 ⟨as,e,_,_,t⟩=>?_) ?_ ?_⟩
  ·have:=t.length;rw [e,AK,this,AK];have h3:(((Ak due).take i).filter Ar).length <= ((Ak due).take i).length:=length_filter_le _ _;rw [length_take] at h3;have:=E4 due;omega
  ·rintro i v ys H2 hi ⟨as,rfl,s2,hl2,ht⟩;obtain ⟨n,hn,rfl⟩:=IW hi;have cc:n ∈ (AT due).map (·.1):=mem_keysS.mp (mem_of_getElem? hn);have et:((Ak due).take (i + 1)).filter Ar=((Ak due).take i).filter Ar++(if Ar n then [n] else []):=PySem.take_succ_filter Ar _ i n hn;refine ⟨_,rfl,n,rfl,_,rfl,?_⟩;refine BX (fun hm=>?_) (fun hm=>?_)
   ·refine ⟨_,rfl,p,C,dx,_,_,rfl,s2 _ _ hp,T.cl,T.nF,Ge _ _ _,_,rfl,d2,_,rfl,.inl ⟨_,Sum.inl (n:Int),Same.rd s2 (.inr ⟨o2,h2⟩),rfl,(EU cc).symm⟩,_,rfl,sl2,fun b hb=>?_⟩;refine ⟨as++[b],by rw [map_append]; rfl,AD s2 hb,by rw [AG (AJ hl2 hb)]; exact hl2,?_⟩;rw [et,hm,if_pos rfl,map_append];exact Hr (AD (Same.refl _) hb) ht AB
   ·refine ⟨as,rfl,s2,hl2,?_⟩;rw [et,if_neg hm,append_nil];exact ht
  ·rintro ys H2 ⟨as,rfl,s2,_,ht⟩ q hq
   have el:(Ak due).take (AS (Ak due)).length=Ak due:=by
    have:(AS (Ak due)).length=(Ak due).length:=by unfold AS; rw [AK]
    rw [this]; exact take_length
   rw [el] at ht;exact k q as _ (AD s2 hq) AB (TupsAt.same (AD (Same.refl _) hq) ht)
end
theorem Jy {as:List Addr} {ps:List (V × V)} {i:Nat} {b:Addr} (h:TupsAt H as ps) (e:as[i]?=some b):∃ p,ps[i]?=some p/\H b=some (.tup [p.1,p.2]):=Dy h e
section
theorem KindAt.ins {p:Addr} {r:Str} (h:KindAt C H p due r):∃ dx d1 d2,H p=some (.ins C dx (G4 d1 d2 r)):=by
 obtain ⟨dx,d1,o1,d2,o2,a,_⟩:=h.ex;exact ⟨dx,d1,d2,a⟩
theorem NZ (due:Aa):(Jw due).length=(Ax due).length:=AK _
end
theorem MS (h:∀ p ∈ due,p.2 < 2 ^ 20):∀ n ∈ (AT due).map (·.1),n < 2 ^ 20:=fun n hn=>by
 obtain ⟨q,hq,rfl⟩:=mem_map.mp hn;exact h _ (Hq hq)
theorem PZ (h:∀ p ∈ due,p.2 < 2 ^ 20):∀ n ∈ Ax due,n < 2 ^ 20:=fun n hn=>MS h n (mem_keysS.mp (mem_filter.mp hn).1)
theorem EY {x:Int} {n:Nat} (h0:0 <= x) (h:x < 2 ^ n):Builtin.Int.intBits x <= n:=by
 obtain ⟨m,rfl⟩:=Int.eq_ofNat_of_zero_le h0;have hm:m < 2 ^ n:=by exact_mod_cast h
 rcases Nat.eq_zero_or_pos m with e | hp
 ·subst e; exact Nat.zero_le _
 ·rw [C9 hp];exact (Nat.log2_lt (by omega)).mpr hm
theorem Ie {xs:List V} {i:Int} (h0:0 <= i) (h1:i < xs.length):∃ v,atI xs i=some v/\xs[i.toNat]?=some v:=by
 have hlt:i.toNat < xs.length:=by omega
 refine ⟨xs[i.toNat],?_,List.getElem?_eq_getElem hlt⟩;unfold atI ixN;rw [if_pos h0,if_pos h1];exact List.getElem?_eq_getElem hlt
structure SameX (d:Addr) (H H':Hp):Prop where
 old:∀ b o,H b=some o->b ≠ d->H' b=some o
 dice:∃ a b:Int,H' d=some (.lst [.int a,.int b])
theorem SameX.trans {d:Addr} {H1 H2:Hp} (x:SameX d H H1) (y:SameX d H1 H2):SameX d H H2:=⟨fun b o e hb=>y.old _ _ (x.old b o e hb) hb,y.dice⟩
section
def LV (K:FG):Sp:=fun vs H Q _=>∃ (a:Addr) (ns:List Int) (k:Int),vs=[.ref a,.int k]/\SqL K H a (ns.map V.int)/\ns.length <= 63/\0 <= k/\∀ (v:Int) H',Same H H'->Q (.int v) H'
theorem SI:AL ["_law_script", "_law_k"] ["_law_script", "_law_k"] (defScope GJ):=fsc
theorem Qq (F:Fun K "_law_cell" "_law_cell" GJ f fd) (B:Bl mg):FnOk P w K mg base CX0 1 f fd ["_law_script", "_law_k"] (LV K):=by
 refine F.m SI fun vs H Q E h=>?_;obtain ⟨a,ns,kk,rfl,hS,h63,hk,k⟩:=h;refine ⟨rfl,fun ad A outer s hr=>?_⟩;have hu:=hr.units
 refine ⟨_,AF (At (AW (R0 K rfl hu) (pv 0) (A7 AC) (Ac _)) (AE (AO (AQ Fi (pv 1) AI))) AY)
  (AE (AO (AQ Cy (By (Az K rfl) (pv 0) (AQ De (pv 1) (Ab (Bh K rfl) rfl B.len PySem.boot_len (AA (pv 0) AC))) (fun _ _=>rfl))
   (AQ Fi (AQ Hy (pv 1) (Ab (Bh K rfl) rfl B.len PySem.boot_len (AA (pv 0) AC))) AI)))),?_⟩
 refine ⟨_,rfl,Nat.zero_le _,fun p hp=>?_⟩;have s1:Same H (upd H p (.lst [])):=AD (Same.refl _) hp;refine ⟨a,p,ns,[],rfl,rfl,s1.seq hS,SqL.of AB,_,rfl,?_⟩;refine BX (fun h0=>?_) (fun h0=>?_)
 ·exact ⟨_,rfl,_,_,rfl,rfl,.inr ⟨by decide,by decide⟩,k _ _ s1⟩
 ·have ax:ns ≠ []:=fun z=>h0 (decide_eq_true z);have hpos:0 < ns.length:=List.length_pos_iff.mpr ax;have hl:(ns.map V.int).length=ns.length:=AK _;have hm0:0 <= kk % ((ns.map V.int).length:Int):=Int.emod_nonneg _ (by rw [hl]; omega);have hm1:kk % ((ns.map V.int).length:Int) < ((ns.map V.int).length:Nat):=Int.emod_lt_of_pos _ (by rw [hl]; omega);obtain ⟨v,hv,hv2⟩:=Ie (xs:=ns.map V.int) hm0 hm1
  obtain ⟨n,rfl⟩:∃ n,v=V.int n:=by
   rw [getElem?_map] at hv2;cases e:ns[(kk % ((ns.map V.int).length:Int)).toNat]? with
   | none=>rw [e] at hv2; cases hv2
   | some n=>rw [e] at hv2; exact ⟨n,(Option.some.inj hv2).symm⟩
  refine ⟨_,rfl,_,rfl,_,rfl,a,_,rfl,.inl (s1.seq hS),_,_,rfl,rfl,(by rw [hl]; omega),a,_,_,_,rfl,rfl,s1.seq hS,hv,?_⟩;exact ⟨_,rfl,_,rfl,a,_,rfl,.inl (s1.seq hS),_,_,rfl,rfl,⟨by rw [hl]; omega,by rw [hl]; omega⟩,_,_,rfl,rfl,.inr ⟨by decide,by decide⟩,_,_,rfl,rfl,k _ _ s1⟩
def Ig:Sp:=fun vs H Q _=>∃ (c k:Int),vs=[.int c,.int k]/\∀ r:Int,0 <= r->Q (.int r) H
theorem scDrawn:AL ["_law_cell_here", "_law_k", "_law_more"] ["_law_cell_here", "_law_k"] (defScope Ew):=fsc
theorem Pa (F:Fun K "_law_drawn" "_law_drawn" Ew f fd):FnOk P w K mg base CX0 1 f fd ["_law_cell_here", "_law_k"] Ig:=by
 refine F.m scDrawn fun vs H Q E h=>?_;obtain ⟨c,kk,rfl,k⟩:=h;refine ⟨rfl,fun ad A outer s hr=>?_⟩
 refine ⟨_,AF (Aj (i:=2) scDrawn.nd rfl (Or.inl rfl) (AQ De (AQ Cy (AQ Fi (pv 0) AI) (AQ Fi (AQ Cy (pv 1) AI) AI)) AI))
  (AF (Aj (i:=2) scDrawn.nd rfl (Or.inl rfl) (AQ De (AQ IE (pv 2) (pv 2)) AI))
  (AF (Aj (i:=2) scDrawn.nd rfl (Or.inl rfl) (AQ IE (AQ IE (AQ Cy (AQ De (pv 2) AI) AI) (AQ Cy (AQ OY (pv 2) AI) AI)) (pv 2)))
  (AE (AO (AQ De (pv 2) AI))))),?_⟩
 refine ⟨_,rfl,_,_,rfl,rfl,.inr ⟨by decide,by decide⟩,_,rfl,_,_,rfl,rfl,_,_,rfl,rfl,.inr ⟨by decide,by decide⟩,_,_,rfl,rfl,_,_,rfl,rfl,(by show (0:Int) < _; decide),?_⟩;generalize ha:(c * 6364136223846793005 + (kk + 1) * 1442695040888963407) % 340282366920938463463374607431768211507=m1
 have h1:0 <= m1/\m1 < 2 ^ 130:=by
  rw [← ha];exact ⟨Int.emod_nonneg _ (by decide),Int.lt_trans (Int.emod_lt_of_pos _ (by decide)) (by decide)⟩
 have b1:Builtin.Int.intBits m1 <= 2 ^ 20:=Nat.le_trans (EY h1.1 h1.2) (by decide);subst ha;refine ⟨_,rfl,_,rfl,_,_,rfl,rfl,⟨b1,b1⟩,_,_,rfl,rfl,(by show (0:Int) < _; decide),?_⟩;generalize hb:(c * 6364136223846793005 + (kk + 1) * 1442695040888963407) % 340282366920938463463374607431768211507 * ((c * 6364136223846793005 + (kk + 1) * 1442695040888963407) % 340282366920938463463374607431768211507) % 340282366920938463463374607431768211297=m2
 have h2:0 <= m2/\m2 < 2 ^ 130:=by
  rw [← hb];exact ⟨Int.emod_nonneg _ (by decide),Int.lt_trans (Int.emod_lt_of_pos _ (by decide)) (by decide)⟩
 have b2:Builtin.Int.intBits m2 <= 2 ^ 20:=Nat.le_trans (EY h2.1 h2.2) (by decide)
 have p1:0 <= m2 % 18446744073709551557 + 1/\m2 % 18446744073709551557 + 1 < 2 ^ 65:=by
  have:=Int.emod_nonneg m2 (show (18446744073709551557:Int) ≠ 0 by decide);have:=Int.emod_lt_of_pos m2 (show (0:Int) < 18446744073709551557 by decide);omega
 have p2:0 <= m2 / 18446744073709551557 + 1/\m2 / 18446744073709551557 + 1 < 2 ^ 131:=by
  have h3:=Int.ediv_nonneg h2.1 (show (0:Int) <= 18446744073709551557 by decide);have h4:=Int.ediv_le_self (18446744073709551557) h2.1;omega
 have p3:0 <= (m2 % 18446744073709551557 + 1) * (m2 / 18446744073709551557 + 1):=Int.mul_nonneg p1.1 p2.1
 have p4:(m2 % 18446744073709551557 + 1) * (m2 / 18446744073709551557 + 1) < 2 ^ 196:=by
  have:=Int.mul_lt_mul' (Int.le_of_lt p1.2) p2.2 p2.1 (show (0:Int) < 2 ^ 65 by decide);exact Int.lt_of_lt_of_le this (by decide)
 have c1:Builtin.Int.intBits (m2 % 18446744073709551557 + 1) <= 2 ^ 20:=Nat.le_trans (EY p1.1 p1.2) (by decide);have c2:Builtin.Int.intBits (m2 / 18446744073709551557 + 1) <= 2 ^ 20:=Nat.le_trans (EY p2.1 p2.2) (by decide);have c3:Builtin.Int.intBits ((m2 % 18446744073709551557 + 1) * (m2 / 18446744073709551557 + 1)) <= 2 ^ 20:=Nat.le_trans (EY p3 p4) (by decide);subst hb;refine ⟨_,rfl,_,_,rfl,rfl,(by show (0:Int) < _; decide),_,_,rfl,rfl,_,rfl,_,_,rfl,rfl,⟨by decide,PyProof.noPylong_of_log2 (by decide +kernel)⟩,_,_,rfl,rfl,_,_,rfl,rfl,⟨c1,c2⟩,?_⟩;refine ⟨_,rfl,_,_,rfl,rfl,⟨c3,b2⟩,?_⟩;exact ⟨_,rfl,_,_,rfl,rfl,(by show (0:Int) < _; decide),k _ (Int.emod_nonneg _ (by decide))⟩
def Gf:Sp:=fun vs H Q _=>∃ (d:Addr) (a b m:Int),vs=[.ref d,.int m]/\H d=some (.lst [.int a,.int b])/\0 < m/\m < 1073741824/\∀ r a' b':Int,0 <= r->r < m->Q (.int r) (upd H d (.lst [.int a',.int b']))
theorem scRoll:AL ["_law_dice", "_law_many", "_law_told_here"] ["_law_dice", "_law_many"] (defScope GP):=fsc
theorem Qr (F:Fun K "_law_roll" "_law_roll" GP f fd) (GD:Fn P w K mg base "_law_drawn" 1 ["_law_cell_here", "_law_k"] Ig):FnOk P w K mg base CX0 2 f fd ["_law_dice", "_law_many"] Gf:=by
 obtain ⟨fD,dD,GD,mD,kD,bD⟩:=GD.ex;refine F.m scRoll fun vs H Q E h=>?_;obtain ⟨d,a,b,m,rfl,hd,m0,m1,k⟩:=h;refine ⟨rfl,fun ad A outer s hr=>?_⟩
 refine ⟨_,AF (At (AW RQ (By (Az K rfl) (pv 0) AI (fun _ _=>rfl)) (AQ KS AI AI) (Ac _))
   (AF (Aj (i:=2) scRoll.nd rfl (Or.inl rfl) (AQ De (By (Az K rfl) (pv 0) AI (fun _ _=>rfl)) (pv 1)))
   (AF (Ct (AQ Hy (By (Az K rfl) (pv 0) AI (fun _ _=>rfl)) (pv 1)) (Nz (pv 0) AI JD))
   (AE (AO (pv 2))))) AY)
  (AF (Ct (AQ Cy (By (Az K rfl) (pv 0) AI (fun _ _=>rfl)) AI) (Nz (pv 0) AI JD))
  (AE (AO (AQ De (AQ Hy (AH GD hr rfl mD kD bD .nil AM (AA (By (Az K rfl) (pv 0) AI (fun _ _=>rfl)) (AA (By (Az K rfl) (pv 0) AI (fun _ _=>rfl)) AC))) AI) (pv 1))))),?_⟩
 refine ⟨_,rfl,d,_,0,.int a,rfl,rfl,SqL.of hd,CZ (j:=0) rfl,_,_,rfl,rfl,⟨by decide,by decide,by decide⟩,_,_,rfl,rfl,_,rfl,?_⟩;refine BX (fun _=>?_) (fun _=>?_)
 ·refine ⟨_,rfl,d,_,0,.int a,rfl,rfl,SqL.of hd,CZ (j:=0) rfl,_,rfl,_,_,rfl,rfl,m0,?_⟩;refine ⟨_,rfl,d,_,0,.int a,rfl,rfl,SqL.of hd,CZ (j:=0) rfl,_,rfl,_,_,rfl,rfl,⟨m0,m1⟩,_,rfl,d,_,0,0,rfl,rfl,hd,rfl,?_⟩;exact ⟨_,rfl,k _ (a / m) b (Int.emod_nonneg _ (by omega)) (Int.emod_lt_of_pos _ m0)⟩
 ·refine ⟨_,rfl,d,_,1,.int b,rfl,rfl,SqL.of hd,CZ (j:=1) rfl,_,_,rfl,rfl,_,rfl,d,_,1,1,rfl,rfl,hd,rfl,?_⟩;have hd2:(upd H d (.lst ([V.int a,V.int b].set 1 (V.int (b + 1))))) d=some (.lst [.int a,.int (b + 1)]):=AB;refine ⟨_,rfl,d,_,0,.int a,rfl,rfl,SqL.of hd2,CZ (j:=0) rfl,_,rfl,d,_,1,.int (b + 1),rfl,rfl,SqL.of hd2,CZ (j:=1) rfl,_,_,rfl,fun r hr0=>?_⟩;refine ⟨_,_,rfl,rfl,⟨by decide,by decide⟩,_,rfl,_,_,rfl,rfl,m0,?_⟩;exact k _ a (b + 1) (Int.emod_nonneg _ (by omega)) (Int.emod_lt_of_pos _ m0)
def Gg:Sp:=fun vs H Q _=>∃ (d:Addr) (a b:Int),vs=[.ref d]/\H d=some (.lst [.int a,.int b])/\∀ (r:Str) H',r ∈ (["bar", "drop", "keep", "leave"]:List Str)->SameX d H H'->Q (.str r) H'
theorem Pb:AL ["_law_dice"] ["_law_dice"] (defScope Dv):=fsc
theorem Na (F:Fun K "_law_rule_of" "_law_rule_of" Dv f fd) (GR:Fn P w K mg base "_law_roll" 2 ["_law_dice", "_law_many"] Gf):FnOk P w K mg base CX0 3 f fd ["_law_dice"] Gg:=by
 obtain ⟨fR,dR,GR,mR,kR,bR⟩:=GR.ex;refine F.m Pb fun vs H Q E h=>?_;obtain ⟨d,a,b,rfl,hd,k⟩:=h;refine ⟨rfl,fun ad A outer s hr=>?_⟩;refine ⟨_,AE (AO (By (Az K rfl) (A7 (AA Af (AA Af (AA Af (AA Af AC))))) (AH GR hr rfl mR kR bR .nil AM (AA (pv 0) (AA AI AC))) (fun _ _=>rfl))),?_⟩;refine ⟨sl4,fun p hp=>?_⟩;have npd:d ≠ p:=AJ hd hp;refine ⟨_,rfl,d,a,b,4,rfl,by rw [AG npd]; exact hd,by decide,by decide,fun r a' b' h0 h1=>?_⟩;have hl:(upd (upd H p (.lst [.str "bar", .str "drop", .str "keep", .str "leave"])) d (.lst [.int a',.int b'])) p=some (.lst [.str "bar", .str "drop", .str "keep", .str "leave"]):=by rw [AG (Ne.symm npd),AB]
 obtain ⟨v,hv,hv2⟩:=Ie (xs:=[V.str "bar", V.str "drop", V.str "keep", V.str "leave"]) h0 (by show r < 4; exact h1)
 have hin:∃ x,v=.str x/\x ∈ (["bar", "drop", "keep", "leave"]:List Str):=by
  have:=mem_of_getElem? hv2;simp only [mem_cons,not_mem_nil,or_false] at this;rcases this with z | z | z | z
  ·exact ⟨_,z,by simp⟩
  ·exact ⟨_,z,by simp⟩
  ·exact ⟨_,z,by simp⟩
  ·exact ⟨_,z,by simp⟩
 obtain ⟨x,rfl,hx⟩:=hin;refine ⟨p,_,r,_,rfl,rfl,SqL.of hl,hv,k x _ hx ⟨fun c o e hc=>?_,⟨a',b',AB⟩⟩⟩;rw [AG hc,AG (AJ e hp)];exact e
end
theorem Fb (n k:Nat):decide (V.int (Builtin.bitAnd ((n:Int) / 2 ^ ((0:Int) + (k:Int)).toNat) 1)=V.int 1)=n.testBit k:=by
 have e0:((0:Int) + (k:Int)).toNat=k:=by omega
 have e1:(n:Int) / 2 ^ k=((n / 2 ^ k:Nat):Int):=by push_cast; rfl
 have e2:Builtin.bitAnd ((n / 2 ^ k:Nat):Int) 1=((n / 2 ^ k % 2:Nat):Int):=by
  have:=Br (n / 2 ^ k) 1;rw [Nat.and_one_is_mod] at this;exact this
 rw [e0,e1,e2,Nat.testBit_eq_decide_div_mod_eq];refine decide_eq_decide.mpr ⟨fun h=>?_,fun h=>?_⟩
 ·have:=V.int.inj h;omega
 ·rw [h]; rfl
section
def Gh (K:FG):Sp:=fun vs H Q _=>∃ (a:Addr) (ns:List Int),vs=[.ref a,.int 4]/\SqL K H a (ns.map V.int)/\ns.length <= 63 /\
 ∀ (l:Addr) (as:List Addr) H',Same H H'->H' l=some (.lst (as.map V.ref))->as.Nodup->l ∉ as->as.length <= 4->(∀ b ∈ as,H b=none/\∃ x y:Int,H' b=some (.lst [.int x,.int y]))->Q (.ref l) H'
theorem Pc:AL ["_law_script", "_law_most"] ["_law_script", "_law_most"] (defScope Du):=fsc
theorem Nb (F:Fun K "_law_rounds" "_law_rounds" Du f fd) (B:Bl mg) (GC:Fn P w K mg base "_law_cell" 1 ["_law_script", "_law_k"] (LV K)):FnOk P w K mg base CX0 2 f fd ["_law_script", "_law_most"] (Gh K):=by
 obtain ⟨fC,dC,GC,mC,kC,bC⟩:=GC.ex;refine F.m Pc fun vs H Q E h=>?_;obtain ⟨a,ns,rfl,hS,h63,k⟩:=h;refine ⟨rfl,fun ad A outer s hr=>?_⟩
 refine ⟨_,AE (AO (A9 ["_law_script"] [some 0] (by kernel_rfl) (by decide +kernel) (by kernel_rfl) rfl
  (CN rfl B.range (AA (Ab (Mm rfl) rfl B.max SE (AA AI (AA (Ab (Mn rfl) rfl B.min SD (AA (pv 1) (AA (Ab (Bh K rfl) rfl B.len PySem.boot_len (AA (pv 0) AC)) AC))) AC))) AC))
  (fun _ _ _ _ _ _=>B8)
  (fun _ _ _ _ _ _=>A7 (AA (AH GC hr rfl mC kC bC .nil AM (AA (pv 1) (AA (pv 0) AC))) (AA AI AC))))),?_⟩
 have hl:(ns.map V.int).length=ns.length:=AK _;refine ⟨_,rfl,_,rfl,a,_,rfl,.inl hS,_,_,rfl,_,_,rfl,_,rfl,?_,?_,?_⟩
 ·split <;> split <;> omega
 ·split <;> split <;> omega
 ·generalize hn:(if (if (((ns.map V.int).length:Nat):Int) < 4 then (((ns.map V.int).length:Nat):Int) else 4) > 1 then (if (((ns.map V.int).length:Nat):Int) < 4 then (((ns.map V.int).length:Nat):Int) else 4) else 1).toNat=n
  have n5:n <= 4:=by
   rw [← hn];split <;> split <;> omega
  refine Cc (lo:=0) (n:=n) (fun i ys H2=>∃ as:List Addr,ys=as.map V.ref/\as.length=i/\i <= 4/\Same H H2/\as.Nodup/\∀ b ∈ as,H b=none/\∃ x y:Int,H2 b=some (.lst [.int x,.int y])) ⟨[],rfl,rfl,by decide,Same.refl _,nodup_nil,fun b hb=>nomatch hb⟩ ?_ ?_ ?_
  ·rintro i ys H2 ⟨as,rfl,e,h5,_⟩;rw [AK]; omega
  ·rintro i ys H2 hi ⟨as,rfl,e,h5,s2,nd,hb⟩;refine ⟨_,rfl,_,rfl,a,ns,_,rfl,s2.seq hS,h63,by omega,fun v H3 s3=>⟨sl2,fun p hp=>?_⟩⟩;refine ⟨as++[p],by rw [map_append]; rfl,by rw [length_append,e]; rfl,by omega,AD (s2.trans s3) hp,?_,fun b hb'=>?_⟩
   ·refine List.nodup_append.mpr ⟨nd,nodup_cons.mpr ⟨not_mem_nil,nodup_nil⟩,?_⟩;intro x hx y hy;rw [mem_singleton] at hy;subst hy;obtain ⟨_,x1,y1,e1⟩:=hb x hx;exact AJ (s3 _ _ e1) hp
   ·rcases mem_append.mp hb' with z | z
    ·obtain ⟨h0,x1,y1,e1⟩:=hb b z;exact ⟨h0,x1,y1,AD s3 hp _ _ e1⟩
    ·rw [mem_singleton] at z;subst z;refine ⟨?_,v,0,AB⟩;cases e:H b with
     | none=>rfl
     | some o =>
      have:=s3 _ _ (s2 _ _ e);rw [this] at hp;cases hp
  ·rintro ys H2 ⟨as,rfl,e,h5,s2,nd,hb⟩ l hl;refine k l as _ (AD s2 hl) AB nd ?_ (by omega) fun b hb'=>?_
   ·intro z;obtain ⟨_,x,y,e1⟩:=hb l z;rw [e1] at hl; cases hl
   ·obtain ⟨h0,x,y,e1⟩:=hb b hb';exact ⟨h0,x,y,AD (Same.refl _) hl _ _ e1⟩
def Gi:Sp:=fun vs H Q _=>∃ n:Nat,vs=[.int (n:Int)]/\∀ l ys H',Same H H'->H' l=some (.lst ys)->ys.length=(BY n).length->Q (.ref l) H'
theorem Jz:AL ["_law_number"] ["_law_number"] (defScope B2):=fsc
theorem Nd (F:Fun K "_law_bits_of" "_law_bits_of" B2 f fd) (B:Bl mg):FnOk P w K mg base CX0 1 f fd ["_law_number"] Gi:=by
 refine F.m Jz fun vs H Q E h=>?_;obtain ⟨n,rfl,k⟩:=h;refine ⟨rfl,fun ad A outer s hr=>?_⟩
 refine ⟨_,AE (AO (A9 ["_law_number"] [some 0] (by kernel_rfl) (by decide +kernel) (by kernel_rfl) rfl (CN rfl B.range (AA AI AC))
  (fun _ _ _ _ _ _=>B9 (AW DU (AQ CY (AQ N7 (pv 1) (pv 0)) AI) AI (Ac _)))
  (fun _ _ _ _ _ _=>AQ Fj AI (pv 0)))),?_⟩
 refine ⟨42,rfl,by decide,by decide,?_⟩;refine Cc (lo:=0) (n:=42) (fun i ys H2=>ys.length=((List.range i).filter fun k=>n.testBit k).length/\i <= 42/\H2=H) ⟨rfl,by decide,rfl⟩ ?_ ?_ ?_
 ·rintro i ys H2 ⟨e,hi,_⟩;rw [e];have:=length_filter_le (fun k=>n.testBit k) (List.range i);rw [List.length_range] at this;omega
 ·rintro i ys H2 hi ⟨e,_,rfl⟩;refine ⟨_,rfl,_,rfl,_,_,rfl,rfl,(by omega),_,_,rfl,rfl,?_⟩;refine ⟨rfl,_,rfl,?_⟩
  have er:((List.range (i + 1)).filter fun k=>n.testBit k).length=((List.range i).filter fun k=>n.testBit k).length + (if n.testBit i then 1 else 0):=by
   rw [List.range_succ,filter_append,length_append,filter_cons,List.filter_nil];split <;> rfl
  refine BX (fun h=>?_) (fun h=>?_)
  ·have hb:n.testBit i=true:=by rw [← Fb]; exact h
   refine ⟨_,rfl,_,_,rfl,rfl,⟨by omega,by first | decide | omega,by first | decide | omega⟩,?_,by omega,rfl⟩;rw [er,hb,length_append,e]; rfl
  ·have hb:n.testBit i=false:=by rw [← Fb]; exact Bool.eq_false_iff.mpr h
   refine ⟨?_,by omega,rfl⟩;rw [er,hb,e]; rfl
 ·rintro ys H2 ⟨e,_,rfl⟩ l hl;exact k l ys _ (AD (Same.refl _) hl) AB e
end
end Mk
end
section
namespace L2
open PySem
def T5 (t u:TS):TS:=fun D σ H=>∃ G:St->Hp->Prop,(∀ R:St->Hp->Prop,(∀ σ H,G σ H->R σ H)->t { D with nx:=R } σ H)/\∀ σ H,G σ H->u D σ H
theorem Ay {X:Cx} {st:Stmt} {rest:List Stmt} {t u:TS} (h1:PS X st t) (h2:PSs X rest u):PSs X (st :: rest) (T5 t u):=fun aa s σ H D I ⟨_,a,b⟩=>AF h1 h2 aa s σ H D I (a (u D) b)
end L2
namespace Mk
open PySem L2 MK
def SameT (H H':Hp):Prop:=∀ b xs,H b=some (.tup xs)->H' b=some (.tup xs)
theorem SameT.of (s:Same H H'):SameT H H':=fun b xs e=>s _ _ e
theorem SameT.upd {d:Addr} {xs ys:List V} (h:H d=some (.lst xs)):SameT H (upd H d (.lst ys)):=fun b zs e=>by
 rw [AG (fun z=>by subst z; rw [h] at e; cases e)]; exact e
theorem SameT.trans {H1 H2:Hp} (x:SameT H H1) (y:SameT H1 H2):SameT H H2:=fun b xs e=>y _ _ (x _ _ e)
theorem TupsAt.sameT {as:List Addr} {ps:List (V × V)} (s:SameT H H') (h:TupsAt H as ps):TupsAt H' as ps:=Paired.mapP h fun _ _ e=>s _ _ e
theorem ThAt.sameT {v:V} {th:Th} (s:SameT H H') (h:ThAt H v th):ThAt H' v th:=by
 cases th with
 | non=>exact h
 | num n=>exact h
 | nms ns=>obtain ⟨a,e,h⟩:=h; exact ⟨a,e,s _ _ h⟩
theorem RowAt.sameT {b:Addr} {r:Str × Th} (s:SameT H H') (h:RowAt H b r):RowAt H' b r:=by
 obtain ⟨tv,e,t⟩:=h;exact ⟨tv,s _ _ e,t.sameT s⟩
theorem BR {as:List Addr} {rows:List (Str × Th)} (s:SameT H H') (h:Paired (RowAt H) as rows):Paired (RowAt H') as rows:=Paired.mapP h fun _ _ e=>e.sameT s
noncomputable def D0 (due:Aa):List PyData:=due.map fun p=>.tuple [.str p.1,.int (p.2:Int)]
theorem Pd {b:Addr} {x:Str} {n:Int} (h:H b=some (.tup [.str x,.int n])):Bq K H (.tuple [.str x,.int n]) (.ref b):=by
 rw [Bq];refine ⟨b,_,rfl,SqT.of h,?_⟩;rw [A4];refine ⟨_,_,rfl,by rw [Bq],?_⟩;rw [A4];refine ⟨_,_,rfl,by rw [Bq],?_⟩;rw [A4]
theorem EZ:∀ {due:Aa} {bs:List Addr},TupsAt H bs (Ch due)->A4 K H (D0 due) (bs.map V.ref)
 | [],bs,h=>by
  have:bs=[]:=List.eq_nil_of_length_eq_zero (by rw [h.length]; rfl);subst this;show A4 K H [] [];rw [A4]
 | p :: r,[],h=>by have:=h.length; simp [Ch] at this
 | p :: r,b :: bs,h=>by
  have hh:H b=some (.tup [.str p.1,.int (p.2:Int)])/\TupsAt H bs (Ch r):=by
   cases h with
   | cons h1 h2=>exact ⟨h1,h2⟩
  show A4 K H (.tuple [.str p.1,.int (p.2:Int)] :: D0 r) (V.ref b :: bs.map V.ref);rw [A4];exact ⟨_,_,rfl,Pd hh.1,EZ hh.2⟩
theorem A5:∀ xs:List Nat,A4 K H (xs.map fun n:Nat=>PyData.int (n:Int)) (AS xs)
 | []=>by show A4 K H [] []; rw [A4]
 | x :: r=>by
  show A4 K H (.int x :: r.map fun n:Nat=>PyData.int (n:Int)) (V.int x :: AS r);rw [A4];exact ⟨_,_,rfl,by rw [Bq],A5 r⟩
theorem Aq {l:Addr} {ds:List PyData} {xs:List V} (h:H l=some (.lst xs)) (d:A4 K H ds xs):Bq K H (.list ds) (.ref l):=by
 rw [Bq];exact ⟨l,xs,rfl,SqL.of h,d⟩
theorem MU:A4 K H [] []:=by rw [A4]
theorem MW (ds:List PyData):PyData.eqv (.list ds) (.list [])=ds.isEmpty:=by
 cases ds with
 | nil=>rfl
 | cons a r=>simp [PyData.eqv,PyData.eqvAll]
theorem Gj {x:Str} (h:x.cps.all (· < 128)=true):PyData.strOk x=true:=by
 unfold PyData.strOk;simp only [Array.all_eq_true,decide_eq_true_eq] at h ⊢;intro i hi;have:=h i hi;simp;omega
theorem LX {ds:List PyData} (h:∀ d ∈ ds,d.canLay0=true):PyData.canLayAll0 ds=true:=by
 induction ds with
 | nil=>rfl
 | cons a r ih=>rw [PyData.canLayAll0,h a mem_cons_self,ih fun d hd=>h d (mem_cons_of_mem _ hd)]; rfl
theorem SJ {ds:List PyData} {k:Nat} (h:∀ d ∈ ds,d.depth <= k):PyData.depthAll ds <= k:=by
 induction ds with
 | nil=>rw [PyData.depthAll]; exact Nat.zero_le _
 | cons a r ih=>rw [PyData.depthAll]; exact Nat.max_le.mpr ⟨h a mem_cons_self,ih fun d hd=>h d (mem_cons_of_mem _ hd)⟩
theorem FI {ds:List PyData} (h:∀ d ∈ ds,d.canLay0=true/\d.depth <= 60):SeqAt.shaped (.list ds)=true:=by
 unfold SeqAt.shaped;rw [Bool.and_eq_true,decide_eq_true_eq];refine ⟨by rw [PyData.canLay0]; exact LX fun d hd=>(h d hd).1,?_⟩;rw [PyData.depth];have:=SJ (k:=60) fun d hd=>(h d hd).2;omega
theorem Pe {x:Str} {n:Int} (h:x.cps.all (· < 128)=true):(PyData.tuple [.str x,.int n]).canLay0=true/\(PyData.tuple [.str x,.int n]).depth <= 60:=by
 refine ⟨?_,?_⟩
 ·rw [PyData.canLay0];refine LX fun d hd=>?_;simp only [mem_cons,not_mem_nil,or_false] at hd;rcases hd with rfl | rfl
  ·rw [PyData.canLay0]; exact Gj h
  ·rw [PyData.canLay0]
 ·simp only [PyData.depth,PyData.depthAll];omega
theorem DF (h:∀ p ∈ due,p.1.cps.all (· < 128)=true):SeqAt.shaped (.list (D0 due))=true:=FI fun d hd=>by
 obtain ⟨p,hp,rfl⟩:=mem_map.mp hd;exact Pe (h p hp)
theorem Am (xs:List Nat):SeqAt.shaped (.list (xs.map fun n:Nat=>PyData.int (n:Int)))=true:=FI fun d hd=>by
 obtain ⟨x,hx,rfl⟩:=mem_map.mp hd;exact ⟨by rw [PyData.canLay0],by simp [PyData.depth]⟩
theorem LY:SeqAt.shaped (.list [])=true:=by decide +kernel
noncomputable def uni (due:Aa) (ns:List Str):Nat:=Ao (due.map fun p=>if inV (.str p.1) (ns.map V.str) then p.2 else 0)
theorem MX (x:Str) (ns:List Str):inV (.str x) (ns.map V.str)=ns.any (· == x):=by
 unfold inV;rw [any_map];rfl
theorem Gk {p:Str × Nat} (nd:(due.map (·.1)).Nodup) (h:p ∈ due):look due p.1=p.2:=by
 induction due with
 | nil=>cases h
 | cons q r ih =>
  rw [map_cons,nodup_cons] at nd;unfold look;by_cases e:q.1=p.1
  ·rw [List.find?_cons_of_pos (by simpa using e)];rcases mem_cons.mp h with z | z
   ·subst z; rfl
   ·exact absurd (mem_map.mpr ⟨p,z,e.symm⟩) nd.1
  ·rw [List.find?_cons_of_neg (by simpa using e)];rcases mem_cons.mp h with z | z
   ·subst z; exact absurd rfl e
   ·exact ih nd.2 z
theorem SK {ns:List Str} (nd:(due.map (·.1)).Nodup) (hs:∀ x ∈ ns,x ∈ due.map (·.1)):uni due ns=Ao (ns.map (look due)):=by
 refine Nat.eq_of_testBit_eq fun k=>?_;unfold uni;rw [CQ,CQ,any_map,any_map,Bool.eq_iff_iff,any_eq_true,any_eq_true];constructor
 ·rintro ⟨p,hp,hb⟩;simp only [Function.comp] at hb;by_cases hi:inV (.str p.1) (ns.map V.str)=true
  ·rw [if_pos hi] at hb;rw [MX,any_eq_true] at hi;obtain ⟨x,hx,e⟩:=hi;have e':x=p.1:=by simpa using e
   subst e';exact ⟨p.1,hx,by simp only [Function.comp]; rw [Gk nd hp]; exact hb⟩
  ·rw [if_neg hi,Nat.zero_testBit] at hb;cases hb
 ·rintro ⟨x,hx,hb⟩;obtain ⟨p,hp,rfl⟩:=mem_map.mp (hs x hx);refine ⟨p,hp,?_⟩;simp only [Function.comp] at hb ⊢;rw [Gk nd hp] at hb;rw [if_pos (by rw [MX,any_eq_true]; exact ⟨p.1,hx,by simp⟩)];exact hb
theorem J0 {rows:List (Str × Th)} {r:Str × Th} (h:CJ rows) (hr:MQ (AV rows) r):CJ (rows++[r]):=by
 intro i q e;rcases Nat.lt_trichotomy i rows.length with z | z | z
 ·rw [List.getElem?_append_left z] at e;rw [List.take_append_of_le_length (Nat.le_of_lt z)];exact h i q e
 ·subst z;rw [List.getElem?_append_right (Nat.le_refl _),Nat.sub_self] at e;have:r=q:=by simpa using e
  subst this;rw [List.take_append_of_le_length (Nat.le_refl _),take_length];exact hr
 ·rw [List.getElem?_eq_none (by rw [length_append,length_singleton]; omega)] at e;cases e
theorem Gm {rows:List (Str × Th)} (h:CJ rows) (h10:rows.length <= 10):DueOk (AV rows):=by
 have key:∀ n,n <= rows.length->DueOk (AV (rows.take n)):=by
  intro n;induction n with
  | zero=>intro _; rw [List.take_zero]; exact ⟨by decide,(fun p hp=>nomatch hp),nodup_nil,(fun p hp=>nomatch hp)⟩
  | succ n ih =>
   intro hn;have D:=ih (by omega);have hq:rows[n]?=some rows[n]:=List.getElem?_eq_getElem (by omega);have R:=h n _ hq;rw [take_add_one,hq,Option.toList_some,CS];refine ⟨?_,fun p hp=>?_,?_,fun p hp=>?_⟩
   ·rw [length_append,length_singleton]; have:=R.few; omega
   ·rcases mem_append.mp hp with z | z
    ·exact D.lt p z
    ·rw [mem_singleton] at z; subst z; exact R.lt
   ·rw [map_append];refine List.nodup_append.mpr ⟨D.nd,nodup_cons.mpr ⟨not_mem_nil,nodup_nil⟩,?_⟩;intro x hx y hy;have ey:y=(rows[n]).1:=by simpa using hy
    subst ey;exact fun z=>R.new (z ▸ hx)
   ·rcases mem_append.mp hp with z | z
    ·exact D.nm p z
    ·rw [mem_singleton] at z; subst z; exact R.nm
 have:=key rows.length (Nat.le_refl _);rw [take_length] at this;exact this
theorem SL {A B:TT} {σ:St} {Q:Bool->Hp->Prop} (p q:Bool) (hA:∀ Q':Bool->Hp->Prop,Q' p H->A σ H Q') (hB:∀ Q':Bool->Hp->Prop,Q' q H->B σ H Q') (h:Q (p || q) H):tOr A B σ H Q:=by
 refine hA _ ?_;cases p with
 | true=>exact Em h
 | false=>exact BG (hB _ h)
theorem Qs {A B:TT} {σ:St} {Q:Bool->Hp->Prop} (p q:Bool) (hA:∀ Q':Bool->Hp->Prop,Q' p H->A σ H Q') (hB:∀ Q':Bool->Hp->Prop,(∀ H',Same H H'->Q' q H')->B σ H Q') (h:∀ H',Same H H'->Q (p && q) H'):Sj A B σ H Q:=by
 refine hA _ ?_;cases p with
 | true=>exact Em (hB _ h)
 | false=>exact BG (h _ (Same.refl _))
theorem Hs {p:Addr} (s:Same H H') (h:H' p=none):H p=none:=by
 cases e:H p with
 | none=>rfl
 | some o=>rw [s _ _ e] at h; cases h
theorem CK {X:Cx} {x:Str} {j} {p:Pos} {es:List Expr} {t:TA} (h:PA X es t):PA X (.Constant (.str x) j p :: es) (Al (tC (.str x)) t):=AA Af h
theorem Nf {X:Cx} {x0 x1 x2 x3 x4 x5 x6 x7 x8 x9:Str} {j0} {j1} {j2} {j3} {j4} {j5} {j6} {j7} {j8} {j9} {p0 p1 p2 p3 p4 p5 p6 p7 p8 p9:Pos}:PA X [.Constant (.str x0) j0 p0,.Constant (.str x1) j1 p1,.Constant (.str x2) j2 p2,.Constant (.str x3) j3 p3,.Constant (.str x4) j4 p4,.Constant (.str x5) j5 p5,.Constant (.str x6) j6 p6,.Constant (.str x7) j7 p7,.Constant (.str x8) j8 p8,.Constant (.str x9) j9 p9] (Al (tC (.str x0)) (Al (tC (.str x1)) (Al (tC (.str x2)) (Al (tC (.str x3)) (Al (tC (.str x4)) (Al (tC (.str x5)) (Al (tC (.str x6)) (Al (tC (.str x7)) (Al (tC (.str x8)) (Al (tC (.str x9)) (Cz))))))))))):=CK (CK (CK (CK (CK (CK (CK (CK (CK (CK (AC))))))))))
theorem DQ {bs:List Addr} {i:Nat} {v:V} (h:TupsAt H bs (Ch due)) (e:(bs.map V.ref)[i]?=some v):∃ b p,v=.ref b/\bs[i]?=some b/\due[i]?=some p/\H b=some (.tup [.str p.1,.int (p.2:Int)]):=by
 rw [getElem?_map] at e
 obtain ⟨b,hb,rfl⟩:∃ b,bs[i]?=some b/\v=V.ref b:=by
  cases q:bs[i]? with
  | none=>rw [q] at e; cases e
  | some x=>rw [q] at e; exact ⟨x,rfl,(Option.some.inj e).symm⟩
 obtain ⟨pq,hpq,ai⟩:=Jy h hb;unfold Ch at hpq;rw [getElem?_map] at hpq
 obtain ⟨pr,hpr,rfl⟩:∃ q,due[i]?=some q/\pq=(V.str q.1,V.int (q.2:Int)):=by
  cases q:due[i]? with
  | none=>rw [q] at hpq; cases hpq
  | some x=>rw [q] at hpq; exact ⟨x,rfl,(Option.some.inj hpq).symm⟩
 exact ⟨b,pr,rfl,hb,hpr,ai⟩
noncomputable def wordsL:List Str:=["A", "B", "CD", "EFG", "H", "IJKLMN", "O", "P", "Q", "R"]
theorem Pf:∀ x ∈ wordsL,TF x:=by
 have:∀ x ∈ wordsL,(G3 x && x.cps.all (· < 128) && decide (x.length <= 1000))=true:=by decide +kernel
 intro x hx;have:=this x hx;simp only [Bool.and_eq_true,decide_eq_true_eq] at this;exact ⟨this.1.1,this.1.2,this.2⟩
theorem Ng:∀ i:Fin 10,(wordsL[i.1]?.map fun x=>decide (x ∈ wordsL.take i.1))=some false:=by decide +kernel
structure LW (d w f u:Addr) (H0 H:Hp) (rows:List (Str × Th)):Prop where
 old:∀ b o,H0 b=some o->b ≠ d->H b=some o
 dice:∃ a b:Int,H d=some (.lst [.int a,.int b])
 words:H w=some (.lst (wordsL.map V.str))
 found:∃ as:List Addr,H f=some (.lst (as.map V.ref))/\Paired (RowAt H) as rows
 due:∃ bs:List Addr,H u=some (.lst (bs.map V.ref))/\TupsAt H bs (Ch (AV rows))
structure Ap (d w f u:Addr) (H0:Hp):Prop where
 wd:w ≠ d
 fd:f ≠ d
 ud:u ≠ d
 wf:w ≠ f
 wu:w ≠ u
 fu:f ≠ u
 nf:H0 f=none
 nu:H0 u=none
section
variable {d w u:Addr} {H0:Hp} {rows:List (Str × Th)}
theorem LW.same (h:LW d w f u H0 H rows) (s:Same H H'):LW d w f u H0 H' rows:=by
 obtain ⟨a,b,e⟩:=h.dice;obtain ⟨as,e1,p1⟩:=h.found;obtain ⟨bs,e2,p2⟩:=h.due;exact ⟨fun c o ec hc=>s _ _ (h.old c o ec hc),⟨a,b,s _ _ e⟩,s _ _ h.words,⟨as,s _ _ e1,BR (SameT.of s) p1⟩,⟨bs,s _ _ e2,TupsAt.sameT (SameT.of s) p2⟩⟩
theorem LW.roll (A:Ap d w f u H0) (h:LW d w f u H0 H rows) (a' b':Int):LW d w f u H0 (upd H d (.lst [.int a',.int b'])) rows:=by
 obtain ⟨a,b,e⟩:=h.dice;obtain ⟨as,e1,p1⟩:=h.found;obtain ⟨bs,e2,p2⟩:=h.due;have t:SameT H (upd H d (.lst [.int a',.int b'])):=SameT.upd e;exact ⟨fun c o ec hc=>by rw [AG hc]; exact h.old c o ec hc,⟨a',b',AB⟩,by rw [AG A.wd]; exact h.words,⟨as,by rw [AG A.fd]; exact e1,BR t p1⟩,⟨bs,by rw [AG A.ud]; exact e2,TupsAt.sameT t p2⟩⟩
end
theorem CT {rows:List (Str × Th)} {bs:List Addr} (h:TupsAt H bs (Ch (AV rows))):bs.length=rows.length:=by
 rw [h.length]; unfold Ch; rw [AK,BC]
theorem J1 (rows:List (Str × Th)):(AV rows).map (·.1)=rows.map (·.1):=by
 have:∀ (l:List (Str × Th)) (a:Aa),((l.foldl (fun due r=>due++[(r.1,CA due r.2)]) a).map (·.1))=a.map (·.1)++l.map (·.1):=by
  intro l;induction l with
  | nil=>intro a; simp
  | cons x r ih=>intro a; rw [foldl_cons,ih,map_append]; simp
 have e:=this rows [];unfold AV;rw [e]; rfl
noncomputable def T6:St->Nat
 | [_,_,_,_,_,_,_,_,_,some (.int i),_,_]=>(2 ^ 22 - i).toNat
 | _=>0
section
def Ih:Sp:=fun vs H Q _=>∃ (d:Addr) (a b M:Int),vs=[.ref d,.int M]/\1 <= M/\M <= 10/\H d=some (.lst [.int a,.int b]) /\
 ∀ (q f u:Addr) (as bs:List Addr) (rows:List (Str × Th)) H',SameX d H H'->H' q=some (.tup [.ref f,.ref u])->H f=none->H u=none->H' f=some (.lst (as.map V.ref))->Paired (RowAt H') as rows->H' u=some (.lst (bs.map V.ref))->TupsAt H' bs (Ch (AV rows)) ->
  0 < rows.length->(rows.length:Int) <= M->CJ rows->(∀ x ∈ rows.map (·.1),x ∈ wordsL)->Q (.ref q) H'
noncomputable abbrev SM:List Str:=["_law_dice", "_law_most", "_law_words", "_law_found", "_law_due", "_law_at", "_law_high", "_law_kind", "_law_thing", "_law_number", "_law_name", "_law_more"]
@[irreducible] noncomputable def LZ:Expr:=match defBody Bg with | .Assign _ (.Tuple (e :: _) _ _) _ :: _=>e | _=>.Constant .none 0 ⟨0,0,0,0⟩
noncomputable abbrev Qt:Stmt:=match defBody Bg with | .Assign t (.Tuple (_ :: r) k p) q :: _=>.Assign t (.Tuple (LZ :: r) k p) q | _=>.Pass ⟨0,0,0,0⟩
noncomputable abbrev SN:List Stmt:=(defBody Bg).drop 1
theorem SO:defBody Bg=Qt :: SN:=by kernel_rfl
theorem Nh {X:Cx}:PE X LZ (Sw (Al (tC (.str "A")) (Al (tC (.str "B")) (Al (tC (.str "CD")) (Al (tC (.str "EFG")) (Al (tC (.str "H")) (Al (tC (.str "IJKLMN")) (Al (tC (.str "O")) (Al (tC (.str "P")) (Al (tC (.str "Q")) (Al (tC (.str "R")) (Cz)))))))))))):=by
 unfold LZ;exact A7 Nf
theorem scLines:AL SM ["_law_dice", "_law_most"] (defScope Bg):=fsc
theorem Pg {f0:Addr} (F:Fun K "_law_lines" "_law_lines" Bg f0 fd) (B:Bl mg) (GR:Fn P w K mg base "_law_roll" 2 ["_law_dice", "_law_many"] Gf):FnOk P w K mg base CX0 3 f0 fd ["_law_dice", "_law_most"] Ih:=by
 obtain ⟨fR,dR,GR,mR,kR,bR⟩:=GR.ex;refine F.m scLines fun vs H Q E h=>?_;obtain ⟨d,a,b,M,rfl,M1,M10,hd,k⟩:=h;refine ⟨rfl,fun ad A outer s hr=>?_⟩;have hu64:=hr.units;have nd:=scLines.nd;rw [SO]
 refine ⟨_,AF (Ct (hs:=by kernel_rfl) (hw:=by kernel_rfl) (Be (AA (hs:=by kernel_rfl) Nh (AA (A7 AC) (AA (A7 AC) AC))))
   (Bx rfl (Ad (AZ (i:=2) scLines.nd rfl (Or.inl rfl)) (Ad (AZ (i:=3) scLines.nd rfl (Or.inl rfl)) (Ad (AZ (i:=4) scLines.nd rfl (Or.inr rfl)) BV)))))
  (AF (Cu PassesOwn.never rfl (CN rfl B.range (AA (AQ Cy AI (AH GR hr rfl mR kR bR .nil AM (AA (pv 0) (AA (pv 1) AC)))) AC)) (AZ (i:=5) scLines.nd rfl (Or.inl rfl))
   (Ay (Aj (i:=6) scLines.nd rfl (Or.inl rfl) (MC rfl rfl B.max (JJ [] [] (by kernel_rfl) (by decide +kernel) (by kernel_rfl) (by kernel_rfl) rfl (BF (pv 4)) (fun _ _ _ _ _ _=>B8) (fun _ _ _ _ _ _=>pv 1)) AI))
   (AF (Aj (i:=7) scLines.nd rfl (Or.inl rfl) (AH GR hr rfl mR kR bR .nil AM (AA (pv 0) (AA AI AC))))
   (AF (Ct (hs:=by kernel_rfl) (hw:=by kernel_rfl) (Be (AA Rg (AA AI AC))) (Bx rfl (Ad (AZ (i:=8) scLines.nd rfl (Or.inl rfl)) (Ad (AZ (i:=9) scLines.nd rfl (Or.inl rfl)) BV))))
   (Ay (N2 PassesOwn.never (AW FB (pv 9) (pv 6) (Ac _)) (AE (Aj (i:=9) scLines.nd rfl (Or.inl rfl) (AQ Fi (pv 9) AI))))
   (Ay (At (PW.pt (FA (AW DU (pv 7) AI (Ac _)) (Cq (AW RQ (pv 9) (AQ KS AI AI) (Ac _)))))
     (AF (Aj (i:=8) scLines.nd rfl (Or.inl rfl) (By (Az K rfl) (A7 (AA (AQ Fj AI (AH GR hr rfl mR kR bR .nil AM (AA (pv 0) (AA AI AC)))) (AA (AH GR hr rfl mR kR bR .nil AM (AA (pv 0) (AA AI AC)))
      (AA (AQ Fj AI (AH GR hr rfl mR kR bR .nil AM (AA (pv 0) (AA AI AC)))) (AA AI AC))))) (AH GR hr rfl mR kR bR .nil AM (AA (pv 0) (AA AI AC))) (fun _ _=>rfl)))
     (AE (Aj (i:=9) scLines.nd rfl (Or.inl rfl) (pv 8)))) AY)
   (Ay (At (PW.pt (Hx (AW N9 (pv 7) AI (Ac _)) (FS (AW (Dg K rfl hu64) (pv 4) (A7 AC) (Ac _)))))
     (AF (Aj (i:=8) scLines.nd rfl (Or.inl rfl) (Bt Gw rfl B.tuple GZ (AA (A9 ["_law_due", "_law_dice"] [some 4,some 0] (by kernel_rfl) (by decide +kernel) (by kernel_rfl) rfl (CN rfl B.range (AA (AQ Cy AI (AH GR hr rfl mR kR bR .nil AM (AA (pv 0) (AA AI AC)))) AC)) (fun _ _ _ _ _ _=>B8)
      (fun _ _ _ _ _ _=>By (MP K rfl) (By (Az K rfl) (pv 1) (AH GR hr rfl mR kR bR .nil AM (AA (pv 2) (AA (Ab (Bh K rfl) rfl B.len PySem.boot_len (AA (pv 1) AC)) AC))) (fun _ _=>rfl)) AI (fun _ _=>rfl))) AC)))
     (AF (Aj (i:=9) scLines.nd rfl (Or.inl rfl) AI)
     (AE (Cu PassesOwn.never rfl (BF (pv 4)) (Bx rfl (Ad (AZ (i:=10) scLines.nd rfl (Or.inl rfl)) (Ad (AZ (i:=11) scLines.nd rfl (Or.inl rfl)) BV)))
      (AE (Aj (i:=9) scLines.nd rfl (Or.inl rfl) (AQ Lo (pv 9) (Nx (AW Ek (pv 10) (pv 8) rfl) (pv 11) AI)))))))) AY)
   (AF (FU (Ly PySem.F.plainAttrs_list PySem.F.slot_list_append PySem.F.type_list_append HH (pv 3) (AA (Be (AA (By (Az K rfl) (pv 2) (pv 5) (fun _ _=>rfl)) (AA (pv 8) AC))) AC)))
   (AE (FU (Ly PySem.F.plainAttrs_list PySem.F.slot_list_append PySem.F.type_list_append HH (pv 4) (AA (Be (AA (By (Az K rfl) (pv 2) (pv 5) (fun _ _=>rfl)) (AA (pv 9) AC))) AC))))))))))))
  (AE (AO (Be (AA (pv 3) (AA (pv 4) AC)))))),?_⟩
 refine ⟨(by show 10 <= sizeLine; decide),fun pw hpw=>⟨Nat.zero_le _,fun pf hpf=>⟨Nat.zero_le _,fun pu hpu=>⟨sl3,fun q0 hq0=>?_⟩⟩⟩⟩;refine ⟨q0,_,rfl,SqT.of AB,rfl,_,_,rfl,_,_,rfl,_,_,rfl,rfl,?_⟩;have dw:pw ≠ d:=Ne.symm (AJ hd hpw);have s1:Same H (upd H pw (.lst (wordsL.map V.str))):=AD (Same.refl _) hpw;have s2:Same (upd H pw (.lst (wordsL.map V.str))) (upd (upd H pw (.lst (wordsL.map V.str))) pf (.lst [])):=AD (Same.refl _) hpf;have s3:Same (upd (upd H pw (.lst (wordsL.map V.str))) pf (.lst [])) (upd (upd (upd H pw (.lst (wordsL.map V.str))) pf (.lst [])) pu (.lst [])):=AD (Same.refl _) hpu;have s4:=AD (Same.refl _) hq0 (o:=HO.tup [.ref pw,.ref pf,.ref pu]);have nf0:H pf=none:=Hs s1 hpf;have nu0:H pu=none:=Hs (s1.trans s2) hpu;have AP:Ap d pw pf pu H:=⟨dw,Ne.symm (AJ hd nf0),Ne.symm (AJ hd nu0),AJ AB hpf,AJ (s2 _ _ AB) hpu,AJ AB hpu,nf0,nu0⟩;have L0:LW d pw pf pu H _ []:=⟨fun b o e _=>s4 _ _ (s3 _ _ (s2 _ _ (s1 _ _ e))),⟨a,b,s4 _ _ (s3 _ _ (s2 _ _ (s1 _ _ hd)))⟩,s4 _ _ (s3 _ _ (s2 _ _ AB)),⟨[],s4 _ _ (s3 _ _ AB),.nil⟩,⟨[],s4 _ _ AB,.nil⟩⟩;obtain ⟨a1,b1,hd1⟩:=L0.dice;refine ⟨_,rfl,_,rfl,d,a1,b1,M,rfl,hd1,by omega,by omega,fun r a' b' h0 h1=>?_⟩;refine ⟨_,_,rfl,rfl,_,rfl,by omega,by omega,?_⟩
 refine Mj (lo:=0) (n:=(1 + r).toNat) (fun i σ H2=>∃ (v5 v6 v7 v8 v9 v10 v11:Option V) (rows:List (Str × Th)),σ=[some (.ref d),some (.int M),some (.ref pw),some (.ref pf),some (.ref pu),v5,v6,v7,v8,v9,v10,v11]/\rows.length=i/\CJ rows/\rows.map (·.1)=wordsL.take i/\LW d pw pf pu H H2 rows)
  ⟨none,none,none,none,none,none,none,[],rfl,rfl,(fun i r e=>by simp at e),rfl,L0.roll AP a' b'⟩ ?_ ?_
 ·rintro i σ H2 hi ⟨v5,v6,v7,v8,v9,v10,v11,rows,rfl,a0,RO,ce,L⟩;have hi10:i < 10:=by omega
  have DO:DueOk (AV rows):=Gm RO (by omega);generalize bw:Cp ((AV rows).map (·.2))=bc
  have hh20:bc < 2 ^ 20:=by
   rw [← bw];exact Jq (by decide) fun n hn=>by obtain ⟨p,hp,rfl⟩:=mem_map.mp hn; exact DO.lt p hp
  refine ⟨fun σ H3=>σ=[some (.ref d),some (.int M),some (.ref pw),some (.ref pf),some (.ref pu),some (.int (0 + (i:Int))),some (.int (bc:Int)),v7,v8,v9,v10,v11]/\LW d pw pf pu H H3 rows,fun R hR=>?_,?_⟩
  ·obtain ⟨bs,hu,am⟩:=L.due;have hbl:=CT am;refine ⟨_,rfl,pu,rfl,⟨_,SqL.of hu⟩,Bv (K:=K) (a:=pu) (xs:=bs.map V.ref) (fun j ys H3=>ys=AS (((AV rows).take j).map (·.2))/\H3=H2) ⟨by rfl,rfl⟩ (fun j ys H3 _ ⟨_,e⟩=>e ▸ SqL.of hu) (fun j ys H3 ⟨e,_⟩=>?_) ?_ ?_⟩
   ·rw [e]; unfold AS; rw [AK,AK,length_take,BC]; omega
   ·rintro j v ys H3 hj ⟨rfl,rfl⟩;obtain ⟨bb,p,rfl,hb1,aj,ai⟩:=DQ am hj;refine ⟨bb,_,rfl,SqT.of ai,rfl,_,_,rfl,_,_,rfl,rfl,?_⟩;refine ⟨_,rfl,?_,rfl⟩;rw [take_add_one,aj,Option.toList_some,map_append];unfold AS;rw [map_append];rfl
   ·rintro ys H3 ⟨rfl,rfl⟩ p hp;have sp:=AD (Same.refl _) hp (o:=HO.lst (AS (((AV rows).take (bs.map V.ref).length).map (·.2))));have el:(AV rows).take (bs.map V.ref).length=AV rows:=by rw [AK,hbl,← BC,take_length]
    refine ⟨p,((AV rows).map (·.2)).map (fun n:Nat=>(n:Int)),0,rfl,rfl,SqL.of (by rw [AB,el,ET]),fun e=>?_,fun e=>?_⟩
    ·refine hR _ _ ⟨?_,L.same sp⟩;have:(AV rows).map (·.2)=[]:=List.map_eq_nil_iff.mp e;rw [this] at bw;subst bw;rfl
    ·refine hR _ _ ⟨?_,L.same sp⟩;have ax:(AV rows).map (·.2) ≠ []:=fun z=>e (by rw [z]; rfl);rw [Jr ax,bw];rfl
  ·rintro σ H3 ⟨rfl,L3⟩;obtain ⟨a3,b3,hd3⟩:=L3.dice;refine ⟨_,rfl,d,a3,b3,8,rfl,hd3,by decide,by decide,fun kd a4 b4 kd0 kd1=>?_⟩;have L4:=L3.roll AP a4 b4;refine ⟨sl2,fun q hq=>⟨q,_,rfl,SqT.of AB,rfl,_,_,rfl,_,_,rfl,rfl,?_⟩⟩;have L5:=L4.same (AD (Same.refl _) hq (o:=HO.tup [V.non,V.int 1]));refine ⟨fun σ H6=>σ=[some (.ref d),some (.int M),some (.ref pw),some (.ref pf),some (.ref pu),some (.int (0 + (i:Int))),some (.int (bc:Int)),some (.int kd),some .non,some (.int (BB bc:Nat)),v10,v11]/\LW d pw pf pu H H6 rows,fun R hR=>?_,?_⟩
   ·refine N5 (fun σ H6=>LW d pw pf pu H H6 rows/\∃ j:Nat,j <= 20/\σ=[some (.ref d),some (.int M),some (.ref pw),some (.ref pf),some (.ref pu),some (.int (0 + (i:Int))),some (.int (bc:Int)),some (.int kd),some .non,some (.int ((2 ^ j:Nat):Int)),v10,v11]/\(j=0\/2 ^ (j - 1) <= bc)) (fun σ _=>T6 σ) ⟨L5,0,by omega,rfl,.inl rfl⟩ ?_ ?_
    ·rintro σ H6 ⟨L6,j,hj,rfl,hjj⟩;refine ⟨_,rfl,_,rfl,_,_,rfl,rfl,_,rfl,?_⟩;refine BX (fun hle=>?_) (fun hle=>?_)
     ·have hle':2 ^ j <= bc:=by have:=of_decide_eq_true hle; exact_mod_cast this
      have hj20:j < 20:=(Nat.pow_lt_pow_iff_right (by decide)).mp (Nat.lt_of_le_of_lt hle' hh20);refine ⟨_,rfl,_,_,rfl,rfl,.inr ⟨by decide,by decide⟩,?_⟩;have e2:(((2 ^ j:Nat):Int) * 2)=((2 ^ (j + 1):Nat):Int):=by rw [Nat.pow_succ]; omega
      refine ⟨⟨L6,j + 1,by omega,?_,.inr hle'⟩,?_⟩
      ·show [some (V.ref d),some (V.int M),some (V.ref pw),some (V.ref pf),some (V.ref pu),some (V.int (0 + (i:Int))),some (V.int (bc:Int)),some (V.int kd),some V.non,some (V.int (((2 ^ j:Nat):Int) * 2)),v10,v11]=_;rw [e2]
      ·show (2 ^ 22 - (((2 ^ j:Nat):Int) * 2)).toNat < (2 ^ 22 - ((2 ^ j:Nat):Int)).toNat;have h1:0 < 2 ^ j:=Nat.two_pow_pos j;have h2:2 ^ j <= 2 ^ 20:=Nat.pow_le_pow_right (by decide) hj;omega
     ·have hgt:bc < 2 ^ j:=by
       have:¬ ((2 ^ j:Nat):Int) <= (bc:Int):=fun z=>hle (decide_eq_true z);omega
      refine hR _ _ ⟨?_,L6⟩;rw [Jp hgt hjj]
    ·rintro σ H6 Q1 Q2 hQ ⟨v,e1,v2,e2,i,j,a,b,c,ec,q⟩;exact ⟨v,e1,v2,e2,i,j,a,b,c,ec,hQ _ _ q⟩
   ·rintro σ H6 ⟨rfl,L6⟩;have hsig:∀ (tv nv w10 w11:V),True:=fun _ _ _ _=>trivial;refine ⟨fun σ H7=>∃ (tv:V) (th:Th) (w10 w11:Option V),σ=[some (.ref d),some (.int M),some (.ref pw),some (.ref pf),some (.ref pu),some (.int (0 + (i:Int))),some (.int (bc:Int)),some (.int kd),some tv,some (.int (CA (AV rows) th:Nat)),w10,w11]/\LW d pw pf pu H H7 rows/\ThAt H7 tv th/\Qh (AV rows) th/\CA (AV rows) th < 2 ^ 20,fun R hR=>?_,?_⟩
    ·refine SL (decide (V.int kd=V.int 5)) (decide ((2:Int) ^ (20:Int).toNat <= (BB bc:Nat))) (fun Q' h=>⟨_,rfl,rfl,_,rfl,h⟩) (fun Q' h=>⟨_,rfl,_,_,rfl,rfl,⟨by decide,by decide,by decide⟩,_,_,rfl,rfl,_,rfl,h⟩) ?_;refine BX (fun _=>?_) (fun hc=>?_)
     ·obtain ⟨x1,y1,e1⟩:=L6.dice;refine ⟨_,rfl,d,x1,y1,8,rfl,e1,by decide,by decide,fun r1 a1 b1 r10 r11=>?_⟩;have M1:=L6.roll AP a1 b1;refine ⟨_,_,rfl,rfl,⟨r10,by omega,by decide⟩,?_⟩;obtain ⟨x2,y2,e2⟩:=M1.dice;refine ⟨_,rfl,d,x2,y2,64,rfl,e2,by decide,by decide,fun r2 a2 b2 r20 r21=>?_⟩;have M2:=M1.roll AP a2 b2;obtain ⟨x3,y3,e3⟩:=M2.dice;refine ⟨_,rfl,d,x3,y3,20,rfl,e3,by decide,by decide,fun r3 a3 b3 r30 r31=>?_⟩;have M3:=M2.roll AP a3 b3;refine ⟨_,_,rfl,rfl,⟨r30,by omega,by decide⟩,?_⟩;refine ⟨sl4,fun p hp=>?_⟩;have M4:=M3.same (AD (Same.refl _) hp (o:=HO.lst [V.int (1 * 2 ^ r1.toNat),V.int r2,V.int (1 * 2 ^ r3.toNat),V.int 0]));obtain ⟨x4,y4,e4⟩:=M4.dice;have npd:p ≠ d:=Ne.symm (AJ AB hp);refine ⟨_,rfl,d,x4,y4,4,rfl,e4,by decide,by decide,fun r4 a4 b4 r40 r41=>?_⟩;have M5:=M4.roll AP a4 b4;obtain ⟨v,hv,hv2⟩:=Ie (xs:=[V.int (1 * 2 ^ r1.toNat),V.int r2,V.int (1 * 2 ^ r3.toNat),V.int 0]) r40 (by show r4 < 4; exact r41)
      have hin:∃ n:Nat,v=.int (n:Int)/\n < 2 ^ 20:=by
       have:=mem_of_getElem? hv2;simp only [mem_cons,not_mem_nil,or_false] at this;rcases this with z | z | z | z
       ·refine ⟨2 ^ r1.toNat,by rw [z]; simp,?_⟩;exact (Nat.pow_lt_pow_iff_right (by decide)).mpr (by omega)
       ·exact ⟨r2.toNat,by rw [z,Int.toNat_of_nonneg r20],by omega⟩
       ·refine ⟨2 ^ r3.toNat,by rw [z]; simp,?_⟩;exact (Nat.pow_lt_pow_iff_right (by decide)).mpr (by omega)
       ·exact ⟨0,z,by decide⟩
      obtain ⟨n,rfl,hn⟩:=hin;refine ⟨p,_,r4,_,rfl,rfl,SqL.of (by rw [AG npd]; exact AB),hv,?_⟩;exact ⟨_,rfl,hR _ _ ⟨.int (n:Int),.num n,v10,v11,rfl,M5,rfl,trivial,hn⟩⟩
     ·refine hR _ _ ⟨.non,.non,v10,v11,?_,L6,rfl,trivial,?_⟩
      ·show _=[some (V.ref d),some (V.int M),some (V.ref pw),some (V.ref pf),some (V.ref pu),some (V.int (0 + (i:Int))),some (V.int (bc:Int)),some (V.int kd),some V.non,some (V.int ((BB (Cp ((AV rows).map (·.2))):Nat):Int)),v10,v11];rw [bw]
      ·show BB (Cp ((AV rows).map (·.2))) < 2 ^ 20;rw [bw];have h2:¬ ((2:Int) ^ (20:Int).toNat <= (BB bc:Nat)):=fun z=>hc (by rw [decide_eq_true z,Bool.or_true]);have h3:((2:Int) ^ (20:Int).toNat)=1048576:=by decide
       omega
    ·rintro σ H7 ⟨tv,th,w10,w11,rfl,L7,hT,hTO,hlt⟩;obtain ⟨bs,hu,am⟩:=L7.due;have hbl:=CT am;refine ⟨fun σ H8=>∃ (tv:V) (th:Th) (w10 w11:Option V),σ=[some (.ref d),some (.int M),some (.ref pw),some (.ref pf),some (.ref pu),some (.int (0 + (i:Int))),some (.int (bc:Int)),some (.int kd),some tv,some (.int (CA (AV rows) th:Nat)),w10,w11]/\LW d pw pf pu H H8 rows/\ThAt H8 tv th/\Qh (AV rows) th/\CA (AV rows) th < 2 ^ 20,fun R hR=>?_,?_⟩
     ·refine Qs (decide ((5:Int) < kd)) (!(D0 (AV rows)).isEmpty) (fun Q' h=>⟨_,rfl,_,_,rfl,rfl,_,rfl,h⟩) (fun Q' h=>⟨_,rfl,Nat.zero_le _,fun p hp=>?_⟩) (fun H8 s8=>?_)
      ·have sp:=AD (Same.refl _) hp (o:=HO.lst []);refine ⟨.list (D0 (AV rows)),.list [],Aq (sp _ _ hu) (EZ (TupsAt.sameT (SameT.of sp) am)),Aq AB MU,DF fun p hp=>(DO.nm p hp).2.1,LY,_,rfl,?_⟩;rw [MW];exact h _ sp
      ·refine BX (fun hc=>?_) (fun hc=>?_)
       ·have ax:0 < bs.length:=by
         rw [Bool.and_eq_true] at hc;have h2:=hc.2;rw [hbl,← BC];cases hz:AV rows with
         | nil=>rw [hz] at h2; cases h2
         | cons x r=>simp
        have L8:=L7.same s8;obtain ⟨x1,y1,e1⟩:=L8.dice;refine ⟨_,rfl,d,x1,y1,3,rfl,e1,by decide,by decide,fun r1 a1 b1 r10 r11=>?_⟩;have M1:=L8.roll AP a1 b1;refine ⟨_,_,rfl,rfl,_,rfl,by omega,by omega,?_⟩;refine Cc (lo:=0) (n:=(1 + r1).toNat) (fun j ys H9=>∃ ns:List Str,ys=ns.map V.str/\ns.length=j/\j <= 3/\(∀ x ∈ ns,x ∈ (AV rows).map (·.1))/\LW d pw pf pu H H9 rows) ⟨[],rfl,rfl,by decide,(fun x hx=>nomatch hx),M1⟩ ?_ ?_ ?_
        ·rintro j ys H9 ⟨ns,rfl,e,h3,_⟩;rw [AK]; omega
        ·rintro j ys H9 hj ⟨ns,rfl,e,h3,hin,L9⟩;obtain ⟨x2,y2,e2⟩:=L9.dice;obtain ⟨cs,hu9,az⟩:=L9.due;have af:=CT az;have aq:(cs.map V.ref).length=bs.length:=by rw [AK,af,hbl]
         refine ⟨_,rfl,_,rfl,_,rfl,pu,_,rfl,.inl (SqL.of hu9),d,x2,y2,_,rfl,e2,by rw [aq]; omega,by rw [aq]; omega,fun r2 a2 b2 r20 r21=>?_⟩;have M2:=L9.roll AP a2 b2;have hu10:(upd H9 d (.lst [.int a2,.int b2])) pu=some (.lst (cs.map V.ref)):=by rw [AG AP.ud]; exact hu9
         have hcs2:TupsAt (upd H9 d (.lst [.int a2,.int b2])) cs (Ch (AV rows)):=TupsAt.sameT (SameT.upd e2) az;obtain ⟨v,hv,hv2⟩:=Ie (xs:=cs.map V.ref) r20 (by exact r21);obtain ⟨bb,p,rfl,_,aj,ai⟩:=DQ hcs2 hv2;refine ⟨pu,_,r2,_,rfl,rfl,SqL.of hu10,hv,bb,_,0,.str p.1,rfl,rfl,SqT.of ai,rfl,?_⟩;refine ⟨ns++[p.1],by rw [map_append]; rfl,by rw [length_append,e]; rfl,by omega,fun x hx=>?_,M2⟩;rcases mem_append.mp hx with z | z
         ·exact hin x z
         ·rw [mem_singleton] at z;subst z;exact mem_map.mpr ⟨p,mem_of_getElem? aj,rfl⟩
        ·rintro ys H9 ⟨ns,rfl,e,h3,hin,L9⟩ l hl;have L10:=L9.same (AD (Same.refl _) hl (o:=HO.lst (ns.map V.str)));refine ⟨l,_,rfl,.inl ⟨SqL.of AB,fun t ht=>?_⟩⟩;have L11:=L10.same (AD (Same.refl _) ht (o:=HO.tup (ns.map V.str)));obtain ⟨cs,hu11,az⟩:=L11.due;have af:=CT az;refine ⟨_,rfl,pu,rfl,⟨_,SqL.of hu11⟩,Cw (K:=K) (a:=pu) (xs:=cs.map V.ref) (fun j σ H12=>H12=upd (upd H9 l (.lst (ns.map V.str))) t (.tup (ns.map V.str))/\∃ w10 w11:Option V,σ=[some (.ref d),some (.int M),some (.ref pw),some (.ref pf),some (.ref pu),some (.int (0 + (i:Int))),some (.int (bc:Int)),some (.int kd),some (.ref t),some (.int (uni ((AV rows).take j) ns:Nat)),w10,w11]) ⟨rfl,w10,w11,rfl⟩ (fun j σ H12 _ ⟨e,_⟩=>e ▸ SqL.of hu11) ?_ ?_⟩
         ·rintro j v σ H12 hj ⟨rfl,w10,w11,rfl⟩;obtain ⟨bb,p,rfl,_,aj,ai⟩:=DQ az hj;refine ⟨bb,_,rfl,SqT.of ai,rfl,_,_,rfl,_,_,rfl,rfl,?_⟩;refine ⟨_,rfl,_,rfl,_,rfl,t,_,rfl,.inr (SqT.of AB),rfl,?_,_,rfl,?_⟩
          ·rw [all_map];exact List.all_eq_true.mpr fun _ _=>rfl
          ·have eu:uni ((AV rows).take (j + 1)) ns=uni ((AV rows).take j) ns ||| (if inV (.str p.1) (ns.map V.str) then p.2 else 0):=by
            unfold uni;rw [take_add_one,aj,Option.toList_some,map_append];exact Dm _ _
           refine BX (fun hc2=>?_) (fun hc2=>?_)
           ·refine ⟨_,rfl,_,_,rfl,rfl,rfl,some (.str p.1),some (.int (p.2:Int)),?_⟩;have hc3:inV (.str p.1) (ns.map V.str)=true:=hc2;rw [hc3,if_pos rfl] at eu;rw [eu,← Cd];rfl
           ·refine ⟨_,_,rfl,rfl,rfl,some (.str p.1),some (.int (p.2:Int)),?_⟩;have hc3:inV (.str p.1) (ns.map V.str)=false:=Bool.eq_false_iff.mpr hc2;rw [hc3,if_neg Bool.false_ne_true] at eu;rw [eu,← Cd];rfl
         ·rintro σ H12 ⟨rfl,w10,w11,rfl⟩;have el:(AV rows).take (cs.map V.ref).length=AV rows:=by rw [AK,af,← BC,take_length]
          have en:CA (AV rows) (.nms ns)=uni (AV rows) ns:=(SK DO.nd hin).symm;have eL:ns.length=(1 + r1).toNat:=e;refine hR _ _ ⟨.ref t,.nms ns,w10,w11,by rw [el,en],L11,⟨t,rfl,AB⟩,⟨?_,by omega,hin⟩,?_⟩
          ·intro z; subst z; simp at eL; omega
          ·show Ao (ns.map (look (AV rows))) < 2 ^ 20;refine F7 fun n hn=>?_;obtain ⟨x,hx,rfl⟩:=mem_map.mp hn;obtain ⟨p,hp,rfl⟩:=mem_map.mp (hin x hx);rw [Gk DO.nd hp];exact DO.lt p hp
       ·exact hR _ _ ⟨tv,th,w10,w11,rfl,L7.same s8,hT.same s8,hTO,hlt⟩
     ·rintro σ H8 ⟨tv,th,w10,w11,rfl,L8,hT,hTO,hlt⟩;obtain ⟨as,hf,hP⟩:=L8.found;have au:as.length=rows.length:=hP.length;have hw:wordsL[i]?=some wordsL[i]:=List.getElem?_eq_getElem hi10;generalize ap:wordsL[i]=wd at hw
      have hat:atI (wordsL.map V.str) (0 + (i:Int))=some (.str wd):=by
       have:(0:Int) + (i:Int)=((i:Nat):Int):=by omega
       rw [this];exact CZ (by rw [getElem?_map,hw]; rfl)
      refine ⟨_,rfl,.inl ⟨rfl,_,SqL.of hf⟩,_,rfl,_,rfl,pw,_,_,.str wd,rfl,rfl,SqL.of L8.words,hat,_,rfl,sl2,fun p hp=>?_⟩;have sp:=AD (Same.refl _) hp (o:=HO.tup [V.str wd,tv]);have hz1:(as.map V.ref).length < sizeLine:=Ae (by rw [AK]; omega);refine ⟨pf,_,.ref p,rfl,rfl,sp _ _ hf,hz1,?_⟩;have t1:SameT (upd H8 p (.tup [V.str wd,tv])) (upd (upd H8 p (.tup [V.str wd,tv])) pf (.lst (as.map V.ref++[.ref p]))):=SameT.upd (sp _ _ hf);obtain ⟨bs,hu,am⟩:=L8.due;have hbl:=CT am;have hu1:(upd (upd H8 p (.tup [V.str wd,tv])) pf (.lst (as.map V.ref++[.ref p]))) pu=some (.lst (bs.map V.ref)):=by rw [AG (Ne.symm AP.fu)]; exact sp _ _ hu
      have hw1:(upd (upd H8 p (.tup [V.str wd,tv])) pf (.lst (as.map V.ref++[.ref p]))) pw=some (.lst (wordsL.map V.str)):=by rw [AG AP.wf]; exact sp _ _ L8.words
      refine ⟨_,rfl,.inl ⟨rfl,_,SqL.of hu1⟩,_,rfl,_,rfl,pw,_,_,.str wd,rfl,rfl,SqL.of hw1,hat,_,rfl,sl2,fun q hq=>?_⟩;have sq:=AD (Same.refl _) hq (o:=HO.tup [V.str wd,V.int ((CA (AV rows) th:Nat):Int)]);have hz2:(bs.map V.ref).length < sizeLine:=Ae (by rw [AK]; omega);refine ⟨pu,_,.ref q,rfl,rfl,sq _ _ hu1,hz2,?_⟩;have t2:=SameT.upd (sq _ _ hu1) (ys:=bs.map V.ref++[.ref q]);have tall:=((SameT.of sp).trans t1).trans ((SameT.of sq).trans t2);obtain ⟨x,y,ed⟩:=L8.dice;have RR:MQ (AV rows) (wd,th):=⟨DO,by rw [BC]; omega,Pf wd (mem_of_getElem? hw),?_,hTO,hlt⟩;refine ⟨_,_,_,_,_,_,_,rows++[(wd,th)],rfl,by rw [length_append,a0]; rfl,J0 RO RR,?_,?_⟩
      ·rw [map_append,ce,take_add_one,hw,Option.toList_some]; rfl
      ·refine ⟨fun c o ec hc=>?_,⟨x,y,?_⟩,?_,⟨as++[p],?_,?_⟩,⟨bs++[q],?_,?_⟩⟩
       ·have n1:c ≠ pu:=AJ ec AP.nu;have n2:c ≠ pf:=AJ ec AP.nf;rw [AG n1];refine sq _ _ ?_;rw [AG n2];exact sp _ _ (L8.old c o ec hc)
       ·rw [AG (Ne.symm AP.ud)];refine sq _ _ ?_;rw [AG (Ne.symm AP.fd)];exact sp _ _ ed
       ·rw [AG AP.wu];exact sq _ _ hw1
       ·rw [AG AP.fu];refine sq _ _ ?_;rw [AB,map_append]; rfl
       ·refine Paired.snoc (BR tall hP) ?_;exact ⟨tv,t2 _ _ (sq _ _ (t1 _ _ AB)),hT.sameT tall⟩
       ·rw [AB,map_append]; rfl
       ·rw [CS];unfold Ch;rw [map_append];exact Paired.snoc (TupsAt.sameT tall am) (t2 _ _ AB)
      ·rw [J1,ce];intro z;have key:=Ng ⟨i,hi10⟩;rw [hw] at key;have:=Option.some.inj key;exact of_decide_eq_false this z
 ·rintro σ H2 ⟨v5,v6,v7,v8,v9,v10,v11,rows,rfl,a0,RO,ce,L⟩;obtain ⟨as,hf,hP⟩:=L.found;obtain ⟨bs,hu,am⟩:=L.due;refine ⟨_,rfl,_,rfl,sl2,fun q hq=>?_⟩;have sq:=AD (Same.refl _) hq (o:=HO.tup [V.ref pf,V.ref pu]);refine k q pf pu as bs rows _ ⟨fun c o e hc=>sq _ _ (L.old c o e hc),?_⟩ AB nf0 nu0 (sq _ _ hf) (BR (SameT.of sq) hP) (sq _ _ hu) (TupsAt.sameT (SameT.of sq) am) (by omega) (by omega) RO (fun x hx=>List.mem_of_mem_take (ce ▸ hx));obtain ⟨x,y,e⟩:=L.dice;exact ⟨x,y,sq _ _ e⟩
end
end Mk
end
section
namespace L2
open PySem
theorem Ht {X:Cx} (K:FG) (hK:X.K=K):BJ X (.builtin "isinstance") (fun xs H Q=>∃ v C t b,xs=[v,.ref C]/\TyOf K H v t/\W.kitOne K t (.ref C)=some b/\Q (.bl b) H):=by
 subst hK;intro aa s σ H xs us Q I r h;obtain ⟨v,C,t,b,rfl,ty,hk,q⟩:=h;obtain ⟨u,uT,rfl,ru,ruT⟩:=G9 r;cases ruT;exact HC I ru ty hk fun tk=>⟨.bl b,H,I.tok tk,rfl,q⟩
end L2
namespace Mk
open PySem L2 MK
structure KIsi (K:FG) (C:Addr):Prop where
 cl:Cls K C
 ha:W.findIn K (.ref C) "__class__" = some (some (.builtin "object.__class__"))
 hn:W.specialIn K (.builtin "object.__class__") "__get__" = some (some (.builtin "getset_descriptor.__get__"))
 ht:W.takesIn K (.builtin "object.__class__")=some true
 hm:W.mroIn K C (.type "object")=some true
 nl:W.kitOne K (.type "list") (.ref C)=some false
theorem KIsi.ty {a dx:Addr} {fs:List (Str × V)} (k:KIsi K C) (e:H a=some (.ins C dx fs)):TyOf K H (.ref a) (.ref C):=.ins e k.cl k.ha k.hn k.ht k.hm
theorem Ea (K:FG) (C:Addr):W.kitOne K (.ref C) (.ref C)=some true:=by
 unfold W.kitOne;rw [if_pos (by simp)]
section
def La (C:Addr):Sp:=fun vs H Q _=>∃ (p:Addr) (due:Aa) (r:Str),vs=[.ref p]/\KindAt C H p due r/\Q (.str r) H
theorem SQ:AL ["self"] ["self"] (defScope Eu):=fsc
theorem Qu (F:Fun K "rest" "Kind.rest" Eu f fd) (T:E3 K C):FnOk P w K mg base CX0 1 f fd ["self"] (La C):=by
 refine F.m SQ fun vs H Q E h=>?_;obtain ⟨p,due,r,rfl,KA,k⟩:=h;refine ⟨rfl,fun ad A outer s hr=>?_⟩;obtain ⟨dx,d1,o1,d2,o2,hp,h1,h2⟩:=KA.ex;refine ⟨_,AE (AO (BW (pv 0) rfl)),?_⟩;exact ⟨_,rfl,p,C,dx,_,_,rfl,hp,T.cl,T.nR,Ez _ _ _,k⟩
theorem Ph {p q:Str × Nat}:PyData.eqv (.tuple [.str p.1,.int (p.2:Int)]) (.tuple [.str q.1,.int (q.2:Int)])=decide (p=q):=by
 rw [Bool.eq_iff_iff];simp only [PyData.eqv,PyData.eqvAll,Bool.and_true,Bool.and_eq_true,decide_eq_true_eq,beq_iff_eq];constructor
 ·rintro ⟨a,b⟩;exact Prod.ext a (by exact_mod_cast b)
 ·rintro rfl;exact ⟨rfl,rfl⟩
theorem J3:∀ (a b:Aa),PyData.eqv (.list (D0 a)) (.list (D0 b))=decide (a=b)
 | [],[]=>by simp [D0,PyData.eqv,PyData.eqvAll]
 | [],q :: r=>by simp [D0,PyData.eqv,PyData.eqvAll]
 | p :: r,[]=>by simp [D0,PyData.eqv,PyData.eqvAll]
 | p :: r,q :: s=>by
  have ih:=J3 r s
  have h:PyData.eqv (.list (D0 (p :: r))) (.list (D0 (q :: s)))=(PyData.eqv (.tuple [.str p.1,.int (p.2:Int)]) (.tuple [.str q.1,.int (q.2:Int)]) && PyData.eqv (.list (D0 r)) (.list (D0 s))):=by
   simp only [D0,map_cons,PyData.eqv,PyData.eqvAll]
  rw [h,Ph,ih,Bool.eq_iff_iff];simp
def Asc (due:Aa):Prop:=∀ p ∈ due,p.1.cps.all (· < 128)=true
def MY (C:Addr):Sp:=fun vs H Q _=>∃ (a b:Addr) (due:Aa) (r:Str),vs=[.ref a,.ref b]/\KindAt C H a due r/\Asc due /\
 ((∃ xs,H b=some (.lst xs)/\∀ H',Same H H'->Q (.bl false) H')\/∃ (due':Aa) (r':Str),KindAt C H b due' r'/\Asc due'/\∀ H',Same H H'->Q (.bl (decide (due=due'/\r=r'))) H')
theorem T7:AL ["self", "other"] ["self", "other"] (defScope IR):=fsc
theorem SR (F:Fun K "__eq__" "Kind.__eq__" IR f fd) (B:Bl mg) (T:E3 K C) (KI:KIsi K C) (mC:mg "Kind" = some (.ref C)) (GR:Mt P w K mg base C "rows" 1 ["self"] (LU C)):FnOk P w K mg base CX0 2 f fd ["self", "other"] (MY C):=by
 obtain ⟨fR,dR,GR,mR,bR⟩:=GR.ex;refine F.m T7 fun vs H Q E h=>?_;obtain ⟨a,b,due,r,rfl,KA,h1,h⟩:=h;refine ⟨rfl,fun ad A outer s hr=>?_⟩;have hu64:=hr.units
 refine ⟨_,AE (AO (CG (Ab (Ht K rfl) rfl B.isi GY (AA (pv 1) (AA (BE (v:=.ref C) rfl mC rfl) AC)))
  (CG (Bj (OX K rfl hu64) (AR (pv 0) T.cl mR GR hr bR .nil AM) (AR (pv 1) T.cl mR GR hr bR .nil AM) (Ac _))
   (Cr (Bj DU (BW (pv 0) rfl) (BW (pv 1) rfl) (Ac _)))))),?_⟩
 obtain ⟨dx,d1,d2,hp⟩:=KA.ins;rcases h with ⟨xs,hb,k⟩ | ⟨due',r',KB,h2,k⟩
 ·refine ⟨_,rfl,_,C,_,false,rfl,.lst hb,KI.nl,_,rfl,?_⟩;exact BG (k _ (Same.refl _))
 ·obtain ⟨dy,e1,e2,hq⟩:=KB.ins;refine ⟨_,rfl,_,C,_,true,rfl,KI.ty hq,Ea K C,_,rfl,?_⟩;refine Em ?_;refine ⟨_,rfl,a,dx,_,rfl,hp,(EV _ _ _),a,due,r,rfl,KA,fun l as H1 s1 hl ht=>?_⟩;refine ⟨_,rfl,b,dy,_,rfl,s1 _ _ hq,(EV _ _ _),b,due',r',rfl,KB.same s1,fun l2 as2 H2 s2 hl2 ht2=>?_⟩;refine ⟨_,_,Aq (s2 _ _ hl) (EZ (TupsAt.same s2 ht)),Aq hl2 (EZ ht2),DF h1,DF h2,_,rfl,?_⟩;rw [J3];have s12:=s1.trans s2;refine BX (fun e=>?_) (fun e=>?_)
  ·have e':due=due':=of_decide_eq_true e;refine ⟨_,rfl,a,C,dx,_,_,rfl,s12 _ _ hp,T.cl,T.nR,Ez _ _ _,_,rfl,b,C,dy,_,_,rfl,s12 _ _ hq,T.cl,T.nR,Ez _ _ _,rfl,?_⟩;have:=k _ s12;have ev:decide (V.str r=V.str r')=decide (due=due'/\r=r'):=decide_eq_decide.mpr ⟨fun z=>⟨e',V.str.inj z⟩,fun z=>by rw [z.2]⟩;rw [ev];exact this
  ·have:=k _ s12;rw [decide_eq_false (fun z=>e (decide_eq_true z.1))] at this;exact this
end
noncomputable def Qw (due:Aa) (e m:Addr):LK:=[(Sum.inr "known", V.int (Ao (due.map (·.2)):Nat)),(Sum.inr "firsts", V.ref e),(Sum.inr "marks", V.ref m),(Sum.inr "bits", V.int (Ao (Ax due):Nat))]
theorem SS (a b c d:V):El [] [((Sum.inr "known" : Key),a),(Sum.inr "firsts", b),(Sum.inr "marks", c),(Sum.inr "bits", d)]=[((Sum.inr "known" : Key),a),(Sum.inr "firsts", b),(Sum.inr "marks", c),(Sum.inr "bits", d)]:=by kernel_rfl
theorem DR (due:Aa) (e m:Addr):BL (Qw due e m) (Sum.inr "known")=some (V.int (Ao (due.map (·.2)):Nat)):=by kernel_rfl
theorem Ni (due:Aa):(Ax due).Pairwise (· < ·):=by
 have h1:=EW due;have h2:(Ak due).Nodup:=(Ci due).nodup_iff.mpr (NW due);have h3:(Ak due).Pairwise (· < ·):=List.Pairwise.imp₂ (fun a b h n=>Nat.lt_of_le_of_ne h n) h1 h2;exact h3.filter _
theorem Hu (due:Aa):((Ax due).map fun n:Nat=>(n:Int)).sum=((Ao (Ax due):Nat):Int):=by
 have hs:(Ax due).sum=Ao (Ax due):=NP (fun n hn=>(mem_filter.mp hn).2) (Ni due);rw [← hs];clear hs;generalize Ax due=l;induction l with
 | nil=>rfl
 | cons a r ih=>rw [map_cons,sum_cons,sum_cons,ih]; push_cast; rfl
theorem J4 (due:Aa):Ao ((AT due).map (·.1))=Ao (due.map (·.2)):=by
 refine Nat.eq_of_testBit_eq fun k=>?_;rw [CQ,CQ,Bool.eq_iff_iff,any_eq_true,any_eq_true];constructor
 ·rintro ⟨n,hn,hb⟩;obtain ⟨q,hq,rfl⟩:=mem_map.mp hn;exact ⟨q.1,mem_map.mpr ⟨_,Hq hq,rfl⟩,hb⟩
 ·rintro ⟨n,hn,hb⟩;obtain ⟨p,hp,rfl⟩:=mem_map.mp hn;exact ⟨p.2,NX hp,hb⟩
section
def Ii:Sp:=fun vs H Q _=>∃ (u:Addr) (bs:List Addr) (due:Aa),vs=[.ref u]/\H u=some (.lst (bs.map V.ref))/\TupsAt H bs (Ch due)/\due.length <= 10/\(∀ p ∈ due,p.2 < 2 ^ 20) /\
 ∀ t e m ms H',Same H H'->H' t=some (.dK (Qw due e m))->H' e=some (.dK (Bb (AT due)))->H' m=some (.lst (ms.map V.ref))->TupsAt H' ms (Jw due)->Q (.ref t) H'
noncomputable abbrev SU:List Str:=["_law_due", "_law_known", "_law_firsts", "_law_name", "_law_number", "_law_marks"]
theorem scTable:AL SU ["_law_due"] (defScope DC):=fsc
theorem Pi (F:Fun K "_law_table_of" "_law_table_of" DC f fd) (B:Bl mg) (GB:Fn P w K mg base "_law_bits_of" 1 ["_law_number"] Gi):FnOk P w K mg base CX0 2 f fd ["_law_due"] Ii:=by
 obtain ⟨fB,dB,GB,mB,kB,bB⟩:=GB.ex;refine F.m scTable fun vs H Q E h=>?_;obtain ⟨u,bs,due,rfl,hu0,am,h10,hlt,k⟩:=h;refine ⟨rfl,fun ad A outer s hr=>?_⟩;have hu:=FD hr
 refine ⟨_,AF (Ct (hs:=by kernel_rfl) (hw:=by kernel_rfl) (Be (AA AI (AA Ft AC))) (Bx rfl (Ad (AZ (i:=1) scTable.nd rfl (Or.inl rfl)) (Ad (AZ (i:=2) scTable.nd rfl (Or.inr rfl)) BV))))
  (AF (Cu PassesOwn.never rfl (BF (pv 0)) (Bx rfl (Ad (AZ (i:=3) scTable.nd rfl (Or.inl rfl)) (Ad (AZ (i:=4) scTable.nd rfl (Or.inl rfl)) BV)))
   (AF (Aj (i:=1) scTable.nd rfl (Or.inl rfl) (AQ Lo (pv 1) (pv 4)))
   (AE (At (Fg (Ms hu (pv 4) (pv 2))) (AE (Lz hu (pv 2) (pv 4) (pv 3) rfl)) AY))))
  (AF (JK (i:=5) scTable.nd rfl (by kernel_rfl) ["_law_firsts"] [some 2] (by kernel_rfl) (by decide +kernel) (by kernel_rfl) rfl (BF (Ab (ED rfl) rfl B.sorted DL (AA (pv 2) AC)))
   (fun _ _ _ _ _ _=>B9 (AW DU (Ab (Bh K rfl) rfl B.len PySem.boot_len (AA (AH GB hr rfl mB kB bB .nil AM (AA (pv 0) AC)) AC)) AI (Ac _)))
   (fun _ _ _ _ _ _=>Be (AA (Ca hu (pv 1) (pv 0) (fun _ _=>rfl)) (AA (pv 0) AC))))
  (AE (AO (QJ (D9 Af (pv 1) (D9 Af (pv 2) (D9 Af (pv 5) (D9 Af (Ab (OU rfl) rfl B.sum O9 (AA (JJ [] [] (by kernel_rfl) (by decide +kernel) (by kernel_rfl) (by kernel_rfl) rfl (BF (pv 5)) (fun _ _ _ _ _ _=>B8) (fun _ _ _ _ _ _=>pv 1)) AC)) QI)))) rfl rfl (by simp) (by decide)))))),?_⟩
 refine fun e he=>⟨sl2,fun q hq=>⟨q,_,rfl,SqT.of AB,rfl,_,_,rfl,_,_,rfl,rfl,?_⟩⟩;have s1:=AD (AD (Same.refl _) he (o:=HO.dK [])) hq (o:=HO.tup [V.int 0,V.ref e]);have hbl:bs.length=due.length:=by rw [am.length]; unfold Ch; rw [AK]
 refine ⟨_,rfl,u,rfl,⟨_,SqL.of (s1 _ _ hu0)⟩,Cw (K:=K) (a:=u) (xs:=bs.map V.ref) (fun i σ H2=>∃ v3 v4:Option V,σ=[some (.ref u),some (.int (Ao ((due.take i).map (·.2)):Nat)),some (.ref e),v3,v4,none]/\Same H H2/\H2 e=some (.dK (Bb (AT (due.take i)))))
  ⟨none,none,rfl,s1,AD (Same.refl _) hq _ _ AB⟩ (fun i σ H2 _ ⟨_,_,_,s2,_⟩=>SqL.of (s2 _ _ hu0)) ?_ ?_⟩
 ·rintro i v σ H2 hi ⟨v3,v4,rfl,s2,he2⟩;obtain ⟨bb,p,rfl,_,aj,ai⟩:=DQ (TupsAt.same s2 am) hi;have et:due.take (i + 1)=due.take i++[p]:=by rw [take_add_one,aj]; rfl
  have ek:(((Ao ((due.take (i + 1)).map (·.2)):Nat)):Int)=Builtin.bitOr ((Ao ((due.take i).map (·.2)):Nat):Int) (p.2:Int):=by
   rw [et,map_append,Cd];exact congrArg _ (Dm _ _)
  have hle:(Bb (AT (due.take i))).length <= 100:=by
   unfold Bb;rw [AK];have:=B3 (due.take i);rw [length_take] at this;omega
  refine ⟨bb,_,rfl,SqT.of ai,rfl,_,_,rfl,_,_,rfl,rfl,?_⟩;refine ⟨_,rfl,_,rfl,_,_,rfl,rfl,?_⟩;by_cases z:p.2 ∈ (AT (due.take i)).map (·.1)
  ·refine ⟨_,rfl,_,rfl,e,_,rfl,.inl ⟨_,Sum.inl (p.2:Int),.inl he2,rfl,(EU z).symm⟩,_,rfl,?_⟩;refine BG ⟨_,_,by rw [ek]; rfl,s2,?_⟩;rw [et,CB,if_pos (by simpa using z)];exact he2
  ·refine ⟨_,rfl,_,rfl,e,_,rfl,.inl ⟨_,Sum.inl (p.2:Int),.inl he2,rfl,(Ey z).symm⟩,_,rfl,?_⟩;refine Em ⟨_,rfl,_,rfl,_,rfl,e,_,rfl,DPut.k (k:=Sum.inl (p.2:Int)) he2 (Ae (by omega)),?_⟩;refine ⟨_,_,by rw [ek]; rfl,Gc s2 he,?_⟩;rw [AB,et,CB,if_neg (by simpa using z),Jv z]
 ·rintro σ H2 ⟨v3,v4,rfl,s2,he2⟩;have e1:due.take (bs.map V.ref).length=due:=by rw [AK,hbl,take_length]
  rw [e1] at he2 ⊢;have hle:(Bb (AT due)).length <= due.length:=by unfold Bb; rw [AK]; exact B3 due
  refine ⟨_,rfl,e,_,rfl,.inl he2,by omega,fun kv hkv=>?_,fun l ns hl bh cj=>?_⟩
  ·unfold Bb at hkv;obtain ⟨q,_,rfl⟩:=mem_map.mp hkv;exact ⟨_,rfl⟩
  ·have en:=Jx bh cj;subst en;have s3:=AD (Same.refl _) hl (o:=HO.lst (((Ak due).map fun n:Nat=>(n:Int)).map V.int));have exs:((Ak due).map fun n:Nat=>(n:Int)).map V.int=AS (Ak due):=(ET _).symm
   refine ⟨l,rfl,⟨_,SqL.of AB⟩,Bv (K:=K) (a:=l) (xs:=AS (Ak due))
    (fun i ys H3=>∃ as,ys=as.map V.ref/\Same H2 H3/\H3 l=some (.lst (AS (Ak due)))/\TupsAt H3 as ((((Ak due).take i).filter Ar).map fun n=>(V.str (Ho (AT due) n),V.int (n:Int)))) ⟨[],rfl,s3,by rw [AB,exs],.nil⟩
    (fun i ys H3 _ ⟨_,_,_,e,_⟩=>SqL.of e) (fun i ys H3 ⟨as,e,_,_,t⟩=>?_) ?_ ?_⟩
   ·have:=t.length;rw [e,AK,this,AK];have h3:(((Ak due).take i).filter Ar).length <= ((Ak due).take i).length:=length_filter_le _ _;rw [length_take] at h3;have:=E4 due;omega
   ·rintro i v ys H3 hi ⟨as,rfl,s4,hl3,ht⟩;obtain ⟨n,hn,rfl⟩:=IW hi;have cc:n ∈ (AT due).map (·.1):=mem_keysS.mp (mem_of_getElem? hn);have hn42:n < 2 ^ 42:=Nat.lt_trans (MS hlt n cc) (by decide);have et:((Ak due).take (i + 1)).filter Ar=((Ak due).take i).filter Ar++(if Ar n then [n] else []):=PySem.take_succ_filter Ar _ i n hn;refine ⟨_,rfl,n,rfl,fun l2 zs H4 s5 hl4 hz=>⟨l2,_,rfl,.inl (SqL.of hl4),rfl,_,rfl,?_⟩⟩
    have eb:decide (V.int ((zs.length:Nat):Int)=V.int 1)=Ar n:=by
     rw [← G1 hn42,hz];refine decide_eq_decide.mpr ⟨fun h=>?_,fun h=>by rw [h]; rfl⟩;have:=V.int.inj h;omega
    rw [eb];have hl5:=s5 _ _ hl3;refine BX (fun hm=>?_) (fun hm=>?_)
    ·refine ⟨_,rfl,_,rfl,e,_,rfl,.inl ⟨_,Sum.inl (n:Int),.inl (s5 _ _ (s4 _ _ he2)),rfl,(EU cc).symm⟩,_,rfl,sl2,fun b hb=>?_⟩;refine ⟨as++[b],by rw [map_append]; rfl,AD (s4.trans s5) hb,by rw [AG (AJ hl5 hb)]; exact hl5,?_⟩;rw [et,hm,if_pos rfl,map_append];exact Hr (AD s5 hb) ht AB
    ·refine ⟨as,rfl,s4.trans s5,hl5,?_⟩;rw [et,if_neg hm,append_nil];exact TupsAt.same s5 ht
   ·rintro ys H3 ⟨as,rfl,s4,_,ht⟩ m hm
    have el:(Ak due).take (AS (Ak due)).length=Ak due:=by
     have:(AS (Ak due)).length=(Ak due).length:=by unfold AS; rw [AK]
     rw [this]; exact take_length
    rw [el] at ht;have ht':TupsAt H3 as (Jw due):=ht;have s5:=AD (Same.refl _) hm (o:=HO.lst (as.map V.ref));have au:as.length=(Ax due).length:=by rw [ht'.length]; exact NZ due
    refine fun t ht0=>⟨_,rfl,_,rfl,_,rfl,?_⟩;have s6:=AD (Same.refl _) ht0 (o:=HO.dK []);have htm:=TupsAt.same (s5.trans s6) ht';have hm6:=s6 _ _ (AB (H:=H3) (a:=m) (o:=HO.lst (as.map V.ref)));refine ⟨_,rfl,m,rfl,⟨_,SqL.of hm6⟩,Bv (K:=K) (a:=m) (xs:=as.map V.ref) (fun j ys H7=>ys=AS ((Ax due).take j)/\H7=upd (upd H3 m (.lst (as.map V.ref))) t (.dK [])) ⟨by rfl,rfl⟩ (fun j ys H7 _ ⟨_,e⟩=>e ▸ SqL.of hm6) (fun j ys H7 ⟨e,_⟩=>?_) ?_ ?_⟩
    ·rw [e]; unfold AS; rw [AK,length_take];have h3:(Ax due).length <= (Ak due).length:=length_filter_le _ _;have:=E4 due;omega
    ·rintro j v ys H7 hj ⟨rfl,rfl⟩;rw [getElem?_map] at hj
     obtain ⟨b,hb,rfl⟩:∃ b,as[j]?=some b/\v=V.ref b:=by
      cases q:as[j]? with
      | none=>rw [q] at hj; cases hj
      | some x=>rw [q] at hj; exact ⟨x,rfl,(Option.some.inj hj).symm⟩
     obtain ⟨pq,hpq,ai⟩:=Jy htm hb;unfold Jw at hpq;rw [getElem?_map] at hpq
     obtain ⟨n,hn,rfl⟩:∃ n,(Ax due)[j]?=some n/\pq=(V.str (Ho (AT due) n),V.int (n:Int)):=by
      cases q:(Ax due)[j]? with
      | none=>rw [q] at hpq; cases hpq
      | some x=>rw [q] at hpq; exact ⟨x,rfl,(Option.some.inj hpq).symm⟩
     refine ⟨b,_,rfl,SqT.of ai,rfl,_,_,rfl,_,_,rfl,rfl,?_⟩;refine ⟨_,rfl,?_,rfl⟩;rw [take_add_one,hn,Option.toList_some];unfold AS;rw [map_append];rfl
    ·rintro ys H7 ⟨rfl,rfl⟩ l2 hl2;have el2:(Ax due).take (as.map V.ref).length=Ax due:=by rw [AK,au,take_length]
     rw [el2];have s7:=AD (Same.refl _) hl2 (o:=HO.lst (AS (Ax due)));refine ⟨l2,(Ax due).map fun n:Nat=>(n:Int),rfl,SqL.of (by rw [AB,ET]),fun n hn=>?_,?_,?_⟩
     ·obtain ⟨x,_,rfl⟩:=mem_map.mp hn;exact Int.natCast_nonneg _
     ·rw [Hu];have:=F7 (PZ hlt);omega
     ·rw [Hu];refine ⟨s7 _ _ AB,[((Sum.inr "known" : Key),V.int (Ao (due.map (·.2)):Nat)),(Sum.inr "firsts", .ref e),(Sum.inr "marks", .ref m),(Sum.inr "bits", V.int (Ao (Ax due):Nat))],rfl,(by show 4 <= 15; decide),?_⟩;rw [SS];have nt:∀ b o,H3 b=some o->b ≠ t:=fun b o ebo=>AJ (s5 _ _ ebo) ht0
      have sAll:Same (upd H3 m (.lst (as.map V.ref))) (upd (upd (upd (upd H3 m (.lst (as.map V.ref))) t (.dK [])) l2 (.lst (AS (Ax due)))) t (.dK (Qw due e m))):=fun b o ebo=>by
       rw [AG (AJ ebo ht0)];exact s7 _ _ (s6 _ _ ebo)
      refine k t e m as _ ?_ AB ?_ (sAll _ _ AB) (TupsAt.same (s5.trans sAll) ht')
      ·intro b o ebo;exact sAll _ _ (s5 _ _ (s4 _ _ (s2 _ _ ebo)))
      ·exact sAll _ _ (s5 _ _ (s4 _ _ he2))
end
theorem TH {α:Type} {P:List α->Prop} (h0:P []) (h1:∀ xs x,P xs->P (xs++[x])) (xs:List α):P xs:=by
 have key:∀ l:List α,P l.reverse:=by
  intro l;induction l with
  | nil=>exact h0
  | cons a r ih=>rw [List.reverse_cons]; exact h1 _ _ ih
 have:=key xs.reverse;rw [List.reverse_reverse] at this;exact this
theorem DH:∀ {ds:List PyData},(∀ d ∈ ds,PyData.eqv d d=true)->PyData.eqvAll ds ds=true
 | [],_=>by rw [PyData.eqvAll]
 | d :: r,h=>by
  rw [PyData.eqvAll,h d mem_cons_self,DH fun x hx=>h x (mem_cons_of_mem _ hx)];rfl
theorem G5 {ds:List PyData} (h:∀ d ∈ ds,PyData.eqv d d=true):PyData.eqv (.list ds) (.list ds)=true:=by
 rw [PyData.eqv]; exact DH h
theorem Ij {ds:List PyData} (h:∀ d ∈ ds,PyData.eqv d d=true):PyData.eqv (.tuple ds) (.tuple ds)=true:=by
 rw [PyData.eqv]; exact DH h
theorem Eb (x:Str):PyData.eqv (.str x) (.str x)=true:=by simp [PyData.eqv]
theorem Ik (n:Int):PyData.eqv (.int n) (.int n)=true:=by simp [PyData.eqv]
theorem BM (xs:List Nat):PyData.eqv (.list (xs.map fun n:Nat=>PyData.int (n:Int))) (.list (xs.map fun n:Nat=>PyData.int (n:Int)))=true:=G5 fun d hd=>by
 obtain ⟨n,_,rfl⟩:=mem_map.mp hd;exact Ik _
theorem MZ {b:Addr} {x y:Str} (h:H b=some (.tup [.str x,.str y])):Bq K H (.tuple [.str x,.str y]) (.ref b):=by
 rw [Bq];refine ⟨b,_,rfl,SqT.of h,?_⟩;rw [A4];refine ⟨_,_,rfl,by rw [Bq],?_⟩;rw [A4];refine ⟨_,_,rfl,by rw [Bq],?_⟩;rw [A4]
noncomputable def BP (due:Aa):List (Str × Th):=due.map fun p=>(p.1,Th.num p.2)
theorem Ec (due:Aa):AV (BP due)=due:=by
 refine TH (P:=fun due=>AV (BP due)=due) rfl (fun xs x ih=>?_) due;show AV (BP (xs++[x]))=xs++[x];unfold BP at ih ⊢;rw [map_append,List.map_singleton,CS,ih];rfl
theorem DueOk.sub {due':Aa} (h:DueOk due) (s:due'.Sublist due):DueOk due' :=
 ⟨Nat.le_trans s.length_le h.len,fun p hp=>h.lt p (s.subset hp),h.nd.sublist (s.map _),fun p hp=>h.nm p (s.subset hp)⟩
theorem Lb (h:DueOk due):CJ (BP due):=by
 intro i r hi;unfold BP at hi;rw [getElem?_map] at hi;obtain ⟨p,hp,rfl⟩:=Option.map_eq_some_iff.mp hi
 have et:AV ((BP due).take i)=due.take i:=by
  unfold BP;rw [← List.map_take];exact Ec _
 rw [et]
 have hlt:i < due.length:=by
  rcases Nat.lt_or_ge i due.length with z | z
  ·exact z
  ·rw [List.getElem?_eq_none z] at hp; cases hp
 have hl:=h.len;refine ⟨h.sub (List.take_sublist _ _),by rw [length_take]; omega,h.nm p (mem_of_getElem? hp),fun hm=>?_,trivial,h.lt p (mem_of_getElem? hp)⟩;obtain ⟨q,hq,e⟩:=mem_map.mp hm;obtain ⟨j,hj⟩:=List.mem_iff_getElem?.mp hq
 have hji:j < i:=by
  rcases Nat.lt_or_ge j i with z | z
  ·exact z
  ·rw [List.getElem?_eq_none (by rw [length_take]; omega)] at hj; cases hj
 rw [List.getElem?_take_of_lt hji] at hj;have nd:=h.nd;have e1:(due.map (·.1))[j]?=some q.1:=by rw [getElem?_map,hj]; rfl
 have e2:(due.map (·.1))[i]?=some p.1:=by rw [getElem?_map,hp]; rfl
 have:=(List.getElem?_inj (i:=j) (j:=i) (by rw [AK]; omega) nd).mp (by rw [e1,e2,e]);omega
theorem Pj {bs:List Addr} (h:TupsAt H bs (Ch due)):Paired (RowAt H) bs (BP due):=by
 induction due generalizing bs with
 | nil =>
  have:bs=[]:=List.eq_nil_of_length_eq_zero (by rw [h.length]; rfl);subst this;exact .nil
 | cons p r ih =>
  cases h with
  | cons h1 h2=>exact .cons ⟨_,h1,rfl⟩ (ih h2)
theorem T8:¬ (("own_kind" : Str) = "bits"):=by decide +kernel
noncomputable def BK (kp:Addr) (n:Nat):List (Str × V):=BU "bits" (.int (n:Int)) (BU "own_kind" (.ref kp) [])
theorem Il (kp:Addr) (n:Nat):(BK kp n).lookup ("own_kind" : Str)=some (.ref kp):=by
 unfold BK;rw [AX,if_neg T8,AX,if_pos rfl]
theorem Im (kp:Addr) (n:Nat):(BK kp n).lookup ("bits" : Str)=some (.int (n:Int)):=by
 unfold BK;rw [AX,if_pos rfl]
theorem Bo (kp:Addr) (n:Nat) {m:Str} (h1:¬ m = "bits") (h2:¬ m = "own_kind"):(BK kp n).lookup m=none:=by
 unfold BK;rw [AX,if_neg h1,AX,if_neg h2];rfl
def ValAt (VC:Addr) (H:Hp) (p kp:Addr) (n:Nat):Prop:=∃ dx,H p=some (.ins VC dx (BK kp n))
theorem ValAt.same {p kp:Addr} {n:Nat} (s:Same H H') (h:ValAt VC H p kp n):ValAt VC H' p kp n:=by
 obtain ⟨dx,h⟩:=h;exact ⟨dx,s _ _ h⟩
structure Lc (K:FG) (VC:Addr):Prop where
 cl:Cls K VC
 nK:NoAttr K VC "own_kind"
 nB:NoAttr K VC "bits"
noncomputable def kn (due:Aa):Nat:=Ao (due.map (·.2))
section
def D1:Sp:=fun vs H Q _=>∃ n:Nat,vs=[.int (n:Int)]/\n < 2 ^ 40/\Q (.bl true) H
theorem Ld:AL ["thing"] ["thing"] (defScope Ev):=fsc
theorem J5 {tL:Tok} (F:Fun K "is_number" "is_number" Ev f fd) (hL:mg "LIMIT" = some (.int 1099511627776 tL)) (GW:Fn P w K mg base "is_whole" 1 ["thing"] DP):FnOk P w K mg base CX0 2 f fd ["thing"] D1:=by
 obtain ⟨fW,dW,GW,mW,kW,bW⟩:=GW.ex;refine F.m Ld fun vs H Q E h=>?_;obtain ⟨n,rfl,hn,k⟩:=h;refine ⟨rfl,fun ad A outer s hr=>?_⟩;refine ⟨_,AE (AO (CG (AH GW hr rfl mW kW bW .nil AM (AA (pv 0) AC)) (Cr (JA FB Su AI (pv 0) (BE (v:=.int 1099511627776) rfl hL ⟨tL,rfl⟩))))),?_⟩;refine ⟨_,rfl,(n:Int),rfl,_,rfl,?_⟩;refine Em ?_;refine ⟨_,rfl,_,_,rfl,rfl,_,rfl,?_⟩;rw [decide_eq_true (show (0:Int) <= (n:Int) by omega)];refine Em ?_;refine ⟨_,_,rfl,rfl,?_⟩;show Q (V.bl (decide ((n:Int) < 1099511627776))) H
 rw [decide_eq_true (show (n:Int) < 1099511627776 by have:(2:Nat) ^ 40=1099511627776:=by decide
                                                     omega)]
 exact k
def Gn (C:Addr):Sp:=fun vs H Q _=>∃ (kp:Addr) (due:Aa) (r:Str) (n:Nat),vs=[.ref kp,.int (n:Int)]/\KindAt C H kp due r/\∀ H',Same H H'->Q (.int ((n - (n &&& kn due):Nat):Int)) H'
theorem Pk:AL ["kind", "number"] ["kind", "number"] (defScope IS):=fsc
theorem Nj (F:Fun K "rest_of" "rest_of" IS f fd) (T:E3 K C) (GK:Mt P w K mg base C "known" 2 ["self"] (Fa C)):FnOk P w K mg base CX0 3 f fd ["kind", "number"] (Gn C):=by
 obtain ⟨fK,dK,GK,mK,bK⟩:=GK.ex;refine F.m Pk fun vs H Q E h=>?_;obtain ⟨kp,due,r,n,rfl,KA,k⟩:=h;refine ⟨rfl,fun ad A outer s hr=>?_⟩;obtain ⟨dx,d1,d2,hp⟩:=KA.ins;refine ⟨_,AE (AO (AQ CY (pv 1) (N6 KU (AR (pv 0) T.cl mK GK hr bK .nil AM)))),?_⟩;refine ⟨_,rfl,_,rfl,kp,dx,_,rfl,hp,(EV _ _ _),kp,due,r,rfl,KA,fun H1 s1=>?_⟩;refine ⟨_,rfl,_,_,rfl,rfl,?_⟩;show Q (V.int (Builtin.bitAnd (n:Int) (Builtin.bitNot ((Ao ((AT due).map (·.1)):Nat):Int)))) H1;rw [Dl,J4];exact k H1 s1
def Io (C VC:Addr):Sp:=fun vs H Q _=>∃ (p dx kp:Addr) (due:Aa) (r:Str) (n:Nat),vs=[.ref p,.ref kp,.int (n:Int)]/\H p=some (.ins VC dx [])/\KindAt C H kp due r/\n < 2 ^ 40/\(r = "keep" \/ n - (n &&& kn due)=0) /\
 ∀ H',(∀ b o,H b=some o->b ≠ p->H' b=some o)->ValAt VC H' p kp n->Q .non H'
theorem Qx:AL ["self", "kind", "number"] ["self", "kind", "number"] (defScope Ds):=fsc
theorem J6 (F:Fun K "__init__" "Value.__init__" Ds f fd) (T:E3 K C) (VT:Lc K VC)
  (GN:Fn P w K mg base "is_number" 2 ["thing"] D1) (GR:Fn P w K mg base "rest_of" 3 ["kind", "number"] (Gn C)) (GRe:Mt P w K mg base C "rest" 1 ["self"] (La C)):FnOk P w K mg base CX0 4 f fd ["self", "kind", "number"] (Io C VC):=by
 obtain ⟨fN,dN,GN,mN,kN,bN⟩:=GN.ex;obtain ⟨fR,dR,GR,mR,kR,bR⟩:=GR.ex;obtain ⟨fE,dE,GE,mE,bE⟩:=GRe.ex;refine F.m Qx fun vs H Q E h=>?_;obtain ⟨p,dx,kp,due,r,n,rfl,hp,KA,hn,hrest,k⟩:=h;refine ⟨rfl,fun ad A outer s hr=>?_⟩;have hr1:Room 1 _:=hr.mono (by decide);have hr2:Room 2 _:=hr.mono (by decide);obtain ⟨dxk,d1,d2,ag⟩:=KA.ins
 refine ⟨_,AF (At (Bn (Bd (AH GN hr2 rfl mN kN bN .nil AM (AA (pv 2) AC)))) (AE Ag) AY)
  (Ay (At (PW.pt (Hx (AW Fk (AR (pv 1) T.cl mE GE hr1 bE .nil AM) Af (Ac _)) (FS (AW Fk (AH GR hr rfl mR kR bR .nil AM (AA (pv 1) (AA (pv 2) AC))) AI (Ac _))))) (AE Ag) AY)
  (AF (Fp (pv 0) (pv 1) rfl) (AE (Fp (pv 0) (pv 2) rfl)))),?_⟩
 refine ⟨_,rfl,n,rfl,hn,_,rfl,?_⟩;refine BG ?_;refine ⟨fun σ H1=>σ=[some (.ref p),some (.ref kp),some (.int (n:Int))]/\Same H H1,fun R hR=>?_,?_⟩
 ·refine ⟨_,rfl,kp,dxk,_,rfl,ag,(EV _ _ _),kp,due,r,rfl,KA,rfl,_,rfl,?_⟩;by_cases hk:r = "keep"
  ·rw [decide_eq_true (show V.str r=V.str "keep" by rw [hk])];exact BG (BG (hR _ _ ⟨rfl,Same.refl _⟩))
  ·rw [decide_eq_false (show ¬ V.str r=V.str "keep" from fun z=>hk (V.str.inj z))];refine Em ?_;refine ⟨_,rfl,_,rfl,kp,due,r,n,rfl,KA,fun H1 s1=>⟨rfl,_,rfl,?_⟩⟩;have h0:=hrest.resolve_left hk;rw [h0];exact BG (hR _ _ ⟨rfl,s1⟩)
 ·rintro σ H1 ⟨rfl,s1⟩;refine ⟨_,rfl,_,rfl,p,VC,dx,[],rfl,s1 _ _ hp,VT.cl,VT.nK,(by show 0 < 1000; decide),?_⟩;refine ⟨_,rfl,_,rfl,p,VC,dx,_,rfl,AB,VT.cl,VT.nB,Nat.lt_of_le_of_lt (B4 _ _ _) (by show 1 < 1000; decide),?_⟩;refine k _ (fun b o e hb=>?_) ⟨dx,AB⟩;rw [AG hb,AG hb];exact s1 _ _ e
def BI (VC:Addr):Sp:=fun vs H Q _=>∃ (p kp:Addr) (n:Nat),vs=[.ref p]/\ValAt VC H p kp n/\Q (.int (n:Int)) H
theorem Nk:AL ["self"] ["self"] (defScope Cf):=fsc
theorem Le (F:Fun K "number" "Value.number" Cf f fd) (VT:Lc K VC):FnOk P w K mg base CX0 1 f fd ["self"] (BI VC):=by
 refine F.m Nk fun vs H Q E h=>?_;obtain ⟨p,kp,n,rfl,⟨dx,hp⟩,k⟩:=h;refine ⟨rfl,fun ad A outer s hr=>?_⟩;refine ⟨_,AE (AO (BW (pv 0) rfl)),?_⟩;exact ⟨_,rfl,p,VC,dx,_,_,rfl,hp,VT.cl,VT.nB,Im _ _,k⟩
def Fc (VC:Addr):Sp:=fun vs H Q _=>∃ (p kp:Addr) (n:Nat),vs=[.ref p]/\ValAt VC H p kp n/\Q (.ref kp) H
theorem Qy:AL ["self"] ["self"] (defScope Dt):=fsc
theorem Pl (F:Fun K "kind" "Value.kind" Dt f fd) (VT:Lc K VC):FnOk P w K mg base CX0 1 f fd ["self"] (Fc VC):=by
 refine F.m Qy fun vs H Q E h=>?_;obtain ⟨p,kp,n,rfl,⟨dx,hp⟩,k⟩:=h;refine ⟨rfl,fun ad A outer s hr=>?_⟩;refine ⟨_,AE (AO (BW (pv 0) rfl)),?_⟩;exact ⟨_,rfl,p,VC,dx,_,_,rfl,hp,VT.cl,VT.nK,Il _ _,k⟩
def Pm (C VC:Addr):Sp:=fun vs H Q _=>∃ (a:Addr) (v:V) (ka:Addr) (na:Nat) (due:Aa) (r:Str),vs=[.ref a,v]/\ValAt VC H a ka na/\KindAt C H ka due r/\Asc due /\
 ((∃ i,v=.int i/\Q (.bl false) H)\/∃ (b kb:Addr) (nb:Nat) (due':Aa) (r':Str),v=.ref b/\ValAt VC H b kb nb/\KindAt C H kb due' r'/\Asc due'/\∀ H',Same H H'->Q (.bl (decide ((due=due'/\r=r')/\na=nb))) H')
theorem TJ:AL ["self", "other"] ["self", "other"] (defScope GH):=fsc
theorem SW (F:Fun K "__eq__" "Value.__eq__" GH f fd) (B:Bl mg) (T:E3 K C) (VT:Lc K VC) (VI:KIsi K VC) (hI:W.kitOne K (.type "int") (.ref VC)=some false) (mV:mg "Value" = some (.ref VC))
  (GE:Mt P w K mg base C "__eq__" 2 ["self", "other"] (MY C)):FnOk P w K mg base CX0 3 f fd ["self", "other"] (Pm C VC):=by
 obtain ⟨fE,dE,GE,mE,bE⟩:=GE.ex;refine F.m TJ fun vs H Q E h=>?_;obtain ⟨a,v,ka,na,due,r,rfl,⟨dx,hp⟩,KA,h1,h⟩:=h;refine ⟨rfl,fun ad A outer s hr=>?_⟩
 refine ⟨_,AE (AO (CG (Ab (Ht K rfl) rfl B.isi GY (AA (pv 1) (AA (BE (v:=.ref VC) rfl mV rfl) AC)))
  (CG (Bj (Oa GE hr bE mE) (BW (pv 0) rfl) (BW (pv 1) rfl) (Ac _))
   (Cr (Bj DU (BW (pv 0) rfl) (BW (pv 1) rfl) (Ac _)))))),?_⟩
 rcases h with ⟨i,rfl,k⟩ | ⟨b,kb,nb,due',r',rfl,⟨dy,hq⟩,KB,h2,k⟩
 ·refine ⟨_,rfl,_,VC,_,false,rfl,.int i,hI,_,rfl,?_⟩;exact BG k
 ·refine ⟨_,rfl,_,VC,_,true,rfl,VI.ty hq,Ea K VC,_,rfl,?_⟩;refine Em ?_;obtain ⟨dka,d1,d2,hka⟩:=KA.ins;obtain ⟨dkb,e1,e2,hkb⟩:=KB.ins;refine ⟨_,rfl,a,VC,dx,_,_,rfl,hp,VT.cl,VT.nK,Il _ _,_,rfl,b,VC,dy,_,_,rfl,hq,VT.cl,VT.nK,Il _ _,?_⟩;refine ⟨ka,dka,_,kb,rfl,rfl,hka,.inl ⟨_,_,hkb⟩,ka,kb,due,r,rfl,KA,h1,.inr ⟨due',r',KB,h2,fun H1 s1=>⟨_,rfl,_,rfl,?_⟩⟩⟩;refine BX (fun e=>?_) (fun e=>?_)
  ·have e':=of_decide_eq_true e;refine ⟨_,rfl,a,VC,dx,_,_,rfl,s1 _ _ hp,VT.cl,VT.nB,Im _ _,_,rfl,b,VC,dy,_,_,rfl,s1 _ _ hq,VT.cl,VT.nB,Im _ _,rfl,?_⟩;have ev:decide (V.int (na:Int)=V.int (nb:Int))=decide ((due=due'/\r=r')/\na=nb):=decide_eq_decide.mpr ⟨fun z=>⟨e',by have:=V.int.inj z; omega⟩,fun z=>by rw [z.2]⟩;rw [ev];exact k _ s1
  ·have:=k _ s1;rw [decide_eq_false (fun z=>e (decide_eq_true z.1))] at this;exact this
structure FJ (P:Program) (w:World) (K:FG) (mg:SV) (base:Heap) (C VC:Addr):Prop where
 VT:Lc K VC
 cls:mg "Value" = some (.ref VC)
 make:∃ f fd,Mk K VC f/\FnOk P w K mg base CX0 4 f fd ["self", "kind", "number"] (Io C VC)/\Binds K fd ["self", "kind", "number"] []
 eq:∃ f fd,FnOk P w K mg base CX0 3 f fd ["self", "other"] (Pm C VC)/\Mp K VC "__eq__" f/\Binds K fd ["self", "other"] []
 isi:KIsi K VC
 ne:W.findIn K (.ref VC) "__ne__" = some (some (.builtin "object.__ne__"))
 ni:W.subIn K (.type "int") (.ref VC)=some false
theorem BD {D kp dx:Addr} (hkp:H kp=none) (ay:H dx=none) (ax:dx ≠ kp):Same H (upd (upd H dx (.own kp)) kp (.ins D dx [])):=by
 refine AD (AD (Same.refl _) ay) ?_;rw [AG (Ne.symm ax)];exact hkp
theorem A1 {Hc:Hp} {kp:Addr} (sN:Same H H') (hkp:H kp=none) (sc:∀ b o,H' b=some o->b ≠ kp->Hc b=some o):Same H Hc:=fun b o e=>sc b o (sN _ _ e) (AJ e hkp)
theorem TK (h:∀ p ∈ due,p.2 < 2 ^ 20):kn due < 2 ^ 20:=by
 unfold kn;exact F7 fun n hn=>by obtain ⟨p,hp,rfl⟩:=mem_map.mp hn; exact h p hp
def Go (C VC:Addr):Sp:=fun vs H Q _=>∃ (p kp:Addr) (n:Nat) (due:Aa) (r:Str),vs=[.ref p]/\ValAt VC H p kp n/\KindAt C H kp due r/\kn due < 2 ^ 20 /\
 ∀ q H',Same H H'->ValAt VC H' q kp (kn due - (kn due &&& n))->Q (.ref q) H'
theorem Pn:AL ["one"] ["one"] (defScope IV):=fsc
theorem Po (x y:Nat):(x ||| y) + (x &&& y)=x + y:=by
 have h:=PyProof.Rows.bitOr_and (x:Int) (y:Int);rw [Cd,Br] at h;omega
theorem FK (a b:Nat):a - (a &&& b)=a ^^^ (a &&& b):=by
 have h1:(a ^^^ (a &&& b)) ||| (a &&& b)=a:=by
  refine Nat.eq_of_testBit_eq fun k=>?_;simp only [Nat.testBit_and,Nat.testBit_xor,Nat.testBit_or];cases a.testBit k <;> cases b.testBit k <;> rfl
 have h2:(a ^^^ (a &&& b)) &&& (a &&& b)=0:=by
  refine Nat.eq_of_testBit_eq fun k=>?_;simp only [Nat.testBit_and,Nat.testBit_xor,Nat.zero_testBit];cases a.testBit k <;> cases b.testBit k <;> rfl
 have h3:=Po (a ^^^ (a &&& b)) (a &&& b);rw [h1,h2] at h3;omega
theorem A3 (a b k:Nat):(a - (a &&& b)).testBit k=(a.testBit k && !b.testBit k):=by
 rw [FK];simp only [Nat.testBit_and,Nat.testBit_xor];cases a.testBit k <;> cases b.testBit k <;> rfl
theorem Qz (a b:Nat):(a - (a &&& b)) - ((a - (a &&& b)) &&& a)=0:=by
 have h:(a - (a &&& b)) &&& a=a - (a &&& b):=by
  have e:a - (a &&& b)=a ^^^ (a &&& b):=FK a b;rw [e];refine Nat.eq_of_testBit_eq fun k=>?_;simp only [Nat.testBit_and,Nat.testBit_xor];cases a.testBit k <;> cases b.testBit k <;> rfl
 omega
theorem Nm (F:Fun K "turned" "turned" IV f fd) (T:E3 K C) (VO:FJ P w K mg base C VC) (GVN:Mt P w K mg base VC "number" 1 ["self"] (BI VC)) (GVK:Mt P w K mg base VC "kind" 1 ["self"] (Fc VC)) (GK:Mt P w K mg base C "known" 2 ["self"] (Fa C)) :
  FnOk P w K mg base CX0 6 f fd ["one"] (Go C VC):=by
 obtain ⟨fVN,dVN,GVN,mVN,bVN⟩:=GVN.ex;obtain ⟨fVK,dVK,GVK,mVK,bVK⟩:=GVK.ex;obtain ⟨fK,dK,GK,mK,bK⟩:=GK.ex;obtain ⟨fI,dI,MI,GI,bI⟩:=VO.make;have mV:=VO.cls;have VT:=VO.VT;refine F.m Pn fun vs H Q E h=>?_;obtain ⟨p,kp,n,due,r,rfl,hv,KA,hlt,k⟩:=h;refine ⟨rfl,fun ad A outer s hr=>?_⟩;have hr1:Room 1 _:=hr.mono (by decide);have hr2:Room 2 _:=hr.mono (by decide);refine ⟨_,AE (AO (B6 MI GI hr rfl mV bI .nil AM (AA (AR (pv 0) VT.cl mVK GVK hr1 bVK .nil AM) (AA (AQ CY (AR (AR (pv 0) VT.cl mVK GVK hr1 bVK .nil AM) T.cl mK GK hr2 bK .nil AM) (N6 KU (AR (pv 0) VT.cl mVN GVN hr1 bVN .nil AM))) AC)))),?_⟩;obtain ⟨dx,hp⟩:=hv;obtain ⟨dxk,d1,d2,ag⟩:=KA.ins;have nok:(BK kp n).lookup ("kind" : Str)=none:=Bo _ _ (by decide +kernel) (by decide +kernel);have nob:(BK kp n).lookup ("number" : Str)=none:=Bo _ _ (by decide +kernel) (by decide +kernel);refine ⟨_,rfl,p,dx,_,rfl,hp,nok,p,kp,n,rfl,⟨dx,hp⟩,_,rfl,p,dx,_,rfl,hp,nok,p,kp,n,rfl,⟨dx,hp⟩,kp,dxk,_,rfl,ag,(EV _ _ _),kp,due,r,rfl,KA,fun H1 s1=>?_⟩;refine ⟨_,rfl,p,dx,_,rfl,s1 _ _ hp,nob,p,kp,n,rfl,⟨dx,s1 _ _ hp⟩,_,rfl,_,_,rfl,rfl,?_⟩;intro q dq hq hdq ax;have sN:=BD (D:=VC) hq hdq ax;have eb:Builtin.bitAnd ((Ao ((AT due).map (·.1)):Nat):Int) (Builtin.bitNot (n:Int))=((kn due - (kn due &&& n):Nat):Int):=by rw [Dl,J4]; rfl
 refine ⟨q,dq,kp,due,r,kn due - (kn due &&& n),?_,AB,(KA.same s1).same sN,?_,.inr (Qz _ _),fun H2 s2 hV=>⟨rfl,?_⟩⟩
 ·show [V.ref q,V.ref kp,V.int (Builtin.bitAnd ((Ao ((AT due).map (·.1)):Nat):Int) (Builtin.bitNot (n:Int)))]=_;rw [eb]
 ·have h1:kn due - (kn due &&& n) <= kn due:=Nat.sub_le _ _;have h2:(2:Nat) ^ 20 < 2 ^ 40:=by decide
  omega
 ·exact k q H2 (s1.trans (A1 sN hq s2)) hV
end
section
variable {CU:Addr}
def E5 (K:FG):Sp:=fun vs H Q _=>∃ (e C:Addr) (dx:Option Addr) (x:Str),vs=[.ref e,.str x]/\Aw K C=true/\H e=some (JV e C dx)/\Q .non H
theorem Nn:AL ["self", "words"] ["self", "words"] (defScope Au):=fsc
theorem Lf (F:FunD K "__init__" "MarkError.__init__" Au f fd) (hV:mg "ValueError" = none):FnOk P w K mg base CX0 1 f fd ["self", "words"] (E5 K):=by
 refine F.ok Nn (fun vs H Q E h=>?_) (fun ad A outer s H vs Q E hr h=>?_)
 ·obtain ⟨e,C,dx,x,rfl,_⟩:=h;rfl
 ·obtain ⟨e,C,dx,x,rfl,hC,he,k⟩:=h;refine ⟨_,AE (FU (Oj rfl hV (AA (pv 0) (AA (pv 1) AC)))),?_⟩;exact ⟨_,rfl,_,rfl,e,C,dx,[.str x],rfl,(by show 1 <= 1000; decide),hC,he,k⟩
structure RX (P:Program) (w:World) (K:FG) (mg:SV) (base:Heap) (x:Str) (CU:Addr):Prop where
 cls:mg x=some (.ref CU)
 make:∃ f fd,MkX K CU f/\FnOk P w K mg base CX0 1 f fd ["self", "words"] (E5 K)/\Binds K fd ["self", "words"] []
def Uq (H:Hp) (E:XK) (CU:Addr):Prop:=∀ e H',Same H H'->H e=none->H' e=some (FP e CU none)->E (.ref CU) none H'
theorem none_of {x:Addr} (s:Same H H') (h:H' x=none):H x=none:=by
 cases e:H x with
 | none=>rfl
 | some u=>rw [s _ _ e] at h; cases h
theorem Lg {te:XK->TE} {σ:St} {H1:Hp} {E:XK} {D:Db} {x:Str} (hC:Aw K CU=true) (s1:Same H H1) (h:Uq H E CU):Og CU (Oe CU (E5 K) [] E0 (Al (tC (.str x)) Cz)) E D σ H1:=by
 refine ⟨(by show 1 <= 1000; decide),fun a ha=>?_⟩;refine ⟨a,CU,none,x,rfl,hC,AB,rfl,a,none,rfl,AB,?_⟩;refine h a _ (s1.trans ?_) (none_of s1 ha) AB;rw [Ll];exact AD (Same.refl _) ha
def Bi (C VC CU:Addr):Sp:=fun vs H Q E=>∃ (p1 k1:Addr) (n1:Nat) (due1:Aa) (r1:Str) (p2 k2:Addr) (n2:Nat) (ac:Aa) (r2:Str),vs=[.ref p1,.ref p2]/\ValAt VC H p1 k1 n1/\ValAt VC H p2 k2 n2/\KindAt C H k1 due1 r1/\KindAt C H k2 ac r2/\Asc due1/\Asc ac /\
 (((due1=ac/\r1=r2)/\∀ H',Same H H'->Q (.ref k1) H')\/(¬ (due1=ac/\r1=r2)/\Uq H E CU))
theorem Lh:AL ["one", "other"] ["one", "other"] (defScope DJ):=fsc
theorem J7 (F:Fun K "same_kind" "same_kind" DJ f fd) (T:E3 K C) (VT:Lc K VC) (GVK:Mt P w K mg base VC "kind" 1 ["self"] (Fc VC)) (GE:Mt P w K mg base C "__eq__" 2 ["self", "other"] (MY C))
  (neK:W.findIn K (.ref C) "__ne__" = some (some (.builtin "object.__ne__"))) (hm:W.mroIn K C (.type "object")=some true) (U:RX P w K mg base "Unlike" CU):FnOk P w K mg base (CXr P w) 4 f fd ["one", "other"] (Bi C VC CU):=by
 obtain ⟨fVK,dVK,GVK,mVK,bVK⟩:=GVK.ex;obtain ⟨fE,dE,GE,mE,bE⟩:=GE.ex;obtain ⟨fI,dI,MI,GI,bI⟩:=U.make;have mU:=U.cls;refine F.n Lh fun vs H Q E h=>?_;obtain ⟨p1,k1,n1,due1,r1,p2,k2,n2,ac,r2,rfl,hv1,hv2,K1,K2,a1,a2,h⟩:=h;refine ⟨rfl,fun ad A outer s hr=>?_⟩;have hr1:Room 1 _:=hr.mono (by decide);have hr2:Room 2 _:=hr.mono (by decide);have rz:=QQ (P:=P) (w:=w) (K:=K) (mg:=mg) (base:=base) (N:=["one", "other"]) (qual := "same_kind") (scope:=defScope DJ) (f:=f) (cd:=ad) (A:=A) (outer:=outer) (s:=s) (H:=H) (E:=E)
 refine ⟨_,AF (At (AW (JP GE hr bE mE neK hm) (AR (pv 0) VT.cl mVK GVK hr1 bVK .nil AM) (AR (pv 1) VT.cl mVK GVK hr1 bVK .nil AM) (Ac _))
   (AE (Oh rz rfl MI.cls (Of MI GI hr2 rfl mU bI .nil AM (AA Af AC)))) AY)
  (AE (AO (AR (pv 0) VT.cl mVK GVK hr1 bVK .nil AM))),?_⟩
 obtain ⟨dx1,aj⟩:=hv1;obtain ⟨dx2,ak⟩:=hv2;obtain ⟨dk1,d1,d2,hk1⟩:=K1.ins;obtain ⟨dk2,e1,e2,hk2⟩:=K2.ins;have no1:(BK k1 n1).lookup ("kind" : Str)=none:=Bo _ _ (by decide +kernel) (by decide +kernel);have no2:(BK k2 n2).lookup ("kind" : Str)=none:=Bo _ _ (by decide +kernel) (by decide +kernel);refine ⟨_,rfl,p1,dx1,_,rfl,aj,no1,p1,k1,n1,rfl,⟨dx1,aj⟩,_,rfl,p2,dx2,_,rfl,ak,no2,p2,k2,n2,rfl,⟨dx2,ak⟩,?_⟩;refine ⟨k1,dk1,_,k2,dk2,_,rfl,rfl,hk1,hk2,k1,k2,due1,r1,rfl,K1,a1,.inr ⟨ac,r2,K2,a2,fun H1 s1=>⟨_,rfl,_,rfl,_,rfl,?_⟩⟩⟩;rcases h with ⟨he,k⟩ | ⟨ax,hU⟩
 ·rw [decide_eq_true he];refine BG ?_;exact ⟨_,rfl,p1,dx1,_,rfl,s1 _ _ aj,no1,p1,k1,n1,rfl,⟨dx1,s1 _ _ aj⟩,k H1 s1⟩
 ·rw [decide_eq_false ax];refine Em ?_;exact Lg (te:=fun _=>tC .non) MI.cls s1 hU
end
theorem Q0 (a b:Nat):Builtin.bitXor (a:Int) (b:Int)=((a ^^^ b:Nat):Int):=by
 have h1:(a ^^^ b) ||| (a &&& b)=a ||| b:=by
  refine Nat.eq_of_testBit_eq fun k=>?_;simp only [Nat.testBit_and,Nat.testBit_xor,Nat.testBit_or];cases a.testBit k <;> cases b.testBit k <;> rfl
 have h2:(a ^^^ b) &&& (a &&& b)=0:=by
  refine Nat.eq_of_testBit_eq fun k=>?_;simp only [Nat.testBit_and,Nat.testBit_xor,Nat.zero_testBit];cases a.testBit k <;> cases b.testBit k <;> rfl
 have h3:=Po (a ^^^ b) (a &&& b);rw [h1,h2] at h3;have h4:Builtin.bitXor (a:Int) (b:Int)=Builtin.bitOr (a:Int) (b:Int) - Builtin.bitAnd (a:Int) (b:Int):=rfl;rw [h4,Cd,Br];omega
section
variable {CU:Addr}
def CD (g:Nat->Nat->Nat) (C VC CU:Addr):Sp:=fun vs H Q E=>∃ (p1 k1:Addr) (n1:Nat) (due1:Aa) (r1:Str) (p2 k2:Addr) (n2:Nat) (ac:Aa) (r2:Str),vs=[.ref p1,.ref p2]/\ValAt VC H p1 k1 n1/\ValAt VC H p2 k2 n2/\KindAt C H k1 due1 r1/\KindAt C H k2 ac r2/\Asc due1/\Asc ac /\
 (((due1=ac/\r1=r2)/\g n1 n2 < 2 ^ 40/\(r1 = "keep" \/ g n1 n2 - (g n1 n2 &&& kn due1)=0)/\∀ q H',Same H H'->ValAt VC H' q k1 (g n1 n2)->Q (.ref q) H')\/(¬ (due1=ac/\r1=r2)/\Uq H E CU))
structure FnX (P:Program) (w:World) (K:FG) (mg:SV) (base:Heap) (x:Str) (k:Nat) (ps:List Str) (sp:Sp):Prop where
 ex:∃ f fd,FnOk P w K mg base (CXr P w) k f fd ps sp/\mg x=some (.ref f)/\W.keepIn K (.ref f)=true/\Binds K fd ps []
noncomputable abbrev gOr (a b:Nat):Nat:=a ||| b
noncomputable abbrev Ip (a b:Nat):Nat:=a &&& b
noncomputable abbrev Q3 (a b:Nat):Nat:=a ^^^ b
noncomputable abbrev D4 (a b:Nat):Nat:=a - (a &&& b)
theorem Q4:AL ["one", "other"] ["one", "other"] (defScope IT):=fsc
theorem Pp (F:Fun K "union" "union" IT f fd) (VO:FJ P w K mg base C VC) (GVN:Mt P w K mg base VC "number" 1 ["self"] (BI VC)) (GS:FnX P w K mg base "same_kind" 4 ["one", "other"] (Bi C VC CU)) :
  FnOk P w K mg base (CXr P w) 6 f fd ["one", "other"] (CD gOr C VC CU):=by
 obtain ⟨fVN,dVN,GVN,mVN,bVN⟩:=GVN.ex;obtain ⟨fS,dS,GS,mS,kS,bS⟩:=GS.ex;obtain ⟨fI,dI,MI,GI,bI⟩:=VO.make;have mV:=VO.cls;have VT:=VO.VT;refine F.n Q4 fun vs H Q E h=>?_;obtain ⟨p1,k1,n1,due1,r1,p2,k2,n2,ac,r2,rfl,hv1,hv2,K1,K2,a1,a2,h⟩:=h;refine ⟨rfl,fun ad A outer s hr=>?_⟩;have hr1:Room 1 _:=hr.mono (by decide);have hr4:Room 4 _:=hr.mono (by decide);have ps:=JT (P:=P) (w:=w) (K:=K) (mg:=mg) (base:=base) (N:=["one", "other"]) (qual := "union") (scope:=defScope IT) (f:=f) (cd:=ad) (A:=A) (outer:=outer) (s:=s) (H:=H) (E:=E);refine ⟨_,AE (AO (B6 MI GI hr rfl mV bI .nil AM (AA (AH GS hr4 rfl mS kS bS .nil ps (AA (pv 0) (AA (pv 1) AC))) (AA (AQ Lo (AR (pv 0) VT.cl mVN GVN hr1 bVN .nil AM) (AR (pv 1) VT.cl mVN GVN hr1 bVN .nil AM)) AC)))),?_⟩;refine ⟨_,rfl,_,rfl,p1,k1,n1,due1,r1,p2,k2,n2,ac,r2,rfl,hv1,hv2,K1,K2,a1,a2,?_⟩;rcases h with ⟨he,hlt,hin,k⟩ | h
 ·refine .inl ⟨he,fun H1 s1=>?_⟩;obtain ⟨dx1,aj⟩:=hv1;obtain ⟨dx2,ak⟩:=hv2;have no1:(BK k1 n1).lookup ("number" : Str)=none:=Bo _ _ (by decide +kernel) (by decide +kernel);have no2:(BK k2 n2).lookup ("number" : Str)=none:=Bo _ _ (by decide +kernel) (by decide +kernel);refine ⟨_,rfl,p1,dx1,_,rfl,s1 _ _ aj,no1,p1,k1,n1,rfl,⟨dx1,s1 _ _ aj⟩,_,rfl,p2,dx2,_,rfl,s1 _ _ ak,no2,p2,k2,n2,rfl,⟨dx2,s1 _ _ ak⟩,_,_,rfl,rfl,?_⟩;intro q dq hq hdq ax;have sN:=BD (D:=VC) hq hdq ax;refine ⟨q,dq,k1,due1,r1,gOr n1 n2,?_,AB,(K1.same s1).same sN,hlt,hin,fun H2 s2 hV=>⟨rfl,k q H2 (s1.trans (A1 sN hq s2)) hV⟩⟩;show [V.ref q,V.ref k1,V.int (Builtin.bitOr (n1:Int) (n2:Int))]=_;rw [Cd]
 ·exact .inr h
theorem Q5:AL ["one", "other"] ["one", "other"] (defScope IU):=fsc
theorem Pq (F:Fun K "share" "share" IU f fd) (VO:FJ P w K mg base C VC) (GVN:Mt P w K mg base VC "number" 1 ["self"] (BI VC)) (GS:FnX P w K mg base "same_kind" 4 ["one", "other"] (Bi C VC CU)) :
  FnOk P w K mg base (CXr P w) 6 f fd ["one", "other"] (CD Ip C VC CU):=by
 obtain ⟨fVN,dVN,GVN,mVN,bVN⟩:=GVN.ex;obtain ⟨fS,dS,GS,mS,kS,bS⟩:=GS.ex;obtain ⟨fI,dI,MI,GI,bI⟩:=VO.make;have mV:=VO.cls;have VT:=VO.VT;refine F.n Q5 fun vs H Q E h=>?_;obtain ⟨p1,k1,n1,due1,r1,p2,k2,n2,ac,r2,rfl,hv1,hv2,K1,K2,a1,a2,h⟩:=h;refine ⟨rfl,fun ad A outer s hr=>?_⟩;have hr1:Room 1 _:=hr.mono (by decide);have hr4:Room 4 _:=hr.mono (by decide);have ps:=JT (P:=P) (w:=w) (K:=K) (mg:=mg) (base:=base) (N:=["one", "other"]) (qual := "share") (scope:=defScope IU) (f:=f) (cd:=ad) (A:=A) (outer:=outer) (s:=s) (H:=H) (E:=E);refine ⟨_,AE (AO (B6 MI GI hr rfl mV bI .nil AM (AA (AH GS hr4 rfl mS kS bS .nil ps (AA (pv 0) (AA (pv 1) AC))) (AA (AQ CY (AR (pv 0) VT.cl mVN GVN hr1 bVN .nil AM) (AR (pv 1) VT.cl mVN GVN hr1 bVN .nil AM)) AC)))),?_⟩;refine ⟨_,rfl,_,rfl,p1,k1,n1,due1,r1,p2,k2,n2,ac,r2,rfl,hv1,hv2,K1,K2,a1,a2,?_⟩;rcases h with ⟨he,hlt,hin,k⟩ | h
 ·refine .inl ⟨he,fun H1 s1=>?_⟩;obtain ⟨dx1,aj⟩:=hv1;obtain ⟨dx2,ak⟩:=hv2;have no1:(BK k1 n1).lookup ("number" : Str)=none:=Bo _ _ (by decide +kernel) (by decide +kernel);have no2:(BK k2 n2).lookup ("number" : Str)=none:=Bo _ _ (by decide +kernel) (by decide +kernel);refine ⟨_,rfl,p1,dx1,_,rfl,s1 _ _ aj,no1,p1,k1,n1,rfl,⟨dx1,s1 _ _ aj⟩,_,rfl,p2,dx2,_,rfl,s1 _ _ ak,no2,p2,k2,n2,rfl,⟨dx2,s1 _ _ ak⟩,_,_,rfl,rfl,?_⟩;intro q dq hq hdq ax;have sN:=BD (D:=VC) hq hdq ax;refine ⟨q,dq,k1,due1,r1,Ip n1 n2,?_,AB,(K1.same s1).same sN,hlt,hin,fun H2 s2 hV=>⟨rfl,k q H2 (s1.trans (A1 sN hq s2)) hV⟩⟩;show [V.ref q,V.ref k1,V.int (Builtin.bitAnd (n1:Int) (n2:Int))]=_;rw [Br]
 ·exact .inr h
theorem Pr:AL ["one", "other"] ["one", "other"] (defScope FX):=fsc
theorem No (F:Fun K "unlike" "unlike" FX f fd) (VO:FJ P w K mg base C VC) (GVN:Mt P w K mg base VC "number" 1 ["self"] (BI VC)) (GS:FnX P w K mg base "same_kind" 4 ["one", "other"] (Bi C VC CU)) :
  FnOk P w K mg base (CXr P w) 6 f fd ["one", "other"] (CD Q3 C VC CU):=by
 obtain ⟨fVN,dVN,GVN,mVN,bVN⟩:=GVN.ex;obtain ⟨fS,dS,GS,mS,kS,bS⟩:=GS.ex;obtain ⟨fI,dI,MI,GI,bI⟩:=VO.make;have mV:=VO.cls;have VT:=VO.VT;refine F.n Pr fun vs H Q E h=>?_;obtain ⟨p1,k1,n1,due1,r1,p2,k2,n2,ac,r2,rfl,hv1,hv2,K1,K2,a1,a2,h⟩:=h;refine ⟨rfl,fun ad A outer s hr=>?_⟩;have hr1:Room 1 _:=hr.mono (by decide);have hr4:Room 4 _:=hr.mono (by decide);have ps:=JT (P:=P) (w:=w) (K:=K) (mg:=mg) (base:=base) (N:=["one", "other"]) (qual := "unlike") (scope:=defScope FX) (f:=f) (cd:=ad) (A:=A) (outer:=outer) (s:=s) (H:=H) (E:=E);refine ⟨_,AE (AO (B6 MI GI hr rfl mV bI .nil AM (AA (AH GS hr4 rfl mS kS bS .nil ps (AA (pv 0) (AA (pv 1) AC))) (AA (AQ Rr (AR (pv 0) VT.cl mVN GVN hr1 bVN .nil AM) (AR (pv 1) VT.cl mVN GVN hr1 bVN .nil AM)) AC)))),?_⟩;refine ⟨_,rfl,_,rfl,p1,k1,n1,due1,r1,p2,k2,n2,ac,r2,rfl,hv1,hv2,K1,K2,a1,a2,?_⟩;rcases h with ⟨he,hlt,hin,k⟩ | h
 ·refine .inl ⟨he,fun H1 s1=>?_⟩;obtain ⟨dx1,aj⟩:=hv1;obtain ⟨dx2,ak⟩:=hv2;have no1:(BK k1 n1).lookup ("number" : Str)=none:=Bo _ _ (by decide +kernel) (by decide +kernel);have no2:(BK k2 n2).lookup ("number" : Str)=none:=Bo _ _ (by decide +kernel) (by decide +kernel);refine ⟨_,rfl,p1,dx1,_,rfl,s1 _ _ aj,no1,p1,k1,n1,rfl,⟨dx1,s1 _ _ aj⟩,_,rfl,p2,dx2,_,rfl,s1 _ _ ak,no2,p2,k2,n2,rfl,⟨dx2,s1 _ _ ak⟩,_,_,rfl,rfl,?_⟩;intro q dq hq hdq ax;have sN:=BD (D:=VC) hq hdq ax;refine ⟨q,dq,k1,due1,r1,Q3 n1 n2,?_,AB,(K1.same s1).same sN,hlt,hin,fun H2 s2 hV=>⟨rfl,k q H2 (s1.trans (A1 sN hq s2)) hV⟩⟩;show [V.ref q,V.ref k1,V.int (Builtin.bitXor (n1:Int) (n2:Int))]=_;rw [Q0]
 ·exact .inr h
theorem Np:AL ["one", "other"] ["one", "other"] (defScope EO):=fsc
theorem Li (F:Fun K "without" "without" EO f fd) (VO:FJ P w K mg base C VC) (GVN:Mt P w K mg base VC "number" 1 ["self"] (BI VC)) (GS:FnX P w K mg base "same_kind" 4 ["one", "other"] (Bi C VC CU)) :
  FnOk P w K mg base (CXr P w) 6 f fd ["one", "other"] (CD D4 C VC CU):=by
 obtain ⟨fVN,dVN,GVN,mVN,bVN⟩:=GVN.ex;obtain ⟨fS,dS,GS,mS,kS,bS⟩:=GS.ex;obtain ⟨fI,dI,MI,GI,bI⟩:=VO.make;have mV:=VO.cls;have VT:=VO.VT;refine F.n Np fun vs H Q E h=>?_;obtain ⟨p1,k1,n1,due1,r1,p2,k2,n2,ac,r2,rfl,hv1,hv2,K1,K2,a1,a2,h⟩:=h;refine ⟨rfl,fun ad A outer s hr=>?_⟩;have hr1:Room 1 _:=hr.mono (by decide);have hr4:Room 4 _:=hr.mono (by decide);have ps:=JT (P:=P) (w:=w) (K:=K) (mg:=mg) (base:=base) (N:=["one", "other"]) (qual := "without") (scope:=defScope EO) (f:=f) (cd:=ad) (A:=A) (outer:=outer) (s:=s) (H:=H) (E:=E);refine ⟨_,AE (AO (B6 MI GI hr rfl mV bI .nil AM (AA (AH GS hr4 rfl mS kS bS .nil ps (AA (pv 0) (AA (pv 1) AC))) (AA (AQ CY (AR (pv 0) VT.cl mVN GVN hr1 bVN .nil AM) (N6 KU (AR (pv 1) VT.cl mVN GVN hr1 bVN .nil AM))) AC)))),?_⟩;refine ⟨_,rfl,_,rfl,p1,k1,n1,due1,r1,p2,k2,n2,ac,r2,rfl,hv1,hv2,K1,K2,a1,a2,?_⟩;rcases h with ⟨he,hlt,hin,k⟩ | h
 ·refine .inl ⟨he,fun H1 s1=>?_⟩;obtain ⟨dx1,aj⟩:=hv1;obtain ⟨dx2,ak⟩:=hv2;have no1:(BK k1 n1).lookup ("number" : Str)=none:=Bo _ _ (by decide +kernel) (by decide +kernel);have no2:(BK k2 n2).lookup ("number" : Str)=none:=Bo _ _ (by decide +kernel) (by decide +kernel);refine ⟨_,rfl,p1,dx1,_,rfl,s1 _ _ aj,no1,p1,k1,n1,rfl,⟨dx1,s1 _ _ aj⟩,_,rfl,p2,dx2,_,rfl,s1 _ _ ak,no2,p2,k2,n2,rfl,⟨dx2,s1 _ _ ak⟩,_,rfl,_,_,rfl,rfl,?_⟩;intro q dq hq hdq ax;have sN:=BD (D:=VC) hq hdq ax;refine ⟨q,dq,k1,due1,r1,D4 n1 n2,?_,AB,(K1.same s1).same sN,hlt,hin,fun H2 s2 hV=>⟨rfl,k q H2 (s1.trans (A1 sN hq s2)) hV⟩⟩;show [V.ref q,V.ref k1,V.int (Builtin.bitAnd (n1:Int) (Builtin.bitNot (n2:Int)))]=_;rw [Dl]
 ·exact .inr h
def Ed (C VC CU:Addr):Sp:=fun vs H Q E=>∃ (p1 k1:Addr) (n1:Nat) (due1:Aa) (r1:Str) (p2 k2:Addr) (n2:Nat) (ac:Aa) (r2:Str),vs=[.ref p1,.ref p2]/\ValAt VC H p1 k1 n1/\ValAt VC H p2 k2 n2/\KindAt C H k1 due1 r1/\KindAt C H k2 ac r2/\Asc due1/\Asc ac /\
 (((due1=ac/\r1=r2)/\D4 n1 n2 < 2 ^ 40/\(r1 = "keep" \/ D4 n1 n2 - (D4 n1 n2 &&& kn due1)=0)/\∀ H',Same H H'->Q (.bl (decide (D4 n1 n2=0))) H')\/(¬ (due1=ac/\r1=r2)/\Uq H E CU))
theorem Ps:AL ["one", "other"] ["one", "other"] (defScope FY):=fsc
theorem Nq (F:Fun K "within" "within" FY f fd) (VO:FJ P w K mg base C VC) (GVN:Mt P w K mg base VC "number" 1 ["self"] (BI VC)) (GW:FnX P w K mg base "without" 6 ["one", "other"] (CD D4 C VC CU)) :
  FnOk P w K mg base (CXr P w) 7 f fd ["one", "other"] (Ed C VC CU):=by
 obtain ⟨fVN,dVN,GVN,mVN,bVN⟩:=GVN.ex;obtain ⟨fS,dS,GS,mS,kS,bS⟩:=GW.ex;have VT:=VO.VT;refine F.n Ps fun vs H Q E h=>?_;obtain ⟨p1,k1,n1,due1,r1,p2,k2,n2,ac,r2,rfl,hv1,hv2,K1,K2,a1,a2,h⟩:=h;refine ⟨rfl,fun ad A outer s hr=>?_⟩;have hr1:Room 1 _:=hr.mono (by decide);have ps:=JT (P:=P) (w:=w) (K:=K) (mg:=mg) (base:=base) (N:=["one", "other"]) (qual := "within") (scope:=defScope FY) (f:=f) (cd:=ad) (A:=A) (outer:=outer) (s:=s) (H:=H) (E:=E);refine ⟨_,AE (AO (Bj DU (AR (AH GS hr rfl mS kS bS .nil ps (AA (pv 0) (AA (pv 1) AC))) VT.cl mVN GVN hr1 bVN .nil AM) AI (Ac _))),?_⟩;refine ⟨_,rfl,_,rfl,p1,k1,n1,due1,r1,p2,k2,n2,ac,r2,rfl,hv1,hv2,K1,K2,a1,a2,?_⟩;rcases h with ⟨he,hlt,hin,k⟩ | h
 ·refine .inl ⟨he,hlt,hin,fun q H1 s1 hV=>?_⟩;obtain ⟨dq,hq⟩:=id hV;refine ⟨q,dq,_,rfl,hq,Bo _ _ (by decide +kernel) (by decide +kernel),q,k1,_,rfl,hV,rfl,?_⟩;have e:decide (V.int ((D4 n1 n2:Nat):Int)=V.int 0)=decide (D4 n1 n2=0):=decide_eq_decide.mpr ⟨fun z=>by have:=V.int.inj z; omega,fun z=>by rw [z]; rfl⟩;rw [e];exact k H1 s1
 ·exact .inr h
end
noncomputable def wds:List Str:=["BadRows", "BadRest", "BadText", "Unled", "BadRule", "BadName", "BadNumber", "Unlike", "BadPairs", "Never", "Nothing"]
noncomputable def wd (j:Nat):Str:=wds.getD j ""
noncomputable def flg (j:Nat):List Bool:=(List.range 11).map fun i=>decide (i=j)
noncomputable def b1 (b:Bool):Int:=if b then 1 else 0
theorem Ma:∀ j,j < 11->((flg j).map b1).sum=1:=by decide +kernel
theorem SY:∀ j,j < 11->(flg j)[j]?=some true/\∀ m,m < j->(flg j)[m]?=some false:=by decide +kernel
theorem SZ:∀ j:Nat,j < 11->atI (wds.map V.str) (j:Int)=some (V.str (wd j)):=by decide +kernel
structure Nr (mg:SV) (ec:Nat->Addr):Prop where
 e0:mg "BadRows" = some (.ref (ec 0))
 e1:mg "BadRest" = some (.ref (ec 1))
 e2:mg "BadText" = some (.ref (ec 2))
 e3:mg "Unled" = some (.ref (ec 3))
 e4:mg "BadRule" = some (.ref (ec 4))
 e5:mg "BadName" = some (.ref (ec 5))
 e6:mg "BadNumber" = some (.ref (ec 6))
 e7:mg "Unlike" = some (.ref (ec 7))
 e8:mg "BadPairs" = some (.ref (ec 8))
 e9:mg "Never" = some (.ref (ec 9))
 e10:mg "Nothing" = some (.ref (ec 10))
 ev:mg "ValueError" = none
structure Mb (K:FG) (ec:Nat->Addr) (C:Addr) (j:Nat):Prop where
 hj:j < 11
 kx:QY K C
 kit:∀ i,i < 11->W.kitOne K (.ref C) (.ref (ec i))=some (decide (i=j))
 val:W.kitOne K (.ref C) (.type "ValueError")=some true
section
variable {ec:Nat->Addr}
theorem BZ {X:Cx} {a:Expr} {te:TE} {e c:Addr} {oe:Obj} {x:Str} {p p2 pos:Pos} (K:FG) (hK:X.K=K) (pX:ExcP X e oe C) (k:QY K C) (hg:Gl X "isinstance") (hm:X.mg "isinstance" = none) (hgT:Gl X x) (hmT:X.mg x=some (.ref c)) (he:PE X a te)
  (hdb:(x == ("__debug__" : Str))=false:=by decide)
  (hs:starEach [a,.Name x p2] X.env=(false,eval a X.env) :: starEach [.Name x p2] X.env:=by rfl) (hpl:(backTo pos (starEach [.Name x p2] X.env)).any (·.1)=false:=by rfl) (hs2:starEach [.Name x p2] X.env=(false,eval (.Name x p2) X.env) :: starEach [] X.env:=by rfl) :
  PE X (.Call (.Name "isinstance" p) [a,.Name x p2] [] pos) (tCB (fun xs H Q=>∃ v c b,xs=[.ref e,v]/\((∃ D,v=.ref D/\c=.ref D)\/∃ T,v=.ty T/\c=.type T)/\(oe.dict=none\/∃ d u,oe.dict=some d/\H d=some u)/\W.kitOne K (.ref C) c=some b/\Q (.bl b) H) (Al te (Al (tC (.ref c)) Cz))):=by
 subst hK;exact Ab (HX pX k) hg hm GY (AA he (AA (BE (v:=.ref c) hgT hmT rfl hdb) AC hs2) hs) (by decide) (by decide) hs hpl
def Cj (K:FG) (ec:Nat->Addr):SpS:=fun e oe vs H Q=>vs=[.ref e]/\∃ (C:Addr) (j:Nat) (fs:Array Value),oe.cls=.ref C/\oe.data=.fields fs/\fs[2]?=some .none/\(oe.dict=none\/∃ d u,oe.dict=some d/\H d=some u)/\Mb K ec C j /\
 ∀ p H',Same H H'->H' p=some (.tup [.str "refused", .str (wd j)])->Q (.ref p) H'
theorem scWord:AL ["_law_e", "_law_flags", "_law_words"] ["_law_e"] (defScope DB):=fsc
theorem Q6 (F:Fun K "_law_word" "_law_word" DB f fd) (B:Bl mg) (M:Nr mg ec):MH P w K mg base 1 f fd ["_law_e"] (Cj K ec):=by
 refine F.okS scWord (fun e oe vs H Q h=>?_) (fun ad A outer s H vs Q e oe hh hr h=>?_)
 ·obtain ⟨rfl,_⟩:=h;rfl
 ·obtain ⟨rfl,C,j,fs,hc,hf,h2,hd,EA,k⟩:=h;have hj:=EA.hj
  have hdS:∀ H',Same H H'->(oe.dict=none\/∃ d u,oe.dict=some d/\H' d=some u):=fun H' s=>by
   rcases hd with z | ⟨d,u,z,y⟩
   ·exact .inl z
   ·exact .inr ⟨d,u,z,s _ _ y⟩
  have kt:=EA.kit;have pX:ExcP (F2 P w K mg base ["_law_e", "_law_flags", "_law_words"] "_law_word" (defScope DB) f ad A outer s H e oe) e oe C:=⟨mem_cons_self,hc,⟨fs,hf⟩⟩;have rd:Rdy (F2 P w K mg base ["_law_e", "_law_flags", "_law_words"] "_law_word" (defScope DB) f ad A outer s H e oe):=QV hh hf h2
  refine ⟨_,AF (Aj (i:=1) scWord.nd rfl (Or.inl rfl) (A7 (AA (BZ K rfl pX EA.kx rfl B.isi rfl M.e0 (pv 0)) (AA (BZ K rfl pX EA.kx rfl B.isi rfl M.e1 (pv 0)) (AA (BZ K rfl pX EA.kx rfl B.isi rfl M.e2 (pv 0)) (AA (BZ K rfl pX EA.kx rfl B.isi rfl M.e3 (pv 0)) AC))))))
   (AF (Aj (i:=1) scWord.nd rfl (Or.inl rfl) (AQ C1 (pv 1) (A7 (AA (BZ K rfl pX EA.kx rfl B.isi rfl M.e4 (pv 0)) (AA (BZ K rfl pX EA.kx rfl B.isi rfl M.e5 (pv 0)) (AA (BZ K rfl pX EA.kx rfl B.isi rfl M.e6 (pv 0)) AC))))))
   (AF (Aj (i:=1) scWord.nd rfl (Or.inl rfl) (AQ C1 (pv 1) (A7 (AA (BZ K rfl pX EA.kx rfl B.isi rfl M.e7 (pv 0)) AC))))
   (AF (Aj (i:=1) scWord.nd rfl (Or.inl rfl) (AQ C1 (pv 1) (A7 (AA (BZ K rfl pX EA.kx rfl B.isi rfl M.e8 (pv 0)) (AA (BZ K rfl pX EA.kx rfl B.isi rfl M.e9 (pv 0)) (AA (BZ K rfl pX EA.kx rfl B.isi rfl M.e10 (pv 0)) AC))))))
   (AF (Aj (i:=2) scWord.nd rfl (Or.inl rfl) (A7 (AA Af (AA Af (AA Af (AA Af (AA Af (AA Af (AA Af AC)))))))))
   (AF (Aj (i:=2) scWord.nd rfl (Or.inl rfl) (AQ C1 (pv 2) (A7 (AA Af (AA Af AC)))))
   (AF (At (PW.pt (FA (AW Fk (Ab (HQ rd) rfl B.sum O9 (AA (Mz [] [] (by kernel_rfl) (by decide +kernel) (by kernel_rfl) rd (OQ (pv 1)) (fun _ _ _ _ _ _=>B8) (fun _ _ _ _ _ _=>Bt Mo rfl B.int PB (AA (pv 0) AC))) AC)) AI (Ac _))
     (Cq (Bn (Bd (Ab (HX pX EA.kx) rfl B.isi GY (AA (pv 0) (AA (Lm (v:=.ty "ValueError") rfl M.ev MF rfl) AC)))))))) (AE Ag) AY)
   (AE (AO (Be (AA Af (AA (By (Az K rfl) (AQ C1 (pv 2) (A7 (AA Af (AA Af AC)))) (Ly PySem.F.plainAttrs_list PySem.F.slot_list_index PySem.F.type_list_index NH (pv 1) (AA Nw AC)) (fun _ _=>rfl)) AC))))))))))),?_⟩
  refine ⟨_,rfl,_,_,_,rfl,.inl ⟨_,rfl,rfl⟩,hdS _ (Same.refl _),kt 0 (by decide),_,rfl,_,_,_,rfl,.inl ⟨_,rfl,rfl⟩,hdS _ (Same.refl _),kt 1 (by decide),_,rfl,_,_,_,rfl,.inl ⟨_,rfl,rfl⟩,hdS _ (Same.refl _),kt 2 (by decide),_,rfl,_,_,_,rfl,.inl ⟨_,rfl,rfl⟩,hdS _ (Same.refl _),kt 3 (by decide),sl4,fun l1 h1=>?_⟩;have s1:=AD (Same.refl H) h1 (o:=.lst [V.bl (decide (0=j)),V.bl (decide (1=j)),V.bl (decide (2=j)),V.bl (decide (3=j))]);have a1:=AB (H:=H) (a:=l1) (o:=.lst [V.bl (decide (0=j)),V.bl (decide (1=j)),V.bl (decide (2=j)),V.bl (decide (3=j))]);generalize upd H l1 (.lst [V.bl (decide (0=j)),V.bl (decide (1=j)),V.bl (decide (2=j)),V.bl (decide (3=j))])=H1 at s1 a1 ⊢;refine ⟨_,rfl,_,rfl,_,_,_,rfl,.inl ⟨_,rfl,rfl⟩,hdS _ s1,kt 4 (by decide),_,rfl,_,_,_,rfl,.inl ⟨_,rfl,rfl⟩,hdS _ s1,kt 5 (by decide),_,rfl,_,_,_,rfl,.inl ⟨_,rfl,rfl⟩,hdS _ s1,kt 6 (by decide),sl3,fun l2 h2'=>?_⟩;refine ⟨l1,l2,_,_,rfl,rfl,(AD (Same.refl H1) h2') _ _ a1,AB,(by show 4 + 3 <= sizeLine; decide),fun l3 h3=>?_⟩;have s3:=s1.trans (AD (AD (Same.refl H1) h2' (o:=.lst [V.bl (decide (4=j)),V.bl (decide (5=j)),V.bl (decide (6=j))])) h3 (o:=.lst ([V.bl (decide (0=j)),V.bl (decide (1=j)),V.bl (decide (2=j)),V.bl (decide (3=j))]++[V.bl (decide (4=j)),V.bl (decide (5=j)),V.bl (decide (6=j))])));generalize e3:upd (upd H1 l2 (.lst [V.bl (decide (4=j)),V.bl (decide (5=j)),V.bl (decide (6=j))])) l3 (.lst ([V.bl (decide (0=j)),V.bl (decide (1=j)),V.bl (decide (2=j)),V.bl (decide (3=j))]++[V.bl (decide (4=j)),V.bl (decide (5=j)),V.bl (decide (6=j))]))=H3 at s3 ⊢;have a3:H3 l3=some (.lst ([V.bl (decide (0=j)),V.bl (decide (1=j)),V.bl (decide (2=j)),V.bl (decide (3=j))]++[V.bl (decide (4=j)),V.bl (decide (5=j)),V.bl (decide (6=j))])):=by rw [← e3,AB]
  refine ⟨_,rfl,_,rfl,_,_,_,rfl,.inl ⟨_,rfl,rfl⟩,hdS _ s3,kt 7 (by decide),sl1,fun l4 h4=>?_⟩;refine ⟨l3,l4,_,_,rfl,rfl,(AD (Same.refl H3) h4) _ _ a3,AB,(by show 7 + 1 <= sizeLine; decide),fun l5 h5=>?_⟩;have s5:=s3.trans (AD (AD (Same.refl H3) h4 (o:=.lst [V.bl (decide (7=j))])) h5 (o:=.lst (([V.bl (decide (0=j)),V.bl (decide (1=j)),V.bl (decide (2=j)),V.bl (decide (3=j))]++[V.bl (decide (4=j)),V.bl (decide (5=j)),V.bl (decide (6=j))])++[V.bl (decide (7=j))])));generalize e5:upd (upd H3 l4 (.lst [V.bl (decide (7=j))])) l5 (.lst (([V.bl (decide (0=j)),V.bl (decide (1=j)),V.bl (decide (2=j)),V.bl (decide (3=j))]++[V.bl (decide (4=j)),V.bl (decide (5=j)),V.bl (decide (6=j))])++[V.bl (decide (7=j))]))=H5 at s5 ⊢;have a5:H5 l5=some (.lst (([V.bl (decide (0=j)),V.bl (decide (1=j)),V.bl (decide (2=j)),V.bl (decide (3=j))]++[V.bl (decide (4=j)),V.bl (decide (5=j)),V.bl (decide (6=j))])++[V.bl (decide (7=j))])):=by rw [← e5,AB]
  refine ⟨_,rfl,_,rfl,_,_,_,rfl,.inl ⟨_,rfl,rfl⟩,hdS _ s5,kt 8 (by decide),_,rfl,_,_,_,rfl,.inl ⟨_,rfl,rfl⟩,hdS _ s5,kt 9 (by decide),_,rfl,_,_,_,rfl,.inl ⟨_,rfl,rfl⟩,hdS _ s5,kt 10 (by decide),sl3,fun l6 h6=>?_⟩;refine ⟨l5,l6,_,_,rfl,rfl,(AD (Same.refl H5) h6) _ _ a5,AB,(by show 8 + 3 <= sizeLine; decide),fun l7 h7=>?_⟩;have s7:=s5.trans (AD (AD (Same.refl H5) h6 (o:=.lst [V.bl (decide (8=j)),V.bl (decide (9=j)),V.bl (decide (10=j))])) h7 (o:=.lst ((([V.bl (decide (0=j)),V.bl (decide (1=j)),V.bl (decide (2=j)),V.bl (decide (3=j))]++[V.bl (decide (4=j)),V.bl (decide (5=j)),V.bl (decide (6=j))])++[V.bl (decide (7=j))])++[V.bl (decide (8=j)),V.bl (decide (9=j)),V.bl (decide (10=j))])));generalize e7:upd (upd H5 l6 (.lst [V.bl (decide (8=j)),V.bl (decide (9=j)),V.bl (decide (10=j))])) l7 (.lst ((([V.bl (decide (0=j)),V.bl (decide (1=j)),V.bl (decide (2=j)),V.bl (decide (3=j))]++[V.bl (decide (4=j)),V.bl (decide (5=j)),V.bl (decide (6=j))])++[V.bl (decide (7=j))])++[V.bl (decide (8=j)),V.bl (decide (9=j)),V.bl (decide (10=j))]))=H7 at s7 ⊢;have a7:H7 l7=some (.lst ((flg j).map V.bl)):=by rw [← e7]; exact AB
  refine ⟨sl7,fun l8 h8=>?_⟩;refine ⟨_,rfl,sl2,fun l9 h9=>?_⟩;refine ⟨l8,l9,_,_,rfl,rfl,(AD (Same.refl _) h9) _ _ AB,AB,(by show 7 + 2 <= sizeLine; decide),fun l10 h10=>?_⟩;have s10:=AD (AD (AD (Same.refl H7) h8 (o:=.lst [V.str "BadRows", V.str "BadRest", V.str "BadText", V.str "Unled", V.str "BadRule", V.str "BadName", V.str "BadNumber"])) h9 (o:=.lst [V.str "Unlike", V.str "BadPairs"])) h10 (o:=.lst ([V.str "BadRows", V.str "BadRest", V.str "BadText", V.str "Unled", V.str "BadRule", V.str "BadName", V.str "BadNumber"]++[V.str "Unlike", V.str "BadPairs"]));generalize e10:upd (upd (upd H7 l8 (.lst [V.str "BadRows", V.str "BadRest", V.str "BadText", V.str "Unled", V.str "BadRule", V.str "BadName", V.str "BadNumber"])) l9 (.lst [V.str "Unlike", V.str "BadPairs"])) l10 (.lst ([V.str "BadRows", V.str "BadRest", V.str "BadText", V.str "Unled", V.str "BadRule", V.str "BadName", V.str "BadNumber"]++[V.str "Unlike", V.str "BadPairs"]))=H10 at s10 ⊢;have a10:H10 l10=some (.lst ([V.str "BadRows", V.str "BadRest", V.str "BadText", V.str "Unled", V.str "BadRule", V.str "BadName", V.str "BadNumber"]++[V.str "Unlike", V.str "BadPairs"])):=by rw [← e10]; exact AB
  have b7:=s10 _ _ a7;refine ⟨_,rfl,l7,rfl,⟨_,SqL.of b7⟩,Bv (K:=K) (a:=l7) (xs:=(flg j).map V.bl) (fun i ys H2=>ys=((flg j).take i).map (fun b=>V.int (b1 b))/\H2=H10) ⟨rfl,rfl⟩ (fun i ys H2 _ ⟨_,e⟩=>e ▸ SqL.of b7) (fun i ys H2 ⟨e,_⟩=>?_) ?_ ?_⟩
  ·rw [e,AK,length_take];have:(flg j).length=11:=rfl;omega
  ·rintro i v ys H2 hi ⟨rfl,rfl⟩;rw [getElem?_map] at hi;obtain ⟨b,hb,rfl⟩:=Option.map_eq_some_iff.mp hi;refine ⟨_,rfl,.inr ⟨b,rfl,?_,rfl⟩⟩;rw [take_add_one,hb,Option.toList_some,map_append];rfl
  ·rintro ys H2 ⟨rfl,rfl⟩ p hp;have el:(flg j).take ((flg j).map V.bl).length=flg j:=by rw [AK]; exact take_length
   rw [el];have em:(flg j).map (fun b=>V.int (b1 b))=((flg j).map b1).map V.int:=by rw [map_map]; rfl
   rw [em];have s11:=AD (Same.refl H2) hp (o:=.lst (((flg j).map b1).map V.int));refine ⟨p,(flg j).map b1,rfl,SqL.of AB,fun n hn=>?_,(by rw [Ma j hj]; decide),rfl,_,rfl,?_⟩
   ·obtain ⟨b,_,rfl⟩:=mem_map.mp hn;unfold b1;split <;> decide
   rw [Ma j hj];refine BG ?_;refine ⟨_,rfl,_,_,true,rfl,.inr ⟨_,rfl,rfl⟩,hdS _ (s7.trans (s10.trans s11)),EA.val,_,rfl,?_⟩;refine BG ?_;refine ⟨_,rfl,sl2,fun l11 h11=>?_⟩;have s12:=AD s11 h11 (o:=.lst [V.str "Never", V.str "Nothing"]);refine ⟨l10,l11,_,_,rfl,rfl,s12 _ _ a10,AB,(by show 9 + 2 <= sizeLine; decide),fun l12 h12=>?_⟩;have s13:=AD s12 h12 (o:=.lst (([V.str "BadRows", V.str "BadRest", V.str "BadText", V.str "Unled", V.str "BadRule", V.str "BadName", V.str "BadNumber"]++[V.str "Unlike", V.str "BadPairs"])++[V.str "Never", V.str "Nothing"]));have c7:=s13 _ _ b7;obtain ⟨f1,f2⟩:=SY j hj;refine ⟨_,rfl,.inl ⟨rfl,_,SqL.of c7⟩,l7,flg j,j,rfl,rfl,c7,f1,f2,l12,_,(j:Int),_,rfl,rfl,SqL.of AB,SZ j hj,sl2,fun q hq=>?_⟩;exact k q _ (s7.trans (s10.trans (AD s13 hq))) AB
end
structure J8 (K:FG) (ec:Nat->Addr) (cM C:Addr) (j:Nat):Prop where
 ea:Mb K ec C j
 cx:Aw K C=true
 n0:(DT K C).contains (.ref (ec 0))=false
 n1:(DT K C).contains (.ref (ec 1))=false
 n2:(DT K C).contains (.ref (ec 2))=false
 n3:(DT K C).contains (.ref (ec 3))=false
 m:(DT K C).contains (.ref cM)=true
noncomputable def Iq (j:Nat):Str:=(["at", "bits", "at", "name"]:List Str).getD j ""
structure RY (K:FG) (ec:Nat->Addr) (C:Addr) (j:Nat):Prop where
 ea:Mb K ec C j
 cx:Aw K C=true
 j4:j < 4
 no:∀ i,i < j->(DT K C).contains (.ref (ec i))=false
 m:(DT K C).contains (.ref (ec j))=true
 g:TD K C (Iq j)
structure Pt (K:FG) (mg:SV) (ec:Nat->Addr) (cM:Addr):Prop where
 m:mg "MarkError" = some (.ref cM)
 xm:Aw K cM=true
 x0:Aw K (ec 0)=true
 x1:Aw K (ec 1)=true
 x2:Aw K (ec 2)=true
 x3:Aw K (ec 3)=true
structure FnS (P:Program) (w:World) (K:FG) (mg:SV) (base:Heap) (x:Str) (k:Nat) (ps:List Str) (sp:SpS):Prop where
 ex:∃ f fd,MH P w K mg base k f fd ps sp/\mg x=some (.ref f)/\W.keepIn K (.ref f)=true/\Binds K fd ps []
def Pu (K:FG) (ec:Nat->Addr) (cM C:Addr) (dx:Option Addr) (e:Addr):TS:=fun D σ H=>σ.length=2 /\
 ((∃ j,J8 K ec cM C j/\dx=none/\∀ p H',Same H H'->H' p=some (.tup [.str "refused", .str (wd j)])->D.rt (.ref p) H') \/
  ∃ j d v,RY K ec C j/\dx=some d/\H d=some (.xd [(Iq j,v)])/\∀ p H',Same H H'->H' p=some (.tup [.str "refused", .str (wd j),v])->D.rt (.ref p) H')
def J9 (K:FG) (ec:Nat->Addr) (cM:Addr) (Q:VK):XK:=fun Cv dx H2=>∃ C,Cv=.ref C/\∀ e,H2 e=some (FP e C dx) ->
 ((∃ j,J8 K ec cM C j/\dx=none/\∀ p H',Same (del H2 e) H'->H' p=some (.tup [.str "refused", .str (wd j)])->Q (.ref p) H') \/
  ∃ j d v,RY K ec C j/\dx=some d/\(del H2 e) d=some (.xd [(Iq j,v)])/\∀ p H',Same (del H2 e) H'->H' p=some (.tup [.str "refused", .str (wd j),v])->Q (.ref p) H')
theorem scTold:AL ["_law_deed", "_law_e"] ["_law_deed"] (defScope Ai):=fsc
section
variable {ec:Nat->Addr} {cM:Addr}
theorem Pw {X:Cx} (K:FG) (hK:X.K=K):OpR X (binaryOp .Add) (Lv K):=hK ▸ QB
theorem Q7 {k:Nat} {lf c':Addr} (F:Fun K "_law_told" "_law_told" Ai f fd) (M:Nr mg ec) (EX:Pt K mg ec cM) (GW:FnS P w K mg base "_law_word" 1 ["_law_e"] (Cj K ec))
  {A:Around} {outer:List Env} {s:Shared} {H:Hp} {args:Args} {Nl:List Str} {scope:Scope} {cl:List (Str × Addr)} {σl:St} {name qual:Str} {params:Arguments} {body:Expr} {pm ctv:Value} {tl:XK->TE} {Q:VK}
  (hr:Room (k + 2) A) (e0:Env0 P w K mg base A outer s H) (hb:BindsTo s fd args ((["_law_deed"]:List Str).zip [Value.ref lf])) (C:F3 Nl scope cl σl H s.heap) (hfs:∀ x c,cl.lookup x=some c->c ∉ frs outer)
  (h1:H lf=some (FnO lf (W.kla_obj name qual params body scope cl pm c' ctv))) (h2:H c'=some (EG c' qual))
  (bn:bindArgs (W.kla_fn name qual params body scope cl pm (.ref c') ctv) ⟨[],[]⟩=pure [])
  (hco:scope.isCoroutine=false) (bq:scope.isGenerator=false) (hk:scope.kind=.function) (be:∀ x ∈ scope.names,x.2 ≠ .cell)
  (ck:∀ (A':Around) (outer':List Env) (s':Shared) (H':Hp) (E:XK),Room k (A'.deeper (W.envX qual scope s'.heap.objs.size lf (.ref c') cl))->PE (C8 P w K mg base Nl qual scope lf (.ref c') cl A' outer' s' H' E) body (tl E))
  (h:tl (J9 K ec cM Q) σl H Q):codeAny (model P w) A (.call (.ref f) args) (CR CX0 outer P w H s Q E0) s:=by
 obtain ⟨fW,dW,GW,mW,kW,bW⟩:=GW.ex;refine F.at (N:=["_law_deed", "_law_e"]) scTold (vs:=[.ref lf]) rfl (k:=k + 1) hr e0 hb (.cons rfl .nil) fun ad hr1=>?_;have own:=R7 (CX:=CX0) (P:=P) (w:=w) (K:=K) (mg:=mg) (base:=base) (N:=["_law_deed", "_law_e"]) (qual := "_law_told") (scope:=defScope Ai) (f:=f) (cd:=ad) (A:=A) (outer:=outer) (s:=s) (H:=H) (E:=E0)
 have hrm:∀ e:Addr,RoomS 1 ((A.deeper (PyProof.Rows.envOfC "_law_told" (defScope Ai) s.heap.objs.size f ad)).mark (some (.ref e))):=fun e=>by
  have q:=hr1.mono (show 1 <= k + 1 by omega);exact ⟨q.dp,q.un⟩
 refine ⟨_,AE (SA (tb:=fun E=>Ny (Jc 0 lf c' qual (W.kla_obj name qual params body scope cl pm c' ctv) σl (tl E))) (th:=Pu K ec cM) own (fun P0 xe E hx=>?_) (fun CC dx=>?_)),?_⟩
 ·exact AE (AO (K3 (X:=EE (A8 CX0 P w K mg base ["_law_deed", "_law_e"] "_law_told" (defScope Ai) f ad A outer s H E0) P0 xe) (i:=0) (k:=k + 1) rfl (Or.inl rfl) hr1 C hfs rfl hx bn hco bq hk be (fun s' H'=>ck _ _ s' H' E (hr1.deeper _))))
 ·intro aa s1 σ H1 D e oe T oT c I h;obtain ⟨hl,⟨j,EP,rfl,kq⟩ | ⟨j,d,v,EF,rfl,hxd,kq⟩⟩:=h
  ·refine (?hp:PH (A8 CX0 P w K mg base ["_law_deed", "_law_e"] "_law_told" (defScope Ai) f ad A outer s H E0) CC none _ (fun e=>MJ 1 (fun D σ H=>σ[1]?=some (some (.ref e))/\∀ p H',Same H H'->H' p=some (.tup [.str "refused", .str (wd j)])->D.rt (.ref p) H') e)) aa s1 σ H1 D e oe T oT c I ?_
   ·refine Bk (Dn:=ec 0) EP.cx EX.x0 rfl M.e0 EP.n0 ?_;refine Bk (Dn:=ec 1) EP.cx EX.x1 rfl M.e1 EP.n1 ?_;refine Bk (Dn:=ec 2) EP.cx EX.x2 rfl M.e2 EP.n2 ?_;refine Bk (Dn:=ec 3) EP.cx EX.x3 rfl M.e3 EP.n3 ?_;refine ML (Dn:=cM) (i:=1) (tb:=fun (e:Addr) (D:Db) (σ:St) (H:Hp)=>σ[1]?=some (some (V.ref e))/\∀ p H',Same H H'->H' p=some (.tup [.str "refused", .str (wd j)])->D.rt (.ref p) H') scTold.nd rfl rfl EP.cx EX.xm rfl EX.m EP.m (fun e oe T oT c=>?_);refine fun aa s2 σ2 H2 D2 I2 h2=>?_;obtain ⟨fs,hd,hf1,hf2⟩:=c.fld;refine (?hb2:PSs (BA (A8 CX0 P w K mg base ["_law_deed", "_law_e"] "_law_told" (defScope Ai) f ad A outer s H E0) e oe T oT) _ (Ny (IH (Cj K ec) e oe (Al (Hw 1) Cz)))) aa s2 σ2 H2 D2 I2 ⟨_,h2.1,rfl,CC,j,fs,c.cls,hd,hf2,.inl c.dict,EP.ea,h2.2⟩;exact AE (AO (Jb (X:=BA (A8 CX0 P w K mg base ["_law_deed", "_law_e"] "_law_told" (defScope Ai) f ad A outer s H E0) e oe T oT) (e:=e) (oe:=oe) GW (hrm e) rfl (by simp [BA]) rfl mW kW bW (AA (pv 1) AC)))
   ·exact ⟨by rw [List.getElem?_set_self (by omega)],kq⟩
  ·have hj4:=EF.j4;refine (?hq:PH (A8 CX0 P w K mg base ["_law_deed", "_law_e"] "_law_told" (defScope Ai) f ad A outer s H E0) CC (some d) _ (fun e=>MJ 1 (fun D σ H=>σ[1]?=some (some (.ref e))/\H d=some (.xd [(Iq j,v)])/\∀ p H',Same H H'->H' p=some (.tup [.str "refused", .str (wd j),v])->D.rt (.ref p) H') e)) aa s1 σ H1 D e oe T oT c I ?_
   ·have take:∀ {x:Str} {b₀:Stmt} {np pos:Pos} {hs:List ExceptHandler} (Dn:Addr),Aw K Dn=true->(hg:Gl (A8 CX0 P w K mg base ["_law_deed", "_law_e"] "_law_told" (defScope Ai) f ad A outer s H E0) x)->mg x=some (.ref Dn)->(DT K CC).contains (.ref Dn)=true->(x == ("__debug__" : Str))=false ->
      (∀ e oe T oT,Cgt CC (some d) e oe T oT->PSs (BA (A8 CX0 P w K mg base ["_law_deed", "_law_e"] "_law_told" (defScope Ai) f ad A outer s H E0) e oe T oT) [b₀] (Ny (tOp (Lv K) (IH (Cj K ec) e oe (Al (Hw 1) Cz)) (Rt (Al (Ov e oe (Iq j) (Hw 1)) Cz))))) ->
      PH (A8 CX0 P w K mg base ["_law_deed", "_law_e"] "_law_told" (defScope Ai) f ad A outer s H E0) CC (some d) (.ExceptHandler (some (.Name x np)) (some "_law_e") [b₀] pos :: hs) (fun e=>MJ 1 (fun D σ H=>σ[1]?=some (some (.ref e))/\H d=some (.xd [(Iq j,v)])/\∀ p H',Same H H'->H' p=some (.tup [.str "refused", .str (wd j),v])->D.rt (.ref p) H') e):=fun {x b₀ np pos hs} Dn hD hg hm hc hdb hbod =>
     ML (Dn:=Dn) (i:=1) (tb:=fun (e:Addr) (D:Db) (σ:St) (H:Hp)=>σ[1]?=some (some (V.ref e))/\H d=some (.xd [(Iq j,v)])/\∀ p H',Same H H'->H' p=some (.tup [.str "refused", .str (wd j),v])->D.rt (.ref p) H') scTold.nd rfl rfl EF.cx hD hg hm hc (fun e oe T oT c=>by
      refine fun aa s2 σ2 H2 D2 I2 h2=>?_;obtain ⟨fs,hd,hf1,hf2⟩:=c.fld;obtain ⟨g1,g2,g3⟩:=h2;refine hbod e oe T oT c aa s2 σ2 H2 D2 I2 ⟨_,g1,rfl,CC,j,fs,c.cls,hd,hf2,.inr ⟨d,_,c.dict,g2⟩,EF.ea,fun p H' sp hp=>?_⟩;refine ⟨_,g1,d,_,v,rfl,c.dict,sp _ _ g2,(by simp),sl1,fun q hq=>?_⟩;have sq:=AD (Same.refl H') hq (o:=.tup [v]);refine ⟨p,q,_,_,rfl,rfl,SqT.of (sq _ _ hp),SqT.of AB,(by simp),(by show 2 + 1 <= sizeLine; decide),(fun z=>nomatch z),fun _ r hr=>?_⟩
      exact g3 r _ (sp.trans (AD sq hr)) AB) hdb
    have pX:∀ e oe T oT,Cgt CC (some d) e oe T oT->ExcP (BA (A8 CX0 P w K mg base ["_law_deed", "_law_e"] "_law_told" (defScope Ai) f ad A outer s H E0) e oe T oT) e oe CC:=fun e oe T oT c=>by
     obtain ⟨fs,hd,_⟩:=c.fld;exact ⟨by simp [BA],c.cls,⟨fs,hd⟩⟩
    have bod:∀ {fl:Str} {p1 p2 p3 p4 p5 p6 p7:Pos} {kt:Nat},Iq j=fl->∀ e oe T oT,Cgt CC (some d) e oe T oT->PSs (BA (A8 CX0 P w K mg base ["_law_deed", "_law_e"] "_law_told" (defScope Ai) f ad A outer s H E0) e oe T oT) [.Return (some (.BinOp (.Call (.Name "_law_word" p1) [.Name "_law_e" p2] [] p3) .Add (.Tuple [.Attribute (.Name "_law_e" p4) fl p5] kt p6) p7)) p7] (Ny (tOp (Lv K) (IH (Cj K ec) e oe (Al (Hw 1) Cz)) (Rt (Al (Ov e oe (Iq j) (Hw 1)) Cz)))):=fun ae e oe T oT c=>by
     subst ae;exact AE (AO (AQ (Pw K rfl) (Jb (X:=BA (A8 CX0 P w K mg base ["_law_deed", "_law_e"] "_law_told" (defScope Ai) f ad A outer s H E0) e oe T oT) (e:=e) (oe:=oe) GW (hrm e) rfl (by simp [BA]) rfl mW kW bW (AA (pv 1) AC)) (Be (AA (Qc (pX e oe T oT c) EF.g (pv 1) rfl) AC))))
    rcases (show j=0\/j=1\/j=2\/j=3 by omega) with z | z | z | z
    ·subst z;exact take (ec 0) EX.x0 rfl M.e0 EF.m (by decide) (bod rfl)
    ·subst z;refine Bk (Dn:=ec 0) EF.cx EX.x0 rfl M.e0 (EF.no 0 (by decide)) ?_;exact take (ec 1) EX.x1 rfl M.e1 EF.m (by decide) (bod rfl)
    ·subst z;refine Bk (Dn:=ec 0) EF.cx EX.x0 rfl M.e0 (EF.no 0 (by decide)) ?_;refine Bk (Dn:=ec 1) EF.cx EX.x1 rfl M.e1 (EF.no 1 (by decide)) ?_;exact take (ec 2) EX.x2 rfl M.e2 EF.m (by decide) (bod rfl)
    ·subst z;refine Bk (Dn:=ec 0) EF.cx EX.x0 rfl M.e0 (EF.no 0 (by decide)) ?_;refine Bk (Dn:=ec 1) EF.cx EX.x1 rfl M.e1 (EF.no 1 (by decide)) ?_;refine Bk (Dn:=ec 2) EF.cx EX.x2 rfl M.e2 (EF.no 2 (by decide)) ?_;exact take (ec 3) EX.x3 rfl M.e3 EF.m (by decide) (bod rfl)
   ·exact ⟨by rw [List.getElem?_set_self (by omega)],hxd,kq⟩
 ·refine ⟨rfl,h1,h2,?_⟩
  have e:QX (A8 CX0 P w K mg base ["_law_deed", "_law_e"] "_law_told" (defScope Ai) f ad A outer s H E0).N.length (Pu K ec cM) { nx:=fun _ H'=>Q .non H',rt:=Q }=J9 K ec cM Q:=by
   funext Cv dx H2;unfold QX J9 Pu;simp [A8]
  rw [← e] at h;exact h
end
end Mk
end
section
namespace L2
open PySem PySem.Spec PyProof.Rows
noncomputable def Q8 (ix:List Nat) (σ:St):St:=ix.map fun j=>(σ[j]?).getD none
structure LamN (X:Cx) (Nl:List Str) (ix:List Nat) (scope:Scope) (clos:List (Str × Addr)):Prop where
 len:ix.length=Nl.length
 nm:∀ (i:Nat) (x:Str),Nl[i]?=some x->∃ j:Nat,ix[i]?=some j/\X.N[j]?=some x/\X.env.scope.names.lookup x=some .cell/\scope.names.lookup x=some .free
 cl:∀ x c,clos.lookup x=some c->X.env.cells.lookup x=some c
 has:∀ x,(scope.names.lookup x=some .cell\/scope.names.lookup x=some .free)->∃ c,clos.lookup x=some c
 fn:∀ x,X.fn x=true
section
variable {X:Cx} {aa:LO} {σ:St} {s:Shared} {Nl:List Str} {ix:List Nat} {scope:Scope} {clos:List (Str × Addr)}
theorem LamN.cells (L:LamN X Nl ix scope clos) (I:Inv X aa σ H s):F3 Nl scope clos (Q8 ix σ) H s.heap:=by
 refine ⟨fun x y c h1 h2=>I.ok.inj x y c (L.cl x c h1) (L.cl y c h2),L.has,fun x c h=>⟨I.cell x c (L.cl x c h),I.freeC x c (L.cl x c h)⟩,fun i x v h1 h2=>?_,?_⟩
 ·obtain ⟨j,hj,hN,hk,hf⟩:=L.nm i x h1;refine ⟨hf,?_⟩;unfold Q8 at h2;rw [getElem?_map,hj] at h2
  have hv:σ[j]?=some (some v):=by
   simp only [Option.map_some,Option.some.injEq] at h2;cases e:σ[j]? with
   | none=>rw [e] at h2; cases h2
   | some o=>rw [e] at h2; simp only [Option.getD_some] at h2; rw [h2]
  obtain ⟨m,_,hl⟩:=I.loc;obtain ⟨u,r,l⟩:=hl j x v hN hv (.inr (.inl hk));rcases l with ⟨l,_⟩ | ⟨_,c,e,z⟩
  ·rw [show X.env.kindOf x=X.env.scope.names.lookup x from rfl,hk] at l; cases l
  ·obtain ⟨c2,e2⟩:=L.has x (.inr hf);have e3:=L.cl x c2 e2;rw [e] at e3;cases e3;exact ⟨u,c,r,e2,z⟩
 ·unfold Q8; rw [AK]; exact L.len
theorem LamN.far (L:LamN X Nl ix scope clos) (I:Inv X aa σ H s):∀ x c,clos.lookup x=some c->c ∉ frs X.stack:=fun x c h z=>by
 have hc:=L.cl x c h;rcases mem_cons.mp (I.stkSub c z) with z | z
 ·exact I.cne x c hc z
 ·obtain ⟨_,o,ho,_⟩:=I.ok.funs.mem z;exact absurd (Nat.lt_of_lt_of_le (lt_size ho) (I.ok.cab x c (L.fn x) hc)) (Nat.lt_irrefl _)
end
end L2
namespace Mk
open PySem L2 MK
section
variable {X:Cx} {ec:Nat->Addr} {cM c P0:Addr} {ls:List Pos} {lpos:Pos}
def RZ (K:FG) (ec:Nat->Addr) (cM P0:Addr) (qual:Str) (ls:List Pos) (ix:List Nat) (tl:XK->TE):TE:=fun σ H Q=>TabOk H P0 qual ls/\∀ H',Jd P0 H H'->TabOk H' P0 qual ls->tl (J9 K ec cM Q) (Q8 ix σ) H' Q
theorem Q9 {k:Nat} (F:Fun X.K "_law_told" "_law_told" Ai f fd) (M:Nr X.mg ec) (EX:Pt X.K X.mg ec cM) (GW:FnS X.prog X.w X.K X.mg X.base "_law_word" 1 ["_law_e"] (Cj X.K ec))
  (hr:Room (k + 2) X.A) (hg:Gl X "_law_told") (hm:X.mg "_law_told" = some (.ref f)) (hkp:W.keepIn X.K (.ref f)=true) (hB:Binds X.K fd ["_law_deed"] [])
  {Nl:List Str} {ix:List Nat} {scope:Scope} {clos:List (Str × Addr)} {params:Arguments} {body:Expr} {tl:XK->TE} {p pos:Pos}
  (L:Qa X c P0) (hls:lpos ∈ ls) (ax:∀ q ∈ ls,q=lpos\/(q.line == lpos.line && q.col == lpos.col)=false) (af:closureFor scope X.env=pure clos) (ci:defaultsOf params X.env=([],[])) (LN:LamN X Nl ix scope clos)
  (bn:∀ pm c' ctv,bindArgs (W.kla_fn "<lambda>" (X.env.qual ++ "<lambda>") params body scope clos pm (.ref c') ctv) ⟨[],[]⟩=pure [])
  (hco:scope.isCoroutine=false) (bq:scope.isGenerator=false) (hk:scope.kind=.function) (be:∀ x ∈ scope.names,x.2 ≠ .cell)
  (ck:∀ (lf c':Addr) (A':Around) (outer':List Env) (s':Shared) (H':Hp) (E:XK),Room k (A'.deeper (W.envX (X.env.qual ++ "<lambda>") scope s'.heap.objs.size lf (.ref c') clos))->PE (C8 X.prog X.w X.K X.mg X.base Nl (X.env.qual ++ "<lambda>") scope lf (.ref c') clos A' outer' s' H' E) body (tl E))
  (he:starEach [.Lambda params body scope lpos] X.env=(false,eval (.Lambda params body scope lpos) X.env) :: starEach [] X.env:=by rfl) (hpl:(backTo pos (starEach [] X.env)).any (·.1)=false:=by rfl) :
  PE X (.Call (.Name "_law_told" p) [.Lambda params body scope lpos] [] pos) (RZ X.K ec cM P0 (X.env.qual ++ "<lambda>") ls ix tl):=by
 intro aa s σ H Q I ⟨hT,h⟩;refine wpAny_Call_Name_kw (Bp I hg hm ?_ (by decide));have ha:PA X [.Lambda params body scope lpos] (Al (TC P0 (X.env.qual ++ "<lambda>") ls (fun c' ctv=>W.kla_obj "<lambda>" (X.env.qual ++ "<lambda>") params body scope clos ((X.mg "__name__").getD .none) c' ctv)) Cz):=AA (SB L hls ax af ci) AC he;refine W.callWith_K (h₀:=X.base) I.ok.mod.kin hkp (thn (ha pos aa s σ H (fun vs H1=>∃ lf c' ctv,vs=[.ref lf]/\Jd P0 H H1/\TabOk H1 P0 (X.env.qual ++ "<lambda>") ls/\H1 lf=some (FnO lf (W.kla_obj "<lambda>" (X.env.qual ++ "<lambda>") params body scope clos ((X.mg "__name__").getD .none) c' ctv))/\H1 c'=some (EG c' (X.env.qual ++ "<lambda>"))) I ⟨hT,fun lf c' ctv H' _ hs ht h1 h2=>⟨lf,c',ctv,rfl,hs,ht,h1,h2⟩⟩) fun us s1 ⟨vs,H1,I1,r,lf,c',ctv,ev,hs,ht,h1,h2⟩=>⟨I1.kIn,?_⟩) he hpl;subst ev;obtain ⟨u,eu,ru⟩:=Bc r;subst eu;obtain rfl:u=Value.ref lf:=ru;have bb:=hB s1 [.ref lf] I1.kIn rfl;rw [append_nil] at bb;refine wpAny_call (codeAny_mono (Q7 (k:=k) F M EX GW hr I1.env0 bb (LN.cells I1) (LN.far I1) h1 h2 (bn _ _ _) hco bq hk be (ck lf c') (h H1 hs ht)) fun r s' hq=>?_);cases r with
 | error e=>exact False.elim hq
 | ok fl =>
  cases fl with
  | ret u=>exact I1.after hq
  | next=>exact False.elim hq
  | brk=>exact False.elim hq
  | cont=>exact False.elim hq
end
section
theorem Lj (x m:Nat):(x &&& m) - ((x &&& m) &&& m)=0:=by
 have h:(x &&& m) &&& m=x &&& m:=by
  refine Nat.eq_of_testBit_eq fun k=>?_;simp only [Nat.testBit_and];cases x.testBit k <;> cases m.testBit k <;> rfl
 omega
def D3:Sp:=fun vs H Q _=>∃ (d:Addr) (a b:Int) (m:Nat) (r:Str),vs=[.ref d,.int (m:Int),.str r]/\H d=some (.lst [.int a,.int b]) /\
 ∀ (n:Nat) H',n < 2 ^ 40->(r = "keep" \/ n - (n &&& m)=0)->SameX d H H'->Q (.int (n:Int)) H'
theorem scNumberIn:AL ["_law_dice", "_law_known", "_law_way", "_law_number"] ["_law_dice", "_law_known", "_law_way"] (defScope Cg):=fsc
theorem E6 {d:Addr} {x y x' y':Int} (h:H d=some (.lst [.int x,.int y])):SameX d H (upd H d (.lst [.int x',.int y'])):=⟨fun b o e hb=>by rw [AG hb]; exact e,⟨x',y',AB⟩⟩
theorem KC (F:Fun K "_law_number_in" "_law_number_in" Cg f fd) (GR:Fn P w K mg base "_law_roll" 2 ["_law_dice", "_law_many"] Gf):FnOk P w K mg base CX0 3 f fd ["_law_dice", "_law_known", "_law_way"] D3:=by
 obtain ⟨fR,dR,GR,mR,kR,bR⟩:=GR.ex;refine F.m scNumberIn fun vs H Q E h=>?_;obtain ⟨d,a,b,m,r,rfl,hd,k⟩:=h;refine ⟨rfl,fun ad A outer s hr=>?_⟩
 refine ⟨_,AF (Aj (i:=3) scNumberIn.nd rfl (Or.inl rfl) (AQ CY (AH GR hr rfl mR kR bR .nil AM (AA (pv 0) (AA (AQ KS AI AI) AC))) (pv 1)))
  (Ay (At (PW.pt (Hx (AW DU (pv 2) Af (Ac _)) (FS (AW DU (AH GR hr rfl mR kR bR .nil AM (AA (pv 0) (AA AI AC))) AI (Ac _)))))
    (AE (Aj (i:=3) scNumberIn.nd rfl (Or.inl rfl) (AQ Lo (pv 3) (AH GR hr rfl mR kR bR .nil AM (AA (pv 0) (AA AI AC)))))) AY)
  (AE (AO (pv 3)))),?_⟩
 refine ⟨_,rfl,_,_,rfl,rfl,⟨by decide,by decide,by decide⟩,d,a,b,_,rfl,hd,by decide,by decide,fun x a1 b1 hx0 hx1=>?_⟩;refine ⟨_,rfl,_,_,rfl,rfl,?_⟩;obtain ⟨x,rfl⟩:∃ x':Nat,x=(x':Int):=⟨x.toNat,by omega⟩
 have hx1':x < 2 ^ 21:=by
  have:(x:Int) < 2 ^ (21:Int).toNat:=hx1;have e:(2:Int) ^ (21:Int).toNat=2097152:=by decide
  rw [e] at this;have e2:(2:Nat) ^ 21=2097152:=by decide
  omega
 have s1:SameX d H (upd H d (.lst [.int a1,.int b1])):=E6 hd;have ea:(fun i j=>V.int (Builtin.bitAnd i j)) (x:Int) (m:Int)=V.int ((x &&& m:Nat):Int):=congrArg V.int (Br _ _);rw [ea];have hle:x &&& m <= x:=Nat.and_le_left;refine ⟨fun σ H1=>∃ n:Nat,σ=[some (.ref d),some (.int (m:Int)),some (.str r),some (.int (n:Int))]/\n < 2 ^ 40/\(r = "keep" \/ n - (n &&& m)=0)/\SameX d H H1,fun R hR=>?_,?_⟩
 ·have g1:x &&& m < 2 ^ 40:=by
   have:(2:Nat) ^ 21 < 2 ^ 40:=by decide
   omega
  have stop:∀ H1,SameX d H H1->R [some (.ref d),some (.int (m:Int)),some (.str r),some (.int ((x &&& m:Nat):Int))] H1:=fun H1 sx=>hR _ _ ⟨_,rfl,g1,.inr (Lj x m),sx⟩;refine ⟨_,rfl,rfl,_,rfl,?_⟩;by_cases hk:r = "keep"
  ·rw [decide_eq_true (show V.str r=V.str "keep" by rw [hk])];refine Em ?_;refine ⟨_,rfl,d,a1,b1,3,rfl,AB,by decide,by decide,fun y a2 b2 hy0 hy1=>?_⟩;have s2:=s1.trans (E6 (x':=a2) (y':=b2) AB);refine ⟨rfl,_,rfl,?_⟩;refine BX (fun hc=>?_) (fun hc=>stop _ s2);refine ⟨_,rfl,_,rfl,d,a2,b2,256,rfl,AB,by decide,by decide,fun z a3 b3 hz0 hz1=>?_⟩;obtain ⟨z,rfl⟩:∃ z':Nat,z=(z':Int):=⟨z.toNat,by omega⟩;refine ⟨_,_,rfl,rfl,?_⟩;have eo:(fun i j=>V.int (Builtin.bitOr i j)) ((x &&& m:Nat):Int) (z:Int)=V.int (((x &&& m) ||| z:Nat):Int):=congrArg V.int (Cd _ _);refine hR _ _ ⟨(x &&& m) ||| z,?_,?_,.inl hk,s2.trans (E6 AB)⟩
   ·show [some (V.ref d),some (V.int (m:Int)),some (V.str r),some ((fun i j=>V.int (Builtin.bitOr i j)) ((x &&& m:Nat):Int) (z:Int))]=_;rw [eo]
   ·refine Nat.or_lt_two_pow g1 ?_;have:(256:Nat) < 2 ^ 40:=by decide
    omega
  ·rw [decide_eq_false (show ¬ V.str r=V.str "keep" from fun z=>hk (V.str.inj z))];exact BG (BG (stop _ s1))
 ·rintro σ H1 ⟨n,rfl,h1,h2,sx⟩;exact ⟨_,rfl,k n H1 h1 h2 sx⟩
end
noncomputable def AN (n:Nat):List Nat:=(BY n).map fun k=>2 ^ k
theorem CV (n:Nat):(AN n).length <= 42:=by
 unfold AN BY;rw [AK];have:=length_filter_le (fun k=>n.testBit k) (List.range 42)
 rwa [List.length_range] at this
theorem RB {a b:Nat} (h:2 ^ a=2 ^ b):a=b:=(Nat.pow_right_inj (by decide:1 < 2)).mp h
theorem mem_bits {n x:Nat}:x ∈ AN n ↔ ∃ k,k < 42/\n.testBit k=true/\x=2 ^ k:=by
 unfold AN BY;rw [mem_map];constructor
 ·rintro ⟨k,hk,e⟩;rw [mem_filter,mem_range] at hk;exact ⟨k,hk.1,hk.2,e.symm⟩
 ·rintro ⟨k,h1,h2,e⟩;exact ⟨k,mem_filter.mpr ⟨mem_range.mpr h1,h2⟩,e.symm⟩
theorem BN {n k:Nat} (hk:k < 42):2 ^ k ∈ AN n ↔ n.testBit k=true:=by
 rw [mem_bits];constructor
 ·rintro ⟨j,_,h,e⟩;rw [RB e];exact h
 ·intro h;exact ⟨k,hk,h,rfl⟩
theorem KD (n:Nat):(AN n).Pairwise (· < ·):=by
 unfold AN BY;rw [pairwise_map];refine List.Pairwise.filter _ ?_;refine List.Pairwise.imp (R:=(· < ·)) ?_ List.pairwise_lt_range;intro a b h;exact Nat.pow_lt_pow_right (by decide) h
theorem Ck (n:Nat):(AN n).Nodup:=(KD n).imp fun h=>Nat.ne_of_lt h
theorem FL {a n:Nat} {p:Nat->Bool} (h:∀ k,k < 42->(n.testBit k=(a.testBit k && p (2 ^ k)))):(AN a).filter p=AN n:=by
 unfold AN BY;rw [List.filter_map,List.filter_filter];congr 1;refine List.filter_congr fun k hk=>?_;rw [h k (mem_range.mp hk),Bool.and_comm];rfl
theorem Px (a b:Nat):((AN a).filter fun x=>decide (x ∈ AN b))=AN (a &&& b):=FL fun k hk=>by
 rw [Nat.testBit_and];congr 1;rw [Bool.eq_iff_iff,decide_eq_true_eq,BN hk]
theorem Gp (a b:Nat):((AN a).filter fun x=>!decide (x ∈ AN b))=AN (a - (a &&& b)):=FL fun k hk=>by
 rw [A3];congr 2;rw [Bool.eq_iff_iff,decide_eq_true_eq,BN hk]
theorem Py {xs ys:List Int} (h1:xs.Pairwise (· <= ·)) (h2:ys.Pairwise (· <= ·)) (p:xs.Perm ys):xs=ys:=p.eq_of_pairwise (fun a b _ _ h h'=>Int.le_antisymm h h') h1 h2
noncomputable def Ba (xs:List Nat):List Int:=xs.map fun (n:Nat)=>(n:Int)
theorem KF (n:Nat):(Ba (AN n)).Pairwise (· <= ·):=by
 unfold Ba;rw [pairwise_map];exact (KD n).imp fun h=>Int.ofNat_le.mpr (Nat.le_of_lt h)
theorem RE {xs ys:List Nat} (h1:xs.Nodup) (h2:ys.Nodup) (h:∀ x,x ∈ xs ↔ x ∈ ys):xs.Perm ys:=(List.perm_ext_iff_of_nodup h1 h2).mpr h
theorem RF (a b:Nat):(AN (a - (a &&& b))++AN (b - (b &&& a))).Perm (AN (a ^^^ b)):=by
 refine RE (List.nodup_append.mpr ⟨Ck _,Ck _,fun x hx y hy e=>?_⟩) (Ck _) fun x=>?_
 ·subst e;obtain ⟨k,hk,h1,rfl⟩:=mem_bits.mp hx;have h2:=(BN hk).mp hy;rw [A3] at h1 h2;cases e1:a.testBit k <;> cases e2:b.testBit k <;> rw [e1,e2] at h1 h2 <;> simp at h1 h2
 ·rw [mem_append];constructor
  ·rintro (h | h) <;>
   ·obtain ⟨k,hk,h1,rfl⟩:=mem_bits.mp h;rw [BN hk,Nat.testBit_xor];rw [A3] at h1;cases e1:a.testBit k <;> cases e2:b.testBit k <;> rw [e1,e2] at h1 <;> simp at h1 ⊢
  ·intro h;obtain ⟨k,hk,h1,rfl⟩:=mem_bits.mp h;rw [BN hk,BN hk,A3,A3];rw [Nat.testBit_xor] at h1;cases e1:a.testBit k <;> cases e2:b.testBit k <;> rw [e1,e2] at h1 <;> simp at h1 ⊢
theorem Gq:∀ (ks acc:List Key) (x:Key),x ∈ B0 acc ks ↔ x ∈ ks\/x ∈ acc
 | [],acc,x=>by simp [B0]
 | k :: r,acc,x=>by
  show x ∈ B0 (EL acc k) r ↔ _;rw [Gq r,O2,mem_cons];constructor
  ·rintro (h | h | h)
   ·exact .inl (.inr h)
   ·exact .inl (.inl h)
   ·exact .inr h
  ·rintro ((h | h) | h)
   ·exact .inr (.inl h)
   ·exact .inl h
   ·exact .inr (.inr h)
theorem Ee:∀ (ks acc:List Key),acc.Nodup->(B0 acc ks).Nodup
 | [],acc,h=>h
 | k :: r,acc,h=>Ee r _ (K8 h k)
theorem Sa (a b:Nat):∃ ms:List Int,B0 [] ((Ba (AN a)++Ba (AN b)).map Sum.inl)=ms.map Sum.inl/\ms.Perm (Ba (AN (a ||| b))):=by
 have hm:=fun x=>Gq ((Ba (AN a)++Ba (AN b)).map Sum.inl) [] x;have hn:=Ee ((Ba (AN a)++Ba (AN b)).map Sum.inl) [] nodup_nil;generalize B0 [] ((Ba (AN a)++Ba (AN b)).map Sum.inl)=ks at hm hn;refine ⟨ks.map fun k=>match k with | Sum.inl i=>i | Sum.inr _=>0,?_,?_⟩
 ·rw [map_map];refine (map_id ks).symm.trans (List.map_congr_left fun k hk=>?_);rcases (hm k).mp hk with h | h
  ·obtain ⟨i,_,e⟩:=mem_map.mp h;subst e;rfl
  ·cases h
 ·have bz:ks.Perm ((Ba (AN (a ||| b))).map Sum.inl):=by
   refine (List.perm_ext_iff_of_nodup hn ?_).mpr fun x=>?_
   ·unfold Ba;rw [map_map];exact List.Pairwise.map _ (fun _ _ h e=>h (Int.ofNat.inj (Sum.inl.inj e))) (Ck (a ||| b))
   ·rw [hm];unfold Ba;simp only [map_append,map_map,mem_append,mem_map,not_mem_nil,or_false,Function.comp];constructor
    ·rintro (⟨y,hy,rfl⟩ | ⟨y,hy,rfl⟩) <;>
     ·refine ⟨y,?_,rfl⟩;obtain ⟨k,hk,h1,rfl⟩:=mem_bits.mp hy;rw [BN hk,Nat.testBit_or,h1];simp
    ·rintro ⟨y,hy,rfl⟩;obtain ⟨k,hk,h1,rfl⟩:=mem_bits.mp hy;rw [Nat.testBit_or,Bool.or_eq_true] at h1;rcases h1 with h | h
     ·exact .inl ⟨_,(BN hk).mpr h,rfl⟩
     ·exact .inr ⟨_,(BN hk).mpr h,rfl⟩
  have:=bz.map (fun k:Key=>match k with | Sum.inl i=>i | Sum.inr _=>0);simpa [map_map,Function.comp_def] using this
section
def Ir:Sp:=fun vs H Q _=>∃ n:Nat,vs=[.int (n:Int)]/\∀ l H',Same H H'->H' l=some (.lst (AS (AN n)))->Q (.ref l) H'
noncomputable def Gr (n i:Nat):List Nat:=((List.range i).filter fun k=>n.testBit k).map fun k=>2 ^ k
theorem FM (n i:Nat):Gr n (i + 1)=Gr n i++(if n.testBit i then [2 ^ i] else []):=by
 unfold Gr;rw [List.range_succ,filter_append,map_append,filter_cons,List.filter_nil];split <;> rfl
theorem Pz (F:Fun K "_law_bits_of" "_law_bits_of" B2 f fd) (B:Bl mg):FnOk P w K mg base CX0 1 f fd ["_law_number"] Ir:=by
 refine F.m Jz fun vs H Q E h=>?_;obtain ⟨n,rfl,k⟩:=h;refine ⟨rfl,fun ad A outer s hr=>?_⟩
 refine ⟨_,AE (AO (A9 ["_law_number"] [some 0] (by kernel_rfl) (by decide +kernel) (by kernel_rfl) rfl (CN rfl B.range (AA AI AC))
  (fun _ _ _ _ _ _=>B9 (AW DU (AQ CY (AQ N7 (pv 1) (pv 0)) AI) AI (Ac _)))
  (fun _ _ _ _ _ _=>AQ Fj AI (pv 0)))),?_⟩
 refine ⟨42,rfl,by decide,by decide,?_⟩;refine Cc (lo:=0) (n:=42) (fun i ys H2=>ys=AS (Gr n i)/\i <= 42/\H2=H) ⟨rfl,by decide,rfl⟩ ?_ ?_ ?_
 ·rintro i ys H2 ⟨e,hi,_⟩;have:=length_filter_le (fun k=>n.testBit k) (List.range i);rw [List.length_range] at this;rw [e];unfold AS Gr;rw [AK,AK];omega
 ·rintro i ys H2 hi ⟨e,_,rfl⟩;refine ⟨_,rfl,_,rfl,_,_,rfl,rfl,(by omega),_,_,rfl,rfl,?_⟩;refine ⟨rfl,_,rfl,?_⟩;refine BX (fun h=>?_) (fun h=>?_)
  ·have hb:n.testBit i=true:=by rw [← Fb]; exact h
   refine ⟨_,rfl,_,_,rfl,rfl,⟨by omega,by first | decide | omega,by first | decide | omega⟩,?_,by omega,rfl⟩;rw [FM,hb,e];unfold AS;rw [map_append];congr 1;simp
  ·have hb:n.testBit i=false:=by rw [← Fb]; exact Bool.eq_false_iff.mpr h
   refine ⟨?_,by omega,rfl⟩;rw [FM,hb,e];simp
 ·rintro ys H2 ⟨e,_,rfl⟩ l hl;refine k l _ (AD (Same.refl _) hl) ?_;rw [AB,e];rfl
end
theorem Fd (x:Nat) (ns:List Nat):inV (.int (x:Int)) (AS ns)=decide (x ∈ ns):=by
 unfold inV AS;rw [any_map,Bool.eq_iff_iff,any_eq_true,decide_eq_true_eq];constructor
 ·rintro ⟨y,hy,e⟩;have:(y:Int)=(x:Int):=eq_of_beq e;rw [← Int.ofNat.inj this];exact hy
 ·intro h;exact ⟨x,h,beq_self_eq_true (x:Int)⟩
theorem DS (xs:List Nat):(AS xs).all DV=true:=by
 unfold AS;rw [all_map,List.all_eq_true];exact fun _ _=>rfl
theorem Ef {a:Addr} {xs:List Nat} {p:Nat->Bool} {g:TG} {tt:TT} {te:TE} {ix:List (Option Nat)} {R:List V->Hp->Prop} {σ:St} {H1:Hp} (hL:H1 a=some (.lst (AS xs))) (hz:xs.length <= 1000)
  (hs:∀ (x:Nat) (Y:V->Hp->Prop) (Z:Hp->Prop),x ∈ xs->(p x=true->Y (.int (x:Int)) H1)->(p x=false->Z H1)->g (.int (x:Int)) (Bz ix σ) H1 fun σ2 H2=>tt σ2 H2 fun b H3=>if b=true then te σ2 H3 fun y H4=>Y y H4 else Z H3)
  (hR:R (AS (xs.filter p)) H1) :
  ∃ W:Nat->Nat->List V->Hp->Prop,(∃ m,W 0 m [] H1)/\∀ i m ys H,W i m ys H ->
   ((Itl K a).stop i H/\ys.length <= sizeLine/\R ys H) \/
   ((Itl K a).go i H/\∃ N:List V->Hp->Prop,(∀ ys' H',N ys' H'->ys'.length <= sizeLine/\∃ m',m' < m/\W (i + 1) m' ys' H') /\
    ∀ x H',(Itl K a).yld i H x H'->g x (Bz ix σ) H' fun σ2 H2=>tt σ2 H2 fun b H3=>if b=true then te σ2 H3 fun y H4=>N (ys++[y]) H4 else N ys H3):=by
 have hn:(AS xs).length=xs.length:=by unfold AS; rw [AK]
 refine Bv (xs:=AS xs) (fun i ys H=>ys=AS ((xs.take i).filter p)/\H=H1) ⟨by simp [AS],rfl⟩ (fun i ys H _ ⟨_,e⟩=>by rw [e]; exact SqL.of hL) (fun i ys H ⟨e,_⟩=>?_) (fun i x ys H hx ⟨e,eH⟩=>?_) (fun ys H ⟨e,eH⟩=>?_)
 ·rw [e];unfold AS;rw [AK];have h1:=length_filter_le p (xs.take i);have h2:=List.length_take_le i xs;have h3:(xs.take i).length <= xs.length:=by rw [length_take]; omega
  omega
 ·subst eH;unfold AS at hx;rw [getElem?_map] at hx;cases q:xs[i]? with
  | none=>rw [q] at hx; cases hx
  | some y =>
   rw [q] at hx;cases hx
   have et:xs.take (i + 1)=xs.take i++[y]:=by
    rw [List.take_succ,q];rfl
   refine hs y (fun v H4=>ys++[v]=AS ((xs.take (i + 1)).filter p)/\H4=H) (fun H3=>ys=AS ((xs.take (i + 1)).filter p)/\H3=H) (mem_of_getElem? q) (fun h=>⟨?_,rfl⟩) (fun h=>⟨?_,rfl⟩)
   ·rw [et,filter_append,e];unfold AS;rw [map_append];simp [h]
   ·rw [et,filter_append,e];simp [h]
 ·subst eH;rw [e,hn,take_length];exact hR
noncomputable def gV3 (vs zs:List V):List V:=match vs,zs with | [a,b],[c]=>[a,b,c] | _,_=>[]
noncomputable def gU3 (us ws:List Value):List Value:=match us,ws with | [a,b],[c]=>[a,b,c] | _,_=>[]
structure P1 (P:Program) (w:World) (K:FG) (mg:SV) (base:Heap) (C:Addr):Prop where
 T:E3 K C
 cls:mg "Kind" = some (.ref C)
 make:∃ f fd,Mk K C f/\FnOk P w K mg base CX0 6 f fd ["self", "rows", "rest"] (PU C) /\
  (∃ g,Ke K fd ["self", "rows", "rest"] ["rest"] g gV3)/\∃ ds,Binds K fd ["self", "rows", "rest"] ds/\Vals [.str "bar"] ds
structure FunC (K:FG) (x qual:Str) (st:Stmt) (f:Addr) (fd:FuncData) (c:Addr):Prop where
 ex:∃ (oc:Value) (od:Option Addr) (kV doc pm:Value) (an:Option Addr) (ct:Value) (osl:Array (Option Value)),
  fd=W.fnOf x qual (defArgs st) (defBody st) (defScope st) .none kV doc pm an (.ref c) ct/\K.lookup f=some ⟨oc,od,.func fd,osl⟩/\W.codeIn K (.ref c) qual=true
theorem FunC.ok {x qual:Str} {st:Stmt} {c:Addr} {N ps:List Str} {k:Nat} {sp:Sp} (F:FunC K x qual st f fd c) (S:AL N ps (defScope st)) (len:∀ vs H Q E,sp vs H Q E->vs.length=ps.length)
  (bd:∀ (A:Around) (outer:List Env) (s:Shared) (H:Hp) (vs:List V) (Q:VK) (E:XK),Room k (A.deeper (PyProof.Rows.envOfC qual (defScope st) s.heap.objs.size f (.ref c)))->sp vs H Q E ->
   ∃ t,PSs (A8 CX0 P w K mg base N qual (defScope st) f (.ref c) A outer s H E).nox (defBody st) t/\t { nx:=fun _ H'=>Q .non H',rt:=Q } (BS N vs) H):FnOk P w K mg base CX0 (k + 1) f fd ps sp:=by
 obtain ⟨oc,od,kV,doc,pm,an,ct,osl,rfl,lk,hcd⟩:=F.ex;refine Lu lk hcd S len fun A outer s H vs Q E hr hsp=>?_;obtain ⟨t,h,q⟩:=bd A outer s H vs Q E hr hsp;exact ⟨t,h.nox,q⟩
theorem DI {X:Cx}:BQ (CXr P w) X E0:=fun _ _ _ _ _ _ _ ⟨_,_,_,_,_,_,q⟩=>q.elim
noncomputable def Mc:Stmt->List Stmt | .For _ _ b _ _=>b | _=>[]
noncomputable def Gs (i:Nat):Expr->Expr | .Call _ es _ _=>es.getD i (.Name "" ⟨0,0,0,0⟩) | e=>e
noncomputable def T9:Stmt->Expr | .If (.Compare l _ _ _) _ _ _=>l | _=>.Name "" ⟨0,0,0,0⟩
noncomputable def Sb (l:List Stmt) (i:Nat):Stmt:=l.getD i (.Pass ⟨0,0,0,0⟩)
noncomputable def TL:List Stmt:=Mc (Sb (defBody EQ) 0)
noncomputable def FN:Expr:=T9 (Sb (Mc (Sb TL 19)) 0)
noncomputable def Md:Expr->Expr | .Lambda _ b _ _=>b | e=>e
noncomputable def Sc:Expr->Arguments | .Lambda a _ _ _=>a | _=>defArgs EQ
noncomputable def KG:Expr->Scope | .Lambda _ _ sc _=>sc | _=>defScope EQ
noncomputable def P2:Expr->Pos | .Lambda _ _ _ p=>p | _=>⟨0,0,0,0⟩
noncomputable def LS:List Pos:=[P2 (Gs 0 FN)]
theorem TM (j:Nat):∀ l,LS[j]?=some l->∀ q ∈ LS,q=l\/(q.line == l.line && q.col == l.col)=false:=by
 have key:(LS.all fun l=>LS.all fun q=>decide (q=l) || !(q.line == l.line && q.col == l.col))=true:=by decide +kernel
 intro l hl q hq;have h1:=List.all_eq_true.mp (List.all_eq_true.mp key l (mem_of_getElem? hl)) q hq;rw [Bool.or_eq_true] at h1;rcases h1 with z | z
 ·exact .inl (of_decide_eq_true z)
 ·exact .inr (by rw [Bool.not_eq_true'] at z; exact z)
theorem E7 {α β:Type} [BEq α] [LawfulBEq α] {x:α} {v:β}:∀ {l:List (α × β)},l.lookup x=some v->(x,v) ∈ l
  | [],h=>by cases h
  | (y,u) :: r,h=>by
    rw [lookup_cons] at h;cases e:x == y with
    | true =>
      rw [e] at h;cases h;rw [eq_of_beq e];exact mem_cons_self ..
    | false =>
      rw [e] at h;exact mem_cons_of_mem _ (E7 h)
theorem RG {scope:Scope} {clos:List (Str × Addr)} (h:scope.names.all (fun p=>!(p.2 == .cell || p.2 == .free) || (clos.lookup p.1).isSome)=true):∀ x,(scope.names.lookup x=some .cell\/scope.names.lookup x=some .free)->∃ c,clos.lookup x=some c:=fun x hx=>by
 have g:∀ k,scope.names.lookup x=some k->(k == .cell || k == .free)=true->∃ c,clos.lookup x=some c:=fun k e hk=>by
  have:=List.all_eq_true.mp h _ (E7 e);simp only [hk,Bool.not_true,Bool.false_or] at this;exact Option.isSome_iff_exists.mp this
 rcases hx with z | z
 ·exact g _ z rfl
 ·exact g _ z rfl
noncomputable def qL:Str := "law.<locals>." ++ "<lambda>"
def Me (H H':Hp):Prop:=∀ b o,H b=some o->(∀ x y:Int,o ≠ .lst [.int x,.int y])->(∀ ps,o ≠ .tbl ps)->(∀ g,o ≠ .ext g)->H' b=some o
theorem KindAt.keeps {p:Addr} {r:Str} (s:Me H H') (h:KindAt C H p due r):KindAt C H' p due r:=by
 obtain ⟨dx,d1,o1,d2,o2,a,b,c⟩:=h.ex;exact ⟨⟨dx,d1,o1,d2,o2,s _ _ a (fun _ _ z=>nomatch z) (fun _ z=>nomatch z) (fun _ z=>nomatch z),s _ _ b (fun _ _ z=>nomatch z) (fun _ z=>nomatch z) (fun _ z=>nomatch z),s _ _ c (fun _ _ z=>nomatch z) (fun _ z=>nomatch z) (fun _ z=>nomatch z)⟩⟩
theorem TupsAt.keeps {as:List Addr} {ps:List (V × V)} (s:Me H H') (h:TupsAt H as ps):TupsAt H' as ps:=TupsAt.sameT (fun b xs e=>s _ _ e (fun _ _ z=>nomatch z) (fun _ z=>nomatch z) (fun _ z=>nomatch z)) h
theorem RH {ms:List Addr} {x y:Int}:HO.lst (ms.map V.ref) ≠ .lst [.int x,.int y]:=fun z=>by
 injection z with z
 cases ms with
 | nil=>cases z
 | cons a r=>cases z
theorem TabOk.same {P0:Addr} {q:Str} {ls:List Pos} (s:Same H H') (h:TabOk H P0 q ls):TabOk H' P0 q ls:=by
 obtain ⟨ps,h1,h2,h3⟩:=h;refine ⟨ps,s _ _ h1,h2,fun x hx=>?_⟩;rcases h3 x hx with z | ⟨c,z1,z2⟩
 ·exact .inl z
 ·exact .inr ⟨c,z1,s _ _ z2⟩
theorem TabOk.sameX {d:Addr} {P0:Addr} {q:Str} {ls:List Pos} {x y:Int} (hd:H d=some (.lst [.int x,.int y])) (s:SameX d H H') (h:TabOk H P0 q ls):TabOk H' P0 q ls:=by
 obtain ⟨ps,h1,h2,h3⟩:=h;refine ⟨ps,s.old _ _ h1 (fun z=>by subst z; rw [hd] at h1; cases h1),h2,fun x hx=>?_⟩;rcases h3 x hx with z | ⟨c,z1,z2⟩
 ·exact .inl z
 ·exact .inr ⟨c,z1,s.old _ _ z2 (fun z=>by subst z; rw [hd] at z2; cases z2)⟩
theorem TabOk.ne {d:Addr} {P0:Addr} {q:Str} {ls:List Pos} {xs:List V} (hd:H d=some (.lst xs)) (h:TabOk H P0 q ls):d ≠ P0:=fun z=>by
 obtain ⟨ps,h1,_⟩:=h;subst z;rw [hd] at h1;cases h1
def Rl (d P0:Addr) (H H':Hp):Prop:=∀ b o,H b=some o->b ≠ d->b ≠ P0->(∀ g,o ≠ .ext g)->H' b=some o
theorem Rl.trans {d P0:Addr} {H1 H2:Hp} (a:Rl d P0 H H1) (b:Rl d P0 H1 H2):Rl d P0 H H2:=fun c o e h1 h2 h3=>b c o (a c o e h1 h2 h3) h1 h2 h3
theorem Rl.same {d P0:Addr} (s:Same H H'):Rl d P0 H H':=fun b o e _ _ _=>s b o e
theorem Rl.sameX {d P0:Addr} (s:SameX d H H'):Rl d P0 H H':=fun b o e h _ _=>s.old b o e h
theorem Rl.sameB {d P0:Addr} (s:Jd P0 H H'):Rl d P0 H H':=fun b o e _ h _=>s b o h e
theorem KH {c':Addr} {q:Str} {dx:Option Addr}:EG c' q ≠ FP c' C dx:=fun z=>by
 have h:({ objs:=Array.replicate (c' + 1) ⟨.ref C,dx,.fields (Array.replicate 6 .none),#[]⟩ }:Heap).get? c'=some ⟨.ref C,dx,.fields (Array.replicate 6 .none),#[]⟩:=by
  unfold Heap.get?;rw [Array.getElem?_replicate,if_pos (Nat.lt_succ_self _)]
 have hz:=congrFun (HO.ext.inj z) { objs:=Array.replicate (c' + 1) ⟨.ref C,dx,.fields (Array.replicate 6 .none),#[]⟩ };have hy:=hz.mpr ⟨_,_,h,rfl,rfl,rfl,by decide,by decide⟩;obtain ⟨c1,oc,vs,t,e,ho,hd,hq⟩:=hy;cases e;rw [h] at ho;cases ho;cases hd;rw [Array.getElem?_replicate] at hq;split at hq <;> cases hq
theorem ValAt.keeps {p kp:Addr} {n:Nat} (s:Me H H') (h:ValAt VC H p kp n):ValAt VC H' p kp n:=by
 obtain ⟨dx,h⟩:=h;exact ⟨dx,s _ _ h (fun _ _ z=>nomatch z) (fun _ z=>nomatch z) (fun _ z=>nomatch z)⟩
structure Wb (d P0:Addr) (H:Hp):Prop where
 dice:∃ x y:Int,H d=some (.lst [.int x,.int y])
 tab:TabOk H P0 qL LS
theorem Wb.keeps {d P0:Addr} (s:Rl d P0 H H') (h:Wb d P0 H):Me H H':=fun b o eb h1 h2 h3=>by
 refine s b o eb (fun z=>?_) (fun z=>?_) h3
 ·subst z;obtain ⟨x,y,hd⟩:=h.dice;rw [hd] at eb;cases eb;exact h1 _ _ rfl
 ·subst z;obtain ⟨ps,hp,_⟩:=h.tab;rw [hp] at eb;cases eb;exact h2 _ rfl
theorem Wb.same {d P0:Addr} (s:Same H H') (h:Wb d P0 H):Wb d P0 H':=⟨by obtain ⟨x,y,z⟩:=h.dice; exact ⟨x,y,s _ _ z⟩,TabOk.same s h.tab⟩
theorem Wb.sameB {d P0:Addr} (s:Jd P0 H H') (ht:TabOk H' P0 qL LS) (h:Wb d P0 H):Wb d P0 H':=by
 obtain ⟨x,y,hd⟩:=h.dice;exact ⟨⟨x,y,s _ _ (TabOk.ne hd h.tab) hd⟩,ht⟩
theorem Wb.exc {d P0:Addr} {H1 H2:Hp} {e' C':Addr} {dx:Option Addr} (s1:Same H H1) (he:H1 e'=some (FP e' C' dx)) (s2:Same (del H1 e') H2) (h:Wb d P0 H):Wb d P0 H2/\Rl d P0 H H2:=by
 have old:∀ b o,H b=some o->o ≠ FP b C' dx->H2 b=some o:=fun b o eb hn=>by
  have eb1:=s1 _ _ eb;refine s2 _ _ ?_;have hbe:b ≠ e':=fun z=>by subst z; rw [he] at eb1; cases eb1; exact hn rfl
  unfold del;rw [if_neg hbe];exact eb1
 refine ⟨⟨?_,?_⟩,fun b o eb _ _ hx=>old b o eb (hx _)⟩
 ·obtain ⟨x,y,hd⟩:=h.dice;exact ⟨x,y,old _ _ hd (fun z=>nomatch z)⟩
 ·obtain ⟨ps,h1,h2,h3⟩:=h.tab;refine ⟨ps,old _ _ h1 (fun z=>nomatch z),h2,fun x hx=>?_⟩;rcases h3 x hx with z | ⟨c,z1,z2⟩
  ·exact .inl z
  ·exact .inr ⟨c,z1,old _ _ z2 KH⟩
theorem RI {ec:Nat->Addr} {cM cU:Addr} {j:Nat} {Q:VK} {d P0:Addr} (EP:J8 K ec cM cU j) (W:Wb d P0 H)
  (h:∀ p H',Wb d P0 H'->Rl d P0 H H'->H' p=some (.tup [.str "refused", .str (wd j)])->Q (.ref p) H'):Uq H (J9 K ec cM Q) cU:=fun e H1 s1 _ _=>⟨cU,rfl,fun e' he'=>.inl ⟨j,EP,rfl,fun p H2 s2 hp=>by
 obtain ⟨W2,R2⟩:=W.exc s1 he' s2
 exact h p H2 W2 R2 hp⟩⟩
theorem Gu {x y:Str} (h1:x.cps.all (· < 128)=true:=by decide +kernel) (h2:y.cps.all (· < 128)=true:=by decide +kernel):SeqAt.shaped (.tuple [.str x,.str y])=true:=by
 unfold SeqAt.shaped;simp only [Bool.and_eq_true,decide_eq_true_eq];refine ⟨?_,?_⟩
 ·rw [PyData.canLay0];refine LX fun d hd=>?_;simp only [mem_cons,not_mem_nil,or_false] at hd;rcases hd with rfl | rfl
  ·rw [PyData.canLay0]; exact Gj h1
  ·rw [PyData.canLay0]; exact Gj h2
 ·simp only [PyData.depth,PyData.depthAll];omega
theorem RJ (x y:Str):PyData.eqv (.tuple [.str x,.str y]) (.tuple [.str x,.str y])=true:=Ij fun d hd=>by
 simp only [mem_cons,not_mem_nil,or_false] at hd;rcases hd with rfl | rfl
 ·exact Eb _
 ·exact Eb _
def Mf (K:FG) (P0:Addr):Sp:=fun vs H Q _=>∃ (a:Addr) (ns:List Int),vs=[.ref a]/\SqL K H a (ns.map V.int)/\ns.length <= 63/\TabOk H P0 qL LS/\∀ H',Q (.bl true) H'
noncomputable abbrev Nt:List Str:=["_law_script", "_law_dice", "_law_rows", "_law_due", "_law_way", "_law_table", "_law_kind", "_law_other_kind", "_law_other", "_law_left", "_law_right", "_law_alone", "_law_answer", "_law_deed", "_law_one", "_law_strange"]
theorem scLaw:AL Nt ["_law_script"] (defScope EQ):=fsc
def RK (C VC CU:Addr):Sp:=fun vs H Q E=>∃ (p1 k1:Addr) (n1:Nat) (due1:Aa) (r1:Str) (p2 k2:Addr) (n2:Nat) (ac:Aa) (r2:Str),vs=[.ref p1,.ref p2]/\ValAt VC H p1 k1 n1/\ValAt VC H p2 k2 n2/\KindAt C H k1 due1 r1/\KindAt C H k2 ac r2/\Asc due1/\Asc ac/\¬ (due1=ac/\r1=r2)/\Uq H E CU
theorem Iu {g:Nat->Nat->Nat} {CU:Addr} (vs:List V) (H:Hp) (Q:VK) (E:XK) (h:RK C VC CU vs H Q E):CD g C VC CU vs H Q E:=by
 obtain ⟨p1,k1,n1,due1,r1,p2,k2,n2,ac,r2,h0,h1,h2,h3,h4,h5,h6,h7,h8⟩:=h;exact ⟨p1,k1,n1,due1,r1,p2,k2,n2,ac,r2,h0,h1,h2,h3,h4,h5,h6,.inr ⟨h7,h8⟩⟩
theorem Nu {CU:Addr} (vs:List V) (H:Hp) (Q:VK) (E:XK) (h:RK C VC CU vs H Q E):Ed C VC CU vs H Q E:=by
 obtain ⟨p1,k1,n1,due1,r1,p2,k2,n2,ac,r2,h0,h1,h2,h3,h4,h5,h6,h7,h8⟩:=h;exact ⟨p1,k1,n1,due1,r1,p2,k2,n2,ac,r2,h0,h1,h2,h3,h4,h5,h6,.inr ⟨h7,h8⟩⟩
section
variable {RC cM cU cV cN c P0:Addr} {ec:Nat->Addr}
theorem RL {X:Cx} {Nl:List Str} {ix:List Nat} {scope:Scope} {clos:List (Str × Addr)} (h1:ix.length=Nl.length)
  (h2:(List.range Nl.length).all (fun i=>match Nl[i]?,ix[i]? with | some x,some j=>decide (X.N[j]?=some x) && decide (X.env.scope.names.lookup x=some .cell) && decide (scope.names.lookup x=some .free) | _,_=>false)=true)
  (h3:∀ p ∈ clos,X.env.cells.lookup p.1=some p.2) (h4:scope.names.all (fun p=>!(p.2 == .cell || p.2 == .free) || (clos.lookup p.1).isSome)=true) (h5:∀ x,X.fn x=true):LamN X Nl ix scope clos:=by
 refine ⟨h1,fun i x h=>?_,fun x c h=>h3 _ (E7 h),RG h4,h5⟩;have hi:i < Nl.length:=(List.getElem?_eq_some_iff.mp h).1;have:=List.all_eq_true.mp h2 i (mem_range.mpr hi);rw [h] at this;cases e:ix[i]? with
 | none=>rw [e] at this; cases this
 | some j =>
  rw [e] at this;simp only [Bool.and_eq_true,decide_eq_true_eq] at this;exact ⟨j,rfl,this.1.1,this.1.2,this.2⟩
structure TN (P:Program) (w:World) (K:FG) (mg:SV) (base:Heap) (C VC CU f:Addr):Prop where
 ex:∃ fd,FnOk P w K mg base (CXr P w) 7 f fd ["one", "other"] (RK C VC CU)/\W.keepIn K (.ref f)=true/\Binds K fd ["one", "other"] []
def TQ (fs:List Addr) (C VC CU:Addr) (E:XK):TE:=fun σ H Q=>∃ f,f ∈ fs/\σ[0]?=some (some (.ref f))/\OC (RK C VC CU) [] E (Al (Hw 1) (Al (Hw 2) Cz)) σ H Q
theorem Sd {f0 fT0:Addr} {dT0:FuncData} {A:Around} {outer:List Env} {s:Shared} {E:XK} {fs:List Addr} (FT:Fun K "_law_told" "_law_told" Ai fT0 dT0) (mT0:mg "_law_told" = some (.ref fT0)) (bT0:Binds K dT0 ["_law_deed"] []) (M:Nr mg ec) (EX:Pt K mg ec cM) (GW:FnS P w K mg base "_law_word" 1 ["_law_e"] (Cj K ec))
  (LC:Qa (A8 CX0 P w K mg base Nt "law" (defScope EQ) f0 (.ref c) A outer s H E).nox c P0) (hr:Room 9 (A8 CX0 P w K mg base Nt "law" (defScope EQ) f0 (.ref c) A outer s H E).nox.A) (hD:∀ f ∈ fs,TN P w K mg base C VC cU f) :
  PE (A8 CX0 P w K mg base Nt "law" (defScope EQ) f0 (.ref c) A outer s H E).nox FN (RZ K ec cM P0 qL LS [13,14,15] (fun E=>TQ fs C VC cU E)) :=
   Q9 (X:=(A8 CX0 P w K mg base Nt "law" (defScope EQ) f0 (.ref c) A outer s H E).nox) (params:=Sc (Gs 0 FN)) (body:=Md (Gs 0 FN)) (scope:=KG (Gs 0 FN)) (Nl:=["_law_deed", "_law_one", "_law_strange"]) (k:=7) (lpos:=P2 (Gs 0 FN)) FT M EX GW hr rfl mT0 FT.kp bT0 LC (mem_of_getElem? (i:=0) rfl) (TM 0 _ rfl) rfl rfl (RL rfl (by kernel_rfl) (by intro p hp; simp only [mem_cons,not_mem_nil,or_false] at hp; rcases hp with rfl | rfl | rfl <;> kernel_rfl) (by kernel_rfl) (fun _=>rfl)) (fun _ _ _=>rfl) rfl rfl rfl (by decide +kernel)
    (fun lf c' A' outer' s' H' E hr=>fun aa s σ H Q I ⟨f,hf,h0,h1⟩=>by
     obtain ⟨fd,G,hk,hb⟩:=(hD f hf).ex
     refine (show PE _ (Md (Gs 0 FN)) _ from K4 (X:=C8 P w K mg base ["_law_deed", "_law_one", "_law_strange"] qL (KG (Gs 0 FN)) lf (.ref c') _ A' outer' s' H' E) (i:=0) G hr rfl (Or.inr (Or.inr rfl)) hk hb TB (AA (pv 1) (AA (pv 2) AC))) aa s σ H Q I ⟨h0,h1⟩)
end
noncomputable abbrev zzR:List (Str × Th):=[("ZZ", Th.num 1)]
theorem RM {rows:List (Str × Th)} (RO:CJ rows) (DO:DueOk (AV rows)) (h9:(AV rows).length <= 9) (nZ:("ZZ" : Str) ∉ (AV rows).map (·.1)):CJ (rows++zzR):=fun i r hi=>by
 rcases Nat.lt_or_ge i rows.length with h | h
 ·rw [List.getElem?_append_left h] at hi;rw [List.take_append_of_le_length (Nat.le_of_lt h)];exact RO i r hi
 ·have e:i=rows.length:=by
   have:=(List.getElem?_eq_some_iff.mp hi).1;rw [length_append,length_singleton] at this;omega
  subst e;rw [List.getElem?_append_right (Nat.le_refl _),Nat.sub_self] at hi;have e2:(("ZZ" : Str),Th.num 1)=r:=Option.some.inj hi;rw [← e2,List.take_append_of_le_length (Nat.le_refl _),take_length];exact ⟨DO,by omega,⟨by decide +kernel,by decide +kernel,by decide +kernel⟩,nZ,trivial,by show 1 < 2 ^ 20; decide⟩
theorem Gv {α β:Type} {F:α->β->Prop}:∀ {xs xs':List α} {ys ys':List β},Paired F xs ys->Paired F xs' ys'->Paired F (xs++xs') (ys++ys')
 | _,_,_,_,.nil,h=>h
 | _,_,_,_,.cons r t,h=>.cons r (Gv t h)
theorem in_iff {n m:Nat}:n - (n &&& m)=0 ↔ ∀ k,n.testBit k=true->m.testBit k=true:=by
 constructor
 ·intro h k hk;have:=A3 n m k;rw [h,Nat.zero_testBit,hk] at this;cases e:m.testBit k
  ·rw [e] at this; cases this
  ·rfl
 ·intro h;refine Nat.eq_of_testBit_eq fun k=>?_;rw [A3,Nat.zero_testBit];cases e:n.testBit k
  ·rfl
  ·rw [h k e]; rfl
theorem TR {a b m:Nat} (h1:a - (a &&& m)=0) (h2:b - (b &&& m)=0):(a ||| b) - ((a ||| b) &&& m)=0:=in_iff.mpr fun k hk=>by
 rw [Nat.testBit_or,Bool.or_eq_true] at hk;exact hk.elim (in_iff.mp h1 k) (in_iff.mp h2 k)
theorem TV {a c m:Nat} (h1:a - (a &&& m)=0) (h:∀ k,c.testBit k=true->a.testBit k=true):c - (c &&& m)=0:=in_iff.mpr fun k hk=>in_iff.mp h1 k (h k hk)
theorem TW {a b:Nat} (h1:a < 2 ^ 40) (h2:b < 2 ^ 40):(a ||| b) < 2 ^ 40:=Nat.or_lt_two_pow h1 h2
theorem TX (k n:Nat):k - (k &&& (k - (k &&& n)))=n &&& k:=by
 refine Nat.eq_of_testBit_eq fun j=>?_;rw [A3,A3,Nat.testBit_and];cases k.testBit j <;> cases n.testBit j <;> rfl
theorem P3 (k n:Nat):n &&& (k - (k &&& n))=0:=by
 refine Nat.eq_of_testBit_eq fun j=>?_;rw [Nat.testBit_and,A3,Nat.zero_testBit];cases k.testBit j <;> cases n.testBit j <;> rfl
theorem TY (k a b:Nat):k - (k &&& (a ||| b))=(k - (k &&& a)) &&& (k - (k &&& b)):=by
 refine Nat.eq_of_testBit_eq fun j=>?_;rw [A3,Nat.testBit_or,Nat.testBit_and,A3,A3];cases k.testBit j <;> cases a.testBit j <;> cases b.testBit j <;> rfl
theorem TZ (a b:Nat):(a &&& b) - ((a &&& b) &&& (a ||| b))=0:=in_iff.mpr fun j hj=>by
 rw [Nat.testBit_and,Bool.and_eq_true] at hj;rw [Nat.testBit_or,hj.1];rfl
theorem Wb.sameX {d P0:Addr} (s:SameX d H H') (h:Wb d P0 H):Wb d P0 H':=by
 obtain ⟨x,y,hd⟩:=h.dice;exact ⟨s.dice,TabOk.sameX hd s h.tab⟩
structure Ws (C VC d P0 kp kq kz o1 o2 t e m:Addr) (due dz:Aa) (r:Str) (n1 n2:Nat) (H:Hp):Prop where
 k1:KindAt C H kp due r
 k2:KindAt C H kq due r
 k3:KindAt C H kz dz r
 v1:ValAt VC H o1 kp n1
 v2:ValAt VC H o2 kq n2
 ht:H t=some (.dK (Qw due e m))
 wb:Wb d P0 H
section
variable {d P0 kp kq kz o1 o2 t e m:Addr} {dz:Aa} {r:Str} {n1 n2:Nat}
theorem Ws.go (s:Rl d P0 H H') (w:Wb d P0 H') (h:Ws C VC d P0 kp kq kz o1 o2 t e m due dz r n1 n2 H):Ws C VC d P0 kp kq kz o1 o2 t e m due dz r n1 n2 H' :=
 have k:=h.wb.keeps s
 ⟨h.k1.keeps k,h.k2.keeps k,h.k3.keeps k,h.v1.keeps k,h.v2.keeps k,k _ _ h.ht (fun _ _ z=>nomatch z) (fun _ z=>nomatch z) (fun _ z=>nomatch z),w⟩
theorem Ws.same (s:Same H H') (h:Ws C VC d P0 kp kq kz o1 o2 t e m due dz r n1 n2 H):Ws C VC d P0 kp kq kz o1 o2 t e m due dz r n1 n2 H':=h.go (Rl.same s) (h.wb.same s)
end
theorem P4 {x:Nat} (h:x < 2 ^ 40):PyData.eqv (.list ((AN x).map fun n:Nat=>PyData.int (n:Int))) (.list [])=decide (x=0):=by
 rw [MW,Bool.eq_iff_iff,decide_eq_true_eq,List.isEmpty_iff,List.map_eq_nil_iff];constructor
 ·intro e;refine Nat.eq_of_testBit_eq fun k=>?_;rw [Nat.zero_testBit];by_cases hk:k < 42
  ·cases q:x.testBit k with
   | false=>rfl
   | true =>
    have:=(BN hk).mpr q;rw [e] at this;cases this
  ·exact Nat.testBit_lt_two_pow (Nat.lt_of_lt_of_le h (Nat.pow_le_pow_right (by decide) (by omega)))
 ·intro e;subst e;decide +kernel
theorem Ta (rows:List (Str × Th)):1 - (1 &&& kn (AV (rows++zzR)))=0:=in_iff.mpr fun k hk=>by
 have e:k=0:=by
  have h:=hk;rw [show (1:Nat)=2 ^ 0 from rfl,Nat.testBit_two_pow,decide_eq_true_eq] at h;exact h.symm
 subst e;have:kn (AV (rows++zzR))=Ao ((AV (rows++zzR)).map (·.2)):=rfl;rw [this,CQ,any_eq_true];refine ⟨1,?_,rfl⟩;rw [CS,map_append];exact mem_append_right _ (mem_singleton.mpr rfl)
theorem Eg (xs:List Nat):(AS xs).length=xs.length:=by unfold AS; rw [AK]
theorem E8 (xs:List Nat):(Ba xs).map V.int=AS xs:=by
 unfold Ba AS;rw [map_map];rfl
theorem Hv (xs:List Nat):((Ba xs).map Sum.inl:List Key).map kV=AS xs:=by
 unfold Ba AS;rw [map_map,map_map];rfl
theorem Se {X:Cx} (K:FG) (h:X.K=K):OpR X (compareOp .In) (rIn K false):=h ▸ Ek
theorem E9 {X:Cx} (K:FG) (h:X.K=K):OpR X (compareOp .NotIn) (rIn K true):=h ▸ IA
theorem Sf:bootBuiltins "set" = some (.type "set"):=by decide +kernel
section
variable {cM cU c P0:Addr} {ec:Nat->Addr}
theorem Sg {f0 fT0:Addr} {dT0:FuncData} (F:FunC K "law" "law" EQ f0 fd c) (FT:Fun K "_law_told" "_law_told" Ai fT0 dT0) (mT0:mg "_law_told" = some (.ref fT0)) (bT0:Binds K dT0 ["_law_deed"] [])
  (hC:W.CodeHd base c P0) (hBu:base.BuiltinsAt mg P0) (B:Bl mg) (hSet:mg "set" = none) (KO:P1 P w K mg base C) (VO:FJ P w K mg base C VC) (M:Nr mg ec) (EX:Pt K mg ec cM) (GW:FnS P w K mg base "_law_word" 1 ["_law_e"] (Cj K ec)) (EPU:J8 K ec cM cU 7)
  (GRd:Fn P w K mg base "_law_rounds" 2 ["_law_script", "_law_most"] (Gh K)) (GL:Fn P w K mg base "_law_lines" 3 ["_law_dice", "_law_most"] Ih) (GRu:Fn P w K mg base "_law_rule_of" 3 ["_law_dice"] Gg) (GT:Fn P w K mg base "_law_table_of" 2 ["_law_due"] Ii)
  (GNi:Fn P w K mg base "_law_number_in" 3 ["_law_dice", "_law_known", "_law_way"] D3) (GB:Fn P w K mg base "_law_bits_of" 1 ["_law_number"] Ir) (GVN:Mt P w K mg base VC "number" 1 ["self"] (BI VC))
  (GU:FnX P w K mg base "union" 6 ["one", "other"] (CD gOr C VC cU)) (GS:FnX P w K mg base "share" 6 ["one", "other"] (CD Ip C VC cU)) (GX:FnX P w K mg base "unlike" 6 ["one", "other"] (CD Q3 C VC cU)) (GWo:FnX P w K mg base "without" 6 ["one", "other"] (CD D4 C VC cU)) (GWi:FnX P w K mg base "within" 7 ["one", "other"] (Ed C VC cU)) (GTu:Fn P w K mg base "turned" 6 ["one"] (Go C VC)) :
  FnOk P w K mg base CX0 10 f0 fd ["_law_script"] (Mf K P0):=by
 obtain ⟨fRd,dRd,GRd,mRd,kRd,bRd⟩:=GRd.ex;obtain ⟨fL,dL,GL,mL,kL,bL⟩:=GL.ex;obtain ⟨fRu,dRu,GRu,mRu,kRu,bRu⟩:=GRu.ex;obtain ⟨fT,dT,GT,mT,kT,bT⟩:=GT.ex;obtain ⟨fNi,dNi,GNi,mNi,kNi,bNi⟩:=GNi.ex;obtain ⟨fB,dB,GB,mB,kB,bB⟩:=GB.ex;obtain ⟨fVN,dVN,GVN,mVN,bVN⟩:=GVN.ex;obtain ⟨fU,dU,GU,mU,kU,bU⟩:=GU.ex;obtain ⟨fS,dS,GS,mS,kS,bS⟩:=GS.ex;obtain ⟨fX,dX,GX,mX,kX,bX⟩:=GX.ex;obtain ⟨fWo,dWo,GWo,mWo,kWo,bWo⟩:=GWo.ex;obtain ⟨fWi,dWi,GWi,mWi,kWi,bWi⟩:=GWi.ex;obtain ⟨fTu,dTu,GTu,mTu,kTu,bTu⟩:=GTu.ex;obtain ⟨fI,dI,MI,GI,⟨gI,kbI⟩,ds,bI,vI⟩:=KO.make;obtain ⟨fV,dV,MV,GV,bV⟩:=VO.make;obtain ⟨fE,dE,GE,mE,bE⟩:=VO.eq;have mC:=KO.cls;have mV:=VO.cls;have T:=KO.T;have VT:=VO.VT;refine F.ok scLaw (fun vs H Q E h=>?_) (fun A outer s H vs Q E hr h=>?_)
 ·obtain ⟨a,ns,rfl,_⟩:=h;rfl
 ·obtain ⟨a,ns0,rfl,hS,h63,hTab,kend⟩:=h;have hu:=FD hr;have hu64:=hr.units;have hr1:Room 1 _:=hr.mono (by decide);have hr2:Room 2 _:=hr.mono (by decide);have hr3:Room 3 _:=hr.mono (by decide);have hr4:Room 4 _:=hr.mono (by decide);have hr5:Room 5 _:=hr.mono (by decide);have hr6:Room 6 _:=hr.mono (by decide);have hr7:Room 7 _:=hr.mono (by decide);have nd:=scLaw.nd;have LC:Qa (A8 CX0 P w K mg base Nt "law" (defScope EQ) f0 (.ref c) A outer s H E).nox c P0:=⟨rfl,hC,hBu⟩
  have hD:∀ f ∈ [fU,fS,fX,fWo,fWi],TN P w K mg base C VC cU f:=by
   intro f hf;simp only [mem_cons,not_mem_nil,or_false] at hf;rcases hf with rfl | rfl | rfl | rfl | rfl
   ·exact ⟨dU,(GU.imp Iu).mono (by decide),kU,bU⟩
   ·exact ⟨dS,(GS.imp Iu).mono (by decide),kS,bS⟩
   ·exact ⟨dX,(GX.imp Iu).mono (by decide),kX,bX⟩
   ·exact ⟨dWo,(GWo.imp Iu).mono (by decide),kWo,bWo⟩
   ·exact ⟨dWi,GWi.imp Nu,kWi,bWi⟩
  refine ⟨_,AF (Cu PassesOwn.never rfl (BF (AH GRd hr2 rfl mRd kRd bRd .nil AM (AA (pv 0) (AA AI AC)))) (AZ (i:=1) nd rfl (Or.inl rfl))
    (AF (Ct (AH GL hr3 rfl mL kL bL .nil AM (AA (pv 1) (AA AI AC))) (Bx rfl (Ad (AZ (i:=2) nd rfl (Or.inl rfl)) (Ad (AZ (i:=3) nd rfl (Or.inl rfl)) BV))))
    (AF (N0 (i:=4) (j:=5) rfl nd rfl rfl (by decide) rfl rfl (AA (AH GRu hr3 rfl mRu kRu bRu .nil AM (AA (pv 1) AC)) (AA (AH GT hr2 rfl mT kT bT .nil AM (AA (pv 3) AC)) AC)) (by kernel_rfl))
    (AF (N0 (i:=6) (j:=7) rfl nd rfl rfl (by decide) rfl rfl (AA (Fz MI GI hr7 rfl mC kbI (AA (pv 2) AC) (FV (pv 4) Hz)) (AA (Fz MI GI hr7 rfl mC kbI (AA (AQ C1 (pv 2) (A7 (AA (Be (AA Af (AA AI AC))) AC))) AC) (FV (pv 4) Hz)) AC)) (by kernel_rfl))
    (AF (Aj (i:=14) nd rfl (Or.inr rfl) (B6 MV GV hr5 rfl mV bV .nil AM (AA (pv 6) (AA (AH GNi hr3 rfl mNi kNi bNi .nil AM (AA (pv 1) (AA (Ca hu (pv 5) Af (fun _ _=>rfl)) (AA (pv 4) AC)))) AC))))
    (AF (Aj (i:=8) nd rfl (Or.inl rfl) (B6 MV GV hr5 rfl mV bV .nil AM (AA (Fz MI GI hr7 rfl mC kbI (AA (pv 3) AC) (FV (pv 4) Hz)) (AA (AH GNi hr3 rfl mNi kNi bNi .nil AM (AA (pv 1) (AA (Ca hu (pv 5) Af (fun _ _=>rfl)) (AA (pv 4) AC)))) AC))))
    (AF (Ct (hs:=by kernel_rfl) (hw:=by kernel_rfl) (Be (AA (AH GB hr1 rfl mB kB bB .nil AM (AA (AR (pv 14) VT.cl mVN GVN hr1 bVN .nil AM) AC)) (AA (AH GB hr1 rfl mB kB bB .nil AM (AA (AR (pv 8) VT.cl mVN GVN hr1 bVN .nil AM) AC)) AC))) (Bx rfl (Ad (AZ (i:=9) nd rfl (Or.inr rfl)) (Ad (AZ (i:=10) nd rfl (Or.inr rfl)) BV))))
    (Ay (At (AW (Dg K rfl hu64) (AH GB hr1 rfl mB kB bB .nil AM (AA (AR (AH GU hr6 rfl mU kU bU .nil DI (AA (pv 14) (AA (pv 8) AC))) VT.cl mVN GVN hr1 bVN .nil AM) AC)) (Ab (IM rfl) rfl B.sorted DL (AA (Bt (NO rfl) rfl hSet Sf (AA (AQ C1 (pv 9) (pv 10)) AC)) AC)) (Ac _)) (AE Ag) AY)
    (Ay (At (AW (Dg K rfl hu64) (AH GB hr1 rfl mB kB bB .nil AM (AA (AR (AH GS hr6 rfl mS kS bS .nil DI (AA (pv 14) (AA (pv 8) AC))) VT.cl mVN GVN hr1 bVN .nil AM) AC)) (A9 ["_law_right"] [some 10] (by kernel_rfl) (by decide +kernel) (by kernel_rfl) rfl (BF (pv 9)) (fun _ _ _ _ _ _=>B9 (AW (Se K rfl) (pv 0) (pv 1) rfl)) (fun _ _ _ _ _ _=>pv 0)) (Ac _)) (AE Ag) AY)
    (AF (JK (i:=11) nd rfl (by kernel_rfl) ["_law_right"] [some 10] (by kernel_rfl) (by decide +kernel) (by kernel_rfl) rfl (BF (pv 9)) (fun _ _ _ _ _ _=>B9 (AW (E9 K rfl) (pv 0) (pv 1) rfl)) (fun _ _ _ _ _ _=>pv 0))
    (Ay (At (AW (Dg K rfl hu64) (AH GB hr1 rfl mB kB bB .nil AM (AA (AR (AH GWo hr6 rfl mWo kWo bWo .nil DI (AA (pv 14) (AA (pv 8) AC))) VT.cl mVN GVN hr1 bVN .nil AM) AC)) (pv 11) (Ac _)) (AE Ag) AY)
    (Ay (At (AW (Dg K rfl hu64) (AH GB hr1 rfl mB kB bB .nil AM (AA (AR (AH GX hr6 rfl mX kX bX .nil DI (AA (pv 14) (AA (pv 8) AC))) VT.cl mVN GVN hr1 bVN .nil AM) AC)) (Ab (IN (K:=K) rfl) rfl B.sorted DL (AA (AQ C1 (pv 11) (A9 ["_law_left"] [some 9] (by kernel_rfl) (by decide +kernel) (by kernel_rfl) rfl (BF (pv 10)) (fun _ _ _ _ _ _=>B9 (AW (E9 K rfl) (pv 0) (pv 1) rfl)) (fun _ _ _ _ _ _=>pv 0))) AC)) (Ac _)) (AE Ag) AY)
    (Ay (At (AW (Dg K rfl hu64) (AH GB hr1 rfl mB kB bB .nil AM (AA (AR (AH GTu hr6 rfl mTu kTu bTu .nil AM (AA (pv 14) AC)) VT.cl mVN GVN hr1 bVN .nil AM) AC)) (A9 ["_law_left"] [some 9] (by kernel_rfl) (by decide +kernel) (by kernel_rfl) rfl (BF (AH GB hr1 rfl mB kB bB .nil AM (AA (Ca hu (pv 5) Af (fun _ _=>rfl)) AC))) (fun _ _ _ _ _ _=>B9 (AW (E9 K rfl) (pv 0) (pv 1) rfl)) (fun _ _ _ _ _ _=>pv 0)) (Ac _)) (AE Ag) AY)
    (AF (Aj (i:=12) nd rfl (Or.inl rfl) (AH GWi hr7 rfl mWi kWi bWi .nil DI (AA (pv 14) (AA (pv 8) AC))))
    (Ay (At (PW.pt (FA (Bn (Bd (Bs K rfl rfl B.isi rfl B.bool MO (pv 12)))) (Cq (AW Fk (pv 12) (Bj (OX K rfl hu64) (pv 11) (A7 AC) (Ac _)) (Ac _))))) (AE Ag) AY)
    (Ay (At (AW Fk (AR (AH GTu hr6 rfl mTu kTu bTu .nil AM (AA (AH GTu hr6 rfl mTu kTu bTu .nil AM (AA (pv 14) AC)) AC)) VT.cl mVN GVN hr1 bVN .nil AM) (AQ CY (AR (pv 14) VT.cl mVN GVN hr1 bVN .nil AM) (Ca hu (pv 5) Af (fun _ _=>rfl))) (Ac _)) (AE Ag) AY)
    (Ay (At (AW Fk (AR (AH GS hr6 rfl mS kS bS .nil DI (AA (pv 14) (AA (AH GTu hr6 rfl mTu kTu bTu .nil AM (AA (pv 14) AC)) AC))) VT.cl mVN GVN hr1 bVN .nil AM) AI (Ac _)) (AE Ag) AY)
    (Ay (At (AW (JP GE hr4 bE mE VO.ne VO.isi.hm) (AH GTu hr6 rfl mTu kTu bTu .nil AM (AA (AH GU hr6 rfl mU kU bU .nil DI (AA (pv 14) (AA (pv 8) AC))) AC)) (AH GS hr6 rfl mS kS bS .nil DI (AA (AH GTu hr6 rfl mTu kTu bTu .nil AM (AA (pv 14) AC)) (AA (AH GTu hr6 rfl mTu kTu bTu .nil AM (AA (pv 8) AC)) AC))) (Ac _)) (AE Ag) AY)
    (Ay (At (Bn (Bd (AH GWi hr7 rfl mWi kWi bWi .nil DI (AA (AH GS hr6 rfl mS kS bS .nil DI (AA (pv 14) (AA (pv 8) AC))) (AA (AH GU hr6 rfl mU kU bU .nil DI (AA (pv 14) (AA (pv 8) AC))) AC))))) (AE Ag) AY)
    (AF (Aj (i:=15) nd rfl (Or.inr rfl) (B6 MV GV hr5 rfl mV bV .nil AM (AA (pv 7) (AA AI AC))))
    (AE (Cu PassesOwn.never rfl (BF (A7 (AA (BE (v:=.ref fU) rfl mU rfl) (AA (BE (v:=.ref fS) rfl mS rfl) (AA (BE (v:=.ref fX) rfl mX rfl) (AA (BE (v:=.ref fWo) rfl mWo rfl) (AA (BE (v:=.ref fWi) rfl mWi rfl) AC))))))) (AZ (i:=13) nd rfl (Or.inr rfl))
     (AE (At (AW (Dg K rfl hu64) (Sd FT mT0 bT0 M EX GW LC hr hD) (Be (AA Af (AA Af AC))) (Ac _)) (AE Ag) AY))))))))))))))))))))))))
   (AE (AO Nw)),?_⟩
  refine ⟨_,rfl,a,ns0,rfl,hS,h63,fun l as H1 s1 hl nd1 hla h5 bp=>?_⟩
  refine ⟨l,rfl,⟨_,SqL.of hl⟩,Cw (K:=K) (a:=l) (xs:=as.map V.ref) (fun i σ H2=>(∃ v1 v2 v3 v4 v5 v6 v7 v8 v9 v10 v11 v12 v13 v14 v15:Option V,σ=[some (.ref a),v1,v2,v3,v4,v5,v6,v7,v8,v9,v10,v11,v12,v13,v14,v15])/\H2 l=some (.lst (as.map V.ref))/\TabOk H2 P0 qL LS/\∀ (j:Nat) b,i <= j->as[j]?=some b->∃ x y:Int,H2 b=some (.lst [.int x,.int y]))
   ⟨⟨none,none,none,none,none,none,none,none,none,none,none,none,none,none,none,rfl⟩,hl,TabOk.same s1 hTab,fun j b _ e=>(bp b (mem_of_getElem? e)).2⟩ (fun i σ H2 _ ⟨_,e,_⟩=>SqL.of e) ?_ ?_⟩
  ·rintro i v σ H2 hi ⟨⟨v1,v2,v3,v4,v5,v6,v7,v8,v9,v10,v11,v12,v13,v14,v15,rfl⟩,hl2,hT2,hds⟩;rw [getElem?_map] at hi
   obtain ⟨d,hdi,rfl⟩:∃ b,as[i]?=some b/\v=V.ref b:=by
    cases q:as[i]? with
    | none=>rw [q] at hi; cases hi
    | some x=>rw [q] at hi; exact ⟨x,rfl,(Option.some.inj hi).symm⟩
   obtain ⟨x,y,hd⟩:=hds i d (Nat.le_refl _) hdi;have hld:l ≠ d:=fun z=>hla (z ▸ mem_of_getElem? hdi);have hlP:l ≠ P0:=TabOk.ne hl2 hT2;have hTab2:=hT2;have hdP:d ≠ P0:=TabOk.ne hd hT2;refine ⟨_,rfl,d,x,y,9,rfl,by decide,by decide,hd,fun q f u fs bs rows Ha sX hq hfn hun hf hP hu1 am r0 r10 RO ap=>?_⟩;refine ⟨q,_,rfl,SqT.of hq,rfl,_,_,rfl,_,_,rfl,rfl,?_⟩;have hfd:f ≠ d:=Ne.symm (AJ hd hfn);have hud:u ≠ d:=Ne.symm (AJ hd hun);have r9:rows.length <= 9:=by omega
   obtain ⟨x2,y2,hd2⟩:=sX.dice;have hTa:=TabOk.sameX hd sX hT2;refine ⟨_,rfl,d,x2,y2,rfl,hd2,fun r Hb ao sXb=>?_⟩;have tb:SameT Ha Hb:=fun b xs e=>sXb.old b _ e fun z=>by subst z; rw [hd2] at e; cases e
   have hfb:=sXb.old _ _ hf hfd;have al:=sXb.old _ _ hu1 hud;have hTb:=TabOk.sameX hd2 sXb hTa;have DO:DueOk (AV rows):=Gm RO (by omega);have hdl:(AV rows).length=rows.length:=BC rows;refine ⟨_,rfl,u,bs,AV rows,rfl,al,TupsAt.sameT tb am,by omega,DO.lt,fun t e m ms Hd sd ht he hm aw=>?_⟩;refine ⟨_,_,rfl,?_⟩;refine ⟨_,rfl,_,rfl,?_⟩;intro kp dx hkp ay ax;have sN:=BD (D:=C) hkp ay ax;refine ⟨kp,dx,f,rows,r,rfl,AB,⟨fs,sN _ _ (sd _ _ hfb),BR ((tb.trans (SameT.of sd)).trans (SameT.of sN)) hP⟩,r0,by omega,RO,ao,fun He sc KA=>⟨rfl,?_⟩⟩;have sE:=A1 sN hkp sc;have sBe:=sd.trans sE;have hTe:=TabOk.same sBe hTb
   have hdb:∃ x y:Int,He d=some (.lst [.int x,.int y]):=by
    obtain ⟨x3,y3,e3⟩:=sXb.dice;exact ⟨x3,y3,sBe _ _ e3⟩
   have hold:Rl d P0 H2 He:=fun b o e hb _ _=>sBe _ _ (sXb.old _ _ (sX.old _ _ e hb) hb);have hfe:=sBe _ _ hfb;have hPe:Paired (RowAt He) fs rows:=BR (tb.trans (SameT.of sBe)) hP;have hue:=sBe _ _ al;have hbe:TupsAt He bs (Ch (AV rows)):=TupsAt.sameT (tb.trans (SameT.of sBe)) am;have hte:=sE _ _ ht;clear hkp ay sc sN sE sBe sd ht he hm aw hfb al am hP hTb hTa hd hd2 hT2 hq tb hf hu1;have nZ:("ZZ" : Str) ∉ (AV rows).map (·.1):=fun z=>absurd (ap _ (J1 rows ▸ z)) (by decide +kernel);have ROZ:=RM RO DO (by omega) nZ;have DZ:=Gm ROZ (by rw [length_append]; show rows.length + 1 <= 10; omega)
   have hdz:¬ (AV rows=AV (rows++zzR)/\r=r):=fun z=>by
    have:=congrArg List.length z.1;rw [BC,BC,length_append] at this;have h1:rows.length=rows.length + 1:=this;omega
   refine ⟨_,rfl,sl2,fun z1 hz1=>⟨sl1,fun z2 hz2=>?_⟩⟩;have q1:=AD (Same.refl _) hz1 (o:=HO.tup [.str "ZZ", .int 1]);have q2:=AD (Same.refl _) hz2 (o:=HO.lst [.ref z1]);have g1:=q2 _ _ (AB (H:=He) (a:=z1) (o:=HO.tup [.str "ZZ", .int 1]));have g2:=AB (H:=upd He z1 (HO.tup [.str "ZZ", .int 1])) (a:=z2) (o:=HO.lst [.ref z1]);have q12:=q1.trans q2;generalize upd (upd He z1 (HO.tup [.str "ZZ", .int 1])) z2 (HO.lst [.ref z1])=Hj at q12 g1 g2 ⊢;have ae:fs.length=rows.length:=hPe.length;refine ⟨f,z2,_,_,rfl,rfl,q12 _ _ hfe,g2,Nat.le_of_lt (Ae (by rw [AK]; show fs.length + 1 <= 1000; omega)),fun z3 hz3=>?_⟩;have q3:=AD (Same.refl _) hz3 (o:=HO.lst (fs.map V.ref++[.ref z1]));have g3:(upd Hj z3 (HO.lst (fs.map V.ref++[.ref z1]))) z3=some (.lst ((fs++[z1]).map V.ref)):=by rw [AB,map_append]; rfl
   have g13:=q3 _ _ g1;have s13:=q12.trans q3;generalize upd Hj z3 (HO.lst (fs.map V.ref++[.ref z1]))=Hk at g3 g13 s13 ⊢;clear g1 g2 q3 hz3 q1 q2 hz1 hz2 q12;refine ⟨_,rfl,?_⟩;intro kz dz hkz hdz' hnz;have sN:=BD (D:=C) hkz hdz' hnz;refine ⟨kz,dz,z3,rows++zzR,r,rfl,AB,⟨fs++[z1],sN _ _ g3,Gv (BR (SameT.of (s13.trans sN)) hPe) (.cons ⟨_,sN _ _ g13,rfl⟩ .nil)⟩,by rw [length_append]; show 0 < rows.length + 1; omega,by rw [length_append]; show rows.length + 1 <= 10; omega,ROZ,ao,fun Hl sl KZ=>⟨rfl,?_⟩⟩;have skl:=s13.trans (A1 sN hkz sl);clear g3 g13 sN sl hkz hdz' hnz s13;have KA:=KA.same skl;have hul:=skl _ _ hue;have hbl:TupsAt Hl bs (Ch (AV rows)):=TupsAt.sameT (SameT.of skl) hbe;have htl:=skl _ _ hte;have wbl:Wb d P0 Hl:=Wb.same skl ⟨hdb,hTe⟩;have rll:=hold.trans (Rl.same skl);clear hue hbe hte hdb hTe hold hfe hPe skl;generalize hdue:AV rows=due at *;have asc:Asc due:=fun p hp=>(DO.nm p hp).2.1;refine ⟨_,_,rfl,?_⟩;obtain ⟨x3,y3,hd3⟩:=wbl.dice;have hd10:due.length <= 10:=by omega
   refine ⟨_,rfl,_,rfl,_,rfl,t,_,rfl,.inl ⟨_,Sum.inr "known", .inl htl,rfl,(DR _ _ _).symm⟩,_,rfl,d,x3,y3,kn due,r,rfl,hd3,fun n1 H3 hn1 hk1 sX3=>?_⟩;have kp3:=wbl.keeps (Rl.sameX sX3);have wb3:=wbl.sameX sX3;have rl3:=rll.trans (Rl.sameX sX3);have KA3:=KA.keeps kp3;have KZ3:=KZ.keeps kp3;have hu3:=kp3 _ _ hul (fun _ _=>RH) (fun _ z=>nomatch z) (fun _ z=>nomatch z);have hb3:=TupsAt.keeps kp3 hbl;have ht3:=kp3 _ _ htl (fun _ _ z=>nomatch z) (fun _ z=>nomatch z) (fun _ z=>nomatch z);clear kp3 sX3 hd3 KA KZ hul hbl htl wbl rll;intro o1 dv hsv hdv bg;have sN:=BD (D:=VC) hsv hdv bg;refine ⟨o1,dv,kp,due,r,n1,rfl,AB,KA3.same sN,hn1,hk1,fun H4 sm hV1=>⟨rfl,?_⟩⟩;have s34:=A1 sN hsv sm;have KA4:=KA3.same s34;have KZ4:=KZ3.same s34;have hu4:=s34 _ _ hu3;have hb4:=TupsAt.sameT (SameT.of s34) hb3;have ht4:=s34 _ _ ht3;have wb4:=wb3.same s34;have rl4:=rl3.trans (Rl.same s34);clear sN sm hsv hdv bg s34 KA3 KZ3 hu3 hb3 ht3 wb3 rl3;refine ⟨_,rfl,_,rfl,?_⟩;intro kq dq hkq hdq hnq;have sN:=BD (D:=C) hkq hdq hnq;refine ⟨kq,dq,u,BP due,r,rfl,AB,⟨bs,sN _ _ hu4,Pj (TupsAt.sameT (SameT.of sN) hb4)⟩,?_,?_,Lb DO,ao,fun H5 sc KQ=>⟨rfl,?_⟩⟩
   ·unfold BP; rw [AK]; omega
   ·unfold BP; rw [AK]; omega
   rw [Ec] at KQ;have s45:=A1 sN hkq sc;have KA5:=KA4.same s45;have KZ5:=KZ4.same s45;have ht5:=s45 _ _ ht4;have wb5:=wb4.same s45;have rl5:=rl4.trans (Rl.same s45);have hV15:=hV1.same s45;clear sN sc hkq hdq hnq s45 KA4 KZ4 hu4 hb4 ht4 wb4 rl4 hV1;obtain ⟨x5,y5,hd5⟩:=wb5.dice;refine ⟨_,rfl,_,rfl,t,_,rfl,.inl ⟨_,Sum.inr "known", .inl ht5,rfl,(DR _ _ _).symm⟩,_,rfl,d,x5,y5,kn due,r,rfl,hd5,fun n2 H6 hn2 hk2 sX6=>?_⟩;have kp6:=wb5.keeps (Rl.sameX sX6);have wb6:=wb5.sameX sX6;have rl6:=rl5.trans (Rl.sameX sX6);have KA6:=KA5.keeps kp6;have KZ6:=KZ5.keeps kp6;have KQ6:=KQ.keeps kp6;have V16:=hV15.keeps kp6;have ht6:=kp6 _ _ ht5 (fun _ _ z=>nomatch z) (fun _ z=>nomatch z) (fun _ z=>nomatch z);clear kp6 sX6 hd5 KA5 KZ5 KQ ht5 wb5 rl5 hV15;intro o2 dv hsv hdv bg;have sN:=BD (D:=VC) hsv hdv bg;refine ⟨o2,dv,kq,due,r,n2,rfl,AB,KQ6.same sN,hn2,hk2,fun H7 sm hV2=>⟨rfl,?_⟩⟩;have s67:=A1 sN hsv sm;have rl7:=rl6.trans (Rl.same s67);have W7:Ws C VC d P0 kp kq kz o1 o2 t e m due (AV (rows++zzR)) r n1 n2 H7:=⟨KA6.same s67,KQ6.same s67,KZ6.same s67,V16.same s67,hV2,s67 _ _ ht6,wb6.same s67⟩;clear sN sm hsv hdv bg s67 KA6 KQ6 KZ6 V16 hV2 ht6 wb6 rl6;have no1:(BK kp n1).lookup ("number" : Str)=none:=Bo _ _ (by decide +kernel) (by decide +kernel);have no2:(BK kq n2).lookup ("number" : Str)=none:=Bo _ _ (by decide +kernel) (by decide +kernel);obtain ⟨dx1,aj⟩:=id W7.v1;obtain ⟨dx2,ak⟩:=id W7.v2;refine ⟨_,rfl,o1,dx1,_,rfl,aj,no1,o1,kp,n1,rfl,W7.v1,n1,rfl,fun la H8 s8 hla8=>?_⟩;refine ⟨_,rfl,o2,dx2,_,rfl,s8 _ _ ak,no2,o2,kq,n2,rfl,W7.v2.same s8,n2,rfl,fun lb H9 s9 hlb9=>?_⟩;refine ⟨sl2,fun pq hpq=>?_⟩;have q9:=AD (Same.refl _) hpq (o:=HO.tup [V.ref la,V.ref lb]);refine ⟨pq,_,rfl,SqT.of AB,rfl,_,_,rfl,_,_,rfl,rfl,?_⟩;have s79:=(s8.trans s9).trans q9;have hLa:=q9 _ _ (s9 _ _ hla8);have hLb:=q9 _ _ hlb9;have W10:=W7.same s79;have rl10:=rl7.trans (Rl.same s79);generalize upd H9 pq (HO.tup [V.ref la,V.ref lb])=Ha at hLa hLb W10 rl10 ⊢;clear W7 rl7 aj ak s8 hla8 s9 hlb9 q9 s79 hpq;obtain ⟨TT,hTT⟩:∃ TT:Hp->Prop,TT=fun H'=>Ws C VC d P0 kp kq kz o1 o2 t e m due (AV (rows++zzR)) r n1 n2 H'/\H' la=some (.lst (AS (AN n1)))/\H' lb=some (.lst (AS (AN n2)))/\Rl d P0 H2 H':=⟨_,rfl⟩;have T10:TT Ha:=by rw [hTT]; exact ⟨W10,hLa,hLb,rl10⟩
   have tS:∀ {X Y:Hp},Same X Y->TT X->TT Y:=fun {X Y} sx h=>by
    rw [hTT] at h ⊢;exact ⟨h.1.same sx,sx _ _ h.2.1,sx _ _ h.2.2.1,h.2.2.2.trans (Rl.same sx)⟩
   have tW:∀ {X:Hp},TT X->Ws C VC d P0 kp kq kz o1 o2 t e m due (AV (rows++zzR)) r n1 n2 X:=fun {X} h=>by rw [hTT] at h; exact h.1
   have tA:∀ {X:Hp},TT X->X la=some (.lst (AS (AN n1))):=fun {X} h=>by rw [hTT] at h; exact h.2.1
   have tB:∀ {X:Hp},TT X->X lb=some (.lst (AS (AN n2))):=fun {X} h=>by rw [hTT] at h; exact h.2.2.1
   have tR:∀ {X:Hp},TT X->Rl d P0 H2 X:=fun {X} h=>by rw [hTT] at h; exact h.2.2.2
   have noN:∀ (k n:_),(BK k n).lookup ("number" : Str)=none:=fun k n=>Bo _ _ (by decide +kernel) (by decide +kernel);have hor:(n1 ||| n2) < 2 ^ 40/\(r = "keep" \/ (n1 ||| n2) - ((n1 ||| n2) &&& kn due)=0):=⟨TW hn1 hn2,by rcases hk1 with h | h; exact .inl h; rcases hk2 with h2 | h2; exact .inl h2; exact .inr (TR h h2)⟩
   have hle:∀ c:Nat,(∀ k,c.testBit k=true->(n1 ||| n2).testBit k=true)->c < 2 ^ 40/\(r = "keep" \/ c - (c &&& kn due)=0):=fun c hc=>by
    have af:c < 2 ^ 40:=Nat.lt_pow_two_of_testBit _ fun j hj=>by
     cases q:c.testBit j with
     | false=>rfl
     | true =>
      have:=hc j q;rw [Nat.testBit_lt_two_pow (Nat.lt_of_lt_of_le hor.1 (Nat.pow_le_pow_right (by decide) hj))] at this;cases this
    exact ⟨af,hor.2.imp id fun h=>TV h hc⟩
   have l42:=CV n1;have m42:=CV n2;clear W10 hLa hLb rl10 no1 no2
   have cf:∀ k,(n1 &&& n2).testBit k=true->(n1 ||| n2).testBit k=true:=fun k hk=>by
    rw [Nat.testBit_and,Bool.and_eq_true] at hk;rw [Nat.testBit_or,hk.1];rfl
   have bv:∀ k,(n1 - (n1 &&& n2)).testBit k=true->(n1 ||| n2).testBit k=true:=fun k hk=>by
    rw [A3,Bool.and_eq_true] at hk;rw [Nat.testBit_or,hk.1];rfl
   have hxor:∀ k,(n1 ^^^ n2).testBit k=true->(n1 ||| n2).testBit k=true:=fun k hk=>by
    rw [Nat.testBit_xor] at hk;rw [Nat.testBit_or];cases e1:n1.testBit k <;> cases e2:n2.testBit k <;> rw [e1,e2] at hk <;> first | rfl | cases hk
   refine ⟨fun σ H'=>σ=[some (.ref a),some (.ref d),some (.ref f),some (.ref u),some (.str r),some (.ref t),some (.ref kp),some (.ref kz),some (.ref o2),some (.ref la),some (.ref lb),v11,v12,v13,some (.ref o1),v15]/\TT H',fun R hR=>?_,?_⟩
   ·have W:=tW T10;refine ⟨_,rfl,_,rfl,o1,kp,n1,due,r,o2,kq,n2,due,r,rfl,W.v1,W.v2,W.k1,W.k2,asc,asc,.inl ⟨⟨rfl,rfl⟩,hor.1,hor.2,fun q1 H3 s3 hv=>?_⟩⟩;obtain ⟨dq,hq⟩:=id hv;refine ⟨q1,dq,_,rfl,hq,noN _ _,q1,kp,_,rfl,hv,_,rfl,fun l1 H4 s4 hl1=>?_⟩;have T4:=tS (s3.trans s4) T10;refine ⟨_,rfl,_,rfl,la,lb,_,_,rfl,rfl,tA T4,tB T4,Nat.le_of_lt (Ae (by rw [Eg,Eg]; omega)),fun p1 aj=>?_⟩;have sp1:=AD (Same.refl _) aj (o:=HO.lst (AS (AN n1)++AS (AN n2)));have e1:((Ba (AN n1)++Ba (AN n2)).map Sum.inl:List Key).map kV=AS (AN n1)++AS (AN n2):=by rw [map_append,map_append,Hv,Hv]
    refine ⟨p1,(Ba (AN n1)++Ba (AN n2)).map Sum.inl,rfl,by rw [e1]; exact SqL.of AB,by unfold Ba; simp; omega,fun p2 ak=>?_⟩;obtain ⟨ms,em,pm⟩:=Sa n1 n2;rw [em];have o42:=CV (n1 ||| n2);have aw:ms.length=(AN (n1 ||| n2)).length:=by rw [pm.length_eq]; unfold Ba; rw [AK]
    have sp2:=AD (Same.refl _) ak (o:=CP P w p2 (ms.map Sum.inl));refine ⟨p2,ms,rfl,AB,by omega,fun l2 ns hl2 pn hn=>?_⟩;have en:ns=Ba (AN (n1 ||| n2)):=Py hn (KF _) (pn.trans pm);subst en;rw [E8];have sp3:=AD (Same.refl _) hl2 (o:=HO.lst (AS (AN (n1 ||| n2))));have s14:=(sp1.trans sp2).trans sp3;refine ⟨_,_,Aq (s14 _ _ hl1) (A5 _),Aq AB (A5 _),Am _,Am _,_,rfl,?_⟩;rw [BM];exact BG (hR _ _ ⟨rfl,tS s14 T4⟩)
   clear T10;rintro σ Ha ⟨rfl,T10⟩;refine ⟨fun σ H'=>σ=[some (.ref a),some (.ref d),some (.ref f),some (.ref u),some (.str r),some (.ref t),some (.ref kp),some (.ref kz),some (.ref o2),some (.ref la),some (.ref lb),v11,v12,v13,some (.ref o1),v15]/\TT H',fun R hR=>?_,?_⟩
   ·have W:=tW T10;refine ⟨_,rfl,_,rfl,o1,kp,n1,due,r,o2,kq,n2,due,r,rfl,W.v1,W.v2,W.k1,W.k2,asc,asc,.inl ⟨⟨rfl,rfl⟩,(hle _ cf).1,(hle _ cf).2,fun q1 H3 s3 hv=>?_⟩⟩;obtain ⟨dq,hq⟩:=id hv;refine ⟨q1,dq,_,rfl,hq,noN _ _,q1,kp,_,rfl,hv,_,rfl,fun l1 H4 s4 hl1=>?_⟩;have T4:=tS (s3.trans s4) T10;refine ⟨_,rfl,la,rfl,⟨_,SqL.of (tA T4)⟩,Ef (K:=K) (xs:=AN n1) (p:=fun x=>decide (x ∈ AN n2)) (tA T4) (by omega) (fun x Y Z hx hy hz=>?_) ?_⟩
    ·refine ⟨_,rfl,_,rfl,lb,_,rfl,.inl (SqL.of (tB T4)),rfl,DS _,_,rfl,?_⟩;show if inV (V.int (x:Int)) (AS (AN n2))=true then _ else _
     rw [Fd];exact BX (fun h=>⟨_,rfl,hy h⟩) (fun h=>hz (Bool.eq_false_iff.mpr h))
    ·intro p1 aj;rw [Px];have sp1:=AD (Same.refl _) aj (o:=HO.lst (AS (AN (n1 &&& n2))));refine ⟨_,_,Aq (sp1 _ _ hl1) (A5 _),Aq AB (A5 _),Am _,Am _,_,rfl,?_⟩;rw [BM];exact BG (hR _ _ ⟨rfl,tS sp1 T4⟩)
   clear T10;rintro σ Ha ⟨rfl,T10⟩;refine ⟨_,rfl,la,rfl,⟨_,SqL.of (tA T10)⟩,Ef (K:=K) (xs:=AN n1) (p:=fun x=>!decide (x ∈ AN n2)) (tA T10) (by omega) (fun x Y Z hx hy hz=>?_) ?_⟩
   ·refine ⟨_,rfl,_,rfl,lb,_,rfl,.inl (SqL.of (tB T10)),rfl,DS _,_,rfl,?_⟩;show if (!inV (V.int (x:Int)) (AS (AN n2)))=true then _ else _
    rw [Fd];exact BX (fun h=>⟨_,rfl,hy h⟩) (fun h=>hz (Bool.eq_false_iff.mpr h))
   intro lc hlc;rw [Gp];have sc1:=AD (Same.refl _) hlc (o:=HO.lst (AS (AN (n1 - (n1 &&& n2)))));obtain ⟨TU,hTU⟩:∃ TU:Hp->Prop,TU=fun H'=>TT H'/\H' lc=some (.lst (AS (AN (n1 - (n1 &&& n2))))):=⟨_,rfl⟩;have U10:TU (upd Ha lc (HO.lst (AS (AN (n1 - (n1 &&& n2)))))):=by rw [hTU]; exact ⟨tS sc1 T10,AB⟩
   have uS:∀ {X Y:Hp},Same X Y->TU X->TU Y:=fun {X Y} sx h=>by
    rw [hTU] at h ⊢;exact ⟨tS sx h.1,sx _ _ h.2⟩
   have uT:∀ {X:Hp},TU X->TT X:=fun {X} h=>by rw [hTU] at h; exact h.1
   have uC:∀ {X:Hp},TU X->X lc=some (.lst (AS (AN (n1 - (n1 &&& n2))))):=fun {X} h=>by rw [hTU] at h; exact h.2
   have c42:=CV (n1 - (n1 &&& n2));generalize upd Ha lc (HO.lst (AS (AN (n1 - (n1 &&& n2)))))=Hc at U10 ⊢;clear sc1 T10 hlc;have hk20:=TK DO.lt;have p40:(2:Nat) ^ 20 < 2 ^ 40:=by decide
   have htu:∀ n,kn due - (kn due &&& n) < 2 ^ 40/\(r = "keep" \/ (kn due - (kn due &&& n)) - ((kn due - (kn due &&& n)) &&& kn due)=0):=fun n=>⟨by omega,.inr (in_iff.mpr fun k hk=>by
    rw [A3,Bool.and_eq_true] at hk
    exact hk.1)⟩
   refine ⟨fun σ H'=>σ=[some (.ref a),some (.ref d),some (.ref f),some (.ref u),some (.str r),some (.ref t),some (.ref kp),some (.ref kz),some (.ref o2),some (.ref la),some (.ref lb),some (.ref lc),v12,v13,some (.ref o1),v15]/\TU H',fun R hR=>?_,?_⟩
   ·have W:=tW (uT U10);refine ⟨_,rfl,_,rfl,o1,kp,n1,due,r,o2,kq,n2,due,r,rfl,W.v1,W.v2,W.k1,W.k2,asc,asc,.inl ⟨⟨rfl,rfl⟩,(hle _ bv).1,(hle _ bv).2,fun q1 H3 s3 hv=>?_⟩⟩;obtain ⟨dq,hq⟩:=id hv;refine ⟨q1,dq,_,rfl,hq,noN _ _,q1,kp,_,rfl,hv,_,rfl,fun l1 H4 s4 hl1=>?_⟩;have U4:=uS (s3.trans s4) U10;refine ⟨_,rfl,_,_,Aq hl1 (A5 _),Aq (uC U4) (A5 _),Am _,Am _,_,rfl,?_⟩;rw [BM];exact BG (hR _ _ ⟨rfl,U4⟩)
   clear U10;rintro σ Hc ⟨rfl,U10⟩;refine ⟨fun σ H'=>σ=[some (.ref a),some (.ref d),some (.ref f),some (.ref u),some (.str r),some (.ref t),some (.ref kp),some (.ref kz),some (.ref o2),some (.ref la),some (.ref lb),some (.ref lc),v12,v13,some (.ref o1),v15]/\TU H',fun R hR=>?_,?_⟩
   ·have W:=tW (uT U10);refine ⟨_,rfl,_,rfl,o1,kp,n1,due,r,o2,kq,n2,due,r,rfl,W.v1,W.v2,W.k1,W.k2,asc,asc,.inl ⟨⟨rfl,rfl⟩,(hle _ hxor).1,(hle _ hxor).2,fun q1 H3 s3 hv=>?_⟩⟩;obtain ⟨dq,hq⟩:=id hv;refine ⟨q1,dq,_,rfl,hq,noN _ _,q1,kp,_,rfl,hv,_,rfl,fun l1 H4 s4 hl1=>?_⟩;have U4:=uS (s3.trans s4) U10;refine ⟨_,rfl,_,rfl,lb,rfl,⟨_,SqL.of (tB (uT U4))⟩,Ef (K:=K) (xs:=AN n2) (p:=fun x=>!decide (x ∈ AN n1)) (tB (uT U4)) (by omega) (fun x Y Z hx hy hz=>?_) ?_⟩
    ·refine ⟨_,rfl,_,rfl,la,_,rfl,.inl (SqL.of (tA (uT U4))),rfl,DS _,_,rfl,?_⟩;show if (!inV (V.int (x:Int)) (AS (AN n1)))=true then _ else _
     rw [Fd];exact BX (fun h=>⟨_,rfl,hy h⟩) (fun h=>hz (Bool.eq_false_iff.mpr h))
    ·intro p1 aj;rw [Gp];have sp1:=AD (Same.refl _) aj (o:=HO.lst (AS (AN (n2 - (n2 &&& n1)))));have hP:=RF n1 n2;have hln:=hP.length_eq;rw [length_append] at hln;have x42:=CV (n1 ^^^ n2);refine ⟨lc,p1,_,_,rfl,rfl,sp1 _ _ (uC U4),AB,Nat.le_of_lt (Ae (by rw [Eg,Eg]; omega)),fun p2 ak=>?_⟩;have sp2:=AD (Same.refl _) ak (o:=HO.lst (AS (AN (n1 - (n1 &&& n2)))++AS (AN (n2 - (n2 &&& n1)))))
     have e1:(Ba (AN (n1 - (n1 &&& n2))++AN (n2 - (n2 &&& n1)))).map V.int=AS (AN (n1 - (n1 &&& n2)))++AS (AN (n2 - (n2 &&& n1))):=by
      rw [E8];unfold AS;rw [map_append]
     refine ⟨p2,Ba (AN (n1 - (n1 &&& n2))++AN (n2 - (n2 &&& n1))),rfl,by rw [e1]; exact SqL.of AB,by unfold Ba; rw [AK,length_append]; omega,fun l2 ns hl2 pn hn=>?_⟩;have en:ns=Ba (AN (n1 ^^^ n2)):=Py hn (KF _) (pn.trans (hP.map _));subst en;rw [E8];have sp3:=AD (Same.refl _) hl2 (o:=HO.lst (AS (AN (n1 ^^^ n2))));have s14:=(sp1.trans sp2).trans sp3;refine ⟨_,_,Aq (s14 _ _ hl1) (A5 _),Aq AB (A5 _),Am _,Am _,_,rfl,?_⟩;rw [BM];exact BG (hR _ _ ⟨rfl,uS s14 U4⟩)
   clear U10;rintro σ Hc ⟨rfl,U10⟩;refine ⟨fun σ H'=>σ=[some (.ref a),some (.ref d),some (.ref f),some (.ref u),some (.str r),some (.ref t),some (.ref kp),some (.ref kz),some (.ref o2),some (.ref la),some (.ref lb),some (.ref lc),v12,v13,some (.ref o1),v15]/\TU H',fun R hR=>?_,?_⟩
   ·have W:=tW (uT U10);refine ⟨_,rfl,o1,kp,n1,due,r,rfl,W.v1,W.k1,hk20,fun q1 H3 s3 hv=>?_⟩;obtain ⟨dq,hq⟩:=id hv;refine ⟨q1,dq,_,rfl,hq,noN _ _,q1,kp,_,rfl,hv,_,rfl,fun l1 H4 s4 hl1=>?_⟩;have U4:=uS (s3.trans s4) U10;refine ⟨_,rfl,t,_,rfl,.inl ⟨_,Sum.inr "known", .inl (tW (uT U4)).ht,rfl,(DR _ _ _).symm⟩,kn due,rfl,fun l3 H5 s5 hl3=>?_⟩;have U5:=uS s5 U4;have k42:=CV (kn due);refine ⟨l3,rfl,⟨_,SqL.of hl3⟩,Ef (K:=K) (xs:=AN (kn due)) (p:=fun x=>!decide (x ∈ AN n1)) hl3 (by omega) (fun x Y Z hx hy hz=>?_) ?_⟩
    ·refine ⟨_,rfl,_,rfl,la,_,rfl,.inl (SqL.of (tA (uT U5))),rfl,DS _,_,rfl,?_⟩;show if (!inV (V.int (x:Int)) (AS (AN n1)))=true then _ else _
     rw [Fd];exact BX (fun h=>⟨_,rfl,hy h⟩) (fun h=>hz (Bool.eq_false_iff.mpr h))
    ·intro p1 aj;rw [Gp];have sp1:=AD (Same.refl _) aj (o:=HO.lst (AS (AN (kn due - (kn due &&& n1)))));refine ⟨_,_,Aq (sp1 _ _ (s5 _ _ hl1)) (A5 _),Aq AB (A5 _),Am _,Am _,_,rfl,?_⟩;rw [BM];exact BG (hR _ _ ⟨rfl,uS sp1 U5⟩)
   clear U10;rintro σ Hc ⟨rfl,U10⟩;have W:=tW (uT U10);refine ⟨_,rfl,_,rfl,o1,kp,n1,due,r,o2,kq,n2,due,r,rfl,W.v1,W.v2,W.k1,W.k2,asc,asc,.inl ⟨⟨rfl,rfl⟩,(hle _ bv).1,(hle _ bv).2,fun H3 s3=>?_⟩⟩;have U3:=uS s3 U10;clear U10 W s3;refine ⟨fun σ H'=>σ=[some (.ref a),some (.ref d),some (.ref f),some (.ref u),some (.str r),some (.ref t),some (.ref kp),some (.ref kz),some (.ref o2),some (.ref la),some (.ref lb),some (.ref lc),some (.bl (decide (n1 - (n1 &&& n2)=0))),v13,some (.ref o1),v15]/\TU H',fun R hR=>?_,?_⟩
   ·refine ⟨_,rfl,_,_,_,true,rfl,.bl _,rfl,_,rfl,BG ?_⟩;refine ⟨_,rfl,_,rfl,Nat.zero_le _,fun p1 aj=>?_⟩;have sp1:=AD (Same.refl _) aj (o:=HO.lst []);refine ⟨_,_,Aq (sp1 _ _ (uC U3)) (A5 _),Aq AB MU,Am _,Am [],?_⟩;rw [P4 (hle _ bv).1];refine ⟨rfl,_,rfl,?_⟩;rw [decide_eq_true rfl];exact BG (hR _ _ ⟨rfl,uS sp1 U3⟩)
   clear U3;rintro σ Hc ⟨rfl,U10⟩;refine ⟨fun σ H'=>σ=[some (.ref a),some (.ref d),some (.ref f),some (.ref u),some (.str r),some (.ref t),some (.ref kp),some (.ref kz),some (.ref o2),some (.ref la),some (.ref lb),some (.ref lc),some (.bl (decide (n1 - (n1 &&& n2)=0))),v13,some (.ref o1),v15]/\TU H',fun R hR=>?_,?_⟩
   ·have W:=tW (uT U10);refine ⟨_,rfl,o1,kp,n1,due,r,rfl,W.v1,W.k1,hk20,fun q1 H3 s3 hv1=>?_⟩;refine ⟨q1,kp,_,due,r,rfl,hv1,W.k1.same s3,hk20,fun q2 H4 s4 hv2=>?_⟩;obtain ⟨dq,hq⟩:=id hv2;have U4:=uS (s3.trans s4) U10;have W4:=tW (uT U4);obtain ⟨dx1,aj⟩:=id W4.v1;refine ⟨q2,dq,_,rfl,hq,noN _ _,q2,kp,_,rfl,hv2,?_⟩;refine ⟨_,rfl,o1,dx1,_,rfl,aj,noN _ _,o1,kp,n1,rfl,W4.v1,_,rfl,t,_,rfl,.inl ⟨_,Sum.inr "known", .inl W4.ht,rfl,(DR _ _ _).symm⟩,_,_,rfl,rfl,?_⟩;show rNe _ (V.int (Builtin.bitAnd (n1:Int) (kn due:Int))) _ _;rw [Br,TX];refine ⟨rfl,_,rfl,?_⟩;show if (!decide (V.int ((n1 &&& kn due:Nat):Int)=V.int ((n1 &&& kn due:Nat):Int)))=true then _ else _
    rw [decide_eq_true rfl];exact BG (hR _ _ ⟨rfl,U4⟩)
   clear U10;rintro σ Hc ⟨rfl,U10⟩;refine ⟨fun σ H'=>σ=[some (.ref a),some (.ref d),some (.ref f),some (.ref u),some (.str r),some (.ref t),some (.ref kp),some (.ref kz),some (.ref o2),some (.ref la),some (.ref lb),some (.ref lc),some (.bl (decide (n1 - (n1 &&& n2)=0))),v13,some (.ref o1),v15]/\TU H',fun R hR=>?_,?_⟩
   ·have W:=tW (uT U10);refine ⟨_,rfl,_,rfl,o1,kp,n1,due,r,rfl,W.v1,W.k1,hk20,fun q1 H3 s3 hv1=>?_⟩;refine ⟨o1,kp,n1,due,r,q1,kp,_,due,r,rfl,W.v1.same s3,hv1,W.k1.same s3,W.k1.same s3,asc,asc,.inl ⟨⟨rfl,rfl⟩,by rw [show Ip n1 (kn due - (kn due &&& n1))=0 from P3 _ _]; decide,by rw [show Ip n1 (kn due - (kn due &&& n1))=0 from P3 _ _]; exact .inr (Nat.zero_sub _),fun q2 H4 s4 hv2=>?_⟩⟩;obtain ⟨dq,hq⟩:=id hv2;refine ⟨q2,dq,_,rfl,hq,noN _ _,q2,kp,_,rfl,hv2,?_⟩;rw [show Ip n1 (kn due - (kn due &&& n1))=0 from P3 _ _];refine ⟨rfl,_,rfl,?_⟩;show if (!decide (V.int (0:Int)=V.int 0))=true then _ else _
    rw [decide_eq_true rfl];exact BG (hR _ _ ⟨rfl,uS (s3.trans s4) U10⟩)
   clear U10;rintro σ Hc ⟨rfl,U10⟩;refine ⟨fun σ H'=>σ=[some (.ref a),some (.ref d),some (.ref f),some (.ref u),some (.str r),some (.ref t),some (.ref kp),some (.ref kz),some (.ref o2),some (.ref la),some (.ref lb),some (.ref lc),some (.bl (decide (n1 - (n1 &&& n2)=0))),v13,some (.ref o1),v15]/\TU H',fun R hR=>?_,?_⟩
   ·have W:=tW (uT U10);refine ⟨_,rfl,_,rfl,o1,kp,n1,due,r,o2,kq,n2,due,r,rfl,W.v1,W.v2,W.k1,W.k2,asc,asc,.inl ⟨⟨rfl,rfl⟩,hor.1,hor.2,fun q1 H3 s3 hv1=>?_⟩⟩;refine ⟨q1,kp,_,due,r,rfl,hv1,W.k1.same s3,hk20,fun q2 H4 s4 hv2=>?_⟩;have W4:=W.same (s3.trans s4);refine ⟨_,rfl,o1,kp,n1,due,r,rfl,W4.v1,W4.k1,hk20,fun q3 H5 s5 hv3=>?_⟩;have W5:=W4.same s5;refine ⟨_,rfl,o2,kq,n2,due,r,rfl,W5.v2,W5.k2,hk20,fun q4 H6 s6 hv4=>?_⟩;have W6:=W5.same s6;have hd2:Ip (kn due - (kn due &&& n1)) (kn due - (kn due &&& n2))=kn due - (kn due &&& (n1 ||| n2)):=(TY _ _ _).symm;refine ⟨q3,kp,_,due,r,q4,kq,_,due,r,rfl,hv3.same s6,hv4,W6.k1,W6.k2,asc,asc,.inl ⟨⟨rfl,rfl⟩,by rw [hd2]; exact (htu _).1,by rw [hd2]; exact (htu _).2,fun q5 H7 s7 hv5=>?_⟩⟩;rw [hd2] at hv5;have hv27:=hv2.same ((s5.trans s6).trans s7);obtain ⟨da,ha⟩:=id hv27;obtain ⟨db,hb⟩:=id hv5;have W7:=W6.same s7;refine ⟨q2,da,_,q5,db,_,rfl,rfl,ha,hb,q2,_,kp,_,due,r,rfl,hv27,W7.k1,asc,.inr ⟨q5,kp,_,due,r,rfl,hv5,W7.k1,asc,fun H8 s8=>⟨_,rfl,?_⟩⟩⟩;refine ⟨_,rfl,_,rfl,?_⟩;show if (!decide ((due=due/\r=r)/\kn due - (kn due &&& (n1 ||| n2))=kn due - (kn due &&& (n1 ||| n2))))=true then _ else _
    have ed:decide ((due=due/\r=r)/\kn due - (kn due &&& (n1 ||| n2))=kn due - (kn due &&& (n1 ||| n2)))=true:=decide_eq_true ⟨⟨rfl,rfl⟩,rfl⟩;rw [ed];exact BG (hR _ _ ⟨rfl,uS (((((s3.trans s4).trans s5).trans s6).trans s7).trans s8) U10⟩)
   clear U10;rintro σ Hc ⟨rfl,U10⟩;refine ⟨fun σ H'=>σ=[some (.ref a),some (.ref d),some (.ref f),some (.ref u),some (.str r),some (.ref t),some (.ref kp),some (.ref kz),some (.ref o2),some (.ref la),some (.ref lb),some (.ref lc),some (.bl (decide (n1 - (n1 &&& n2)=0))),v13,some (.ref o1),v15]/\TU H',fun R hR=>?_,?_⟩
   ·have W:=tW (uT U10);refine ⟨_,rfl,_,rfl,o1,kp,n1,due,r,o2,kq,n2,due,r,rfl,W.v1,W.v2,W.k1,W.k2,asc,asc,.inl ⟨⟨rfl,rfl⟩,(hle _ cf).1,(hle _ cf).2,fun q1 H3 s3 hv1=>?_⟩⟩;have W3:=W.same s3;refine ⟨_,rfl,_,rfl,o1,kp,n1,due,r,o2,kq,n2,due,r,rfl,W3.v1,W3.v2,W3.k1,W3.k2,asc,asc,.inl ⟨⟨rfl,rfl⟩,hor.1,hor.2,fun q2 H4 s4 hv2=>?_⟩⟩;have W4:=W3.same s4;have hd2:D4 (Ip n1 n2) (gOr n1 n2)=0:=TZ _ _;refine ⟨q1,kp,_,due,r,q2,kp,_,due,r,rfl,hv1.same s4,hv2,W4.k1,W4.k1,asc,asc,.inl ⟨⟨rfl,rfl⟩,by rw [hd2]; decide,by rw [hd2]; exact .inr (Nat.zero_sub _),fun H5 s5=>?_⟩⟩;rw [decide_eq_true hd2];exact ⟨_,rfl,BG (hR _ _ ⟨rfl,uS ((s3.trans s4).trans s5) U10⟩)⟩
   clear U10;rintro σ Hc ⟨rfl,U10⟩;have W:=tW (uT U10);have R10:=tR (uT U10);refine ⟨_,rfl,?_⟩;intro sv dv hsv hdv bg;have sN:=BD (D:=VC) hsv hdv bg;refine ⟨sv,dv,kz,AV (rows++zzR),r,1,rfl,AB,W.k3.same sN,by decide,.inr (Ta rows),fun Hm sm hVz=>⟨rfl,?_⟩⟩;have slm:=A1 sN hsv sm;have Wm:=W.same slm;have Rm:=R10.trans (Rl.same slm);clear W R10 U10 sN sm hsv hdv bg slm uS uT uC hTU tS tW tA tB tR hTT;have ascz:Asc (AV (rows++zzR)):=fun p hp=>(DZ.nm p hp).2.1;refine ⟨(by show 5 <= sizeLine; decide),fun lf hlf=>?_⟩;have sf:=AD (Same.refl _) hlf (o:=HO.lst [V.ref fU,V.ref fS,V.ref fX,V.ref fWo,V.ref fWi]);have hf5:=AB (H:=Hm) (a:=lf) (o:=HO.lst [V.ref fU,V.ref fS,V.ref fX,V.ref fWo,V.ref fWi]);have Wf:=Wm.same sf;have Rf:=Rm.trans (Rl.same sf);have Vf:=hVz.same sf
   have nfd:lf ≠ d:=fun z=>by
    obtain ⟨x9,y9,h9⟩:=Wm.wb.dice;rw [z,h9] at hlf;cases hlf
   generalize upd Hm lf (HO.lst [V.ref fU,V.ref fS,V.ref fX,V.ref fWo,V.ref fWi])=Hf at hf5 Wf Rf Vf ⊢;clear Wm Rm hVz sf hlf;refine ⟨lf,rfl,⟨_,SqL.of hf5⟩,Cw (K:=K) (a:=lf) (xs:=[V.ref fU,V.ref fS,V.ref fX,V.ref fWo,V.ref fWi]) (fun j σ H'=>(∃ w13:Option V,σ=[some (.ref a),some (.ref d),some (.ref f),some (.ref u),some (.str r),some (.ref t),some (.ref kp),some (.ref kz),some (.ref o2),some (.ref la),some (.ref lb),some (.ref lc),some (.bl (decide (n1 - (n1 &&& n2)=0))),w13,some (.ref o1),some (.ref sv)])/\Ws C VC d P0 kp kq kz o1 o2 t e m due (AV (rows++zzR)) r n1 n2 H'/\H' lf=some (.lst [V.ref fU,V.ref fS,V.ref fX,V.ref fWo,V.ref fWi])/\Rl d P0 H2 H'/\ValAt VC H' sv kz 1) ⟨⟨_,rfl⟩,Wf,hf5,Rf,Vf⟩ (fun j σ H' _ ⟨_,_,h,_⟩=>SqL.of h) ?_ ?_⟩
   ·rintro j v σ H3 hj ⟨⟨w13,rfl⟩,W3,h3,R3,V3⟩
    obtain ⟨g,hg,rfl⟩:∃ g,g ∈ [fU,fS,fX,fWo,fWi]/\v=V.ref g:=by
     have hm:=mem_of_getElem? hj;simp only [mem_cons,not_mem_nil,or_false] at hm ⊢;rcases hm with h | h | h | h | h
     ·exact ⟨fU,.inl rfl,h⟩
     ·exact ⟨fS,.inr (.inl rfl),h⟩
     ·exact ⟨fX,.inr (.inr (.inl rfl)),h⟩
     ·exact ⟨fWo,.inr (.inr (.inr (.inl rfl))),h⟩
     ·exact ⟨fWi,.inr (.inr (.inr (.inr rfl))),h⟩
    refine ⟨W3.wb.tab,fun H5 sB hT5=>?_⟩;have wb5:=W3.wb.sameB sB hT5;have W5:=W3.go (Rl.sameB sB) wb5;have V5:=V3.keeps (W3.wb.keeps (Rl.sameB sB));refine ⟨g,hg,rfl,_,rfl,_,rfl,o1,kp,n1,due,r,sv,kz,1,AV (rows++zzR),r,rfl,W5.v1,V5,W5.k1,W5.k3,asc,ascz,hdz,RI EPU wb5 fun q6 H6 wb6 rl6 hq6=>?_⟩;refine ⟨sl2,fun q2 hq2=>?_⟩;have sq:=AD (Same.refl _) hq2 (o:=HO.tup [V.str "refused", V.str "Unlike"]);refine ⟨_,_,MZ (sq _ _ hq6),MZ AB,Gu,Gu,_,rfl,?_⟩;show if (!PyData.eqv (.tuple [.str "refused", .str "Unlike"]) (.tuple [.str "refused", .str "Unlike"]))=true then _ else _
    rw [RJ];have rl56:=(Rl.sameB sB).trans rl6;have W6:=(W5.go rl6 wb6).same sq;exact BG ⟨⟨_,rfl⟩,W6,sq _ _ (rl56 _ _ h3 nfd (TabOk.ne h3 W3.wb.tab) (fun _ z=>nomatch z)),(R3.trans rl56).trans (Rl.same sq),(V5.keeps (wb5.keeps rl6)).same sq⟩
   ·rintro σ H3 ⟨⟨w13,rfl⟩,W3,h3,R3,V3⟩;refine ⟨⟨_,_,_,_,_,_,_,_,_,_,_,_,_,_,_,rfl⟩,R3 _ _ hl2 hld hlP (fun _ z=>nomatch z),W3.wb.tab,fun j b hj e=>?_⟩;obtain ⟨xb,yb,hb⟩:=hds j b (by omega) e
    have hbd:b ≠ d:=fun z=>by
     subst z;have:=(List.getElem?_inj (List.getElem?_eq_some_iff.mp hdi).1 nd1).mp (hdi.trans e.symm);omega
    exact ⟨xb,yb,R3 _ _ hb hbd (TabOk.ne hb hTab2) (fun _ z=>nomatch z)⟩
  ·rintro σ H3 ⟨_,_,_,_⟩;exact kend _
end
theorem Tb {dt:Addr} {tk:Tok} {kV doc pm ad ct:Value} {an:Option Addr} {n:Nat} (hd:K.lookup dt=some ⟨.type "tuple", none,.seq #[.str "" tk] n,#[]⟩) :
  Binds K (W.fnOf "__init__" "MarkError.__init__" (defArgs Au) (defBody Au) (defScope Au) (.ref dt) kV doc pm an ad ct) ["self", "words"] []:=by
 intro s us hK hl
 have hl2:us.length=2:=by
  rw [append_nil] at hl;exact hl
 match us,hl2 with
 | [u1,u2],_ =>
  have ho:=hK _ _ hd;intro M A E Q hq;unfold bindArgs;simp only [W.fnOf]
  repeat (first | with_reducible refine wpAny_seqItems ho rfl ?_ | (with_reducible refine wpAny_bind (wpAny_seqItems ho rfl ?_)) | wp_step)
  exact Eq.mp (congrArg (fun z=>Q z s) (by kernel_rfl)) hq
theorem Lk {h:Heap} {N:Addr} {n:Str} {v:Value} (X:K.In h) (G:h.Ns N mg) (e:W.nsIn K N n=some (some v)):mg n=some v:=by
 obtain ⟨o,es,ep,ho,hd,_,hf⟩:=G;unfold W.nsIn at e;split at e
 ·rename_i c d es' n' sl q;have:=X _ _ q;rw [ho] at this;cases this;cases hd;split at e
  ·rename_i he;cases e;rw [← hf];unfold nsFind findBy;rw [← Array.find?_toList,he];rfl
  ·split at e <;> cases e
 ·cases e
theorem RN {kV doc pm ad ct:Value} {an:Option Addr} :
  Ke K (W.fnOf "__init__" "Kind.__init__" (defArgs A6) (defBody A6) (defScope A6) .none kV doc pm an ad ct) ["self", "rows", "rest"] ["rest"] gU3 gV3:=by
 refine ⟨fun s us ws _ hl=>?_,fun {vs us zs ws} r rz=>?_⟩
 ·unfold gU3 at hl ⊢;split at hl
  ·exact .of_eq (by kernel_rfl)
  ·cases hl
 ·cases r with
  | nil=>exact .nil
  | cons r1 rr =>
   cases rr with
   | nil=>exact .nil
   | cons r2 rr =>
    cases rr with
    | cons _ _=>exact .nil
    | nil =>
     cases rz with
     | nil=>exact .nil
     | cons z1 zz =>
      cases zz with
      | nil=>exact .cons r1 (.cons r2 (.cons z1 .nil))
      | cons _ _=>exact .nil
theorem Sh {kd:Addr} {v doc pm ad ct:Value} {an:Option Addr} (ok:W.nsOkIn K kd=true) (e:W.nsIn K kd "rest" = some (some v)) :
  Binds K (W.fnOf "__init__" "Kind.__init__" (defArgs A6) (defBody A6) (defScope A6) .none (.ref kd) doc pm an ad ct) ["self", "rows", "rest"] [v]:=by
 intro s us hK hl
 have hl2:us.length=2:=by
  rw [length_append] at hl;exact Nat.succ.inj hl
 match us,hl2 with
 | [u1,u2],_ =>
  have G:s.heap.Ns kd (s.heap.nsMap kd):=.of_isNs (W.isNs_of_in hK ok);have hm:s.heap.nsMap kd "rest" = some v:=Lk hK G e;intro M A E Q hq;unfold bindArgs;simp only [W.fnOf]
  repeat (first | (with_reducible refine wpAny_nsGet G ?_; rw [hm]) | wp_step)
  exact Eq.mp (congrArg (fun z=>Q z s) (by kernel_rfl)) hq
end Mk
end
section
namespace Mk
open PySem L2 MK PySem.W
noncomputable abbrev fO (x q:Str) (s:Stmt):=fnOf x q (defArgs s) (defBody s) (defScope s)
theorem Eh {K:Frag} {C:Addr} {T:String} (h:isClsIn K C=true) (h2:typeIn K (.ref C)=some (.type "type")) (e:subIn K (.type T) (.ref C)=some false):kitOne K (.type T) (.ref C)=some false:=by
 unfold kitOne;rw [if_neg (by simp)];unfold kitCls;show (if _ then _ else _)=_;rw [if_pos (by unfold isClsIn at h; rw [h,h2]; simp)];exact e
noncomputable def KJ (K:Frag) (c P:Addr):Bool:=match K.lookup c with
 | some ⟨.type "code", _,.fields vs,_⟩=>(match (vs[11]?:Option Value),vs.getD 18 Value.none,vs.getD 7 Value.none,vs.getD 9 Value.none,vs.getD 10 Value.none with
  | some (.ref p),.str _ _,.int _ _,.bool _,.int _ _=>p == P && !(c == P)
  | _,_,_,_,_=>false)
 | _=>false
theorem codeHd_of {K:Frag} {h:Heap} {c P:Addr} (X:K.In h) (q:KJ K c P=true):CodeHd h c P:=by
 unfold KJ at q;split at q
 ·rename_i d vs sl ho;split at q
  ·rename_i p f tf fl tg b tx tt h11 h18 h7 h9 h10;rw [Bool.and_eq_true,beq_iff_eq] at q;obtain ⟨rfl,hn⟩:=q;refine ⟨_,vs,f,tf,fl,tg,b,tx,tt,X _ _ ho,rfl,rfl,h11,?_,h18,h7,h9,h10,fun z=>by simp [z] at hn⟩;rw [Array.getD_eq_getD_getElem?,h11];rfl
  ·cases q
 ·cases q
section
variable {P:Program} {w:World} {K:Frag} {mg:SV} {base:Heap} {x q:Str} {st:Stmt} {k:Nat} {ps:List Str} {sp:Sp} {f C:Addr} {fd:FuncData} {p1 p2 p3 p4 p5:Str}
theorem fnT (F:Fun K x x st f fd) (ok:FnOk P w K mg base CX0 k f fd ps sp) (m:mg x=some (.ref f)) (b:Binds K fd ps []):Fn P w K mg base x k ps sp:=⟨⟨f,fd,ok,m,F.kp,b⟩⟩
theorem mtT (a:findIn K (.ref C) x=some (some (.ref f))) (i:isFn K (.ref f)=true) (F:Fun K x q st f fd) (ok:FnOk P w K mg base CX0 k f fd ps sp) (b:Binds K fd ps []):Mt P w K mg base C x k ps sp:=⟨⟨f,fd,ok,⟨a,i,F.kp⟩,b⟩⟩
noncomputable abbrev fB (x q:Str) (st:Stmt) (kV doc pm:Value) (an:Option Addr) (ad ct:Value) (us:List Value):Sem (List (Str × Value)):=bindArgs (fO x q st .none kV doc pm an ad ct) ⟨us,[]⟩
theorem bi1 (F:Fun K x q st f fd) (h:∀ a b c d e g u1,fB x q st a b c d e g [u1]=pure [(p1,u1)]):Binds K fd [p1] []:=F.binds fun _ _ _ _ _ _ us hl=>match us,hl with | [_],_=>h ..
theorem bi2 (F:Fun K x q st f fd) (h:∀ a b c d e g u1 u2,fB x q st a b c d e g [u1,u2]=pure [(p1,u1),(p2,u2)]):Binds K fd [p1,p2] []:=F.binds fun _ _ _ _ _ _ us hl=>match us,hl with | [_,_],_=>h ..
theorem bi3 (F:Fun K x q st f fd) (h:∀ a b c d e g u1 u2 u3,fB x q st a b c d e g [u1,u2,u3]=pure [(p1,u1),(p2,u2),(p3,u3)]):Binds K fd [p1,p2,p3] []:=F.binds fun _ _ _ _ _ _ us hl=>match us,hl with | [_,_,_],_=>h ..
end
def DG (K:Frag) (x:Str) (st:Stmt):Prop:=∃ f fd,nsIn K mainGlobals x=some (some (.ref f))/\Fun K x x st f fd
def DM (K:Frag) (C:Addr) (x q:Str) (st:Stmt):Prop:=∃ f fd,findIn K (.ref C) x=some (some (.ref f))/\isFn K (.ref f)=true/\(∃ o,K.lookup f=some o/\o.cls=.type "function")/\Fun K x q st f fd
structure CF (K:Frag) (C:Addr):Prop where
 pg:plainGet K C Str.empty=true
 hd:hasDictIn K C=true
 po:plainOver K C=true
 sa:findIn K (.ref C) "__setattr__" = some (some (.builtin "object.__setattr__"))
 mz:makesIn K C=true
 kc:keepIn K (.ref C)=true
 qa:findIn K (.ref C) "__class__" = some (some (.builtin "object.__class__"))
 qm:mroIn K C (.type "object")=some true
 ql:isClsIn K C=true
 qy:typeIn K (.ref C)=some (.type "type")
 qs:subIn K (.type "list") (.ref C)=some false
 qi:subIn K (.type "int") (.ref C)=some false
 qt:subIn K (.type "tuple") (.ref C)=some false
 ne:findIn K (.ref C) "__ne__" = some (some (.builtin "object.__ne__"))
structure XF (K:Frag) (ec:Nat->Addr) (C:Addr) (j:Nat):Prop where
 cx:L2.Aw K C=true
 ga:findIn K (.ref C) "__getattribute__" = some (some (.builtin "BaseException.__getattribute__"))
 gr:findIn K (.ref C) "__getattr__" = some none
 gb:mroIn K C (.type "BaseException")=some true
 kc:(clsIn K C).isSome=true
 ka:findIn K (.ref C) "__class__" = some (some (.builtin "object.__class__"))
 km:mroIn K C (.type "object")=some true
 kt:((List.range 11).all fun i=>i == j || decide (kitOne K (.ref C) (.ref (ec i))=some false))=true
 tv:kitOne K (.ref C) (.type "ValueError")=some true
 ke:keepIn K (.ref C)=true
theorem XF.at {K:Frag} {ec:Nat->Addr} {C:Addr} {j:Nat} (F:XF K ec C j) (hj:j < 11) (e:C=ec j) (qn:specialIn K (.builtin "object.__class__") "__get__" = some (some (.builtin "getset_descriptor.__get__"))) (qt:takesIn K (.builtin "object.__class__")=some true):Mb K ec C j:=by
 refine ⟨hj,⟨⟨F.ga,F.gr,F.gb⟩,F.kc,F.ka,qn,qt,F.km⟩,fun i hi=>?_,F.tv⟩;have h:=List.all_eq_true.mp F.kt i (mem_range.mpr hi);rw [Bool.or_eq_true] at h;rcases h with z | z
 ·rw [eq_of_beq z,e,decide_eq_true rfl];exact Ea K _
 ·by_cases q:i=j
  ·rw [q,e,decide_eq_true rfl];exact Ea K _
  ·rw [decide_eq_false q];exact of_decide_eq_true z
structure XP (K:Frag) (ec:Nat->Addr) (cM C f:Addr) (j:Nat):Prop where
 F:XF K ec C j
 n:((List.range 4).all fun i=>!(DT K C).contains (.ref (ec i)))=true
 m:(DT K C).contains (.ref cM)=true
 i:findIn K (.ref C) "__init__" = some (some (.ref f))
theorem XP.pl {K:Frag} {ec:Nat->Addr} {cM C f:Addr} {j:Nat} (F:XP K ec cM C f j) (hj:j < 11) (e:C=ec j) (qn:specialIn K (.builtin "object.__class__") "__get__" = some (some (.builtin "getset_descriptor.__get__"))) (qt:takesIn K (.builtin "object.__class__")=some true):J8 K ec cM C j:=by
 have h:∀ i,i < 4->(DT K C).contains (.ref (ec i))=false:=fun i hi=>by
  have:=List.all_eq_true.mp F.n i (mem_range.mpr hi);rw [Bool.not_eq_true'] at this;exact this
 exact ⟨F.F.at hj e qn qt,F.F.cx,h 0 (by decide),h 1 (by decide),h 2 (by decide),h 3 (by decide),F.m⟩
theorem all_mk {l:OpenLaw} {w:World} {K:Frag} {h:Heap} {mg:SV} {fz C VC aR kd dt cM c P0 e0 e1 e2 e3 e4 e5 e6 e7 e8 e9 e10 fin fei fla:Addr} (X:K.In h) (G:h.Ns mainGlobals mg) (hfa:mg "law" = some (.ref fz))
  {ocla kVla dcla pmla ctla ocin dcin pmin cdin ctin kVei dcei pmei cdei ctei ocK:Value} {odla anla odin anin odei anei odR odK:Option Addr} {slla slin slei slK slR:Array (Option Value)} {tG tM tL tLi tB t1 t2 t3 t4 tE:Tok} {nRR epK nE:Nat} {esK:Array DictEntry}
  (aC:nsIn K mainGlobals "Kind" = some (some (.ref C)))
  (aVC:nsIn K mainGlobals "Value" = some (some (.ref VC)))
  (aM:nsIn K mainGlobals "MarkError" = some (some (.ref cM)))
  (aX0:nsIn K mainGlobals "BadRows" = some (some (.ref e0)))
  (aX1:nsIn K mainGlobals "BadRest" = some (some (.ref e1)))
  (aX2:nsIn K mainGlobals "BadText" = some (some (.ref e2)))
  (aX3:nsIn K mainGlobals "Unled" = some (some (.ref e3)))
  (aX4:nsIn K mainGlobals "BadRule" = some (some (.ref e4)))
  (aX5:nsIn K mainGlobals "BadName" = some (some (.ref e5)))
  (aX6:nsIn K mainGlobals "BadNumber" = some (some (.ref e6)))
  (aX7:nsIn K mainGlobals "Unlike" = some (some (.ref e7)))
  (aX8:nsIn K mainGlobals "BadPairs" = some (some (.ref e8)))
  (aX9:nsIn K mainGlobals "Never" = some (some (.ref e9)))
  (aX10:nsIn K mainGlobals "Nothing" = some (some (.ref e10)))
  (z_VE:nsIn K mainGlobals "ValueError" = some none)
  (hwh:DG K "is_whole" F9)
  (hnm:DG K "is_name" IP)
  (huo:DG K "union_of" GA)
  (hnx:DG K "next_mark" Er)
  (hoo:DG K "is_one_of" GG)
  (hno:DG K "is_names_of" Do)
  (hth:DG K "thing_number" Ce)
  (hro:DG K "row_number" Dp)
  (hnb:DG K "numbered" Es)
  (hfi:DG K "first_names" DA)
  (him:DG K "is_mark" IQ)
  (hmR:DM K C "rows" "Kind.rows" Et)
  (hmK:DM K C "known" "Kind.known" Dr)
  (hmT:DM K C "rest" "Kind.rest" Eu)
  (hmM:DM K C "marks" "Kind.marks" Dq)
  (hmE:DM K C "__eq__" "Kind.__eq__" IR)
  (hlc:DG K "_law_cell" GJ)
  (hld:DG K "_law_drawn" Ew)
  (hlr:DG K "_law_roll" GP)
  (hls:DG K "_law_rounds" Du)
  (hll:DG K "_law_lines" Bg)
  (hxn:DG K "is_number" Ev)
  (hxr:DG K "rest_of" IS)
  (hxi:DM K VC "__init__" "Value.__init__" Ds)
  (hxN:DM K VC "number" "Value.number" Cf)
  (hxK:DM K VC "kind" "Value.kind" Dt)
  (hxE:DM K VC "__eq__" "Value.__eq__" GH)
  (hlb:DG K "_law_bits_of" B2)
  (hlB:DG K "_law_bits_of" B2)
  (hlu:DG K "_law_rule_of" Dv)
  (hlt:DG K "_law_table_of" DC)
  (hli:DG K "_law_number_in" Cg)
  (huT:DG K "turned" IV)
  (huK:DG K "same_kind" DJ)
  (huU:DG K "union" IT)
  (huS:DG K "share" IU)
  (huX:DG K "unlike" FX)
  (huW:DG K "without" EO)
  (huI:DG K "within" FY)
  (hlw:DG K "_law_word" DB)
  (hlo:DG K "_law_told" Ai)
  (ain:findIn K (.ref C) "__init__" = some (some (.ref fin)))
  (iin:isFn K (.ref fin)=true)
  (lin:K.lookup fin=some ⟨ocin,odin,.func (fO "__init__" "Kind.__init__" A6 .none (.ref kd) dcin pmin anin cdin ctin),slin⟩)
  (cin:codeIn K cdin "Kind.__init__" = true)
  (kin:keepIn K (.ref fin)=true)
  (ala:nsIn K mainGlobals "law" = some (some (.ref fla)))
  (lla:K.lookup fla=some ⟨ocla,odla,.func (fO "law" "law" EQ .none kVla dcla pmla anla (.ref c) ctla),slla⟩)
  (cla:codeIn K (.ref c) "law" = true)
  (kla:keepIn K (.ref fla)=true)
  (aei:findIn K (.ref cM) "__init__" = some (some (.ref fei)))
  (iei:isFn K (.ref fei)=true)
  (lei:K.lookup fei=some ⟨(.type "function"),odei,.func (fO "__init__" "MarkError.__init__" Au (.ref dt) kVei dcei pmei anei cdei ctei),slei⟩)
  (cei:codeIn K cdei "MarkError.__init__" = true)
  (kei:keepIn K (.ref fei)=true)
  (kdl:K.lookup kd=some ⟨ocK,odK,.dict esK epK,slK⟩)
  (kde:(esK.all fun e=>match e.key with | .str _ _=>true | _=>false)=true)
  (kdr:nsIn K kd "rest" = some (some (.str "bar" tB)))
  (dtl:K.lookup dt=some ⟨.type "tuple", none,.seq #[.str "" tE] nE,#[]⟩)
  (vG:nsIn K mainGlobals "GREATEST" = some (some (.int 1048575 tG)))
  (vM:nsIn K mainGlobals "MOST_ROWS" = some (some (.int 10 tM)))
  (vL:nsIn K mainGlobals "LONGEST_NAME" = some (some (.int 6 tL)))
  (vLi:nsIn K mainGlobals "LIMIT" = some (some (.int 1099511627776 tLi)))
  (vR:nsIn K mainGlobals "RULES" = some (some (.ref aR)))
  (qn:specialIn K (.builtin "object.__class__") "__get__" = some (some (.builtin "getset_descriptor.__get__")))
  (qt:takesIn K (.builtin "object.__class__")=some true)
  (fC:CF K C)
  (fVC:CF K VC)
  (nC_numbers:findIn K (.ref C) "numbers" = some none)
  (nC_firsts:findIn K (.ref C) "firsts" = some none)
  (nC_rule:findIn K (.ref C) "rule" = some none)
  (nVC_own_kind:findIn K (.ref VC) "own_kind" = some none)
  (nVC_bits:findIn K (.ref VC) "bits" = some none)
  (xm:L2.Aw K cM=true)
  (xc0:L2.Aw K e0=true)
  (xc1:L2.Aw K e1=true)
  (xc2:L2.Aw K e2=true)
  (xc3:L2.Aw K e3=true)
  (y7:XP K (fun i=>([e0,e1,e2,e3,e4,e5,e6,e7,e8,e9,e10]:List Addr).getD i 0) cM e7 fei 7)
  (rL:K.lookup aR=some ⟨.type "tuple", odR,.seq #[.str "bar" t1,.str "drop" t2,.str "keep" t3,.str "leave" t4] nRR,slR⟩)
  (z_len:nsIn K mainGlobals "len" = some none)
  (z_isinstance:nsIn K mainGlobals "isinstance" = some none)
  (z_max:nsIn K mainGlobals "max" = some none)
  (z_min:nsIn K mainGlobals "min" = some none)
  (z_range:nsIn K mainGlobals "range" = some none)
  (z_list:nsIn K mainGlobals "list" = some none)
  (z_tuple:nsIn K mainGlobals "tuple" = some none)
  (z_sorted:nsIn K mainGlobals "sorted" = some none)
  (z_sum:nsIn K mainGlobals "sum" = some none)
  (z_all:nsIn K mainGlobals "all" = some none)
  (z_enumerate:nsIn K mainGlobals "enumerate" = some none)
  (z_int:nsIn K mainGlobals "int" = some none)
  (z_bool:nsIn K mainGlobals "bool" = some none)
  (z_str:nsIn K mainGlobals "str" = some none)
  (z_set:nsIn K mainGlobals "set" = some none)
  : ∃ fd:FuncData,(∀ (s:Shared) (v:Value),BindsTo s fd ⟨[v],[]⟩ [("_law_script", v)])/\∀ base:Heap,K.In base->base.Ns mainGlobals mg->CodeHd base c P0->base.BuiltinsAt mg P0->FnOk l.prog w K mg base CX0 10 fz fd ["_law_script"] (Mf K P0):=by
 have MG:∀ {x:Str} {v:Value},nsIn K mainGlobals x=some (some v)->mg x=some v:=fun h=>mg_of X G h;have MN:∀ {x:Str},nsIn K mainGlobals x=some none->mg x=none:=fun h=>mg_none_of X G h;have T:E3 K C:=⟨⟨fC.pg,fC.hd,fC.po,fC.sa⟩,nC_numbers,nC_firsts,nC_rule⟩;have VT:Lc K VC:=⟨⟨fVC.pg,fVC.hd,fVC.po,fVC.sa⟩,nVC_own_kind,nVC_bits⟩;have KI:KIsi K C:=⟨⟨fC.pg,fC.hd,fC.po,fC.sa⟩,fC.qa,qn,qt,fC.qm,Eh fC.ql fC.qy fC.qs⟩;have VI:KIsi K VC:=⟨⟨fVC.pg,fVC.hd,fVC.po,fVC.sa⟩,fVC.qa,qn,qt,fVC.qm,Eh fVC.ql fVC.qy fVC.qs⟩;have mCg:=MG aC;have mVg:=MG aVC;have hLi:=MG vLi;have vI:=Eh fVC.ql fVC.qy fVC.qi;have vT:=Eh fVC.ql fVC.qy fVC.qt;have qeC:=fC.ne;have qm:=fC.qm;have B:Bl mg:=⟨MN z_len,MN z_isinstance,MN z_max,MN z_min,MN z_range,MN z_list,MN z_tuple,MN z_sorted,MN z_sum,MN z_all,MN z_enumerate,MN z_int,MN z_bool,MN z_str⟩;have rT:∀ H:Hp,SqT K H aR (ruleNames.map V.str):=fun H=>.inr ⟨_,_,_,rL,rfl,rfl,sl4,.cons ⟨_,rfl⟩ (.cons ⟨_,rfl⟩ (.cons ⟨_,rfl⟩ (.cons ⟨_,rfl⟩ .nil)))⟩
 have kdo:nsOkIn K kd=true:=by
  unfold nsOkIn;rw [kdl];exact kde
 have hG:=MG vG;have hM:=MG vM;have hL:=MG vL;have hR:=MG vR;have M:Nr mg (fun i=>([e0,e1,e2,e3,e4,e5,e6,e7,e8,e9,e10]:List Addr).getD i 0):=⟨MG aX0,MG aX1,MG aX2,MG aX3,MG aX4,MG aX5,MG aX6,MG aX7,MG aX8,MG aX9,MG aX10,MN z_VE⟩;have EX:Pt K mg (fun i=>([e0,e1,e2,e3,e4,e5,e6,e7,e8,e9,e10]:List Addr).getD i 0) cM:=⟨MG aM,xm,xc0,xc1,xc2,xc3⟩;have EPU:=y7.pl (by decide) rfl qn qt;have Fin:=fun_mk (st:=A6) lin cin kin;have e:=hfa.symm.trans (MG ala);cases e;have Fla:FunC K "law" "law" EQ fz (fO "law" "law" EQ .none kVla dcla pmla anla (.ref c) ctla) c:=⟨⟨_,_,_,_,_,_,_,_,rfl,lla,cla⟩⟩;have Fei:FunD K "__init__" "MarkError.__init__" Au fei _:=⟨⟨_,_,_,_,_,_,_,_,_,_,rfl,lei,cei⟩⟩;obtain ⟨fwh,dwh,awh,Fwh⟩:=hwh;have bwh:=bi1 (p1 := "thing") Fwh fun _ _ _ _ _ _ _=>rfl;obtain ⟨fnm,dnm,anm,Fnm⟩:=hnm;have bnm:=bi1 (p1 := "thing") Fnm fun _ _ _ _ _ _ _=>rfl;obtain ⟨fuo,duo,auo,Fuo⟩:=huo;have buo:=bi1 (p1 := "numbers") Fuo fun _ _ _ _ _ _ _=>rfl;obtain ⟨fnx,dnx,anx,Fnx⟩:=hnx;have bnx:=bi1 (p1 := "numbers") Fnx fun _ _ _ _ _ _ _=>rfl;obtain ⟨foo,doo,aoo,Foo⟩:=hoo;have boo:=bi2 (p1 := "thing") (p2 := "names") Foo fun _ _ _ _ _ _ _ _=>rfl;obtain ⟨fno,dno,ano,Fno⟩:=hno;have bno:=bi2 (p1 := "parts") (p2 := "ahead") Fno fun _ _ _ _ _ _ _ _=>rfl;obtain ⟨fth,dth,ath,Fth⟩:=hth;have bth:=bi2 (p1 := "thing") (p2 := "ahead") Fth fun _ _ _ _ _ _ _ _=>rfl;obtain ⟨fro,dro,aro,Fro⟩:=hro;have bro:=bi2 (p1 := "row") (p2 := "ahead") Fro fun _ _ _ _ _ _ _ _=>rfl;obtain ⟨fnb,dnb,anb,Fnb⟩:=hnb;have bnb:=bi1 (p1 := "rows") Fnb fun _ _ _ _ _ _ _=>rfl;obtain ⟨ffi,dfi,afi,Ffi⟩:=hfi;have bfi:=bi1 (p1 := "numbers") Ffi fun _ _ _ _ _ _ _=>rfl;obtain ⟨fim,dim,aim,Fim⟩:=him;have bim:=bi1 (p1 := "number") Fim fun _ _ _ _ _ _ _=>rfl;obtain ⟨fmR,dmR,amR,imR,omR,FmR⟩:=hmR;have bmR:=bi1 (p1 := "self") FmR fun _ _ _ _ _ _ _=>rfl;obtain ⟨fmK,dmK,amK,imK,omK,FmK⟩:=hmK;have bmK:=bi1 (p1 := "self") FmK fun _ _ _ _ _ _ _=>rfl;obtain ⟨fmT,dmT,amT,imT,omT,FmT⟩:=hmT;have bmT:=bi1 (p1 := "self") FmT fun _ _ _ _ _ _ _=>rfl;obtain ⟨fmM,dmM,amM,imM,omM,FmM⟩:=hmM;have bmM:=bi1 (p1 := "self") FmM fun _ _ _ _ _ _ _=>rfl;obtain ⟨fmE,dmE,amE,imE,omE,FmE⟩:=hmE;have bmE:=bi2 (p1 := "self") (p2 := "other") FmE fun _ _ _ _ _ _ _ _=>rfl;obtain ⟨flc,dlc,alc,Flc⟩:=hlc;have blc:=bi2 (p1 := "_law_script") (p2 := "_law_k") Flc fun _ _ _ _ _ _ _ _=>rfl;obtain ⟨fld,dld,ald,Fld⟩:=hld;have bld:=bi2 (p1 := "_law_cell_here") (p2 := "_law_k") Fld fun _ _ _ _ _ _ _ _=>rfl;obtain ⟨flr,dlr,alr,Flr⟩:=hlr;have blr:=bi2 (p1 := "_law_dice") (p2 := "_law_many") Flr fun _ _ _ _ _ _ _ _=>rfl;obtain ⟨fls,dls,als,Fls⟩:=hls;have bls:=bi2 (p1 := "_law_script") (p2 := "_law_most") Fls fun _ _ _ _ _ _ _ _=>rfl;obtain ⟨fll,dll,all,Fll⟩:=hll;have bll:=bi2 (p1 := "_law_dice") (p2 := "_law_most") Fll fun _ _ _ _ _ _ _ _=>rfl;obtain ⟨fxn,dxn,axn,Fxn⟩:=hxn;have bxn:=bi1 (p1 := "thing") Fxn fun _ _ _ _ _ _ _=>rfl;obtain ⟨fxr,dxr,axr,Fxr⟩:=hxr;have bxr:=bi2 (p1 := "kind") (p2 := "number") Fxr fun _ _ _ _ _ _ _ _=>rfl;obtain ⟨fxi,dxi,axi,ixi,oxi,Fxi⟩:=hxi;have bxi:=bi3 (p1 := "self") (p2 := "kind") (p3 := "number") Fxi fun _ _ _ _ _ _ _ _ _=>rfl;obtain ⟨fxN,dxN,axN,ixN,oxN,FxN⟩:=hxN;have bxN:=bi1 (p1 := "self") FxN fun _ _ _ _ _ _ _=>rfl;obtain ⟨fxK,dxK,axK,ixK,oxK,FxK⟩:=hxK;have bxK:=bi1 (p1 := "self") FxK fun _ _ _ _ _ _ _=>rfl;obtain ⟨fxE,dxE,axE,ixE,oxE,FxE⟩:=hxE;have bxE:=bi2 (p1 := "self") (p2 := "other") FxE fun _ _ _ _ _ _ _ _=>rfl;obtain ⟨flb,dlb,alb,Flb⟩:=hlb;have blb:=bi1 (p1 := "_law_number") Flb fun _ _ _ _ _ _ _=>rfl;obtain ⟨flB,dlB,alB,FlB⟩:=hlB;have blB:=bi1 (p1 := "_law_number") FlB fun _ _ _ _ _ _ _=>rfl;obtain ⟨flu,dlu,alu,Flu⟩:=hlu;have blu:=bi1 (p1 := "_law_dice") Flu fun _ _ _ _ _ _ _=>rfl;obtain ⟨flt,dlt,alt,Flt⟩:=hlt;have blt:=bi1 (p1 := "_law_due") Flt fun _ _ _ _ _ _ _=>rfl;obtain ⟨fli,dli,ali,Fli⟩:=hli;have bli:=bi3 (p1 := "_law_dice") (p2 := "_law_known") (p3 := "_law_way") Fli fun _ _ _ _ _ _ _ _ _=>rfl;obtain ⟨fuT,duT,auT,FuT⟩:=huT;have buT:=bi1 (p1 := "one") FuT fun _ _ _ _ _ _ _=>rfl;obtain ⟨fuK,duK,auK,FuK⟩:=huK;have buK:=bi2 (p1 := "one") (p2 := "other") FuK fun _ _ _ _ _ _ _ _=>rfl;obtain ⟨fuU,duU,auU,FuU⟩:=huU;have buU:=bi2 (p1 := "one") (p2 := "other") FuU fun _ _ _ _ _ _ _ _=>rfl;obtain ⟨fuS,duS,auS,FuS⟩:=huS;have buS:=bi2 (p1 := "one") (p2 := "other") FuS fun _ _ _ _ _ _ _ _=>rfl;obtain ⟨fuX,duX,auX,FuX⟩:=huX;have buX:=bi2 (p1 := "one") (p2 := "other") FuX fun _ _ _ _ _ _ _ _=>rfl;obtain ⟨fuW,duW,auW,FuW⟩:=huW;have buW:=bi2 (p1 := "one") (p2 := "other") FuW fun _ _ _ _ _ _ _ _=>rfl;obtain ⟨fuI,duI,auI,FuI⟩:=huI;have buI:=bi2 (p1 := "one") (p2 := "other") FuI fun _ _ _ _ _ _ _ _=>rfl;obtain ⟨flw,dlw,alw,Flw⟩:=hlw;have blw:=bi1 (p1 := "_law_e") Flw fun _ _ _ _ _ _ _=>rfl;obtain ⟨flo,dlo,alo,Flo⟩:=hlo;have blo:=bi1 (p1 := "_law_deed") Flo fun _ _ _ _ _ _ _=>rfl;refine ⟨fO "law" "law" EQ .none kVla dcla pmla anla (.ref c) ctla,fun s v=>.of_eq rfl,fun base _ _ hC hBu=>?_⟩;have FT:=@fnT l.prog w K mg base;have MT:=@mtT l.prog w K mg base;have Gwh:=FT (sp:=DP) Fwh (LQ Fwh B) (MG awh) bwh;have Gnm:=FT (sp:=Ga) Fnm (NR Fnm B hL) (MG anm) bnm;have Guo:=FT (sp:=(DK K)) Fuo (LI Fuo) (MG auo) buo;have Gnx:=FT (sp:=(Dx K)) Fnx (Js Fnx B) (MG anx) bnx;have Goo:=FT (sp:=(DN K)) Foo (LP Foo B) (MG aoo) boo;have Gno:=FT (sp:=DD) Fno (IY Fno B Goo) (MG ano) bno;have Gth:=FT (sp:=IZ) Fth (PM Fth B Gnx Gno Guo Gwh) (MG ath) bth;have Gro:=FT (sp:=PP) Fro (SF Fro B hG Gnm Gth) (MG aro) bro;have Gnb:=FT (sp:=Dz) Fnb (Ju Fnb B hM Gro) (MG anb) bnb;have Gfi:=FT (sp:=Gd) Ffi (NY Ffi) (MG afi) bfi;have Gim:=FT (sp:=GQ) Fim (NQ Fim) (MG aim) bim;have GmR:=MT (sp:=(LU C)) amR imR FmR (Qn FmR B T) bmR;have GmK:=MT (sp:=(Fa C)) amK imK FmK (PX FmK B T Guo) bmK;have GmT:=MT (sp:=(La C)) amT imT FmT (Qu FmT T) bmT;have GmM:=MT (sp:=(MR C)) amM imM FmM (PY FmM B T Gim) bmM;have GmE:=MT (sp:=(MY C)) amE imE FmE (SR FmE B T KI mCg GmR) bmE;have Glc:=FT (sp:=(LV K)) Flc (Qq Flc B) (MG alc) blc;have Gld:=FT (sp:=Ig) Fld (Pa Fld) (MG ald) bld;have Glr:=FT (sp:=Gf) Flr (Qr Flr Gld) (MG alr) blr;have Gls:=FT (sp:=(Gh K)) Fls (Nb Fls B Glc) (MG als) bls;have Gll:=FT (sp:=Ih) Fll (Pg Fll B Glr) (MG all) bll;have Gxn:=FT (sp:=D1) Fxn (J5 Fxn hLi Gwh) (MG axn) bxn;have Gxr:=FT (sp:=(Gn C)) Fxr (Nj Fxr T GmK) (MG axr) bxr;have Gxi:=MT (sp:=(Io C VC)) axi ixi Fxi (J6 Fxi T VT Gxn Gxr GmT) bxi;have GxN:=MT (sp:=(BI VC)) axN ixN FxN (Le FxN VT) bxN;have GxK:=MT (sp:=(Fc VC)) axK ixK FxK (Pl FxK VT) bxK;have GxE:=MT (sp:=(Pm C VC)) axE ixE FxE (SW FxE B T VT VI vI mVg GmE) bxE;obtain ⟨fE0,dE0,gE0,mE0,bE0⟩:=GxE.ex;have VO:FJ l.prog w K mg base C VC:=⟨VT,mVg,⟨_,_,⟨fVC.mz,axi,ixi,fVC.kc⟩,J6 Fxi T VT Gxn Gxr GmT,bxi⟩,⟨_,_,gE0,mE0,bE0⟩,VI,fVC.ne,fVC.qi⟩;have Glb:=FT (sp:=Gi) Flb (Nd Flb B) (MG alb) blb;have GlB:=FT (sp:=Ir) FlB (Pz FlB B) (MG alB) blB;have Glu:=FT (sp:=Gg) Flu (Na Flu Glr) (MG alu) blu;have Glt:=FT (sp:=Ii) Flt (Pi Flt B Glb) (MG alt) blt;have Gli:=FT (sp:=D3) Fli (KC Fli Glr) (MG ali) bli;have GW:FnS l.prog w K mg base "_law_word" 1 ["_law_e"] (Cj K (fun i=>([e0,e1,e2,e3,e4,e5,e6,e7,e8,e9,e10]:List Addr).getD i 0)):=⟨⟨_,_,Q6 Flw B M,MG alw,Flw.kp,blw⟩⟩;have KO:P1 l.prog w K mg base C:=⟨T,mCg,⟨_,_,⟨fC.mz,ain,iin,fC.kc⟩,Ql Fin B T hR rT Gnb Gfi Goo,⟨_,RN⟩,_,Sh kdo kdr,.cons ⟨_,rfl⟩ .nil⟩⟩;have EO7:RX l.prog w K mg base "Unlike" e7:=⟨MG aX7,⟨_,_,⟨y7.F.cx,y7.i,iei,⟨_,lei,rfl⟩,y7.F.ke⟩,Lf Fei (MN z_VE),Tb dtl⟩⟩;have GuT:=FT (sp:=Go C VC) FuT (Nm FuT T VO GxN GxK GmK) (MG auT) buT;have GuK:FnX l.prog w K mg base "same_kind" 4 ["one", "other"] (Bi C VC e7):=⟨⟨_,_,J7 FuK T VT GxK GmE qeC qm EO7,MG auK,FuK.kp,buK⟩⟩;have GuU:FnX l.prog w K mg base "union" 6 ["one", "other"] (CD gOr C VC e7):=⟨⟨_,_,Pp FuU VO GxN GuK,MG auU,FuU.kp,buU⟩⟩;have GuS:FnX l.prog w K mg base "share" 6 ["one", "other"] (CD Ip C VC e7):=⟨⟨_,_,Pq FuS VO GxN GuK,MG auS,FuS.kp,buS⟩⟩;have GuX:FnX l.prog w K mg base "unlike" 6 ["one", "other"] (CD Q3 C VC e7):=⟨⟨_,_,No FuX VO GxN GuK,MG auX,FuX.kp,buX⟩⟩;have GuW:FnX l.prog w K mg base "without" 6 ["one", "other"] (CD D4 C VC e7):=⟨⟨_,_,Li FuW VO GxN GuK,MG auW,FuW.kp,buW⟩⟩;have GuI:FnX l.prog w K mg base "within" 7 ["one", "other"] (Ed C VC e7):=⟨⟨_,_,Nq FuI VO GxN GuW,MG auI,FuI.kp,buI⟩⟩;exact Sg Fla Flo (MG alo) blo hC hBu B (MN z_set) KO VO M EX GW EPU Gls Gll Glu Glt Gli GlB GxN GuU GuS GuX GuW GuI GuT
theorem walk {l:OpenLaw} {q:Program} {loose:List Str} {XP:(Str->Option Value)->Heap->Prop} {YP:World->Heap->Prop} {d:DefRec} {K:Params->Frag} {c P0:Addr} (hn:l.most=some 63) (hdf:d.params.defaults=[])
  (hY:∀ (w:World) (h:Heap),YP w h->(K w.params).In h/\h.get? P0=some (tabObj #[])/\(K w.params).lookup P0=none/\CodeHd h c P0)
  (F:∀ (w:World) (mg:SV) (fa:Addr) (h:Heap),(K w.params).In h->h.Ns mainGlobals mg->mg d.name=some (.ref fa) ->
   ∃ fd:FuncData,(∀ (s:Shared) (u:Value),BindsTo s fd ⟨[u],[]⟩ [("_law_script", u)])/\∀ base:Heap,(K w.params).In base->base.Ns mainGlobals mg->CodeHd base c P0->base.BuiltinsAt mg P0->FnOk l.prog w (K w.params) mg base CX0 10 fa fd ["_law_script"] (Mf (K w.params) P0)) :
  WalkO q loose XP YP l.row.toRowW d [] (fun f vs=>PySem.call f vs) :=
 L2.Ou (n:=63) (k:=10) (x := "_law_script") (CX:=fun _=>CX0) (sp:=fun w=>Mf (K w.params) P0) hn (by decide) hdf ⟨rfl,by decide,by decide⟩ hY F
  (fun _ _ a ns hl _ hP hS=>⟨a,ns,rfl,hS,hl,⟨#[],hP,trivial,fun _ _=>.inl rfl⟩,fun _=>rfl⟩) fun _ _ _ _ _ z=>z
end Mk
end
section
namespace Hd
open PySem PySem.W PySem.Calls PyProof.Rows
def runT (tb : String -> Option Builtin) (p : Program) (w : World) (n₀ : Nat) (ann : Option Value) : Nat -> SharedT -> Thread -> Option SharedT
  | 0,_,_=>none
  | n + 1,s,t=>match through t with
    | true=>some s
    | false=>match stepOk n₀ ann t with
      | false=>none
      | true=>match stepT (denote tb) p w s t with
        | some (s',t')=>runT tb p w n₀ ann n s' t'
        | none=>none
theorem runT_of {tb : String -> Option Builtin} {p : Program} {w : World} {n₀ : Nat} {ann : Option Value} : ∀ {n : Nat} {s s' : SharedT} {t : Thread},runT tb p w n₀ ann n s t = some s' -> topRun tb p w n₀ ann n s.abs t = some s'.abs
  | 0,_,_,_,h=>by cases h
  | n + 1,s,s',t,h=>by
    unfold runT at h
    unfold topRun
    cases ht : through t with
    | true=>rw [ht] at h; cases h; rfl
    | false =>
      rw [ht] at h
      cases hk : stepOk n₀ ann t with
      | false=>rw [hk] at h; cases h
      | true =>
        rw [hk] at h
        cases hs : stepT (denote tb) p w s t with
        | none=>rw [hs] at h; cases h
        | some r=>obtain ⟨s₂,t₂⟩:=r; rw [hs] at h; rw [stepT_spec hs]; exact runT_of h
def looksAt (p q : Program) (loose : List Str) (Xt : Shared -> Bool) (as : List Addr) (h₀ : Heap) (s : Shared) :=
  (staticsOk (importedModules p.main.body) h₀ s.heap && namesBound p s.heap && gensDone s && laidKept h₀ s.heap,openSeen q loose (importedModules p.main.body) Xt true s,as.map s.heap.get?)
theorem left_of {p q : Program} {loose : List Str} {Xt : Shared -> Bool} {as : List Addr} {K : Params -> Frag} {N M m₀ : Nat} {ann : Option Value} {T0 : Params -> BT} {life : Life}
    (open_ : ∀ w : World,(fencedOpening treeTable p w N).map (fun s=>(s.heap,s.gens,s.drawn,s.toks)) = some (boot_heap w.params,#[],boot_drawn,boot_toks))
    (tree : ∀ P : Params,absHeap (T0 P) m₀ life = boot_heap P)
    (size : ∀ w : World,((boot_heap w.params).isNs mainGlobals,(boot_heap w.params).objs.size,(boot_heap w.params).nsMap mainGlobals "__annotations__") = (true,m₀,ann))
    (le : Nat.ble M N = true)
    (run : ∀ (w : World) (os : OsState),(runT treeTable p w m₀ ann M ⟨T0 w.params,m₀,life,#[],boot_drawn,boot_toks,os⟩ (topStub p)).map (fun s=>looksAt p q loose Xt as (boot_heap w.params) s.abs) = some (true,openGood q loose,(K w.params).map fun x=>some x.2)) :
    LeftO p q loose Xt (fun s=>as.map s.heap.get?) (fun w=>(K w.params).map fun x=>some x.2) N:=fun w=>by
  obtain ⟨⟨h,gs,d,k,os⟩,e,e'⟩:=Option.map_eq_some_iff.mp (open_ w)
  obtain ⟨rfl,rfl,rfl,rfl⟩ : h = boot_heap w.params /\ gs = #[] /\ d = boot_drawn /\ k = boot_toks:=by simpa using e'
  obtain ⟨z1,z2,z3⟩ : _ /\ _ /\ _:=by simpa only [Prod.mk.injEq] using size w
  obtain ⟨sT,r1,r2⟩:=Option.map_eq_some_iff.mp (run w os)
  have r3:=runT_of r1
  have r4 : topRun treeTable p w m₀ ann M ⟨boot_heap w.params,#[],boot_drawn,boot_toks,os⟩ (topStub p) = some sT.abs:=by
    rw [← tree w.params]
    exact r3
  have r:=topRun_mono (N - M) _ _ _ _ r4
  rw [show M + (N - M) = N by have:=Nat.le_of_ble_eq_true le; omega] at r
  unfold looksAt at r2
  obtain ⟨l1,l2,l3⟩ : _ /\ _ /\ _:=by simpa only [Prod.mk.injEq] using r2
  have t : topFrom treeTable p w N ⟨boot_heap w.params,#[],boot_drawn,boot_toks,os⟩ = some sT.abs:=by
    unfold topFrom
    dsimp only
    rw [z1,z2,z3,r]
    show (match staticsOk (importedModules p.main.body) (boot_heap w.params) sT.abs.heap && namesBound p sT.abs.heap && gensDone sT.abs && laidKept (boot_heap w.params) sT.abs.heap with | true=>_ | false=>_) = _
    rw [l1]
  unfold openEnds
  rw [e]
  show (topFrom treeTable p w N _).map _ = _
  rw [t]
  exact congrArg some (Prod.ext l2 l3)
end Hd
end
noncomputable section
open PySem PySem.W PySem.Calls PyProof.Rows
abbrev Mk.fS (x q : Str) (s : Stmt) (dV kV doc pm : Value) (an : Option Addr) (cd ct : Value) : FuncData:=fnOf x q (L2.defArgs s) (L2.defBody s) (L2.defScope s) dV kV doc pm an cd ct
abbrev Mk.cO (x : Str) (a : Nat) (q : Str) (b c : Nat) (d e f g h : Int) (i j l m n : Nat) (o p : Int) (r : Nat) : Obj:=⟨.type "code", none,.fields #[.str x a,.str q b,.str "/claim/cut.py" c,.int d 0,.int e 0,.int f 0,.int g 0,.int h 0,.ref i,.bool true,.int 181 0,.ref j,.none,.ref l,.ref m,.ref n,.int o 0,.int p 0,.str "/claim/cut.py" r],#[]⟩
abbrev Mk.dE (P : PySem.Params) (x : Str) (t : Nat) (v : Value) : DictEntry:=⟨PyData.keyHash P x,.str x t,v⟩
abbrev Mk.fN (x q : Str) (s : Stmt) (m : Str) (t c : Nat) : Obj:=⟨.type "function", none,.func (Mk.fS x q s .none .none .none (.str m t) none (.ref c) .none),#[]⟩
abbrev Mk.eC (x : Str) (a b c d e f : Nat) : Obj:=⟨.type "type", none,.cls ⟨x,[.ref a],[.ref b,.ref a,.type "ValueError", .type "Exception", .type "BaseException", .type "object"],c,x,true,[],[],false,none,false⟩,#[some (.ref d),none,some (.str x e),some (.str x f),some (.builtin "ValueError.__new__"),some (.bool true)]⟩
noncomputable def Mk.Kg (P : PySem.Params) : PySem.W.Frag :=
 (nat_lit 2,⟨.none,none,(.dict #[] 0),#[]⟩) ::
 (nat_lit 3,⟨(.type "dict"),none,(.dict #[Mk.dE P "__name__" 165 (.str "law_markworks_k22_whole_sets" 787),Mk.dE P "__doc__" 166 .none,Mk.dE P "__package__" 167 .none,Mk.dE P "__loader__" 168 (.builtin "__main__.__loader__#opaque"),Mk.dE P "__spec__" 169 .none,Mk.dE P "__annotations__" 170 (.ref 6),Mk.dE P "__builtins__" 171 (.ref 4),Mk.dE P "__file__" 173 (.str "/claim/cut.py" 172),Mk.dE P "__cached__" 174 .none,Mk.dE P "MarkError" 215 (.ref 32),Mk.dE P "BadRows" 240 (.ref 52),Mk.dE P "BadRule" 256 (.ref 64),Mk.dE P "BadName" 272 (.ref 76),Mk.dE P "BadNumber" 288 (.ref 88),Mk.dE P "BadRest" 313 (.ref 107),Mk.dE P "Unlike" 329 (.ref 119),Mk.dE P "BadText" 354 (.ref 138),Mk.dE P "BadPairs" 370 (.ref 150),Mk.dE P "Never" 386 (.ref 162),Mk.dE P "Unled" 411 (.ref 181),Mk.dE P "Nothing" 427 (.ref 193),Mk.dE P "GREATEST" 435 (.int 1048575 434),Mk.dE P "MOST_ROWS" 437 (.int 10 436),Mk.dE P "LONGEST_NAME" 439 (.int 6 438),Mk.dE P "RULES" 444 (.ref 196),Mk.dE P "is_whole" 451 (.ref 203),Mk.dE P "is_name" 457 (.ref 208),Mk.dE P "is_mark" 464 (.ref 215),Mk.dE P "union_of" 473 (.ref 222),Mk.dE P "is_one_of" 481 (.ref 229),Mk.dE P "mark_bits" 487 (.ref 234),Mk.dE P "next_mark" 494 (.ref 241),Mk.dE P "is_names_of" 500 (.ref 246),Mk.dE P "thing_number" 506 (.ref 251),Mk.dE P "row_number" 517 (.ref 258),Mk.dE P "numbered" 528 (.ref 265),Mk.dE P "first_names" 538 (.ref 272),Mk.dE P "Kind" 636 (.ref 349),Mk.dE P "LIMIT" 642 (.int 1099511627776 641),Mk.dE P "is_number" 649 (.ref 360),Mk.dE P "rest_of" 657 (.ref 367),Mk.dE P "Value" 731 (.ref 424),Mk.dE P "same_kind" 739 (.ref 435),Mk.dE P "union" 747 (.ref 442),Mk.dE P "share" 755 (.ref 449),Mk.dE P "unlike" 763 (.ref 456),Mk.dE P "without" 771 (.ref 463),Mk.dE P "turned" 778 (.ref 470),Mk.dE P "within" 786 (.ref 477),Mk.dE P "_law_cell" 796 (.ref 484),Mk.dE P "_law_drawn" 805 (.ref 491),Mk.dE P "_law_roll" 814 (.ref 498),Mk.dE P "_law_rounds" 820 (.ref 503),Mk.dE P "_law_word" 826 (.ref 508),Mk.dE P "_law_told" 834 (.ref 515),Mk.dE P "_law_bits_of" 840 (.ref 520),Mk.dE P "_law_rule_of" 847 (.ref 527),Mk.dE P "_law_lines" 853 (.ref 532),Mk.dE P "_law_table_of" 859 (.ref 537),Mk.dE P "_law_number_in" 869 (.ref 544),Mk.dE P "law" 875 (.ref 549)] 61),#[]⟩) ::
 (nat_lit 22,⟨(.type "tuple"),none,(.seq #[(.str "" 201)] 0),#[]⟩) ::
 (nat_lit 28,Mk.cO "__init__" 202 "MarkError.__init__" 203 204 4 2 0 0 3 23 24 25 26 27 207 4 208) ::
 (nat_lit 29,⟨(.type "function"),none,(.func (Mk.fS "__init__" "MarkError.__init__" (L2.inClass (Mk.top 1) 0) (.ref 22) .none .none (.str "markworks.errors" 187) none (.ref 28) .none)),#[]⟩) ::
 (nat_lit 31,⟨(.type "dict"),none,(.dict #[Mk.dE P "__module__" 196 (.str "markworks.errors" 187),Mk.dE P "__firstlineno__" 200 (.int 2 199),Mk.dE P "__init__" 209 (.ref 29),Mk.dE P "__static_attributes__" 210 (.ref 30),Mk.dE P "__weakref__" 212 (.ref 33),Mk.dE P "__doc__" 213 .none] 3),#[]⟩) ::
 (nat_lit 32,⟨(.type "type"),none,(.cls ⟨"MarkError", [(.type "ValueError")],[(.ref 32),(.type "ValueError"),(.type "Exception"),(.type "BaseException"),(.type "object")],31, "MarkError", true,[],[(.ref 52),(.ref 64),(.ref 76),(.ref 88),(.ref 107),(.ref 119),(.ref 138),(.ref 150),(.ref 162),(.ref 181),(.ref 193)],false,none,false⟩),#[(some (.ref 15)),none,(some (.str "MarkError" 189)),(some (.str "MarkError" 197)),(some (.builtin "ValueError.__new__")),(some (.bool true))]⟩) ::
 (nat_lit 52,Mk.eC "BadRows" 32 52 51 36 216 224) ::
 (nat_lit 64,Mk.eC "BadRule" 32 64 63 55 241 249) ::
 (nat_lit 76,Mk.eC "BadName" 32 76 75 67 257 265) ::
 (nat_lit 88,Mk.eC "BadNumber" 32 88 87 79 273 281) ::
 (nat_lit 107,Mk.eC "BadRest" 32 107 106 91 289 297) ::
 (nat_lit 118,⟨(.type "dict"),none,(.dict #[Mk.dE P "__module__" 321 (.str "markworks.errors" 187),Mk.dE P "__firstlineno__" 325 (.int 22 324),Mk.dE P "__static_attributes__" 326 (.ref 117),Mk.dE P "__doc__" 327 .none] 2),#[]⟩) ::
 (nat_lit 119,Mk.eC "Unlike" 32 119 118 110 314 322) ::
 (nat_lit 138,Mk.eC "BadText" 32 138 137 122 330 338) ::
 (nat_lit 150,Mk.eC "BadPairs" 32 150 149 141 355 363) ::
 (nat_lit 162,Mk.eC "Never" 32 162 161 153 371 379) ::
 (nat_lit 181,Mk.eC "Unled" 32 181 180 165 387 395) ::
 (nat_lit 193,Mk.eC "Nothing" 32 193 192 184 412 420) ::
 (nat_lit 196,⟨(.type "tuple"),none,(.seq #[(.str "bar" 440),(.str "drop" 441),(.str "keep" 442),(.str "leave" 443)] 0),#[]⟩) ::
 (nat_lit 202,Mk.cO "is_whole" 445 "is_whole" 446 447 45 1 0 0 3 197 198 199 200 201 449 45 450) ::
 (nat_lit 203,Mk.fN "is_whole" "is_whole" (Mk.top 18) "markworks.kinds" 428 202) ::
 (nat_lit 207,⟨(.type "code"),none,(.fields #[(.str "is_name" 452),(.str "is_name" 453),(.str "/claim/cut.py" 454),(.int 47 0),(.int 1 0),(.int 0 0),(.int 0 0),(.int 3 0),(.ref 204),(.bool true),(.int 181 0),(.ref 205),.none,.none,.none,(.ref 206),(.int 455 0),(.int 47 0),(.str "/claim/cut.py" 456)]),#[]⟩) ::
 (nat_lit 208,Mk.fN "is_name" "is_name" (Mk.top 19) "markworks.kinds" 428 207) ::
 (nat_lit 214,Mk.cO "is_mark" 458 "is_mark" 459 460 51 1 0 0 3 209 210 211 212 213 462 51 463) ::
 (nat_lit 215,Mk.fN "is_mark" "is_mark" (Mk.top 20) "markworks.kinds" 428 214) ::
 (nat_lit 221,Mk.cO "union_of" 465 "union_of" 466 467 53 1 0 0 3 216 217 218 219 220 471 53 472) ::
 (nat_lit 222,Mk.fN "union_of" "union_of" (Mk.top 21) "markworks.kinds" 428 221) ::
 (nat_lit 228,Mk.cO "is_one_of" 474 "is_one_of" 475 476 58 2 0 0 3 223 224 225 226 227 479 58 480) ::
 (nat_lit 229,Mk.fN "is_one_of" "is_one_of" (Mk.top 22) "markworks.kinds" 428 228) ::
 (nat_lit 240,Mk.cO "next_mark" 488 "next_mark" 489 490 62 1 0 0 3 235 236 237 238 239 492 62 493) ::
 (nat_lit 241,Mk.fN "next_mark" "next_mark" (Mk.top 24) "markworks.kinds" 428 240) ::
 (nat_lit 245,⟨(.type "code"),none,(.fields #[(.str "is_names_of" 495),(.str "is_names_of" 496),(.str "/claim/cut.py" 497),(.int 64 0),(.int 2 0),(.int 0 0),(.int 0 0),(.int 3 0),(.ref 242),(.bool true),(.int 181 0),(.ref 243),.none,.none,.none,(.ref 244),(.int 498 0),(.int 64 0),(.str "/claim/cut.py" 499)]),#[]⟩) ::
 (nat_lit 246,Mk.fN "is_names_of" "is_names_of" (Mk.top 25) "markworks.kinds" 428 245) ::
 (nat_lit 250,⟨(.type "code"),none,(.fields #[(.str "thing_number" 501),(.str "thing_number" 502),(.str "/claim/cut.py" 503),(.int 66 0),(.int 2 0),(.int 0 0),(.int 0 0),(.int 3 0),(.ref 247),(.bool true),(.int 181 0),(.ref 248),.none,.none,.none,(.ref 249),(.int 504 0),(.int 66 0),(.str "/claim/cut.py" 505)]),#[]⟩) ::
 (nat_lit 251,Mk.fN "thing_number" "thing_number" (Mk.top 26) "markworks.kinds" 428 250) ::
 (nat_lit 257,Mk.cO "row_number" 507 "row_number" 508 509 74 2 0 0 3 252 253 254 255 256 515 74 516) ::
 (nat_lit 258,Mk.fN "row_number" "row_number" (Mk.top 27) "markworks.kinds" 428 257) ::
 (nat_lit 264,Mk.cO "numbered" 518 "numbered" 519 520 84 1 0 0 3 259 260 261 262 263 526 84 527) ::
 (nat_lit 265,Mk.fN "numbered" "numbered" (Mk.top 28) "markworks.kinds" 428 264) ::
 (nat_lit 271,Mk.cO "first_names" 529 "first_names" 530 531 94 1 0 0 3 266 267 268 269 270 536 94 537) ::
 (nat_lit 272,Mk.fN "first_names" "first_names" (Mk.top 29) "markworks.kinds" 428 271) ::
 (nat_lit 280,⟨(.type "dict"),none,(.dict #[Mk.dE P "rest" 552 (.str "bar" 551)] 1),#[]⟩) ::
 (nat_lit 286,Mk.cO "__init__" 553 "Kind.__init__" 554 555 101 2 0 1 3 281 282 283 284 285 559 101 560) ::
 (nat_lit 287,⟨(.type "function"),none,(.func (Mk.fS "__init__" "Kind.__init__" (L2.inClass (Mk.top 30) 0) .none (.ref 280) .none (.str "markworks.kinds" 428) none (.ref 286) .none)),#[]⟩) ::
 (nat_lit 293,Mk.cO "rows" 562 "Kind.rows" 563 564 108 1 0 0 3 288 289 290 291 292 566 108 567) ::
 (nat_lit 294,Mk.fN "rows" "Kind.rows" (L2.inClass (Mk.top 30) 1) "markworks.kinds" 428 293) ::
 (nat_lit 317,⟨(.type "code"),none,(.fields #[(.str "marks" 590),(.str "Kind.marks" 591),(.str "/claim/cut.py" 592),(.int 123 0),(.int 1 0),(.int 0 0),(.int 0 0),(.int 3 0),(.ref 314),(.bool true),(.int 181 0),(.ref 315),.none,.none,.none,(.ref 316),(.int 593 0),(.int 123 0),(.str "/claim/cut.py" 594)]),#[]⟩) ::
 (nat_lit 318,Mk.fN "marks" "Kind.marks" (L2.inClass (Mk.top 30) 5) "markworks.kinds" 428 317) ::
 (nat_lit 324,Mk.cO "known" 596 "Kind.known" 597 598 126 1 0 0 3 319 320 321 322 323 600 126 601) ::
 (nat_lit 325,Mk.fN "known" "Kind.known" (L2.inClass (Mk.top 30) 6) "markworks.kinds" 428 324) ::
 (nat_lit 331,Mk.cO "rest" 603 "Kind.rest" 604 605 129 1 0 0 3 326 327 328 329 330 607 129 608) ::
 (nat_lit 332,Mk.fN "rest" "Kind.rest" (L2.inClass (Mk.top 30) 7) "markworks.kinds" 428 331) ::
 (nat_lit 338,Mk.cO "__eq__" 610 "Kind.__eq__" 611 612 132 2 0 0 3 333 334 335 336 337 615 132 616) ::
 (nat_lit 339,Mk.fN "__eq__" "Kind.__eq__" (L2.inClass (Mk.top 30) 8) "markworks.kinds" 428 338) ::
 (nat_lit 348,⟨(.type "dict"),none,(.dict #[Mk.dE P "__module__" 546 (.str "markworks.kinds" 428),Mk.dE P "__firstlineno__" 550 (.int 99 549),Mk.dE P "__init__" 561 (.ref 287),Mk.dE P "rows" 568 (.ref 294),Mk.dE P "number" 576 (.ref 301),Mk.dE P "names" 583 (.ref 308),Mk.dE P "aliases" 589 (.ref 313),Mk.dE P "marks" 595 (.ref 318),Mk.dE P "known" 602 (.ref 325),Mk.dE P "rest" 609 (.ref 332),Mk.dE P "__eq__" 617 (.ref 339),Mk.dE P "__len__" 624 (.ref 346),Mk.dE P "__static_attributes__" 628 (.ref 347),Mk.dE P "__dict__" 630 (.ref 350),Mk.dE P "__weakref__" 632 (.ref 351),Mk.dE P "__doc__" 633 .none,Mk.dE P "__hash__" 634 .none] 5),#[]⟩) ::
 (nat_lit 349,⟨(.type "type"),none,(.cls ⟨"Kind", [(.type "object")],[(.ref 349),(.type "object")],348, "Kind", true,[],[],false,none,false⟩),#[none,none,(some (.str "Kind" 539)),(some (.str "Kind" 547)),(some (.builtin "object.__new__")),(some (.bool true))]⟩) ::
 (nat_lit 359,Mk.cO "is_number" 643 "is_number" 644 645 139 1 0 0 3 354 355 356 357 358 647 139 648) ::
 (nat_lit 360,Mk.fN "is_number" "is_number" (Mk.top 33) "markworks.values" 637 359) ::
 (nat_lit 366,Mk.cO "rest_of" 650 "rest_of" 651 652 141 2 0 0 3 361 362 363 364 365 655 141 656) ::
 (nat_lit 367,Mk.fN "rest_of" "rest_of" (Mk.top 34) "markworks.values" 637 366) ::
 (nat_lit 380,Mk.cO "__init__" 670 "Value.__init__" 671 672 145 3 0 0 3 375 376 377 378 379 676 145 677) ::
 (nat_lit 381,Mk.fN "__init__" "Value.__init__" (L2.inClass (Mk.top 35) 0) "markworks.values" 637 380) ::
 (nat_lit 387,Mk.cO "number" 679 "Value.number" 680 681 153 1 0 0 3 382 383 384 385 386 683 153 684) ::
 (nat_lit 388,Mk.fN "number" "Value.number" (L2.inClass (Mk.top 35) 1) "markworks.values" 637 387) ::
 (nat_lit 394,Mk.cO "kind" 686 "Value.kind" 687 688 156 1 0 0 3 389 390 391 392 393 690 156 691) ::
 (nat_lit 395,Mk.fN "kind" "Value.kind" (L2.inClass (Mk.top 35) 2) "markworks.values" 637 394) ::
 (nat_lit 413,Mk.cO "__eq__" 706 "Value.__eq__" 707 708 165 2 0 0 3 408 409 410 411 412 711 165 712) ::
 (nat_lit 414,Mk.fN "__eq__" "Value.__eq__" (L2.inClass (Mk.top 35) 5) "markworks.values" 637 413) ::
 (nat_lit 423,⟨(.type "dict"),none,(.dict #[Mk.dE P "__module__" 665 (.str "markworks.values" 637),Mk.dE P "__firstlineno__" 669 (.int 143 668),Mk.dE P "__init__" 678 (.ref 381),Mk.dE P "number" 685 (.ref 388),Mk.dE P "kind" 692 (.ref 395),Mk.dE P "marks" 698 (.ref 400),Mk.dE P "rest" 705 (.ref 407),Mk.dE P "__eq__" 713 (.ref 414),Mk.dE P "__len__" 720 (.ref 421),Mk.dE P "__static_attributes__" 723 (.ref 422),Mk.dE P "__dict__" 725 (.ref 425),Mk.dE P "__weakref__" 727 (.ref 426),Mk.dE P "__doc__" 728 .none,Mk.dE P "__hash__" 729 .none] 5),#[]⟩) ::
 (nat_lit 424,⟨(.type "type"),none,(.cls ⟨"Value", [(.type "object")],[(.ref 424),(.type "object")],423, "Value", true,[],[],false,none,false⟩),#[none,none,(some (.str "Value" 658)),(some (.str "Value" 666)),(some (.builtin "object.__new__")),(some (.bool true))]⟩) ::
 (nat_lit 434,Mk.cO "same_kind" 732 "same_kind" 733 734 170 2 0 0 3 429 430 431 432 433 737 170 738) ::
 (nat_lit 435,Mk.fN "same_kind" "same_kind" (Mk.top 36) "markworks.values" 637 434) ::
 (nat_lit 441,Mk.cO "union" 740 "union" 741 742 174 2 0 0 3 436 437 438 439 440 745 174 746) ::
 (nat_lit 442,Mk.fN "union" "union" (Mk.top 37) "markworks.values" 637 441) ::
 (nat_lit 448,Mk.cO "share" 748 "share" 749 750 176 2 0 0 3 443 444 445 446 447 753 176 754) ::
 (nat_lit 449,Mk.fN "share" "share" (Mk.top 38) "markworks.values" 637 448) ::
 (nat_lit 455,Mk.cO "unlike" 756 "unlike" 757 758 178 2 0 0 3 450 451 452 453 454 761 178 762) ::
 (nat_lit 456,Mk.fN "unlike" "unlike" (Mk.top 39) "markworks.values" 637 455) ::
 (nat_lit 462,Mk.cO "without" 764 "without" 765 766 180 2 0 0 3 457 458 459 460 461 769 180 770) ::
 (nat_lit 463,Mk.fN "without" "without" (Mk.top 40) "markworks.values" 637 462) ::
 (nat_lit 469,Mk.cO "turned" 772 "turned" 773 774 182 1 0 0 3 464 465 466 467 468 776 182 777) ::
 (nat_lit 470,Mk.fN "turned" "turned" (Mk.top 41) "markworks.values" 637 469) ::
 (nat_lit 476,Mk.cO "within" 779 "within" 780 781 184 2 0 0 3 471 472 473 474 475 784 184 785) ::
 (nat_lit 477,Mk.fN "within" "within" (Mk.top 42) "markworks.values" 637 476) ::
 (nat_lit 483,Mk.cO "_law_cell" 789 "_law_cell" 790 791 187 2 0 0 3 478 479 480 481 482 794 187 795) ::
 (nat_lit 484,Mk.fN "_law_cell" "_law_cell" (Mk.top 44) "law_markworks_k22_whole_sets" 787 483) ::
 (nat_lit 490,Mk.cO "_law_drawn" 797 "_law_drawn" 798 799 191 2 0 0 3 485 486 487 488 489 803 191 804) ::
 (nat_lit 491,Mk.fN "_law_drawn" "_law_drawn" (Mk.top 45) "law_markworks_k22_whole_sets" 787 490) ::
 (nat_lit 497,Mk.cO "_law_roll" 806 "_law_roll" 807 808 196 2 0 0 3 492 493 494 495 496 812 196 813) ::
 (nat_lit 498,Mk.fN "_law_roll" "_law_roll" (Mk.top 46) "law_markworks_k22_whole_sets" 787 497) ::
 (nat_lit 502,⟨(.type "code"),none,(.fields #[(.str "_law_rounds" 815),(.str "_law_rounds" 816),(.str "/claim/cut.py" 817),(.int 203 0),(.int 2 0),(.int 0 0),(.int 0 0),(.int 3 0),(.ref 499),(.bool true),(.int 181 0),(.ref 500),.none,.none,.none,(.ref 501),(.int 818 0),(.int 203 0),(.str "/claim/cut.py" 819)]),#[]⟩) ::
 (nat_lit 503,Mk.fN "_law_rounds" "_law_rounds" (Mk.top 47) "law_markworks_k22_whole_sets" 787 502) ::
 (nat_lit 507,⟨(.type "code"),none,(.fields #[(.str "_law_word" 821),(.str "_law_word" 822),(.str "/claim/cut.py" 823),(.int 205 0),(.int 1 0),(.int 0 0),(.int 0 0),(.int 3 0),(.ref 504),(.bool true),(.int 181 0),(.ref 505),.none,.none,.none,(.ref 506),(.int 824 0),(.int 205 0),(.str "/claim/cut.py" 825)]),#[]⟩) ::
 (nat_lit 508,Mk.fN "_law_word" "_law_word" (Mk.top 48) "law_markworks_k22_whole_sets" 787 507) ::
 (nat_lit 514,Mk.cO "_law_told" 827 "_law_told" 828 829 215 1 0 0 3 509 510 511 512 513 832 215 833) ::
 (nat_lit 515,Mk.fN "_law_told" "_law_told" (Mk.top 49) "law_markworks_k22_whole_sets" 787 514) ::
 (nat_lit 519,⟨(.type "code"),none,(.fields #[(.str "_law_bits_of" 835),(.str "_law_bits_of" 836),(.str "/claim/cut.py" 837),(.int 228 0),(.int 1 0),(.int 0 0),(.int 0 0),(.int 3 0),(.ref 516),(.bool true),(.int 181 0),(.ref 517),.none,.none,.none,(.ref 518),(.int 838 0),(.int 228 0),(.str "/claim/cut.py" 839)]),#[]⟩) ::
 (nat_lit 520,Mk.fN "_law_bits_of" "_law_bits_of" (Mk.top 50) "law_markworks_k22_whole_sets" 787 519) ::
 (nat_lit 526,Mk.cO "_law_rule_of" 841 "_law_rule_of" 842 843 230 1 0 0 3 521 522 523 524 525 845 230 846) ::
 (nat_lit 527,Mk.fN "_law_rule_of" "_law_rule_of" (Mk.top 51) "law_markworks_k22_whole_sets" 787 526) ::
 (nat_lit 531,⟨(.type "code"),none,(.fields #[(.str "_law_lines" 848),(.str "_law_lines" 849),(.str "/claim/cut.py" 850),(.int 232 0),(.int 2 0),(.int 0 0),(.int 0 0),(.int 3 0),(.ref 528),(.bool true),(.int 181 0),(.ref 529),.none,.none,.none,(.ref 530),(.int 851 0),(.int 232 0),(.str "/claim/cut.py" 852)]),#[]⟩) ::
 (nat_lit 532,Mk.fN "_law_lines" "_law_lines" (Mk.top 52) "law_markworks_k22_whole_sets" 787 531) ::
 (nat_lit 536,⟨(.type "code"),none,(.fields #[(.str "_law_table_of" 854),(.str "_law_table_of" 855),(.str "/claim/cut.py" 856),(.int 251 0),(.int 1 0),(.int 0 0),(.int 0 0),(.int 3 0),(.ref 533),(.bool true),(.int 181 0),(.ref 534),.none,.none,.none,(.ref 535),(.int 857 0),(.int 251 0),(.str "/claim/cut.py" 858)]),#[]⟩) ::
 (nat_lit 537,Mk.fN "_law_table_of" "_law_table_of" (Mk.top 53) "law_markworks_k22_whole_sets" 787 536) ::
 (nat_lit 543,Mk.cO "_law_number_in" 860 "_law_number_in" 861 862 259 3 0 0 3 538 539 540 541 542 867 259 868) ::
 (nat_lit 544,Mk.fN "_law_number_in" "_law_number_in" (Mk.top 54) "law_markworks_k22_whole_sets" 787 543) ::
 (nat_lit 548,⟨(.type "code"),none,(.fields #[(.str "law" 870),(.str "law" 871),(.str "/claim/cut.py" 872),(.int 264 0),(.int 1 0),(.int 0 0),(.int 0 0),(.int 3 0),(.ref 545),(.bool true),(.int 181 0),(.ref 546),.none,.none,.none,(.ref 547),(.int 873 0),(.int 264 0),(.str "/claim/cut.py" 874)]),#[]⟩) ::
 (nat_lit 549,Mk.fN "law" "law" (Mk.top 55) "law_markworks_k22_whole_sets" 787 548) ::
 []
noncomputable def Mk.Kf (P : PySem.Params) : PySem.W.Frag:=(nat_lit 546,⟨.none,none,(.fields #[]),#[]⟩) :: Mk.Kg P
noncomputable def Mk.Kas : List Nat:=546 :: 2 :: 3 :: 22 :: 28 :: 29 :: 31 :: 32 :: 52 :: 64 :: 76 :: 88 :: 107 :: 118 :: 119 :: 138 :: 150 :: 162 :: 181 :: 193 :: 196 :: 202 :: 203 :: 207 :: 208 :: 214 :: 215 :: 221 :: 222 :: 228 :: 229 :: 240 :: 241 :: 245 :: 246 :: 250 :: 251 :: 257 :: 258 :: 264 :: 265 :: 271 :: 272 :: 280 :: 286 :: 287 :: 293 :: 294 :: 317 :: 318 :: 324 :: 325 :: 331 :: 332 :: 338 :: 339 :: 348 :: 349 :: 359 :: 360 :: 366 :: 367 :: 380 :: 381 :: 387 :: 388 :: 394 :: 395 :: 413 :: 414 :: 423 :: 424 :: 434 :: 435 :: 441 :: 442 :: 448 :: 449 :: 455 :: 456 :: 462 :: 463 :: 469 :: 470 :: 476 :: 477 :: 483 :: 484 :: 490 :: 491 :: 497 :: 498 :: 502 :: 503 :: 507 :: 508 :: 514 :: 515 :: 519 :: 520 :: 526 :: 527 :: 531 :: 532 :: 536 :: 537 :: 543 :: 544 :: 548 :: 549 :: []
noncomputable def Mk.loose : List PySem.Str:=Str.ofString "MarkError" :: Str.ofString "BadRows" :: Str.ofString "BadRule" :: Str.ofString "BadName" :: Str.ofString "BadNumber" :: Str.ofString "BadRest" :: Str.ofString "Unlike" :: Str.ofString "BadText" :: Str.ofString "BadPairs" :: Str.ofString "Never" :: Str.ofString "Unled" :: Str.ofString "Nothing" :: Str.ofString "GREATEST" :: Str.ofString "MOST_ROWS" :: Str.ofString "LONGEST_NAME" :: Str.ofString "RULES" :: Str.ofString "is_whole" :: Str.ofString "is_name" :: Str.ofString "is_mark" :: Str.ofString "union_of" :: Str.ofString "is_one_of" :: Str.ofString "mark_bits" :: Str.ofString "next_mark" :: Str.ofString "is_names_of" :: Str.ofString "thing_number" :: Str.ofString "row_number" :: Str.ofString "numbered" :: Str.ofString "first_names" :: Str.ofString "Kind" :: Str.ofString "LIMIT" :: Str.ofString "is_number" :: Str.ofString "rest_of" :: Str.ofString "Value" :: Str.ofString "same_kind" :: Str.ofString "union" :: Str.ofString "share" :: Str.ofString "unlike" :: Str.ofString "without" :: Str.ofString "turned" :: Str.ofString "within" :: Str.ofString "_law_cell" :: Str.ofString "_law_drawn" :: Str.ofString "_law_roll" :: Str.ofString "_law_rounds" :: Str.ofString "_law_word" :: Str.ofString "_law_told" :: Str.ofString "_law_bits_of" :: Str.ofString "_law_rule_of" :: Str.ofString "_law_lines" :: Str.ofString "_law_table_of" :: Str.ofString "_law_number_in" :: []
def Mk.T0 (P : Params) : BT:=.node (boot_o_0 P)
  (.node (boot_o_1 P) (.node (boot_o_3 P) (.node (boot_o_7 P) .nil .nil) .nil) (.node (boot_o_5 P) (.node (boot_o_9 P) .nil .nil) .nil))
  (.node (boot_o_2 P) (.node (boot_o_4 P) (.node (boot_o_8 P) .nil .nil) .nil) (.node (boot_o_6 P) (.node (boot_o_10 P) .nil .nil) .nil))
theorem Mk.tree (P : Params) : absHeap (Mk.T0 P) (nat_lit 11) {} = boot_heap P:=by kernel_rfl
theorem Mk.size (w : World) : ((boot_heap w.params).isNs mainGlobals,(boot_heap w.params).objs.size,(boot_heap w.params).nsMap mainGlobals "__annotations__") = (true,(nat_lit 11),some (.ref (nat_lit 6))):=by kernel_rfl
theorem Mk.opens (w : World) : (fencedOpening treeTable PySem.Challenge.pw_markworks_k22_whole_sets w (nat_lit 9480)).map (fun s=>(s.heap,s.gens,s.drawn,s.toks)) = some (boot_heap w.params,#[],boot_drawn,boot_toks):=boot_open (by kernel_rfl) (by decide) (fun s=>by kernel_rfl) w
theorem Mk.twin : Function.const _ true (@Hd.runT,@Hd.looksAt,PySem.Challenge.pw_markworks_k22_whole_sets,Mk.Kf,Mk.loose) = true:=by k_qdec
abbrev Mk.qv : Program := view PySem.Challenge.pw_markworks_k22_whole_sets [nat_lit 55]
abbrev Mk.Xt (s : Shared) : Bool := xlAt Mk.qv [] s && recOk [] s
theorem Mk.run_q (w : World) (os : OsState) : (Option.map (fun s => Fast.tw8257016192812374322 Fast.tw14474935389718735117 (view Fast.tw14474935389718735117 [nat_lit 55]) Fast.tw2924075613660010442 (fun s => xlAt (view Fast.tw14474935389718735117 [nat_lit 55]) [] s && recOk [] s) Mk.Kas (boot_heap w.params) s.abs)
      (Fast.tw16599536794577742827 Fast.tw14364793385576792824 Fast.tw14474935389718735117 w (nat_lit 11) (some (Value.ref (nat_lit 6))) (nat_lit 4692) ⟨Mk.T0 w.params,nat_lit 11,{},#[],boot_drawn,boot_toks,os⟩ (topStub Fast.tw14474935389718735117))) =
    some (true,openGood (view Fast.tw14474935389718735117 [nat_lit 55]) Fast.tw2924075613660010442,(Fast.tw12104304683883722232 w.params).map fun x=>some x.2):=by kernel_rfl
theorem Mk.left : LeftO PySem.Challenge.pw_markworks_k22_whole_sets Mk.qv Mk.loose Mk.Xt (fun s=>Mk.Kas.map s.heap.get?) (fun w=>(Mk.Kf w.params).map fun x=>some x.2) (nat_lit 9480):=by
  refine Hd.left_of (M:=nat_lit 4692) (T0:=Mk.T0) Mk.opens Mk.tree Mk.size (by decide) fun w os=>?_
  have h:=Mk.run_q w os
  rw [← Fast.te8257016192812374322,← Fast.te14474935389718735117,← Fast.te2924075613660010442,← Fast.te16599536794577742827,← Fast.te14364793385576792824,← Fast.te12104304683883722232] at h
  exact h
theorem Mk.kg_in {P : Params} {h : Heap} (X : (Mk.Kf P).In h) : (Mk.Kg P).In h /\ h.get? 546 = some (tabObj #[]):=by
  have e : (Mk.Kg P).lookup 546 = none:=by kernel_rfl
  refine ⟨fun b o z=>X b o ?_,X _ _ (by unfold Mk.Kf; rw [List.lookup_cons]; rfl)⟩
  unfold Mk.Kf
  rw [List.lookup_cons]
  have nb : (b == 546) = false:=by
    cases q : (b == 546) with
    | false=>rfl
    | true=>rw [beq_iff_eq.mp q,e] at z; cases z
  rw [nb]
  exact z
def Mk.dL : DefRec:=⟨"law", L2.defArgs (Mk.top (nat_lit 55)),L2.defBody (Mk.top (nat_lit 55)),L2.defScope (Mk.top (nat_lit 55)),match Mk.top (nat_lit 55) with | .FunctionDef _ _ _ _ _ _ _ _ _ p=>p | _=>⟨0,0,0,0⟩⟩
end
open PySem PySem.W PyProof.Rows
set_option maxRecDepth 100000 in
set_option maxHeartbeats 0 in
theorem PySem.Challenge.cw_markworks_k22_whole_sets_holds : PySem.Challenge.rw_markworks_k22_whole_sets.Holds := by
  w_on; o_law
  refine PySem.W.holds_open (r:=PySem.Challenge.rw_markworks_k22_whole_sets.row) (q:=Mk.qv) (loose:=Mk.loose) (Xt:=Mk.Xt) (XP:=XL Mk.qv []) (YP:=InK Mk.Kf) (d:=Mk.dL) (kwd:=[]) Mk.left
    (fun w s e=>InK.of (fun P=>by kernel_rfl) w s e) InK.keeps (fun s e=>xl_of s (Bool.and_eq_true_iff.mp e).1) XL.keeps (by kernel_rfl) (by kernel_rfl) (by kernel_rfl) (fun s e=>recFacts_of (Bool.and_eq_true_iff.mp e).2) (by rfl) (by assumption) (by decide +kernel) ⟨rfl,rfl,rfl,rfl,rfl,by decide +kernel⟩ ?hw ?hc
  case hw=>w_witness2
  have aux : Function.const _ True (PySem.Challenge.rw_markworks_k22_whole_sets,Mk.Kg):=by k_fill; trivial
  refine Mk.walk (l:=PySem.Challenge.rw_markworks_k22_whole_sets) (c:=548) (P0:=546) (K:=Mk.Kg) rfl rfl (fun w h Y=>⟨(Mk.kg_in Y).1,(Mk.kg_in Y).2,by kernel_rfl,Mk.codeHd_of (Mk.kg_in Y).1 (by kernel_rfl)⟩) ?F
  case F =>
    intro w mg fa h KX G hmg
    refine' Mk.all_mk KX G hmg ?aC ?aVC ?aM ?aX0 ?aX1 ?aX2 ?aX3 ?aX4 ?aX5 ?aX6 ?aX7 ?aX8 ?aX9 ?aX10 ?z_VE ?hwh ?hnm ?huo ?hnx ?hoo ?hno ?hth ?hro ?hnb ?hfi ?him ?hmR ?hmK ?hmT ?hmM ?hmE ?hlc ?hld ?hlr ?hls ?hll ?hxn ?hxr ?hxi ?hxN ?hxK ?hxE ?hlb ?hlB ?hlu ?hlt ?hli ?huT ?huK ?huU ?huS ?huX ?huW ?huI ?hlw ?hlo ?ain ?iin ?lin ?cin ?kin ?ala ?lla ?cla ?kla ?aei ?iei ?lei ?cei ?kei ?kdl ?kde ?kdr ?dtl ?vG ?vM ?vL ?vLi ?vR ?qn ?qt ?fC ?fVC ?nC_numbers ?nC_firsts ?nC_rule ?nVC_own_kind ?nVC_bits ?xm ?xc0 ?xc1 ?xc2 ?xc3 ?y7 ?rL ?z_len ?z_isinstance ?z_max ?z_min ?z_range ?z_list ?z_tuple ?z_sorted ?z_sum ?z_all ?z_enumerate ?z_int ?z_bool ?z_str ?z_set
    case aC | aVC | aM | aX0 | aX1 | aX2 | aX3 | aX4 | aX5 | aX6 | aX7 | aX8 | aX9 | aX10 | z_VE=>k_is
    case hwh | hnm | huo | hnx | hoo | hno | hth | hro | hnb | hfi | him =>
      refine' ⟨_,_,?a,L2.fun_mk ?b ?c ?d⟩
      case a | b | c | d=>k_is
    case hmR | hmK | hmT | hmM | hmE =>
      refine' ⟨_,_,?a,?i,⟨_,?o,?q⟩,L2.fun_mk ?b ?c ?d⟩
      case a | i | b=>k_is
      case o | q=>first | rfl | k_is
      case c | d=>k_is
    case hlc | hld | hlr | hls | hll | hxn | hxr =>
      refine' ⟨_,_,?a,L2.fun_mk ?b ?c ?d⟩
      case a | b | c | d=>k_is
    case hxi | hxN | hxK | hxE =>
      refine' ⟨_,_,?a,?i,⟨_,?o,?q⟩,L2.fun_mk ?b ?c ?d⟩
      case a | i | b=>k_is
      case o | q=>first | rfl | k_is
      case c | d=>k_is
    case hlb | hlB | hlu | hlt | hli | huT | huK | huU | huS | huX | huW | huI | hlw | hlo =>
      refine' ⟨_,_,?a,L2.fun_mk ?b ?c ?d⟩
      case a | b | c | d=>k_is
    case ain | iin | lin | cin | kin | ala | lla | cla | kla | aei | iei | lei | cei | kei | kdl=>k_is
    case kde=>simp
    case kdr | dtl | vG | vM | vL | vLi | vR | qn | qt=>k_is
    case fC | fVC =>
      refine' ⟨?_,?_,?_,?_,?_,?_,?_,?_,?_,?_,?_,?_,?_,?_⟩ <;> k_is
    case nC_numbers | nC_firsts | nC_rule | nVC_own_kind | nVC_bits=>k_is
    case xm | xc0 | xc1 | xc2 | xc3=>kernel_rfl
    case y7 =>
      exact ⟨⟨by kernel_rfl,by kernel_rfl,by kernel_rfl,by kernel_rfl,by kernel_rfl,by kernel_rfl,by kernel_rfl,by kernel_rfl,by kernel_rfl,by kernel_rfl⟩,by kernel_rfl,by kernel_rfl,by kernel_rfl⟩
    case rL | z_len | z_isinstance | z_max | z_min | z_range | z_list | z_tuple | z_sorted | z_sum | z_all | z_enumerate | z_int | z_bool | z_str | z_set=>k_is
