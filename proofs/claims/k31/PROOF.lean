import PyProof.Rows.All
import Wide.All
import OpenK.AllK
import Wide.FinOn
import PyProof.EqAt
import PyProof.EqKinds
import PyProof.TupleCall
import Lean
import PyProof.Rows.BitMore
import PyProof.ExcBaseAll.ValueError
import PyProof.ExcArgsOwn
import KE.KLam
import PyProof.InstStoreFacts
import PyProof.FString
import PyProof.FString2
import PyProof.Rows.FStr
import PyProof.FitsInt
import PyProof.ZipIter
import PyProof.Rows.ZipGen
import PyProof.AttrMissHeap
import KE.KDictOf
import PyProof.DictCompW
import PyProof.DictWalks
import PyProof.AutoSeq1
import PyProof.Rows.SeqMore
import PyProof.SliceStr
import PyProof.StrBlockI
import PyProof.StrCalls2
import KE.KIntText
import PySem.Challenge.RW_markworks_k31_whole_formulas_read
set_option Elab.async false
set_option linter.all false
set_option maxRecDepth 100000
set_option maxHeartbeats 4000000
theorem AK {α:Type u} {β:Type v} {as:List α} (f:α->β):(as.map f).length=as.length:=List.length_map f
abbrev Aa:=List (PySem.Str × Nat)
abbrev VS:=PySem.Value->PySem.Shared->Prop
abbrev LO:=List (PySem.Addr × PySem.Obj)
abbrev SV:=PySem.Str->Option PySem.Value
open PySem in
abbrev FG:=W.Frag
open List (all_append all_map any_cons any_eq_true any_map append_nil cons_lt_cons_iff contains_cons filterMap_cons filter_cons find?_cons foldl_append foldl_cons getD_eq_getElem?_getD getElem?_append_right getElem?_map length_append length_cons length_filter_le length_nil length_singleton length_take lookup_cons map_append map_cons map_map map_nil mem_append mem_append_left mem_append_right mem_cons mem_cons_of_mem mem_cons_self mem_filter mem_map mem_of_getElem? mem_of_mem_take mem_range mem_singleton nil_append nodup_cons nodup_nil not_mem_nil of_mem_zip size_toArray sum_append sum_cons take_add_one take_length)
open PySem.Heap (get?_push_of_some get?_push_size get?_update_other get?_update_self lt_size size_push)
section
namespace L2
open PySem
theorem sl1:1 <= sizeLine:=by decide
theorem sl2:2 <= sizeLine:=by decide
theorem sl3:3 <= sizeLine:=by decide
theorem sl4:4 <= sizeLine:=by decide
theorem sl6:6 <= sizeLine:=by decide
theorem sl7:7 <= sizeLine:=by decide
theorem sl9:9 <= sizeLine:=by decide
end L2
end
section
namespace L2
open PySem PySem.Spec PyProof.Rows
abbrev Key:=Sum Int Str
noncomputable def F5:Key->Value->Bool
 | .inl k,v=>Value.isInt k v
 | .inr x,v=>Value.isStrOf x v
noncomputable def UH (w:World):Key->Int
 | .inl k=>hashInt k
 | .inr x=>hashStr w x
theorem A5:∀ {k:Key} {v:Value},F5 k v=true->(∃ i t,k=Sum.inl i/\v=Value.int i t)\/(∃ x t,k=Sum.inr x/\v=Value.str x t)
 | .inl i,v,h=>by
  obtain ⟨t,e⟩:=Value.isInt_shape (k:=i) (v:=v) h;exact .inl ⟨i,t,rfl,e⟩
 | .inr x,v,h=>by
  obtain ⟨t,e⟩:=Value.isStrOf_shape (x:=x) (v:=v) h;exact .inr ⟨x,t,rfl,e⟩
theorem Mf (i:Int) (t:Tok):F5 (.inl i) (.int i t)=true:=by simp [F5,Value.isInt]
theorem Mg (x:Str) (t:Tok):F5 (.inr x) (.str x t)=true:=by simp [F5,Value.isStrOf]
theorem Rf (a b:Int):decide ((Sum.inl a:Key)=Sum.inl b)=(a == b):=by
 by_cases e:a=b
 ·subst e; simp
 ·have h:¬ (Sum.inl a:Key)=Sum.inl b:=fun q=>e (Sum.inl.inj q);rw [decide_eq_false h];exact (beq_eq_false_iff_ne.mpr e).symm
theorem Rg (a b:Str):decide ((Sum.inr a:Key)=Sum.inr b)=decide (a=b):=by
 by_cases e:a=b
 ·subst e; simp
 ·have h:¬ (Sum.inr a:Key)=Sum.inr b:=fun q=>e (Sum.inr.inj q);rw [decide_eq_false h,decide_eq_false e]
theorem Rh (a:Int) (b:Str):decide ((Sum.inl a:Key)=Sum.inr b)=false:=decide_eq_false (fun q=>nomatch q)
theorem Ri (a:Str) (b:Int):decide ((Sum.inr a:Key)=Sum.inl b)=false:=decide_eq_false (fun q=>nomatch q)
noncomputable def Ai (prog:Program) (w:World):PySem.KeyKind prog w Key where
 is:=F5
 hash:=UH w
 inj:=fun v a b ha hb=>by
  rcases A5 ha with ⟨i,t,rfl,rfl⟩ | ⟨x,t,rfl,rfl⟩
  ·rcases A5 hb with ⟨j,u,rfl,e⟩ | ⟨y,u,rfl,e⟩
   ·injection e with e1 _; rw [e1]
   ·exact nomatch e
  ·rcases A5 hb with ⟨j,u,rfl,e⟩ | ⟨y,u,rfl,e⟩
   ·exact nomatch e
   ·injection e with e1 _; rw [e1]
 byValue:=fun k v h=>by
  rcases A5 h with ⟨i,t,rfl,rfl⟩ | ⟨x,t,rfl,rfl⟩ <;> rfl
 pyHash:=fun hv h=>by
  rcases A5 hv with ⟨i,t,rfl,rfl⟩ | ⟨x,t,rfl,rfl⟩
  ·exact wpAny_pyHash_int h
  ·exact wpAny_pyHash_str h
 eqBool:=fun hu hv h=>by
  rcases A5 hu with ⟨i,t,rfl,rfl⟩ | ⟨x,t,rfl,rfl⟩
  ·rcases A5 hv with ⟨j,u,rfl,rfl⟩ | ⟨y,u,rfl,rfl⟩
   ·rw [Rf] at h; exact wpAny_eqBool_int h
   ·rw [Rh] at h; exact SeqAt.EqAt.int_str i t y u _ _ _ _ h
  ·rcases A5 hv with ⟨j,u,rfl,rfl⟩ | ⟨y,u,rfl,rfl⟩
   ·rw [Ri] at h; exact SeqAt.EqAt.str_int x t j u _ _ _ _ h
   ·rw [Rg] at h; exact wpAny_eqBool_str h
 «strs»:=fun k x t v h=>by
  rcases A5 h with ⟨i,u,rfl,e⟩ | ⟨y,u,rfl,e⟩
  ·exact nomatch e
  ·injection e with e1 _
   subst e1;cases v <;> rfl
theorem JE (prog:Program) (w:World) (i:Int) (t:Tok):(Ai prog w).is (.inl i) (.int i t)=true:=Mf i t
theorem DQ (prog:Program) (w:World) (x:Str) (t:Tok):(Ai prog w).is (.inr x) (.str x t)=true:=Mg x t
end L2
namespace L2
open PySem PySem.Spec PyProof.Rows
inductive V where
 | non | bl (b:Bool) | int (i:Int) | str (x:Str) | byt (b:Array UInt8) | flt (b:UInt64) | ref (a:Addr) | ty (n:String)
 deriving DecidableEq
def RelV:V->Value->Prop
 | .non,u=>u=Value.none
 | .bl b,u=>u=Value.bool b
 | .int i,u=>∃ t,u=Value.int i t
 | .str x,u=>∃ t,u=Value.str x t
 | .byt b,u=>∃ t,u=Value.bytes b t
 | .flt b,u=>∃ t,u=Value.float b t
 | .ref a,u=>u=Value.ref a
 | .ty n,u=>u=Value.type n
abbrev Vals:List V->List Value->Prop:=Paired RelV
theorem Vals.length {xs:List V} {us:List Value} (r:Vals xs us):xs.length=us.length:=Paired.length r
theorem Vals.get:∀ {xs:List V} {us:List Value} {i:Nat} {x:V},Vals xs us->xs[i]?=some x->∃ u,us[i]?=some u/\RelV x u
 | _,_,_,_,.nil,e=>by simp at e
 | _,_,0,_,.cons r _,e=>by simp at e; subst e; exact ⟨_,rfl,r⟩
 | _,_,i + 1,x,.cons _ t,e=>by
  obtain ⟨u,h1,h2⟩:=Vals.get (i:=i) (x:=x) t (by simpa using e);exact ⟨u,by simpa using h1,h2⟩
theorem Vals.set {x:V} {u:Value} (r:RelV x u):∀ {xs:List V} {us:List Value} (i:Nat),Vals xs us->Vals (xs.set i x) (us.set i u)
 | _,_,_,.nil=>.nil
 | _,_,0,.cons _ t=>.cons r t
 | _,_,i + 1,.cons q t=>.cons q (Vals.set r i t)
theorem Vals.append:∀ {xs ys:List V} {us ws:List Value},Vals xs us->Vals ys ws->Vals (xs++ys) (us++ws)
 | _,_,_,_,.nil,s=>s
 | _,_,_,_,.cons r t,s=>.cons r (Vals.append t s)
def RelO:Option V->Option Value->Prop
 | some v,some u=>RelV v u
 | none,none=>True
 | _,_=>False
def KV {κ:Type}:List (κ × V)->List (κ × Value)->Prop:=Paired fun (p:κ × V) (q:κ × Value)=>p.1=q.1/\RelV p.2 q.2
noncomputable def kV:Key->V
 | .inl i=>.int i
 | .inr x=>.str x
abbrev LK:=List (Key × V)
inductive HO where
 | lst (xs:List V)
 | tup (xs:List V)
 | dK (kvs:LK) | dT (kvs:List (List Key × V))
 | set (S:Int->Bool) (n:Nat)
 | ins (C dx:Addr) (fs:List (Str × V))
 | own (x:Addr)
 | xd (fs:List (Str × V))
 | met (f x:Addr)
 | rng (lo hi:Int)
 | frz (o:Obj) (u:HO)
 | tbl (ps:Array Value)
 | ext (φ:Heap->Prop)
abbrev Hp:=Addr->Option HO
noncomputable def upd (H:Hp) (a:Addr) (o:HO):Hp:=fun b=>if b=a then some o else H b
theorem AB {H:Hp} {a:Addr} {o:HO}:upd H a o a=some o:=by unfold upd; rw [if_pos rfl]
theorem AG {H:Hp} {a b:Addr} {o:HO} (h:b ≠ a):upd H a o b=H b:=by unfold upd; rw [if_neg h]
theorem LY {H:Hp} {a b:Addr} {o u:HO} (h:H a=some o) (h':H b=some u) (d:o ≠ u):a ≠ b:=by
 intro e; subst e; rw [h] at h'; exact d (Option.some.inj h')
theorem AI {H:Hp} {a b:Addr} {o:HO} (h:H a=some o) (h':H b=none):a ≠ b:=by
 intro e; subst e; rw [h] at h'; cases h'
section
variable (P:Program) (w:World)
def ObjOk (H:Hp) (h:Heap) (a:Addr):HO->Prop
 | .lst xs=>xs.length <= sizeLine/\∃ (its:List Value) (n:Nat),Vals xs its/\h.get? a=some { cls:=.type "list", data:=.seq its.toArray n }
 | .tup xs=>xs.length <= sizeLine/\∃ its:List Value,Vals xs its/\IsTup h a its.toArray
 | .dK kvs=>kvs.length <= sizeLine/\(a == sysModules)=false/\∃ vs,KV kvs vs/\h.DictOf (Ai P w) a vs
 | .dT kvs=>kvs.length <= sizeLine/\(a == sysModules)=false/\∃ xs:List (List Key × Addr × Value),
   Paired (fun (p:List Key × V) (q:List Key × Addr × Value)=>p.1=q.1/\H q.2.1=some (.tup (p.1.map kV))/\RelV p.2 q.2.2) kvs xs /\
   ∃ o es ep,h.get? a=some o/\o.ExactDict/\o.data=.dict es ep/\es.toList=xs.map (entryOfKey (tupleKind (Ai P w)))/\(xs.map (·.1)).Nodup
 | .set S n=>h.SetOf (intKind P w) a S n
 | .ins C dx fs=>H dx=some (.own a)/\fs.length <= 1000/\dx ≠ a/\h.get? a=some (W.instObj C dx) /\
   ∃ mA,h.Ns1 dx mA/\(∀ f,RelO (fs.lookup f) (mA f))/\PySem.Within mA (fs.map (·.1))
 | .own _=>∃ o,h.get? a=some o
 | .xd fs=>∃ mA,h.Ns1 a mA/\∀ f,RelO (fs.lookup f) (mA f)
 | .rng lo hi=>∃ t u v,h.get? a=some { cls:=.type "range", data:=.fields #[.int lo t,.int hi u,.int 1 v] }
 | .frz o u=>h.get? a=some o/\ObjOk H h a u
 | .tbl ps=>h.get? a=some { cls:=.none,data:=.fields ps }
 | .met f x=>h.get? a=some (W.methodObj (.ref f) (.ref x))
 | .ext φ=>φ h/\(∃ o,h.get? a=some o)/\∀ h1 h2:Heap,φ h1->(∀ o,h1.get? a=some o->h2.get? a=some o)->φ h2
def HOk (H:Hp) (h:Heap):Prop:=∀ a o,H a=some o->ObjOk P w H h a o
end
section
variable {P:Program} {w:World} {H H':Hp} {h h':Heap} {a:Addr} {o:HO}
theorem ObjOk.lt (x:ObjOk P w H h a o):a < h.objs.size:=by
 cases o with
 | lst xs=>obtain ⟨_,_,_,_,e⟩:=x; exact lt_size e
 | tup xs=>obtain ⟨_,_,_,p⟩:=x; exact p.lt
 | dK kvs=>obtain ⟨_,_,_,_,o,_,_,e,_⟩:=x; exact lt_size e
 | dT kvs=>obtain ⟨_,_,_,_,o,_,_,e,_⟩:=x; exact lt_size e
 | set S n=>obtain ⟨o,_,_,_,e,_⟩:=x; exact lt_size e
 | ins C dx fs=>obtain ⟨_,_,_,e,_⟩:=x; exact lt_size e
 | own y=>obtain ⟨_,e⟩:=x; exact lt_size e
 | xd fs=>obtain ⟨_,⟨_,_,_,e,_⟩,_⟩:=x; exact lt_size e
 | rng lo hi=>obtain ⟨_,_,_,e⟩:=x; exact lt_size e
 | frz ob u=>obtain ⟨e,_⟩:=x; exact lt_size e
 | tbl ps=>exact lt_size (show h.get? a=some _ from x)
 | met f y=>exact lt_size (show h.get? a=some _ from x)
 | ext φ=>obtain ⟨_,⟨_,e⟩,_⟩:=x; exact lt_size e
theorem Paired.mapP {α β:Type} {F G:α->β->Prop}:∀ {l₁:List α} {l₂:List β},Paired F l₁ l₂->(∀ a b,F a b->G a b)->Paired G l₁ l₂
 | _,_,.nil,_=>.nil
 | _,_,.cons r t,f=>.cons (f _ _ r) (Paired.mapP t f)
theorem ObjOk.stay (x:ObjOk P w H h a o) (k:∀ b u,(b=a\/H b=some (.own a))->h.get? b=some u->h'.get? b=some u)
  (ho:∀ b,H b=some (.own a)->H' b=some (.own a)) (ht:∀ b xs,H b=some (.tup xs)->H' b=some (.tup xs)):ObjOk P w H' h' a o:=by
 induction o with
 | lst xs=>obtain ⟨z,its,n,r,e⟩:=x; exact ⟨z,its,n,r,k _ _ (.inl rfl) e⟩
 | tup xs=>obtain ⟨z,its,r,ob,e,c⟩:=x; exact ⟨z,its,r,ob,k _ _ (.inl rfl) e,c⟩
 | dK kvs=>obtain ⟨z,y,vs,r,ob,es,ep,e,c⟩:=x; exact ⟨z,y,vs,r,ob,es,ep,k _ _ (.inl rfl) e,c⟩
 | dT kvs =>
  obtain ⟨z,y,xs,r,ob,es,ep,e,c⟩:=x;exact ⟨z,y,xs,Paired.mapP r fun p q z=>⟨z.1,ht _ _ z.2.1,z.2.2⟩,ob,es,ep,k _ _ (.inl rfl) e,c⟩
 | set S n=>obtain ⟨ob,es,ep,t,e,c⟩:=x; exact ⟨ob,es,ep,t,k _ _ (.inl rfl) e,c⟩
 | ins C dx fs =>
  obtain ⟨d,z,ne,e,mA,⟨od,es,ep,e2,c⟩,r⟩:=x;exact ⟨ho _ d,z,ne,k _ _ (.inl rfl) e,mA,⟨od,es,ep,k _ _ (.inr d) e2,c⟩,r⟩
 | own y=>obtain ⟨ob,e⟩:=x; exact ⟨ob,k _ _ (.inl rfl) e⟩
 | xd fs=>obtain ⟨mA,⟨od,es,ep,e,c⟩,r⟩:=x; exact ⟨mA,⟨od,es,ep,k _ _ (.inl rfl) e,c⟩,r⟩
 | rng lo hi=>obtain ⟨t,u,v,e⟩:=x; exact ⟨t,u,v,k _ _ (.inl rfl) e⟩
 | frz ob u ih=>obtain ⟨e,q⟩:=x; exact ⟨k _ _ (.inl rfl) e,ih q⟩
 | tbl ps =>
  have e:h.get? a=some { cls:=.none,data:=.fields ps }:=x;show h'.get? a=some { cls:=.none,data:=.fields ps };exact k a _ (.inl rfl) e
 | met f y =>
  have e:h.get? a=some (W.methodObj (.ref f) (.ref y)):=x;show h'.get? a=some (W.methodObj (.ref f) (.ref y));exact k a _ (.inl rfl) e
 | ext φ=>obtain ⟨p,⟨o,e⟩,st⟩:=x; exact ⟨st _ _ p fun o q=>k _ _ (.inl rfl) q,⟨o,k _ _ (.inl rfl) e⟩,st⟩
theorem HOk.lt (x:HOk P w H h) (e:H a=some o):a < h.objs.size:=(x a o e).lt
theorem HOk.fresh (x:HOk P w H h) (e:h.objs.size <= a):H a=none:=by
 cases q:H a with
 | none=>rfl
 | some u=>exact absurd (Nat.lt_of_lt_of_le (x.lt q) e) (Nat.lt_irrefl _)
theorem HOk.kept (x:HOk P w H h) (k:∀ b u,h.get? b=some u->h'.get? b=some u):HOk P w H h':=fun a o e =>
 (x a o e).stay (fun b u _ q=>k b u q) (fun _ q=>q) fun _ _ q=>q
theorem HOk.laid (x:HOk P w H h) (k:∀ b u,h.get? b=some u->h'.get? b=some u) (hp:h.objs.size <= a) (new:ObjOk P w (upd H a o) h' a o):HOk P w (upd H a o) h':=fun b u e=>by
 have hn:=x.fresh hp;by_cases hb:b=a
 ·subst hb; rw [AB] at e; cases e; exact new
 ·rw [AG hb] at e;exact (x b u e).stay (fun c v _ q=>k c v q) (fun c q=>by rw [AG (AI q hn)]; exact q) fun c xs q=>by rw [AG (AI q hn)]; exact q
end
def Rd (H:Hp) (a:Addr) (u:HO):Prop:=H a=some u\/∃ o,H a=some (.frz o u)
theorem Rd.ok {P:Program} {w:World} {H:Hp} {h:Heap} {a:Addr} {u:HO} (r:Rd H a u) (x:HOk P w H h):ObjOk P w H h a u:=by
 rcases r with r | ⟨o,r⟩
 ·exact x a u r
 ·obtain ⟨_,q⟩:=x a _ r;exact q
def Mut:Option HO->Prop
 | some (.lst _)=>True
 | some (.dK _)=>True
 | some (.dT _)=>True
 | some (.set _ _)=>True
 | some (.ins _ _ _)=>True
 | some (.ext _)=>True
 | _=>False
section
variable {P:Program} {w:World} {H:Hp} {h h':Heap} {x e:Addr} {o':HO}
theorem HOk.write (ok:HOk P w H h) (mu:Mut (H x)) (he:e=x\/H e=some (.own x)) (k:∀ b u,b ≠ e->h.get? b=some u->h'.get? b=some u) (heo:∃ u,h'.get? e=some u)
  (new:ObjOk P w (upd H x o') h' x o'):HOk P w (upd H x o') h':=fun b u q=>by
 have nown:∀ c y,H c=some (.own y)->c ≠ x:=fun c y r z=>by subst z; rw [r] at mu; exact mu
 have ntup:∀ c xs,H c=some (.tup xs)->c ≠ x:=fun c xs r z=>by subst z; rw [r] at mu; exact mu
 by_cases hb:b=x
 ·subst hb; rw [AB] at q; cases q; exact new
 ·rw [AG hb] at q;by_cases hbe:b=e
  ·have q':H b=some (.own x):=by
    rcases he with z | z
    ·exact absurd (hbe.trans z) hb
    ·rw [hbe]; exact z
   rw [q] at q'; cases q';obtain ⟨v,hv⟩:=heo;exact ⟨v,by rw [hbe]; exact hv⟩
  ·refine (ok b u q).stay (fun c v hc r=>k c v ?_ r) (fun c r=>by rw [AG (nown c b r)]; exact r) fun c xs r=>by rw [AG (ntup c xs r)]; exact r
   rcases hc with rfl | hc
   ·exact hbe
   ·rintro rfl;rcases he with z | z
    ·exact nown c b hc z
    ·rw [hc] at z; cases z; exact hb rfl
end
structure Un (fs ex:List Addr) (H H':Hp) (h h':Heap):Prop where
 keep:∀ b o,h.get? b=some o->H b=none->b ∉ fs->b ∉ ex->h'.get? b=some o
 slot:∀ b o,h.get? b=some o->H b=none->b ∈ fs->b ∉ ex->∃ sl,h'.get? b=some { o with slots:=sl }
 free:∀ b o,h.get? b=some o->H b=none->b ∉ ex->H' b=none
 there:∀ b o,h.get? b=some o->b ∉ ex->∃ o',h'.get? b=some o'
 tups:∀ b xs,H b=some (.tup xs)->H' b=some (.tup xs)
 frzs:∀ b o u,H b=some (.frz o u)->H' b=some (.frz o u)
 tbls:∀ b ps,H b=some (.tbl ps)->∃ more,H' b=some (.tbl (ps++more))
section
variable {fs fs' ex ex':List Addr} {H H1 H2:Hp} {h h1 h2 h':Heap} {a x e:Addr} {o:HO}
theorem Un.any (u:Un fs ex H H1 h h1) {b:Addr} {ob:Obj} (q:h.get? b=some ob) (n:H b=none) (hx:b ∉ ex):∃ sl,h1.get? b=some { ob with slots:=sl }:=by
 by_cases hb:b ∈ fs
 ·exact u.slot b ob q n hb hx
 ·exact ⟨ob.slots,u.keep b ob q n hb hx⟩
theorem Un.kept (k:∀ b u,h.get? b=some u->h'.get? b=some u):Un fs ex H H h h' :=
 ⟨fun b ob q _ _ _=>k b ob q,fun b ob q _ _ _=>⟨ob.slots,k b ob q⟩,fun _ _ _ n _=>n,fun b ob q _=>⟨ob,k b ob q⟩,fun _ _ q=>q,fun _ _ _ q=>q,fun _ ps q=>⟨#[],by rw [q]; simp⟩⟩
theorem Un.refl:Un fs ex H H h h:=Un.kept fun _ _ q=>q
theorem Un.laid (k:∀ b u,h.get? b=some u->h'.get? b=some u) (hp:h.objs.size <= a) (hn:H a=none):Un fs ex H (upd H a o) h h' where
 keep:=fun b u q _ _ _=>k b u q
 slot:=fun b u q _ _ _=>⟨u.slots,k b u q⟩
 free:=fun b u q n _=>by rw [AG (Nat.ne_of_lt (Nat.lt_of_lt_of_le (lt_size q) hp))]; exact n
 there:=fun b u q _=>⟨u,k b u q⟩
 tups:=fun b xs q=>by rw [AG (AI q hn)]; exact q
 frzs:=fun b u xs q=>by rw [AG (AI q hn)]; exact q
 tbls:=fun b ps q=>⟨#[],by rw [AG (AI q hn),q]; simp⟩
theorem Un.write (mu:Mut (H x)) (he:e=x\/H e=some (.own x)) (k:∀ b u,b ≠ e->h.get? b=some u->h'.get? b=some u) (heo:∃ u,h'.get? e=some u):Un fs ex H (upd H x o) h h':=by
 have hx:∀ b,H b=none->b ≠ x:=fun b n z=>by subst z; rw [n] at mu; exact mu
 have hb:∀ b,H b=none->b ≠ e:=fun b n z=>by
  subst z;rcases he with r | r
  ·exact hx b n r
  ·rw [n] at r; cases r
 have hm:∀ b u,H b=some u->¬ Mut (some u)->b ≠ x:=fun b u q nm z=>by subst z; rw [q] at mu; exact nm mu
 refine ⟨fun b u q n _ _=>k b u (hb b n) q,fun b u q n _ _=>⟨u.slots,k b u (hb b n) q⟩,fun b u q n _=>by rw [AG (hx b n)]; exact n,fun b u q _=>?_,
  fun b xs q=>by rw [AG (hm b _ q fun z=>z)]; exact q,fun b u xs q=>by rw [AG (hm b _ q fun z=>z)]; exact q,fun b ps q=>⟨#[],by rw [AG (hm b _ q fun z=>z),q]; simp⟩⟩
 by_cases hbe:b=e
 ·subst hbe; exact heo
 ·exact ⟨u,k b u hbe q⟩
end
noncomputable def trk (h:Heap) (H:Hp):List Addr:=(List.range h.objs.size).filter fun a=>(H a).isSome
noncomputable def F6 (h:Heap) (H:Hp):Heap:=W.hideAll h (trk h H)
theorem Mh (h:Heap) (H:Hp):(F6 h H).objs.size=h.objs.size:=W.hideAll_size _ _
theorem Nk {h:Heap} {H:Hp} {b:Addr} {o:Obj} (e:h.get? b=some o) (n:H b=none):(F6 h H).get? b=some o :=
 W.hideAll_get _ e fun hm=>by
  have q:(H b).isSome=true:=(mem_filter.mp hm).2;rw [n] at q; simp at q
theorem Pr {h:Heap} {H:Hp} {b:Addr} {o:Obj} (e:(F6 h H).get? b=some o):h.get? b=some o/\H b=none:=by
 have e':h.get? b=some o:=W.of_hideAll (trk h H) e;refine ⟨e',?_⟩;cases q:H b with
 | none=>rfl
 | some x =>
  have hm:b ∈ trk h H:=mem_filter.mpr ⟨mem_range.mpr (lt_size e'),by simp [q]⟩;have z:(F6 h H).get? b=none:=W.hideAll_none (trk h H) hm;rw [z] at e; cases e
end L2
namespace L2
open PySem PySem.Spec PyProof.Rows
structure Mod (K:FG) (mg:SV) (base:Heap):Prop where
 kin:K.In base
 glob:base.Ns mainGlobals mg
 blt:∃ mb,base.Ns builtinsNs mb/\∀ x:Str,x ≠ "__name__" -> mb x=bootBuiltins x
 nolimit:base.NoLimit
structure Cx where
 prog:Program
 w:World
 K:FG
 mg:Str->Option Value
 base:Heap
 A:Around
 N:List Str
 s₀:Shared
 H₀:Hp
 env:Env
 outer:List Env
 stack:List Env
 ex:List Addr
 fn:Str->Bool
 calm:Bool
 pn:LO
 xe:Value->Shared->Prop
noncomputable def frs (l:List Env):List Addr:=l.filterMap (·.frame)
noncomputable abbrev Cx.fs (X:Cx):List Addr:=frs X.outer
def Vis (sc:Scope) (x:Str):Prop:=sc.names.lookup x=some .local\/sc.names.lookup x=some .cell\/sc.names.lookup x=some .free
def Loc (sc:Scope) (x:Str):Prop:=sc.names.lookup x=some .local\/sc.names.lookup x=some .cell
def UI (env:Env) (h:Heap) (m:SV) (x:Str) (u:Value):Prop :=
 (env.kindOf x=some .local/\m x=some u)\/((env.kindOf x=some .cell\/env.kindOf x=some .free)/\∃ c,env.cells.lookup x=some c/\h.IsCell c (some u))
structure Cx.Ok (X:Cx):Prop where
 mod:Mod X.K X.mg X.base
 kind:X.env.scope.kind=.function
 glob:X.env.globals=mainGlobals
 blt:X.env.builtins=builtinsNs
 above:X.s₀.heap.objs.size <= X.env.locals
 inj:∀ x y c,X.env.cells.lookup x=some c->X.env.cells.lookup y=some c->x=y
 has:∀ x,(X.env.kindOf x=some .cell\/X.env.kindOf x=some .free)->∃ c,X.env.cells.lookup x=some c
 cab:∀ x c,X.fn x=true->X.env.cells.lookup x=some c->X.s₀.heap.objs.size <= c
 hd:X.calm=true->X.A.handled=none
 frames:X.A.frames=some X.stack
 stk:X.stack=X.outer\/(X.stack=X.env :: X.outer/\X.env.frame=some X.env.locals)
 exf:∀ b ∈ X.ex,b ≠ X.env.locals/\∀ x c,X.env.cells.lookup x=some c->c ≠ b
 bs:∀ b o,X.base.get? b=some o->X.s₀.heap.get? b=some o/\X.H₀ b=none
 bsz:X.base.objs.size <= X.s₀.heap.objs.size
 noex:∀ b o,X.base.get? b=some o->b ∉ X.ex
 exfs:∀ b ∈ X.ex,b ∉ X.fs
 funs:X.s₀.heap.FunFrames X.base X.outer
 frf:∀ b ∈ X.fs,X.H₀ b=none
structure Inv (X:Cx) (aa:LO) (σ:List (Option V)) (H:Hp) (s:Shared):Prop where
 ok:X.Ok
 os:s.os=X.s₀.os
 bare:AllBare s.gens
 base:Un X.fs X.ex X.H₀ H X.s₀.heap s.heap
 loc:∃ m,s.heap.Ns X.env.locals m/\∀ (i:Nat) (x:Str) (v:V),X.N[i]?=some x->σ[i]?=some (some v)->Vis X.env.scope x->∃ u,RelV v u/\UI X.env s.heap m x u
 cell:∀ x c,X.env.cells.lookup x=some c->∃ v,s.heap.IsCell c v
 free:H X.env.locals=none
 freeC:∀ x c,X.env.cells.lookup x=some c->H c=none
 pin:∀ p ∈ X.pn++aa,s.heap.get? p.1=some p.2/\H p.1=none/\p.1 ≠ X.env.locals/\p.1 ∉ X.fs/\∀ v,p.2.data ≠ .cell v
 hok:HOk X.prog X.w H s.heap
 len:σ.length=X.N.length
section
variable {X:Cx} {aa:LO} {σ:List (Option V)} {H H':Hp} {s:Shared} {h':Heap}
theorem Cx.Ok.nofr (ok:X.Ok) {b:Addr} {o:Obj} (e:X.base.get? b=some o):b ∉ X.fs:=fun hb=>by
 have:=(ok.funs.mem hb).1;rw [e] at this; cases this
theorem Inv.bs (I:Inv X aa σ H s):∀ b o,X.base.get? b=some o->s.heap.get? b=some o/\H b=none:=fun b o e =>
 ⟨I.base.keep b o (I.ok.bs b o e).1 (I.ok.bs b o e).2 (I.ok.nofr e) (I.ok.noex b o e),I.base.free b o (I.ok.bs b o e).1 (I.ok.bs b o e).2 (I.ok.noex b o e)⟩
theorem Inv.bk (I:Inv X aa σ H s):∀ b o,X.base.get? b=some o->s.heap.get? b=some o:=fun b o e=>(I.bs b o e).1
theorem Inv.mod (I:Inv X aa σ H s):Mod X.K X.mg X.base:=I.ok.mod
theorem Inv.kIn (I:Inv X aa σ H s):X.K.In s.heap:=I.ok.mod.kin.keeps I.bk
theorem Inv.fr (I:Inv X aa σ H s):∃ m,Fr X.base X.env.locals s.heap m :=
 let ⟨m,hn,_⟩:=I.loc
 ⟨m,hn,I.bk,Nat.le_trans I.ok.bsz I.ok.above⟩
theorem Inv.lt (I:Inv X aa σ H s):X.env.locals < s.heap.objs.size:=let ⟨_,hn,_⟩:=I.loc; hn.lt
theorem Inv.sz (I:Inv X aa σ H s):X.s₀.heap.objs.size <= s.heap.objs.size:=Nat.le_trans I.ok.above (Nat.le_of_lt I.lt)
theorem Inv.nofs (I:Inv X aa σ H s) {a:Addr} (h:s.heap.objs.size <= a):a ∉ X.fs:=fun hb=>by
 obtain ⟨_,o,ho,_⟩:=I.ok.funs.mem hb;exact absurd (Nat.lt_of_lt_of_le (lt_size ho) (Nat.le_trans I.sz h)) (Nat.lt_irrefl _)
theorem Inv.cne (I:Inv X aa σ H s):∀ x c,X.env.cells.lookup x=some c->c ≠ X.env.locals:=fun x c e z=>by
 obtain ⟨v,o,ho,hd⟩:=I.cell x c e;obtain ⟨m,⟨o',es,ep,ho',hd',_⟩,_⟩:=I.loc;rw [z,ho'] at ho; cases ho; rw [hd'] at hd; cases hd
theorem Inv.funs (I:Inv X aa σ H s):s.heap.FunFrames X.base X.outer:=by
 have all:∀ (l:List Env),(∀ b ∈ frs l,b ∈ X.fs)->X.s₀.heap.FunFrames X.base l->s.heap.FunFrames X.base l:=by
  intro l;induction l with
  | nil=>intro _ _; trivial
  | cons env r ih =>
   intro hs hl;obtain ⟨hk,⟨L,o,hf,hn,ho,hd⟩,hr⟩:=hl;have hL:L ∈ X.fs:=hs L (by unfold frs; rw [filterMap_cons,hf]; exact mem_cons_self);obtain ⟨sl,e⟩:=I.base.slot L o ho (I.ok.frf L hL) hL fun z=>I.ok.exfs L z hL;exact ⟨hk,⟨L,_,hf,hn,e,hd⟩,ih (fun b hb=>hs b (by unfold frs; rw [filterMap_cons,hf]; exact mem_cons_of_mem _ hb)) hr⟩
 exact all X.outer (fun _ hb=>hb) I.ok.funs
theorem Inv.stack (I:Inv X aa σ H s):s.heap.FunFrames X.base X.stack:=by
 rcases I.ok.stk with e | ⟨e,hf⟩
 ·rw [e]; exact I.funs
 ·rw [e];obtain ⟨m,hn,_⟩:=I.loc;refine .cons (by rw [I.ok.kind]; decide) hf hn ?_ I.funs;exact Heap.get?_none_of_le (Nat.le_trans I.ok.bsz I.ok.above)
theorem Inv.stkSub (I:Inv X aa σ H s):∀ b ∈ frs X.stack,b ∈ X.env.locals :: X.fs:=fun b hb=>by
 rcases I.ok.stk with e | ⟨e,hf⟩
 ·rw [e] at hb; exact mem_cons_of_mem _ hb
 ·rw [e] at hb;unfold frs at hb;rw [filterMap_cons,hf] at hb;exact hb
theorem Inv.stkFree (I:Inv X aa σ H s):∀ b ∈ frs X.stack,H b=none:=fun b hb=>by
 rcases mem_cons.mp (I.stkSub b hb) with e | hb
 ·rw [e]; exact I.free
 ·obtain ⟨_,o,ho,_⟩:=I.ok.funs.mem hb;exact I.base.free b o ho (I.ok.frf b hb) fun z=>I.ok.exfs b z hb
theorem Inv.step {g':Array GenState} {t':Nat} {d':Drawn} {ch:List Addr} (I:Inv X aa σ H s)
  (hch:∀ b ∈ ch,(b ∈ X.ex\/X.s₀.heap.objs.size <= b)/\b ≠ X.env.locals/\(∀ x c,X.env.cells.lookup x=some c->c ≠ b)/\∀ p ∈ X.pn++aa,p.1 ≠ b)
  (keep:∀ b o,b ≠ X.env.locals->b ∉ X.fs->b ∉ ch->s.heap.get? b=some o->H b=none->h'.get? b=some o)
  (slot:∀ b o,b ≠ X.env.locals->b ∈ X.fs->b ∉ ch->s.heap.get? b=some o->H b=none->∃ sl,h'.get? b=some { o with slots:=sl }) (free:∀ b o,b ∉ ch->s.heap.get? b=some o->H b=none->H' b=none)
  (there:∀ b o,b ∉ ch->s.heap.get? b=some o->∃ o',h'.get? b=some o')
  (tups:∀ b xs,H b=some (.tup xs)->H' b=some (.tup xs)) (frzs:∀ b o u,H b=some (.frz o u)->H' b=some (.frz o u)) (tbls:∀ b ps,H b=some (.tbl ps)->∃ more,H' b=some (.tbl (ps++more)))
  (ns:∀ m,s.heap.Ns X.env.locals m->h'.Ns X.env.locals m) (hok:HOk X.prog X.w H' h') (hg:AllBare g') :
  Inv X aa σ H' { s with heap:=h',gens:=g',drawn:=d',toks:=t' }:=by
 have neL:∀ b o,X.s₀.heap.get? b=some o->b ≠ X.env.locals:=fun b o e=>Nat.ne_of_lt (Nat.lt_of_lt_of_le (lt_size e) I.ok.above)
 have neC:∀ b o,X.s₀.heap.get? b=some o->b ∉ X.ex->b ∉ ch:=fun b o e hx hb=>by
  rcases (hch b hb).1 with z | z
  ·exact hx z
  ·exact absurd (Nat.lt_of_lt_of_le (lt_size e) z) (Nat.lt_irrefl _)
 have cellK:∀ x c,X.env.cells.lookup x=some c->∀ v,s.heap.IsCell c v->h'.IsCell c v:=fun x c e v ⟨o,ho,hd⟩=>by
  have nch:c ∉ ch:=fun z=>(hch c z).2.2.1 x c e rfl;by_cases hc:c ∈ X.fs
  ·obtain ⟨sl,q⟩:=slot c o (I.cne x c e) hc nch ho (I.freeC x c e);exact ⟨_,q,hd⟩
  ·exact ⟨o,keep c o (I.cne x c e) hc nch ho (I.freeC x c e),hd⟩
 refine ⟨I.ok,I.os,hg,⟨fun b o e n hb hx=>?_,fun b o e n hb hx=>?_,fun b o e n hx=>?_,fun b o e hx=>?_,fun b xs e=>tups b xs (I.base.tups b xs e),fun b o xs e=>frzs b o xs (I.base.frzs b o xs e),fun b ps e=>?_⟩,?_,fun x c e=>?_,?_,fun x c e=>?_,fun p hp=>?_,hok,I.len⟩
 ·exact keep b o (neL b o e) hb (neC b o e hx) (I.base.keep b o e n hb hx) (I.base.free b o e n hx)
 ·obtain ⟨sl,e1⟩:=I.base.slot b o e n hb hx;obtain ⟨sl',e2⟩:=slot b _ (neL b o e) hb (neC b o e hx) e1 (I.base.free b o e n hx);exact ⟨sl',e2⟩
 ·obtain ⟨o',e1⟩:=I.base.there b o e hx;exact free b o' (neC b o e hx) e1 (I.base.free b o e n hx)
 ·obtain ⟨o',e1⟩:=I.base.there b o e hx;exact there b o' (neC b o e hx) e1
 ·obtain ⟨m1,e1⟩:=I.base.tbls b ps e;obtain ⟨m2,e2⟩:=tbls b _ e1;exact ⟨m1++m2,by rw [e2,Array.append_assoc]⟩
 ·obtain ⟨m,hn,hl⟩:=I.loc;refine ⟨m,ns m hn,fun i x v e1 e2 e3=>?_⟩;obtain ⟨u,r,l⟩:=hl i x v e1 e2 e3;refine ⟨u,r,?_⟩;rcases l with l | ⟨k,c,e,z⟩
  ·exact .inl l
  ·exact .inr ⟨k,c,e,cellK x c e _ z⟩
 ·obtain ⟨v,z⟩:=I.cell x c e;exact ⟨v,cellK x c e v z⟩
 ·obtain ⟨m,⟨o,_,_,ho,_⟩,_⟩:=I.loc;exact free _ o (fun z=>(hch _ z).2.1 rfl) ho I.free
 ·obtain ⟨v,o,ho,hd⟩:=I.cell x c e;exact free c o (fun z=>(hch c z).2.2.1 x c e rfl) ho (I.freeC x c e)
 ·obtain ⟨e,n,ne,nf,d⟩:=I.pin p hp;have nch:p.1 ∉ ch:=fun z=>(hch p.1 z).2.2.2 p hp rfl;exact ⟨keep p.1 p.2 ne nf nch e n,free p.1 p.2 nch e n,ne,nf,d⟩
theorem Inv.un {t':Nat} (I:Inv X aa σ H s) (u:Un X.fs [] H H' s.heap h') (hok:HOk X.prog X.w H' h'):Inv X aa σ H' { s with heap:=h',toks:=t' }:=by
 obtain ⟨m,⟨o,es,ep,ho,r⟩,_⟩:=id I.loc;obtain ⟨sl,hL⟩:=u.any ho I.free (by simp)
 exact I.step (g':=s.gens) (d':=s.drawn) (ch:=[]) (fun _ z=>nomatch z) (fun b o _ hb _ e n=>u.keep b o e n hb (by simp)) (fun b o _ hb _ e n=>u.slot b o e n hb (by simp)) (fun b o _ e n=>u.free b o e n (by simp)) (fun b o _ e=>u.there b o e (by simp)) u.tups u.frzs u.tbls (fun m' hm=>by
  obtain ⟨o',es',ep',ho',r'⟩:=hm;rw [ho] at ho'; cases ho'
  exact ⟨_,es',ep',hL,r'⟩) hok I.bare
theorem Inv.call {g':Array GenState} {t':Nat} {d':Drawn} {ch:List Addr} (I:Inv X aa σ H s) (u:Un (frs X.stack) ch H H' s.heap h') (hok:HOk X.prog X.w H' h') (hg:AllBare g')
  (hch:∀ b ∈ ch,(b ∈ X.ex\/X.s₀.heap.objs.size <= b)/\b ≠ X.env.locals/\(∀ x c,X.env.cells.lookup x=some c->c ≠ b)/\∀ p ∈ X.pn++aa,p.1 ≠ b) :
  Inv X aa σ H' { s with heap:=h',gens:=g',drawn:=d',toks:=t' }:=by
 obtain ⟨m,⟨o,es,ep,ho,r⟩,_⟩:=id I.loc;obtain ⟨sl,hL⟩:=u.any ho I.free fun z=>(hch _ z).2.1 rfl
 exact I.step (ch:=ch) hch (fun b o hL hb hc e n=>u.keep b o e n (fun z=>(mem_cons.mp (I.stkSub b z)).elim hL hb) hc) (fun b o _ _ hc e n=>u.any e n hc) (fun b o hc e n=>u.free b o e n hc) (fun b o hc e=>u.there b o e hc) u.tups u.frzs u.tbls (fun m' hm=>by
  obtain ⟨o',es',ep',ho',r'⟩:=hm;rw [ho] at ho'; cases ho'
  exact ⟨_,es',ep',hL,r'⟩) hok hg
theorem Inv.turned {t':Nat} {it:Addr} (I:Inv X aa σ H s) (k:∀ b o,b ≠ it->s.heap.get? b=some o->h'.get? b=some o) (hn:H it=none) (hL:it ≠ X.env.locals)
  (h1:it ∈ X.ex\/X.s₀.heap.objs.size <= it) (h2:∀ x c,X.env.cells.lookup x=some c->c ≠ it) (h3:∀ p ∈ X.pn++aa,p.1 ≠ it):Inv X aa σ H { s with heap:=h',toks:=t' }:=by
 have nit:∀ b u,H b=some u->b ≠ it:=fun b u e z=>by rw [z,hn] at e; cases e
 refine I.step (g':=s.gens) (d':=s.drawn) (ch:=[it]) (fun b hb=>?_) (fun b o _ _ hc e _=>k b o (fun z=>hc (by simp [z])) e) (fun b o _ _ hc e _=>⟨o.slots,k b o (fun z=>hc (by simp [z])) e⟩) (fun _ _ _ _ n=>n)
  (fun b o hc e=>⟨o,k b o (fun z=>hc (by simp [z])) e⟩) (fun _ _ e=>e) (fun _ _ _ e=>e) (fun b ps e=>⟨#[],by rw [e]; simp⟩) (fun m hm=>?_) (fun b u e=>?_) I.bare
 ·have e:b=it:=by simpa using hb
  subst e;exact ⟨h1,hL,h2,h3⟩
 ·obtain ⟨o,es,ep,ho,r⟩:=hm;exact ⟨o,es,ep,k _ o (Ne.symm hL) ho,r⟩
 ·refine (I.hok b u e).stay (fun c v hc q=>k c v ?_ q) (fun _ q=>q) fun _ _ q=>q;rcases hc with z | z
  ·rw [z]; exact nit b u e
  ·exact nit c _ z
theorem Inv.tok (I:Inv X aa σ H s) (t:Nat):Inv X aa σ H { s with toks:=t }:=I.un (h':=s.heap) (t':=t) Un.refl I.hok
theorem Inv.kept {t':Nat} (I:Inv X aa σ H s) (k:∀ b u,s.heap.get? b=some u->h'.get? b=some u):Inv X aa σ H { s with heap:=h',toks:=t' }:=I.un (Un.kept k) (I.hok.kept k)
theorem Inv.laid {a:Addr} {o:HO} {t':Nat} (I:Inv X aa σ H s) (k:∀ b u,s.heap.get? b=some u->h'.get? b=some u) (hp:s.heap.objs.size <= a) (new:ObjOk X.prog X.w (upd H a o) h' a o) :
  Inv X aa σ (upd H a o) { s with heap:=h',toks:=t' }:=I.un (Un.laid k hp (I.hok.fresh hp)) (I.hok.laid k hp new)
theorem Inv.write {x e:Addr} {o:HO} {t':Nat} (I:Inv X aa σ H s) (mu:Mut (H x)) (he:e=x\/H e=some (.own x)) (k:∀ b u,b ≠ e->s.heap.get? b=some u->h'.get? b=some u) (heo:∃ u,h'.get? e=some u)
  (new:ObjOk X.prog X.w (upd H x o) h' x o):Inv X aa σ (upd H x o) { s with heap:=h',toks:=t' }:=I.un (Un.write mu he k heo) (I.hok.write mu he k heo new)
theorem Inv.weak {σ':List (Option V)} (I:Inv X aa σ H s) (hl:σ'.length=σ.length) (w:∀ (i:Nat) v,σ'[i]?=some (some v)->σ[i]?=some (some v)):Inv X aa σ' H s :=
 ⟨I.ok,I.os,I.bare,I.base,let ⟨m,hn,hl'⟩:=I.loc; ⟨m,hn,fun i x v e1 e2 e3=>hl' i x v e1 (w i v e2) e3⟩,I.cell,I.free,I.freeC,I.pin,I.hok,hl.trans I.len⟩
theorem Inv.pins_of {pins':LO} (I:Inv X aa σ H s) (h:∀ p ∈ pins',s.heap.get? p.1=some p.2/\H p.1=none/\p.1 ≠ X.env.locals/\p.1 ∉ X.fs/\∀ v,p.2.data ≠ .cell v):Inv X pins' σ H s :=
 ⟨I.ok,I.os,I.bare,I.base,I.loc,I.cell,I.free,I.freeC,fun p hp=>(mem_append.mp hp).elim (fun z=>I.pin p (mem_append_left _ z)) (h p),I.hok,I.len⟩
theorem JF {N:List Str} (hN:N.Nodup) {i j:Nat} {x:Str} (a:N[i]?=some x) (b:N[j]?=some x):i=j:=by
 obtain ⟨h1,e1⟩:=List.getElem?_eq_some_iff.mp a;obtain ⟨h2,e2⟩:=List.getElem?_eq_some_iff.mp b;exact (List.getElem_inj hN).mp (e1.trans e2.symm)
theorem HN {M:Model} {A:Around} {E:VS} {i:Nat} {x:Str} {v:V} {u:Value} {Q:Unit->Shared->Prop} (I:Inv X aa σ H s) (hN:X.N.Nodup) (hi:X.N[i]?=some x) (hx:Loc X.env.scope x) (r:RelV v u)
  (h:∀ s',Inv X aa (σ.set i (some v)) H s'->(∃ a,Heap.SameBut a s.heap s'.heap/\(a=X.env.locals\/X.env.cells.lookup x=some a))->Q () s') (hf:X.fn x=true\/X.env.scope.names.lookup x=some .local:=by first | exact .inl rfl | exact .inr rfl | assumption):wpAny M A (storeName X.env x u) Q E s:=by
 obtain ⟨m,hn,hl⟩:=id I.loc;have bj:(X.env.scope.kind == .class || (X.env.scope.kind == .module && X.env.locals != X.env.globals))=false:=by rw [I.ok.kind]; rfl
 have hiσ:i < σ.length:=by rw [I.len]; exact (List.getElem?_eq_some_iff.mp hi).1
 have cne:=I.cne
 have tracked:∀ {a:Addr} {h':Heap},(∃ o,s.heap.get? a=some o/\H a=none)->Heap.SameBut a s.heap h'->HOk X.prog X.w H h':=fun {a h'} ha hs b ob e=>by
  obtain ⟨_,_,bz⟩:=ha;refine (I.hok b ob e).stay (fun c w' hc q=>(hs.2 c ?_).trans q) (fun _ q=>q) fun _ _ q=>q;rintro rfl;rcases hc with rfl | hc
  ·rw [bz] at e; cases e
  ·rw [bz] at hc; cases hc
 rcases hx with hk | hk
 ·refine wpAny_storeName_local hk hn (fun h' hn' hs=>?_) bj;obtain ⟨oL,_,_,hoL,_⟩:=id hn;refine h _ ⟨I.ok,I.os,I.bare,⟨fun b o e n hb hx=>?_,fun b o e n hb hx=>?_,I.base.free,fun b o e hx=>?_,I.base.tups,I.base.frzs,I.base.tbls⟩,⟨_,hn',fun j y v' e1 e2 e3=>?_⟩,fun y c e=>?_,I.free,I.freeC,fun p hp=>?_,tracked ⟨oL,hoL,I.free⟩ hs,by simpa using I.len⟩ ⟨_,hs,.inl rfl⟩
  ·exact (hs.2 b (Nat.ne_of_lt (Nat.lt_of_lt_of_le (lt_size e) I.ok.above))).trans (I.base.keep b o e n hb hx)
  ·obtain ⟨sl,e1⟩:=I.base.slot b o e n hb hx;exact ⟨sl,(hs.2 b (Nat.ne_of_lt (Nat.lt_of_lt_of_le (lt_size e) I.ok.above))).trans e1⟩
  ·obtain ⟨o',e1⟩:=I.base.there b o e hx;exact ⟨o',(hs.2 b (Nat.ne_of_lt (Nat.lt_of_lt_of_le (lt_size e) I.ok.above))).trans e1⟩
  ·by_cases hj:j=i
   ·subst hj;rw [hi] at e1; cases e1;rw [List.getElem?_set_self hiσ] at e2;cases e2;exact ⟨u,r,.inl ⟨hk,by simp⟩⟩
   ·rw [List.getElem?_set_ne (Ne.symm hj)] at e2;obtain ⟨u',r',q⟩:=hl j y v' e1 e2 e3;refine ⟨u',r',?_⟩;rcases q with ⟨k,e⟩ | ⟨k,c,e,z⟩
    ·refine .inl ⟨k,?_⟩;have:y ≠ x:=fun e=>hj (JF hN e1 (e ▸ hi));simp [this,e]
    ·exact .inr ⟨k,c,e,z.sameBut hs (cne y c e)⟩
  ·obtain ⟨w',z⟩:=I.cell y c e;exact ⟨w',z.sameBut hs (cne y c e)⟩
  ·obtain ⟨e,n,ne,nf,d⟩:=I.pin p hp;exact ⟨(hs.2 p.1 ne).trans e,n,ne,nf,d⟩
 ·have hfn:X.fn x=true:=by
   rcases hf with z | z
   ·exact z
   ·rw [z] at hk; cases hk
  obtain ⟨c,hc⟩:=I.ok.has x (.inl hk);obtain ⟨w',z⟩:=I.cell x c hc;refine wpAny_storeName_cell I.ok.kind hk hc z (fun h' hc' hs=>?_);obtain ⟨oc,hoc,hocd⟩:=id z;refine h { s with heap:=h' } ⟨I.ok,I.os,I.bare,⟨fun b o e n hb hx=>?_,fun b o e n hb hx=>?_,I.base.free,fun b o e hx=>?_,I.base.tups,I.base.frzs,I.base.tbls⟩,⟨m,hn.sameBut hs (Ne.symm (cne x c hc)),fun j y v' e1 e2 e3=>?_⟩,fun y c' e=>?_,I.free,I.freeC,fun p hp=>?_,tracked ⟨oc,hoc,I.freeC x c hc⟩ hs,by simpa using I.len⟩ ⟨c,hs,.inr hc⟩
  ·exact (hs.2 b (Nat.ne_of_lt (Nat.lt_of_lt_of_le (lt_size e) (I.ok.cab x c hfn hc)))).trans (I.base.keep b o e n hb hx)
  ·obtain ⟨sl,e1⟩:=I.base.slot b o e n hb hx;exact ⟨sl,(hs.2 b (Nat.ne_of_lt (Nat.lt_of_lt_of_le (lt_size e) (I.ok.cab x c hfn hc)))).trans e1⟩
  ·obtain ⟨o',e1⟩:=I.base.there b o e hx;exact ⟨o',(hs.2 b (Nat.ne_of_lt (Nat.lt_of_lt_of_le (lt_size e) (I.ok.cab x c hfn hc)))).trans e1⟩
  ·by_cases hj:j=i
   ·subst hj;rw [hi] at e1; cases e1;rw [List.getElem?_set_self hiσ] at e2;cases e2;exact ⟨u,r,.inr ⟨.inl hk,c,hc,hc'⟩⟩
   ·rw [List.getElem?_set_ne (Ne.symm hj)] at e2;obtain ⟨u',r',q⟩:=hl j y v' e1 e2 e3;refine ⟨u',r',?_⟩;rcases q with q | ⟨k,c',e,z'⟩
    ·exact .inl q
    ·refine .inr ⟨k,c',e,z'.sameBut hs ?_⟩;rintro rfl;exact hj (JF hN e1 (I.ok.inj _ _ _ e hc ▸ hi))
  ·by_cases hcc:c'=c
   ·subst hcc; exact ⟨_,hc'⟩
   ·obtain ⟨w2,z2⟩:=I.cell y c' e;exact ⟨w2,z2.sameBut hs hcc⟩
  ·obtain ⟨e,n,ne,nf,d⟩:=I.pin p hp;refine ⟨(hs.2 p.1 ?_).trans e,n,ne,nf,d⟩;intro q;rw [q,hoc] at e;have q':oc=p.2:=Option.some.inj e;exact d w' (by rw [← q']; exact hocd)
theorem CM {M:Model} {A:Around} {E:VS} {i:Nat} {x:Str} {v:V} {u:Value} {Q:Unit->Shared->Prop} (I:Inv X aa σ H s) (hN:X.N.Nodup) (hi:X.N[i]?=some x) (hx:Loc X.env.scope x) (r:RelV v u)
  (h:∀ s',Inv X aa (σ.set i (some v)) H s'->Q () s') (hf:X.fn x=true\/X.env.scope.names.lookup x=some .local:=by first | exact .inl rfl | exact .inr rfl | assumption):wpAny M A (storeName X.env x u) Q E s :=
 HN I hN hi hx r (fun s' I' _=>h s' I') hf
theorem Inv.call' {s':Shared} {ch:List Addr} (I:Inv X aa σ H s) (ho:s'.os=s.os) (u:Un (frs X.stack) ch H H' s.heap s'.heap) (hok:HOk X.prog X.w H' s'.heap) (hg:AllBare s'.gens)
  (hch:∀ b ∈ ch,(b ∈ X.ex\/X.s₀.heap.objs.size <= b)/\b ≠ X.env.locals/\(∀ x c,X.env.cells.lookup x=some c->c ≠ b)/\∀ p ∈ X.pn++aa,p.1 ≠ b):Inv X aa σ H' s':=by
 obtain ⟨h',g',d',t',o'⟩:=s';have e:o'=s.os:=ho;subst e;exact I.call (g':=g') (t':=t') (d':=d') u hok hg hch
end
abbrev XK:=Value->Option Addr->Hp->Prop
abbrev St:=List (Option V)
abbrev VK:=V->Hp->Prop
abbrev TE:=St->Hp->VK->Prop
abbrev TT:=St->Hp->(Bool->Hp->Prop)->Prop
abbrev TA:=St->Hp->(List V->Hp->Prop)->Prop
structure D7 where
 nx:St->Hp->Prop
 rt:VK
 bk:St->Hp->Prop:=fun _ _=>False
 ct:St->Hp->Prop:=fun _ _=>False
abbrev TS:=D7->St->Hp->Prop
inductive EP (X:Cx) (aa:LO) (σ:St) (Q:VK) (u:Value) (s':Shared):Prop where
 | mk (v:V) (H':Hp) (i:Inv X aa σ H' s') (r:RelV v u) (q:Q v H'):EP X aa σ Q u s'
def TP (X:Cx) (aa:LO) (σ:St) (Q:Bool->Hp->Prop) (b:Bool) (s':Shared):Prop:=∃ H',Inv X aa σ H' s'/\Q b H'
inductive AP (X:Cx) (aa:LO) (σ:St) (Q:List V->Hp->Prop) (us:List Value) (s':Shared):Prop where
 | mk (vs:List V) (H':Hp) (i:Inv X aa σ H' s') (r:Vals vs us) (q:Q vs H'):AP X aa σ Q us s'
def SP (X:Cx) (aa:LO) (D:D7) (f:Flow) (s':Shared):Prop :=
 match f with
 | .next=>∃ σ' H',Inv X aa σ' H' s'/\D.nx σ' H'
 | .brk=>∃ σ' H',Inv X aa σ' H' s'/\D.bk σ' H'
 | .cont=>∃ σ' H',Inv X aa σ' H' s'/\D.ct σ' H'
 | .ret u=>∃ v σ' H',Inv X aa σ' H' s'/\RelV v u/\D.rt v H'
def PE (X:Cx) (e:Expr) (t:TE):Prop :=
 ∀ (aa:LO) (s:Shared) (σ:St) (H:Hp) (Q:VK),Inv X aa σ H s->t σ H Q->wpAny (model X.prog X.w) X.A (eval e X.env) (EP X aa σ Q) X.xe s
def PT (X:Cx) (e:Expr) (t:TT):Prop :=
 ∀ (aa:LO) (s:Shared) (σ:St) (H:Hp) (Q:Bool->Hp->Prop),Inv X aa σ H s->t σ H Q->wpAny (model X.prog X.w) X.A (isTrue e X.env (eval e X.env)) (TP X aa σ Q) X.xe s
def PW (X:Cx) (e:Expr) (t:TT):Prop :=
 ∀ (whole:Sem Value) (aa:LO) (s:Shared) (σ:St) (H:Hp) (Q:Bool->Hp->Prop),Inv X aa σ H s->t σ H Q->wpAny (model X.prog X.w) X.A (isTrue e X.env whole) (TP X aa σ Q) X.xe s
theorem PW.pt {X:Cx} {e:Expr} {t:TT} (h:PW X e t):PT X e t:=h _
def PA (X:Cx) (es:List Expr) (t:TA):Prop :=
 ∀ (pos:Pos) (aa:LO) (s:Shared) (σ:St) (H:Hp) (Q:List V->Hp->Prop),Inv X aa σ H s->t σ H Q->wpAny (model X.prog X.w) X.A (spliced (backTo pos (starEach es X.env))) (AP X aa σ Q) X.xe s
def PS (X:Cx) (st:Stmt) (t:TS):Prop :=
 ∀ (aa:LO) (s:Shared) (σ:St) (H:Hp) (D:D7),Inv X aa σ H s->t D σ H->wpAny (model X.prog X.w) X.A (exec st X.env) (SP X aa D) X.xe s
def PSs (X:Cx) (st:List Stmt) (t:TS):Prop :=
 ∀ (aa:LO) (s:Shared) (σ:St) (H:Hp) (D:D7),Inv X aa σ H s->t D σ H->wpAny (model X.prog X.w) X.A (execs st X.env) (SP X aa D) X.xe s
theorem thn {α:Type} {t:Sem α} {Q Q':α->Shared->Prop} {M:Model} {A:Around} {E:VS} {s:Shared} (h:wpAny M A t Q E s) (hQ:∀ a s,Q a s->Q' a s):wpAny M A t Q' E s:=wpAny_mono h hQ fun _ _ x=>x
end L2
variable {X:L2.Cx} {H:L2.Hp} {H':L2.Hp} {s:PySem.Shared} {pos:PySem.Pos} {σ:L2.St} {P:PySem.Program} {w:PySem.World} {A:PySem.Around} {aa:LO} {x:PySem.Str} {a:PySem.Addr} {K:FG} {C:PySem.Addr} {E:VS} {h:PySem.Heap} {us:List PySem.Value} {u:PySem.Value} {xs:List L2.V} {e:PySem.Expr} {te:L2.TE} {base:PySem.Heap} {N:List PySem.Str} {mg:SV}
namespace L2
open PySem PySem.Spec PyProof.Rows
section
inductive ExV (o:Option (Option V)) (k:V->Prop):Prop where
 | mk (v:V) (h:o=some (some v)) (q:k v):ExV o k
inductive ExB (x:V) (k:Bool->Prop):Prop where
 | mk (c:Bool) (h:x=.bl c) (q:k c):ExB x k
inductive ExI (x y:V) (k:Int->Int->Prop):Prop where
 | mk (i j:Int) (h:x=.int i) (h':y=.int j) (q:k i j):ExI x y k
def Fu (i:Nat):TE:=fun σ H Q=>ExV σ[i]? fun v=>Q v H
def tC (v:V):TE:=fun _ H Q=>Q v H
theorem Nm {i:Nat} (hN:X.N[i]?=some x) (hv:Vis X.env.scope x) (hd:(x == ("__debug__" : Str))=false:=by decide) (hcd:(x == ("__classdict__" : Str))=false:=by decide):PE X (.Name x pos) (Fu i):=by
 intro aa s σ H Q I h;obtain ⟨v,e,h⟩:=h;obtain ⟨m,hn,hl⟩:=I.loc;obtain ⟨u,r,l⟩:=hl i x v hN e hv;have fin:EP X aa σ Q u s:=⟨v,H,I,r,h⟩;rcases l with ⟨hk,hm⟩ | ⟨hk,c,hc,bi⟩
 ·exact wpAny_Name (wpAny_loadName_local I.ok.kind hk hn hm fin) hd
 ·rcases hk with hk | hk
  ·exact wpAny_Name (wpAny_loadName_cell I.ok.kind hk hc bi fin) hd
  ·exact wpAny_Name (wpAny_loadName_free I.ok.kind hk hc bi fin hcd) hd
theorem AF {i j pos}:PE X (.Constant (.int i) j pos) (tC (.int i)):=fun _ _ _ H _ I h=>wpAny_Constant_int ⟨.int i,H,I.tok _,⟨_,rfl⟩,h⟩
theorem DH {b j pos}:PE X (.Constant (.bool b) j pos) (tC (.bl b)):=fun _ _ _ H _ I h=>Constant_bool ⟨.bl b,H,I,rfl,h⟩
theorem Rj {j pos}:PE X (.Constant .none j pos) (tC .non):=fun _ _ _ H _ I h=>Constant_none ⟨.non,H,I,rfl,h⟩
theorem AN {x j pos}:PE X (.Constant (.str x) j pos) (tC (.str x)):=fun _ _ _ H _ I h=>Calls.Constant_str ⟨.str x,H,I.tok _,⟨_,rfl⟩,h⟩
def Gl (X:Cx) (x:Str):Prop:=X.env.kindOf x=some .globalImplicit
theorem Bb {Q:VS} (I:Inv X aa σ H s) (hg:Gl X x) (hm:X.mg x=some u) (h:Q u s)
  (hd:(x == ("__debug__" : Str))=false:=by decide):wpAny (model X.prog X.w) X.A (eval (.Name x pos) X.env) Q E s :=
 Calls.Name_function_global I.ok.kind hg (Calls.loadGlobal_global (by rw [I.ok.glob]; exact I.mod.glob.keeps I.bk) hm h) hd
theorem D8 {Q:VS} (I:Inv X aa σ H s) (hg:Gl X x) (hm:X.mg x=none) (hv:bootBuiltins x=some u) (h:Q u s)
  (hn:x ≠ "__name__" := by decide) (hd:(x == ("__debug__" : Str))=false:=by decide):wpAny (model X.prog X.w) X.A (eval (.Name x pos) X.env) Q E s:=by
 obtain ⟨mb,h1,h2⟩:=I.mod.blt;exact Calls.Name_function_global I.ok.kind hg (Calls.loadGlobal_builtin (by rw [I.ok.glob]; exact I.mod.glob.keeps I.bk) hm (by rw [I.ok.blt]; exact h1.keeps I.bk) ((h2 x hn).trans hv) h) hd
theorem A8 {v:V} (hg:Gl X x) (hm:X.mg x=some u) (r:RelV v u) (hd:(x == ("__debug__" : Str))=false:=by decide):PE X (.Name x pos) (tC v) :=
 fun _ _ _ H _ I h=>Bb I hg hm ⟨v,H,I,r,h⟩ hd
theorem LZ {v:V} (hg:Gl X x) (hm:X.mg x=none) (hv:bootBuiltins x=some u) (r:RelV v u) (hn:x ≠ "__name__" := by decide) (hd:(x == ("__debug__" : Str))=false:=by decide):PE X (.Name x pos) (tC v) :=
 fun _ _ _ H _ I h=>D8 I hg hm hv ⟨v,H,I,r,h⟩ hn hd
variable {a b:Expr} {ta tb:TE}
def PC (X:Cx) (op:CmpOp) (a b:Expr) (t:TE):Prop :=
 ∀ (aa:LO) (s:Shared) (σ:St) (H:Hp) (Q:VK),Inv X aa σ H s->t σ H Q ->
  wpAny (model X.prog X.w) X.A (eval a X.env) (fun v s₁=>wpAny (model X.prog X.w) X.A (eval b X.env) (fun u s₂=>wpAny (model X.prog X.w) X.A (compareOp op v u) (EP X aa σ Q) X.xe s₂) X.xe s₁) X.xe s
theorem JG (b:Expr) {op:CmpOp} (h:op ≠ .In) (h2:op ≠ .NotIn):behindInMarks op b=false:=by
 have e1:(op == CmpOp.In)=false:=by cases op <;> first | rfl | exact absurd rfl h
 have e2:(op == CmpOp.NotIn)=false:=by cases op <;> first | rfl | exact absurd rfl h2
 cases b <;> simp [behindInMarks,e1,e2]
def UJ (ta:TE):TE:=fun σ H Q=>ta σ H fun x H1=>Q (.bl (decide (x=.non))) H1
theorem RelV.none_iff {x:V} {v:Value} (r:RelV x v):(v == Value.none)=decide (x=.non):=by
 cases x with
 | non=>cases r; rfl
 | bl _=>cases r; rfl
 | int _=>obtain ⟨t,rfl⟩:=r; rfl
 | str _=>obtain ⟨t,rfl⟩:=r; rfl
 | byt _=>obtain ⟨t,rfl⟩:=r; rfl
 | flt _=>obtain ⟨t,rfl⟩:=r; rfl
 | ref _=>cases r; rfl
 | ty _=>cases r; rfl
theorem KG {j pos'} (ha:PE X a ta):PC X .Is a (.Constant .none j pos') (UJ ta):=by
 intro aa s σ H Q I h;refine thn (ha aa s σ H _ I h) fun v s1 ⟨x,H1,I1,r1,q1⟩=>?_;exact Constant_none (is_none_gen ⟨.bl _,H1,I1,by rw [r1.none_iff]; rfl,q1⟩)
def tB (t:TE):TT:=fun σ H Q=>t σ H fun x H1=>ExB x fun c=>Q c H1
theorem Rk {op:CmpOp} {t:TE} (h:PC X op a b t) (h1:behindInMarks op b=false:=by first | exact JG _ (by decide) (by decide) | rfl):PE X (.Compare a [op] [b] pos) t:=fun aa s σ H Q I hw=>wpAny_Compare1 (h aa s σ H Q I hw) h1
theorem F7 {op:CmpOp} {t:TE} (h:PC X op a b t) (h1:behindInMarks op b=false:=by first | exact JG _ (by decide) (by decide) | rfl):PT X (.Compare a [op] [b] pos) (tB t):=by
 intro aa s σ H Q I hw;refine wpAny_isTrue_Compare1 (thn (h aa s σ H _ I hw) fun v s1 h1=>thn h1 fun u s2 h2=>thn h2 fun c s3 ⟨x,H1,I1,r1,q1⟩=>?_) h1;obtain ⟨d,rfl,q⟩:=q1;cases r1;exact wpAny_truthy_bool ⟨H1,I1,q⟩
theorem A2 {t:TE} (h:PE X e t) (he:∀ whole,isTrue e X.env whole=(do let v ← whole; standAt e.pos; holding [v] (truthy v)):=by intro _; rfl):PT X e (tB t):=by
 intro aa s σ H Q I hw;refine isTrue_plain (thn (h aa s σ H _ I hw) fun v s1 ⟨x,H1,I1,r1,q1⟩=>?_) (he _);obtain ⟨d,rfl,q⟩:=q1;cases r1;exact wpAny_truthy_bool ⟨H1,I1,q⟩
variable {tA tB':TT} {rest:List Expr}
def S7 (t u:TT):TT:=fun σ H Q=>t σ H fun c H1=>if c=true then u σ H1 Q else Q false H1
def tOr (t u:TT):TT:=fun σ H Q=>t σ H fun c H1=>if c=true then Q true H1 else u σ H1 Q
def UK (t:TT):TT:=fun σ H Q=>t σ H fun c H1=>Q (!c) H1
theorem Bc (ha:PT X a tA):PW X (.BoolOp .And [a] pos) tA:=by
 intro wh aa s σ H Q I h;refine isTrue_and (thn (ha aa s σ H Q I h) fun c s1 e=>?_);cases c with
 | true=>exact isTrue_and_nil e
 | false=>exact e
theorem CN (ha:PT X a tA):PW X (.BoolOp .Or [a] pos) tA:=by
 intro wh aa s σ H Q I h;refine isTrue_or (thn (ha aa s σ H Q I h) fun c s1 e=>?_);cases c with
 | false=>exact isTrue_or_nil e
 | true=>exact e
theorem B6 (ha:PT X a tA) (hb:PW X (.BoolOp .And (b :: rest) pos) tB'):PW X (.BoolOp .And (a :: b :: rest) pos) (S7 tA tB'):=by
 intro wh aa s σ H Q I h;refine isTrue_and (thn (ha aa s σ H _ I h) fun c s1 ⟨H1,I1,q1⟩=>?_);cases c with
 | true=>exact hb wh aa s1 σ H1 Q I1 q1
 | false=>exact ⟨H1,I1,q1⟩
theorem DR (ha:PT X a tA) (hb:PW X (.BoolOp .Or (b :: rest) pos) tB'):PW X (.BoolOp .Or (a :: b :: rest) pos) (tOr tA tB'):=by
 intro wh aa s σ H Q I h;refine isTrue_or (thn (ha aa s σ H _ I h) fun c s1 ⟨H1,I1,q1⟩=>?_);cases c with
 | true=>exact ⟨H1,I1,q1⟩
 | false=>exact hb wh aa s1 σ H1 Q I1 q1
theorem BV (ha:PT X a tA):PT X (.UnaryOp .Not a pos) (UK tA):=by
 intro aa s σ H Q I h;exact isTrue_not (ha aa s σ H (fun c H1=>Q (!c) H1) I h)
def S8 (ta tb:TE):TE:=fun σ H Q=>ta σ H fun x H1=>ExB x fun c=>if c=true then tb σ H1 Q else Q (.bl false) H1
def UL (ta tb:TE):TE:=fun σ H Q=>ta σ H fun x H1=>ExB x fun c=>if c=true then Q (.bl true) H1 else tb σ H1 Q
def S9 (ta:TE):TE:=fun σ H Q=>ta σ H fun x H1=>ExB x fun c=>Q (.bl (!c)) H1
theorem B7 {op} {t:TE} (h:PE X a t):PE X (.BoolOp op [a] pos) t:=fun aa s σ H Q I hw=>BoolOp_one (h aa s σ H Q I hw)
theorem Bj (ha:PE X a ta) (hb:PE X (.BoolOp .And (b :: rest) pos) tb):PE X (.BoolOp .And (a :: b :: rest) pos) (S8 ta tb):=by
 intro aa s σ H Q I h;refine BoolOp_and (thn (ha aa s σ H _ I h) fun v s1 ⟨x,H1,I1,r1,q1⟩=>?_);obtain ⟨c,rfl,q1⟩:=q1;cases r1;refine wpAny_truthy_bool ?_;cases c with
 | true=>exact hb aa s1 σ H1 Q I1 q1
 | false=>exact ⟨.bl false,H1,I1,rfl,q1⟩
theorem Q9 (ha:PE X a ta) (hb:PE X (.BoolOp .Or (b :: rest) pos) tb):PE X (.BoolOp .Or (a :: b :: rest) pos) (UL ta tb):=by
 intro aa s σ H Q I h;refine BoolOp_or (thn (ha aa s σ H _ I h) fun v s1 ⟨x,H1,I1,r1,q1⟩=>?_);obtain ⟨c,rfl,q1⟩:=q1;cases r1;refine wpAny_truthy_bool ?_;cases c with
 | false=>exact hb aa s1 σ H1 Q I1 q1
 | true=>exact ⟨.bl true,H1,I1,rfl,q1⟩
theorem Nn (ha:PE X a ta):PE X (.UnaryOp .Not a pos) (S9 ta):=by
 intro aa s σ H Q I h;refine UnaryOp_ (thn (ha aa s σ H _ I h) fun v s1 ⟨x,H1,I1,r1,q1⟩=>?_);obtain ⟨c,rfl,q1⟩:=q1;cases r1;exact not_of (wpAny_truthy_bool ⟨.bl (!c),H1,I1,rfl,q1⟩)
def tIf (t:TT) (ta tb:TE):TE:=fun σ H Q=>t σ H fun c H1=>if c=true then ta σ H1 Q else tb σ H1 Q
theorem BX {c:Expr} (hc:PT X c tA) (ha:PE X a ta) (hb:PE X b tb):PE X (.IfExp c a b pos) (tIf tA ta tb):=by
 intro aa s σ H Q I h;refine wpAny_IfExp (thn (hc aa s σ H _ I h) fun d s1 ⟨H1,I1,q1⟩=>?_);cases d with
 | true=>exact ha aa s1 σ H1 Q I1 q1
 | false=>exact hb aa s1 σ H1 Q I1 q1
end
end L2
namespace L2
open PySem PySem.Spec PyProof.Rows
def SqL (K:FG) (H:Hp) (a:Addr) (xs:List V):Prop :=
 Rd H a (.lst xs) \/
  ∃ (o:Obj) (its:Array Value) (n:Nat),K.lookup a=some o/\o.cls=.type "list" /\ o.dict=none/\o.data=.seq its n/\its.size <= sizeLine/\Vals xs its.toList
def SqT (K:FG) (H:Hp) (a:Addr) (xs:List V):Prop :=
 Rd H a (.tup xs) \/
  ∃ (o:Obj) (its:Array Value) (n:Nat),K.lookup a=some o/\o.cls=.type "tuple" /\ o.data=.seq its n/\its.size <= sizeLine/\Vals xs its.toList
noncomputable def UM:Value->Option V
 | .none=>some .non
 | .bool b=>some (.bl b)
 | .int i _=>some (.int i)
 | .str x _=>some (.str x)
 | .bytes b _=>some (.byt b)
 | .float b _=>some (.flt b)
 | .ref a=>some (.ref a)
 | .type n=>some (.ty n)
 | _=>none
theorem RelV.abs {x:V} (r:RelV x u):UM u=some x:=by
 cases x with
 | non=>cases r; rfl
 | bl _=>cases r; rfl
 | int _=>obtain ⟨t,rfl⟩:=r; rfl
 | str _=>obtain ⟨t,rfl⟩:=r; rfl
 | byt _=>obtain ⟨t,rfl⟩:=r; rfl
 | flt _=>obtain ⟨t,rfl⟩:=r; rfl
 | ref _=>cases r; rfl
 | ty _=>cases r; rfl
theorem RelV.inj {x y:V} {u:Value} (r:RelV x u) (q:RelV y u):x=y:=Option.some.inj (r.abs.symm.trans q.abs)
theorem Vals.inj:∀ {xs ys:List V} {us:List Value},Vals xs us->Vals ys us->xs=ys
 | _,_,_,.nil,.nil=>rfl
 | _,_,_,.cons r t,.cons r' t'=>by rw [r.inj r',Vals.inj t t']
section
variable {ys:List V}
theorem SqL.of (h:H a=some (.lst xs)):SqL K H a xs:=.inl (.inl h)
theorem SqT.of (h:H a=some (.tup xs)):SqT K H a xs:=.inl (.inl h)
theorem Inv.list (I:Inv X aa σ H s) (h:SqL X.K H a xs):∃ its:List Value,Vals xs its/\PlainL s.heap a its.toArray/\xs.length <= sizeLine:=by
 rcases h with h | ⟨o,its,n,hk,hc,hd,hs,hz,r⟩
 ·obtain ⟨z,its,n,r,e⟩:=h.ok I.hok;exact ⟨its,r,⟨_,n,e,rfl,rfl,rfl⟩,z⟩
 ·refine ⟨its.toList,r,⟨o,n,I.kIn a o hk,hc,hd,by simpa using hs⟩,?_⟩;have e:=r.length;simp only [Array.length_toList] at e;omega
theorem Inv.tuple (I:Inv X aa σ H s) (h:SqT X.K H a xs):∃ its:List Value,Vals xs its/\IsTup s.heap a its.toArray/\xs.length <= sizeLine:=by
 rcases h with h | ⟨o,its,n,hk,hc,hs,hz,r⟩
 ·obtain ⟨z,its,r,p⟩:=h.ok I.hok;exact ⟨its,r,p,z⟩
 ·refine ⟨its.toList,r,⟨o,I.kIn a o hk,hc,n,by simpa using hs⟩,?_⟩;have e:=r.length;simp only [Array.length_toList] at e;omega
theorem Inv.list_inj (I:Inv X aa σ H s) (h:SqL X.K H a xs) (h':SqL X.K H a ys):xs=ys:=by
 obtain ⟨its,r,⟨o,n,e,_,_,d⟩,_⟩:=I.list h;obtain ⟨its',r',⟨o',n',e',_,_,d'⟩,_⟩:=I.list h';rw [e] at e'; cases e';rw [d] at d';injection d' with d1 _
 have:its=its':=by simpa using congrArg Array.toList d1
 subst this;exact r.inj r'
theorem Inv.tuple_inj (I:Inv X aa σ H s) (h:SqT X.K H a xs) (h':SqT X.K H a ys):xs=ys:=by
 obtain ⟨its,r,⟨o,e,_,n,d⟩,_⟩:=I.tuple h;obtain ⟨its',r',⟨o',e',_,n',d'⟩,_⟩:=I.tuple h';rw [e] at e'; cases e';rw [d] at d';injection d' with d1 _
 have:its=its':=by simpa using congrArg Array.toList d1
 subst this;exact r.inj r'
end
noncomputable abbrev Cx.wish (X:Cx) (E:VS):Cx:={ X with xe:=E }
noncomputable abbrev Cx.nox (X:Cx):Cx:=X.wish fun _ _=>False
theorem Cx.Ok.wish {X:Cx} (ok:X.Ok) (E:VS):(X.wish E).Ok :=
 ⟨ok.mod,ok.kind,ok.glob,ok.blt,ok.above,ok.inj,ok.has,ok.cab,ok.hd,ok.frames,ok.stk,ok.exf,ok.bs,ok.bsz,ok.noex,ok.exfs,ok.funs,ok.frf⟩
theorem Cx.Ok.unwish (ok:(X.wish E).Ok):X.Ok :=
 ⟨ok.mod,ok.kind,ok.glob,ok.blt,ok.above,ok.inj,ok.has,ok.cab,ok.hd,ok.frames,ok.stk,ok.exf,ok.bs,ok.bsz,ok.noex,ok.exfs,ok.funs,ok.frf⟩
section
theorem Inv.wish (I:Inv X aa σ H s) (E:VS):Inv (X.wish E) aa σ H s:=⟨I.ok.wish E,I.os,I.bare,I.base,I.loc,I.cell,I.free,I.freeC,I.pin,I.hok,I.len⟩
theorem Inv.unwish (I:Inv (X.wish E) aa σ H s):Inv X aa σ H s:=⟨I.ok.unwish,I.os,I.bare,I.base,I.loc,I.cell,I.free,I.freeC,I.pin,I.hok,I.len⟩
theorem SP.unwish {D:D7} {f:Flow} {s':Shared} (h:SP (X.wish E) aa D f s'):SP X aa D f s':=by
 cases f with
 | next=>obtain ⟨σ',H',I,q⟩:=h; exact ⟨σ',H',I.unwish,q⟩
 | brk=>obtain ⟨σ',H',I,q⟩:=h; exact ⟨σ',H',I.unwish,q⟩
 | cont=>obtain ⟨σ',H',I,q⟩:=h; exact ⟨σ',H',I.unwish,q⟩
 | ret u=>obtain ⟨v,σ',H',I,r,q⟩:=h; exact ⟨v,σ',H',I.unwish,r,q⟩
theorem PSs.nox {st:List Stmt} {t:TS} (h:PSs X.nox st t):PSs X st t:=fun aa s σ H D I hw =>
 wpAny_mono (h aa s σ H D (I.wish _) hw) (fun _ _ q=>q.unwish) fun _ _ z=>False.elim z
end
section
variable {st:Stmt} {rest:List Stmt} {t u:TS}
def RB:TS:=fun D σ H=>D.nx σ H
def TB (t u:TS):TS:=fun D σ H=>t { D with nx:=u D } σ H
theorem AV:PSs X [] RB:=fun _ _ σ H _ I h=>wpAny_execs_nil ⟨σ,H,I,h⟩
theorem AE (h1:PS X st t) (h2:PSs X rest u):PSs X (st :: rest) (TB t u):=by
 intro aa s σ H D I h;refine wpAny_execs_cons (thn (h1 aa s σ H { D with nx:=u D } I h) fun f s1 q=>?_);cases f with
 | next =>
  obtain ⟨σ',H',I',q⟩:=q;exact h2 aa s1 σ' H' D I' q
 | ret v=>exact q
 | brk=>exact q
 | cont=>exact q
theorem AD (h1:PS X st t):PSs X [st] t:=by
 intro aa s σ H D I h;refine wpAny_execs_cons (thn (h1 aa s σ H D I h) fun f s1 q=>?_);cases f with
 | next=>exact wpAny_execs_nil q
 | ret v=>exact q
 | brk=>exact q
 | cont=>exact q
theorem Inv.quiet (I:Inv X aa σ H s):interactive X.env=false:=by simp [interactive,I.ok.kind]
def TC (te:TE):TS:=fun D σ H=>te σ H fun _ H1=>D.nx σ H1
theorem BJ (he:PE X e te) (hs:swapsWith e none pos.line X.env=pure false:=by rfl):PS X (.Expr e pos) (TC te):=by
 intro aa s σ H D I h;exact wpAny_Expr_any (thn (he aa s σ H _ I h) fun v s1 ⟨x,H1,I1,r1,q1⟩=>⟨σ,H1,I1,q1⟩) I.quiet hs
def No (te:TE):TS:=fun D σ H=>te σ H D.rt
theorem AL (he:PE X e te):PS X (.Return (some e) pos) (No te):=by
 intro aa s σ H D I h;exact wpAny_Return_some (thn (he aa s σ H _ I h) fun v s1 ⟨x,H1,I1,r1,q1⟩=>⟨x,σ,H1,I1,r1,q1⟩)
def TD (c:TT) (t u:TS):TS:=fun D σ H=>c σ H fun b H1=>if b=true then t D σ H1 else u D σ H1
theorem Ag {c:Expr} {a b:List Stmt} {tc:TT} (hc:PT X c tc) (ha:PSs X a t) (hb:PSs X b u):PS X (.If c a b pos) (TD tc t u):=by
 intro aa s σ H D I h;refine wpAny_If (thn (hc aa s σ H _ I h) fun d s1 ⟨H1,I1,q1⟩=>?_);cases d with
 | true=>exact ha aa s1 σ H1 D I1 q1
 | false=>exact hb aa s1 σ H1 D I1 q1
def Rm:TS:=fun _ _ _=>False
theorem Ah:PS X st Rm:=fun _ _ _ _ _ _ h=>h.elim
end
abbrev TG:=V->St->Hp->(St->Hp->Prop)->Prop
abbrev TGs:=List V->St->Hp->(St->Hp->Prop)->Prop
def PG (X:Cx) (target:Expr) (t:TG):Prop :=
 ∀ (aa:LO) (s:Shared) (σ:St) (H:Hp) (v:V) (u:Value) (Q:St->Hp->Prop),Inv X aa σ H s->RelV v u->t v σ H Q ->
  wpAny (model X.prog X.w) X.A (assign target X.env u) (fun _ s'=>∃ σ' H',Inv X aa σ' H' s'/\Q σ' H') X.xe s
def PGs (X:Cx) (ts:List Expr) (t:TGs):Prop :=
 ∀ (aa:LO) (s:Shared) (σ:St) (H:Hp) (vs:List V) (us:List Value) (Q:St->Hp->Prop),Inv X aa σ H s->Vals vs us->t vs σ H Q ->
  wpAny (model X.prog X.w) X.A (assignInOrder ((assignEach ts X.env).map (·.2)) us) (fun _ s'=>∃ σ' H',Inv X aa σ' H' s'/\Q σ' H') X.xe s
abbrev Ro:=V->V->V->Hp->(Hp->Prop)->Prop
def TF (X:Cx) (t:Ro):Prop :=
 ∀ (aa:LO) (s:Shared) (σ:St) (H:Hp) (o i v:V) (ov iv u:Value) (Q:Hp->Prop),Inv X aa σ H s->RelV o ov->RelV i iv->RelV v u->t o i v H Q ->
  wpAny (model X.prog X.w) X.A (setItem ov iv u) (fun _ s'=>∃ H',Inv X aa σ H' s'/\Q H') X.xe s
abbrev TIp:=V->V->Hp->VK->Prop
def PIp (X:Cx) (op:Operator) (t:TIp):Prop :=
 ∀ (aa:LO) (s:Shared) (σ:St) (H:Hp) (x y:V) (v u:Value) (Q:VK),Inv X aa σ H s->RelV x v->RelV y u->t x y H Q ->
  wpAny (model X.prog X.w) X.A (inplaceOp op v u) (EP X aa σ Q) X.xe s
section
def CW (i:Nat):TG:=fun v σ H Q=>Q (σ.set i (some v)) H
theorem Ae {i:Nat} (hN:X.N.Nodup) (hi:X.N[i]?=some x) (hx:Loc X.env.scope x) (hf:X.fn x=true\/X.env.scope.names.lookup x=some .local:=by first | exact .inl rfl | exact .inr rfl | assumption):PG X (.Name x pos) (CW i):=by
 intro aa s σ H v u Q I r h;exact wpAny_assign_Name (CM I hN hi hx r (fun s' I'=>⟨_,H,I',h⟩) hf)
def Ps:TGs:=fun vs σ H Q=>vs=[]/\Q σ H
inductive ExC (vs:List V) (k:V->List V->Prop):Prop where
 | mk (v:V) (r:List V) (h:vs=v :: r) (q:k v r):ExC vs k
def F8 (t:TG) (u:TGs):TGs:=fun vs σ H Q=>ExC vs fun v r=>t v σ H fun σ' H'=>u r σ' H' Q
theorem Bd:PGs X [] Ps:=by
 intro aa s σ H vs us Q I r h;obtain ⟨e,h⟩:=h;subst e;cases r;exact assignInOrder_nil ⟨σ,H,I,h⟩
theorem Af {es:List Expr} {t:TG} {u:TGs} (h1:PG X e t) (h2:PGs X es u)
  (hs:(assignEach (e :: es) X.env).map (·.2)=assign e X.env :: (assignEach es X.env).map (·.2):=by rfl):PGs X (e :: es) (F8 t u):=by
 intro aa s σ H vs us Q I r h;obtain ⟨v,vr,e1,h⟩:=h;subst e1;cases r with
 | cons r rr =>
  rw [hs];refine assignInOrder_cons (thn (h1 aa s σ H _ _ _ I r h) fun _ s1 ⟨σ1,H1,I1,q1⟩=>?_);exact h2 aa s1 σ1 H1 _ _ Q I1 rr q1
inductive ExT (K:FG) (n:Nat) (v:V) (H:Hp) (k:List V->Prop):Prop where
 | mk (a:Addr) (xs:List V) (h1:v=.ref a) (h2:SqT K H a xs) (h3:xs.length=n) (q:k xs):ExT K n v H k
def Pt (K:FG) (n:Nat) (t:TGs):TG:=fun v σ H Q=>ExT K n v H fun xs=>t xs σ H Q
theorem B8 {es:List Expr} {k:Nat} {t:TGs} {n:Nat} (hc:X.calm=true) (h:PGs X es t)
  (hn:(assignEach es X.env).length=n:=by rfl) (hst:(assignEach es X.env).findIdx? (·.1)=none:=by rfl):PG X (.Tuple es k pos) (Pt X.K n t):=by
 intro aa s σ H v u Q I r hw;obtain ⟨a,xs,e1,hq,hl,hw⟩:=hw;subst e1;cases r;obtain ⟨its,rv,ht,hz⟩:=I.tuple hq;refine assign_Tuple_tuple (I.ok.hd hc) ht (by simp [hn,← hl,rv.length]) hst fun h' hx=>?_;have I1:Inv X aa σ H { s with heap:=h' }:=I.kept (t':=s.toks) fun b o e=>hx b o (Nat.ne_of_lt (lt_size e)) e;exact h aa _ σ H xs _ Q I1 (by simpa using rv) hw
def UN (to ti:TE) (t:Ro):TG:=fun v σ H Q=>to σ H fun o H1=>ti σ H1 fun i H2=>t o i v H2 fun H3=>Q σ H3
theorem IK {o i:Expr} {to ti:TE} {t:Ro} (ho:PE X o to) (hi:PE X i ti) (hs:TF X t)
  (ha:∀ v,assign (.Subscript o i pos) X.env v=(do
   let ov ← holding [v] (eval o X.env)
   let iv ← holding [v,ov] (eval i X.env)
   standAt pos
   holding [v,ov,iv] (setItem ov iv v)
   release [v,ov,iv] []):=by intro _; rfl):PG X (.Subscript o i pos) (UN to ti t):=by
 intro aa s σ H v u Q I r h;rw [ha];refine wpAny_bind (wpAny_holding (thn (ho aa s σ H _ I h) fun ov s1 ⟨x,H1,I1,r1,q1⟩=>?_));refine wpAny_bind (wpAny_holding (thn (hi aa s1 σ H1 _ I1 q1) fun iv s2 ⟨y,H2,I2,r2,q2⟩=>?_));refine wpAny_bind (wpAny_standAt (wpAny_bind (wpAny_holding (thn (hs aa s2 σ H2 x y v ov iv u _ I2 r1 r2 r q2) fun _ s3 ⟨H3,I3,q3⟩=>?_))));exact wpAny_release ⟨σ,H3,I3,q3⟩
def Rp (te:TE) (g:TG):TS:=fun D σ H=>te σ H fun x H1=>g x σ H1 D.nx
theorem Ch {tg:Expr} {g:TG} (he:PE X e te) (hg:PG X tg g) (hs:swapsWithSole [tg] e pos.line X.env=pure false:=by rfl) (hw:swappedStores [tg] e X.env=pure none:=by rfl)
  (h1:(assignEach [tg] X.env).map (·.2)=[assign tg X.env]:=by rfl):PS X (.Assign [tg] e pos) (Rp te g):=by
 intro aa s σ H D I h;refine wpAny_Assign_stores (thn (he aa s σ H _ I h) fun v s1 ⟨x,H1,I1,r1,q1⟩=>?_) hs hw;rw [h1];exact thn (hg aa s1 σ H1 x v _ I1 r1 q1) fun _ s2 q=>q
theorem Ac {i:Nat} {pos':Pos} (hN:X.N.Nodup) (hi:X.N[i]?=some x) (hx:Loc X.env.scope x) (he:PE X e te) (hs:swapsWith e (some (.Name x pos')) pos.line X.env=pure false:=by rfl) (hf:X.fn x=true\/X.env.scope.names.lookup x=some .local:=by first | exact .inl rfl | exact .inr rfl | assumption) :
  PS X (.Assign [.Name x pos'] e pos) (Rp te (CW i)):=by
 intro aa s σ H D I h;refine wpAny_Assign_Name (thn (he aa s σ H _ I h) fun v s1 ⟨y,H1,I1,r1,q1⟩=>?_) hs;exact CM I1 hN hi hx r1 (fun s2 I2=>⟨_,H1,I2,q1⟩) hf
def UO (i:Nat) (te:TE) (ti:TIp):TS:=fun D σ H=>∃ x,σ[i]?=some (some x)/\te σ H fun y H1=>ti x y H1 fun z H2=>D.nx (σ.set i (some z)) H2
theorem KH {i:Nat} {op:Operator} {ti:TIp} {pos':Pos} (hN:X.N.Nodup) (hi:X.N[i]?=some x) (hx:Loc X.env.scope x) (he:PE X e te) (ho:PIp X op ti) (hf:X.fn x=true\/X.env.scope.names.lookup x=some .local:=by first | exact .inl rfl | exact .inr rfl | assumption) :
  PS X (.AugAssign (.Name x pos') op e pos) (UO i te ti):=by
 intro aa s σ H D I h;obtain ⟨v,e1,h⟩:=h;obtain ⟨m,hn,hl⟩:=I.loc;have vis:Vis X.env.scope x:=by rcases hx with k | k; exact .inl k; exact .inr (.inl k)
 obtain ⟨u,r,l⟩:=hl i x v hi e1 vis;refine wpAny_AugAssign_Name ?_
 have go:wpAny (model X.prog X.w) X.A (eval e X.env) (fun w s₂=>wpAny (model X.prog X.w) X.A (inplaceOp op u w) (fun r s₃=>wpAny (model X.prog X.w) X.A (storeName X.env x r) (fun _=>SP X aa D .next) X.xe s₃) X.xe s₂) X.xe s:=by
  refine thn (he aa s σ H _ I h) fun w s1 ⟨y,H1,I1,r1,q1⟩=>?_;refine thn (ho aa s1 σ H1 v y u w _ I1 r r1 q1) fun z s2 ⟨zv,H2,I2,r2,q2⟩=>?_;exact CM I2 hN hi hx r2 (fun s3 I3=>⟨_,H2,I3,q2⟩) hf
 rcases l with ⟨hk,hm⟩ | ⟨hk,c,hc,bi⟩
 ·exact wpAny_loadName_local I.ok.kind hk hn hm go
 ·rcases hk with hk | hk
  ·exact wpAny_loadName_cell I.ok.kind hk hc bi go
  ·rcases hx with k | k
   ·have:X.env.scope.names.lookup x=some .free:=hk;rw [k] at this; cases this
   ·have:X.env.scope.names.lookup x=some .free:=hk;rw [k] at this; cases this
end
section
def Np (c:TT) (tb:TS):TS:=fun D σ H=>∃ W:Nat->St->Hp->Prop,(∃ m,W m σ H)/\∀ m σ H,W m σ H ->
 c σ H fun b H1=>if b=true then ∃ N:St->Hp->Prop,(∀ σ' H',N σ' H'->∃ m',m' < m/\W m' σ' H')/\tb { D with nx:=N,ct:=N,bk:=D.nx } σ H1 else D.nx σ H1
theorem Eh {c:Expr} {body:List Stmt} {tc:TT} {tb:TS} (hp:PassesOwn (model X.prog X.w) X.A X.env X.xe) (hc:PT X c tc) (hb:PSs X body tb):PS X (.While c body [] pos) (Np tc tb):=by
 intro aa s σ H D I h;obtain ⟨W,⟨m0,w0⟩,turn⟩:=h;refine wpAny_While (codeAny_whileLoop (fun n s'=>∃ σ' H',Inv X aa σ' H' s'/\W n σ' H') ?_ m0 ⟨σ,H,I,w0⟩);rintro n s1 ⟨σ1,H1,I1,w1⟩;refine wpAny_passesOwn hp (thn (hc aa s1 σ1 H1 _ I1 (turn n σ1 H1 w1)) fun b s2 ⟨H2,I2,q2⟩=>?_);cases b with
 | true =>
  obtain ⟨N,hN,q2⟩:=q2;rw [if_pos rfl];refine wpAny_passesOwn hp (thn (hb aa s2 σ1 H2 _ I2 q2) fun f s3 q3=>?_);cases f with
  | next =>
   obtain ⟨σ3,H3,I3,n3⟩:=q3;obtain ⟨m',hm,w3⟩:=hN σ3 H3 n3;exact ⟨m',hm,σ3,H3,I3,w3⟩
  | cont =>
   obtain ⟨σ3,H3,I3,n3⟩:=q3;obtain ⟨m',hm,w3⟩:=hN σ3 H3 n3;exact ⟨m',hm,σ3,H3,I3,w3⟩
  | brk=>exact q3
  | ret v=>exact q3
 | false =>
  rw [if_neg Bool.false_ne_true];exact wpAny_execs_nil ⟨σ1,H2,I2,q2⟩
end
structure It where
 go:Nat->Hp->Prop
 yld:Nat->Hp->V->Hp->Prop
 stop:Nat->Hp->Prop
def Ei (X:Cx) (aa:LO) (H:Hp) (b:Addr):Prop :=
 H b=none/\b ≠ X.env.locals/\b ∉ X.fs/\(b ∈ X.ex\/X.s₀.heap.objs.size <= b)/\(∀ x c,X.env.cells.lookup x=some c->c ≠ b)/\∀ p ∈ X.pn++aa,p.1 ≠ b
theorem Inv.fpOk {b:Addr} (I:Inv X aa σ H s) (hb:s.heap.objs.size <= b) (hn:H' b=none):Ei X aa H' b:=by
 refine ⟨hn,Nat.ne_of_gt (Nat.lt_of_lt_of_le I.lt hb),I.nofs hb,.inr (Nat.le_trans I.sz hb),fun x c e z=>?_,fun p hp z=>?_⟩
 ·obtain ⟨v,q⟩:=I.cell x c e;exact absurd (Nat.lt_of_lt_of_le q.lt (by rw [z]; exact hb)) (Nat.lt_irrefl _)
 ·exact absurd (Nat.lt_of_lt_of_le (lt_size (I.pin p hp).1) (by rw [z]; exact hb)) (Nat.lt_irrefl _)
structure KJ (P:Program) (w:World) (K:FG) (tg:Expr) (J:It) (fp:List Addr) (it:Addr) (tn:Nat->Heap->Prop):Prop where
 mem:it ∈ fp
 obj:∀ i h,tn i h->∀ b ∈ fp,∃ o,h.get? b=some o/\∀ v,o.data ≠ .cell v
 keep:∀ i h h',tn i h->(∀ b ∈ fp,∀ o,h.get? b=some o->h'.get? b=some o)->tn i h'
 item:∀ (X:Cx),X.prog=P->X.w=w->X.K=K->X.calm=true->∀ (i:Nat) (aa:LO) (s:Shared) (σ:St) (H:Hp) (E:VS),Inv X aa σ H s->(∀ b ∈ fp,Ei X aa H b)->tn i s.heap->J.go i H ->
  wpAny (model P w) X.A (pyNext (.ref it)) (fun r s1=>∃ u,r=some u /\
   wpAny (model P w) X.A (letOwnedTupleGo tg (.ref it) u) (fun _ s2=>∃ x H',Inv X aa σ H' s2/\RelV x u/\J.yld i H x H'/\tn (i + 1) s2.heap/\∀ b ∈ fp,H' b=none) E s1) E s
 done:∀ (X:Cx),X.prog=P->X.w=w->X.K=K->X.calm=true->∀ (i:Nat) (aa:LO) (s:Shared) (σ:St) (H:Hp) (E:VS),Inv X aa σ H s->(∀ b ∈ fp,Ei X aa H b)->tn i s.heap->J.stop i H ->
  wpAny (model P w) X.A (pyNext (.ref it)) (fun r s1=>r=none/\Inv X aa σ H s1) E s
 self:∀ (A:Around) (i:Nat) (s:Shared) (Q:VS) (E:VS),tn i s.heap->Q (.ref it) s->wpAny (model P w) A (pyIter (.ref it)) Q E s
abbrev TI:=St->Hp->(It->Hp->Prop)->Prop
def PIE (X:Cx) (aa:LO) (σ:St) (tg:Expr) (R:It->Hp->Prop) (itv:Value) (s2:Shared):Prop :=
 ∃ (it:Addr) (fp:List Addr) (tn:Nat->Heap->Prop) (J:It) (H':Hp),itv=.ref it/\Inv X aa σ H' s2/\KJ X.prog X.w X.K tg J fp it tn/\tn 0 s2.heap/\(∀ b ∈ fp,Ei X aa H' b)/\R J H'
def PI (X:Cx) (tg iter:Expr) (wi:TI):Prop :=
 ∀ (aa:LO) (s:Shared) (σ:St) (H:Hp) (R:It->Hp->Prop),Inv X aa σ H s->wi σ H R ->
  wpAny (model X.prog X.w) X.A (eval iter X.env) (fun v s1=>wpAny (model X.prog X.w) X.A (pyIter v) (PIE X aa σ tg R) X.xe s1) X.xe s
theorem La {M:Model} {tg:Expr} {it:Addr} {o:Obj} {n:String} {vs:Array Value} {Q:Unit->Shared->Prop} (ho:s.heap.get? it=some o) (hc:o.cls=.type n) (hd:o.data=.fields vs)
    (hn:["enumerate", "zip", "dict_itemiterator", "dict_reverseitemiterator", "odict_iterator", "itertools.zip_longest", "itertools.pairwise"].contains n=false) (hQ:Q () s):wpAny M A (letOwnedTupleGo tg (.ref it) u) Q E s:=by
  unfold letOwnedTupleGo
  cases tg <;> first
    | exact wpAny_pure hQ
    | (cases u <;> first
        | exact wpAny_pure hQ
        | (refine wpAny_bind (wpAny_load ho ?_)
           rw [hc,hd];show wpAny M A (if (["enumerate", "zip", "dict_itemiterator", "dict_reverseitemiterator", "odict_iterator", "itertools.zip_longest", "itertools.pairwise"].contains n && vs[0]? == some (rawInt _))=true then _ else _) Q E s;rw [if_neg (by intro h; rw [hn,Bool.false_and] at h; cases h)]
           exact wpAny_pure hQ))
noncomputable def Itl (K:FG) (a:Addr):It :=
 ⟨fun i H=>∃ xs x,SqL K H a xs/\xs[i]?=some x,fun i H x H'=>H'=H/\∀ xs,SqL K H a xs->xs[i]?=some x,fun i H=>∃ xs,SqL K H a xs/\xs.length <= i⟩
noncomputable def Itt (K:FG) (a:Addr):It :=
 ⟨fun i H=>∃ xs x,SqT K H a xs/\xs[i]?=some x,fun i H x H'=>H'=H/\∀ xs,SqT K H a xs->xs[i]?=some x,fun i H=>∃ xs,SqT K H a xs/\xs.length <= i⟩
noncomputable def Itr (lo:Int) (n:Nat):It:=⟨fun i _=>i < n,fun i H x H'=>H'=H/\x=.int (lo + i),fun i _=>n <= i⟩
theorem HQ {tg:Expr} (a it:Addr):KJ P w K tg (Itl K a) [it] it (fun i h=>h.IsListIter it a i) where
 mem:=by simp
 obj:=fun i h st b hb=>by
  have e:b=it:=by simpa using hb
  subst e;obtain ⟨o,e,c,d⟩:=st;exact ⟨o,e,fun v z=>by rw [d] at z; cases z⟩
 keep:=fun i h h' st k=>st.at fun o e=>k it (by simp) o e
 item:=by
  intro X hP hw hK hc i aa s σ H E I hf st hg;subst hP hw hK;obtain ⟨xs,x,hq,hx⟩:=hg;obtain ⟨its,rv,p,hz⟩:=I.list hq;obtain ⟨u,hu,ru⟩:=rv.get hx;obtain ⟨f0,f1,f2,f3,f4,f5⟩:=hf it (by simp);refine wpAny_pyNext_list_item st p.isList (x:=u) (by simpa using hu) fun h' st' sb=>?_;have I1:Inv X aa σ H { s with heap:=h' }:=I.turned (t':=s.toks) (fun b o hb e=>(sb.2 b hb).trans e) f0 f1 f3 f4 f5;obtain ⟨o,e,c,d⟩:=id st';exact ⟨u,rfl,La (s:={ s with heap:=h' }) e c d (by decide) ⟨x,H,I1,ru,⟨rfl,fun ys hy=>by rw [I.list_inj hy hq]; exact hx⟩,st',fun b hb=>(hf b hb).1⟩⟩
 done:=by
  intro X hP hw hK hc i aa s σ H E I hf st hg;subst hP hw hK;obtain ⟨xs,hq,hx⟩:=hg;obtain ⟨its,rv,p,hz⟩:=I.list hq;obtain ⟨f0,f1,f2,f3,f4,f5⟩:=hf it (by simp);have hl:=rv.length;exact wpAny_pyNext_list_end (I.ok.hd hc) st p.isList (by simp; omega) fun h' eb=>⟨rfl,I.turned (t':=s.toks) (fun b o hb e=>eb b o hb e) f0 f1 f3 f4 f5⟩
 self:=fun _ _ _ _ _ st h=>wpAny_pyIter_listiter st h
theorem KK {tg:Expr} (a it:Addr):KJ P w K tg (Itt K a) [it] it (fun i h=>h.IsTupleIter it a i) where
 mem:=by simp
 obj:=fun i h st b hb=>by
  have e:b=it:=by simpa using hb
  subst e;obtain ⟨o,e,c,d⟩:=st;exact ⟨o,e,fun v z=>by rw [d] at z; cases z⟩
 keep:=fun i h h' st k=>st.at fun o e=>k it (by simp) o e
 item:=by
  intro X hP hw hK hc i aa s σ H E I hf st hg;subst hP hw hK;obtain ⟨xs,x,hq,hx⟩:=hg;obtain ⟨its,rv,p,hz⟩:=I.tuple hq;obtain ⟨u,hu,ru⟩:=rv.get hx;obtain ⟨f0,f1,f2,f3,f4,f5⟩:=hf it (by simp);refine wpAny_pyNext_tuple_item st (show s.heap.IsTuple a its.toArray from p) (x:=u) (by simpa using hu) fun h' st' sb=>?_;have I1:Inv X aa σ H { s with heap:=h' }:=I.turned (t':=s.toks) (fun b o hb e=>(sb.2 b hb).trans e) f0 f1 f3 f4 f5;obtain ⟨o,e,c,d⟩:=id st';exact ⟨u,rfl,La (s:={ s with heap:=h' }) e c d (by decide) ⟨x,H,I1,ru,⟨rfl,fun ys hy=>by rw [I.tuple_inj hy hq]; exact hx⟩,st',fun b hb=>(hf b hb).1⟩⟩
 done:=by
  intro X hP hw hK hc i aa s σ H E I hf st hg;subst hP hw hK;obtain ⟨xs,hq,hx⟩:=hg;obtain ⟨its,rv,p,hz⟩:=I.tuple hq;obtain ⟨f0,f1,f2,f3,f4,f5⟩:=hf it (by simp);have hl:=rv.length;exact wpAny_pyNext_tuple_end (I.ok.hd hc) st (show s.heap.IsTuple a its.toArray from p) (by simp; omega) fun h' eb=>⟨rfl,I.turned (t':=s.toks) (fun b o hb e=>eb b o hb e) f0 f1 f3 f4 f5⟩
 self:=fun _ _ _ _ _ st h=>wpAny_pyIter_tupleiter st h
theorem KL {tg:Expr} (it:Addr) (lo:Int) (n:Nat):KJ P w K tg (Itr lo n) [it] it (fun i h=>IsRangeIter h it (lo + (i:Nat) * 1) ((n:Int) - (i:Nat)) 1) where
 mem:=by simp
 obj:=fun i h st b hb=>by
  have e:b=it:=by simpa using hb
  subst e
  exact ⟨_,st,fun v z=>by
   have z':Data.fields _=Data.cell v:=z
   cases z'⟩
 keep:=fun i h h' st k=>k it (by simp) _ st
 item:=by
  intro X hP hw hK hc i aa s σ H E I hf st hg;subst hP hw hK;obtain ⟨f0,f1,f2,f3,f4,f5⟩:=hf it (by simp);have W:=Walks.range (prog:=X.prog) (w:=X.w) (I.ok.hd hc) it lo 1 n;refine W.item i s _ _ hg st fun v h' tk hv st' kk=>?_;obtain ⟨t,rfl⟩:=hv;have I1:Inv X aa σ H { s with heap:=h',toks:=tk }:=I.turned (fun b o hb e=>kk b o (by simpa using hb) e) f0 f1 f3 f4 f5;refine ⟨_,rfl,La (s:={ s with heap:=h',toks:=tk }) (n := "range_iterator") st' rfl rfl (by decide) ⟨.int (lo + i),H,I1,⟨t,?_⟩,⟨rfl,rfl⟩,st',fun b hb=>(hf b hb).1⟩⟩;rw [Int.mul_one]
 done:=by
  intro X hP hw hK hc i aa s σ H E I hf st hg;subst hP hw hK;obtain ⟨f0,f1,f2,f3,f4,f5⟩:=hf it (by simp);exact wpAny_pyNext_range_end (I.ok.hd hc) st (by have:n <= i:=hg; omega) fun h' eb=>⟨rfl,I.turned (t':=s.toks) (fun b o hb e=>eb b o hb e) f0 f1 f3 f4 f5⟩
 self:=fun _ _ _ _ _ st h=>wpAny_pyIter_rangeiter st h
end L2
namespace L2
open PySem PySem.Spec PyProof.Rows
section
variable {tg:Expr}
def Nq (K:FG) (tl:TE):TI:=fun σ H R=>tl σ H fun x H1=>∃ a,x=.ref a/\(∃ xs,SqL K H1 a xs)/\R (Itl K a) H1
def UP (K:FG) (tl:TE):TI:=fun σ H R=>tl σ H fun x H1=>∃ a,x=.ref a/\(∃ xs,SqT K H1 a xs)/\R (Itt K a) H1
theorem Bx {l:Expr} {tl:TE} (hl:PE X l tl):PI X tg l (Nq X.K tl):=by
 intro aa s σ H R I h;refine thn (hl aa s σ H _ I h) fun v s1 ⟨x,H1,I1,r1,q1⟩=>?_;obtain ⟨a,e,⟨xs,hq⟩,q⟩:=q1;subst e;cases r1;obtain ⟨its,rv,p,hz⟩:=I1.list hq;refine wpAny_pyIter_list p.isList ?_;refine ⟨s1.heap.objs.size,[s1.heap.objs.size],_,_,H1,rfl,I1.kept (t':=s1.toks) fun b o e=>get?_push_of_some _ e,HQ a _,⟨_,get?_push_size _ rfl,rfl,rfl⟩,fun b hb=>?_,q⟩;have e:b=s1.heap.objs.size:=by simpa using hb
 subst e;exact I1.fpOk (Nat.le_refl _) (I1.hok.fresh (Nat.le_refl _))
theorem Nr {l:Expr} {tl:TE} (hl:PE X l tl):PI X tg l (UP X.K tl):=by
 intro aa s σ H R I h;refine thn (hl aa s σ H _ I h) fun v s1 ⟨x,H1,I1,r1,q1⟩=>?_;obtain ⟨a,e,⟨xs,hq⟩,q⟩:=q1;subst e;cases r1;obtain ⟨its,rv,p,hz⟩:=I1.tuple hq;refine wpAny_pyIter_tuple (show s1.heap.IsTuple a its.toArray from p) ?_;refine ⟨s1.heap.objs.size,[s1.heap.objs.size],_,_,H1,rfl,I1.kept (t':=s1.toks) fun b o e=>get?_push_of_some _ e,KK a _,⟨_,get?_push_size _ rfl,rfl,rfl⟩,fun b hb=>?_,q⟩;have e:b=s1.heap.objs.size:=by simpa using hb
 subst e;exact I1.fpOk (Nat.le_refl _) (I1.hok.fresh (Nat.le_refl _))
theorem Nt {R:It->Hp->Prop} {lo hi:Int} {t u v:Tok} {tk:Nat} (I:Inv X aa σ H s) (h1:-(2 ^ 62) <= lo) (h2:lo < 2 ^ 62) (h3:-(2 ^ 62) <= hi) (h4:hi < 2 ^ 62)
  (q:R (Itr lo (hi - lo).toNat) H):wpAny (model X.prog X.w) X.A (pyIter (.ref s.heap.objs.size)) (PIE X aa σ tg R) E { s with heap:=s.heap.push { cls:=.type "range", data:=.fields #[.int lo t,.int hi u,.int 1 v] },toks:=tk }:=by
 refine wpAny_pyIter_range (IsRange.new ..) (small_one h1 h2 h3 h4) ?_;have I1:Inv X aa σ H { s with heap:=s.heap.push { cls:=.type "range", data:=.fields #[.int lo t,.int hi u,.int 1 v] },toks:=tk }:=I.kept fun b o e=>get?_push_of_some _ e
 refine ⟨(s.heap.push { cls:=.type "range", data:=.fields #[.int lo t,.int hi u,.int 1 v] }).objs.size,[(s.heap.push { cls:=.type "range", data:=.fields #[.int lo t,.int hi u,.int 1 v] }).objs.size],_,_,H,rfl,
  I1.kept (t':=tk) fun b o e=>get?_push_of_some _ e,KL _ lo (hi - lo).toNat,?_,fun b hb=>?_,q⟩
 ·have e1:lo + ((0:Nat):Int) * 1=lo:=by simp
  have e2:(((hi - lo).toNat:Nat):Int) - ((0:Nat):Int)=Builtin.Range.rangeSize lo hi 1:=by rw [rangeSize_one]; split <;> omega
  show IsRangeIter _ _ (lo + ((0:Nat):Int) * 1) ((((hi - lo).toNat:Nat):Int) - ((0:Nat):Int)) 1;rw [e1,e2];exact get?_push_size _ rfl
 ·have e:b=(s.heap.push { cls:=.type "range", data:=.fields #[.int lo t,.int hi u,.int 1 v] }).objs.size:=by simpa using hb
  subst e;exact I1.fpOk (Nat.le_refl _) (I1.hok.fresh (Nat.le_refl _))
def TH (ta:TA):TI:=fun σ H R=>ta σ H fun vs H1=>∃ j:Int,vs=[.int j]/\-(2 ^ 62) <= j/\j < 2 ^ 62/\R (Itr 0 j.toNat) H1
theorem Cp {a:Expr} {ta:TA} {p:Pos} (hg:Gl X "range") (hm:X.mg "range" = none) (ha:PA X [a] ta) (hs:starEach [a] X.env=[(false,eval a X.env)]:=by rfl):PI X tg (.Call (.Name "range" p) [a] [] pos) (TH ta):=by
 intro aa s σ H R I h;refine Call_ (D8 I hg hm boot_range (PyProof.Rows.callWith_type1 (thn (ha pos aa s σ H _ I h) fun us s1 ⟨vs,H1,I1,r1,q1⟩=>?_) hs rfl));obtain ⟨j,e,q1,q2,q⟩:=q1;subst e;cases r1 with
 | cons r rr =>
  cases rr;obtain ⟨t,rfl⟩:=r;exact call_range_1 (Nt I1 (by omega) (by omega) q1 q2 (by simpa using q))
def TJ (wi:TI) (g:TG) (tb:TS):TS:=fun D σ H=>wi σ H fun J H1=>∃ W:Nat->Nat->St->Hp->Prop,(∃ m,W 0 m σ H1)/\∀ i m σ H,W i m σ H ->
 (J.stop i H/\D.nx σ H)\/(J.go i H/\∃ N:St->Hp->Prop,(∀ σ' H',N σ' H'->∃ m',m' < m/\W (i + 1) m' σ' H')/\∀ x H',J.yld i H x H'->g x σ H' fun σ2 H2=>tb { D with nx:=N,ct:=N,bk:=D.nx } σ2 H2)
noncomputable def D9 (fp:List Addr) (h:Heap):LO:=fp.filterMap fun b=>(h.get? b).map fun o=>(b,o)
theorem Cz {fp:List Addr} {b:Addr} {o:Obj} (hb:b ∈ fp) (e:h.get? b=some o):(b,o) ∈ D9 fp h:=List.mem_filterMap.mpr ⟨b,hb,by rw [e]; rfl⟩
theorem HR {fp:List Addr} {p:Addr × Obj} (hp:p ∈ D9 fp h):p.1 ∈ fp/\h.get? p.1=some p.2:=by
 obtain ⟨b,hb,e⟩:=List.mem_filterMap.mp hp;cases q:h.get? b with
 | none=>rw [q] at e; cases e
 | some o =>
  rw [q] at e;have e':(b,o)=p:=Option.some.inj e;subst e';exact ⟨hb,q⟩
theorem Inv.pinned {fp:List Addr} (I:Inv X aa σ H s) (hf:∀ b ∈ fp,Ei X aa H b) (ho:∀ b ∈ fp,∃ o,s.heap.get? b=some o/\∀ v,o.data ≠ .cell v):Inv X (aa++D9 fp s.heap) σ H s :=
 I.pins_of fun p hp=>(mem_append.mp hp).elim (fun z=>I.pin p (mem_append_right _ z)) fun z=>by
  obtain ⟨hb,e⟩:=HR z;obtain ⟨f0,f1,f2,_⟩:=hf p.1 hb;obtain ⟨o,e',d⟩:=ho p.1 hb;rw [e] at e'; cases e';exact ⟨e,f0,f1,f2,d⟩
theorem Inv.unpinned {pl:LO} (I:Inv X (aa++pl) σ H s):Inv X aa σ H s:=I.pins_of fun p hp=>I.pin p (mem_append_right _ (mem_append_left _ hp))
theorem DS {iter:Expr} {body:List Stmt} {wi:TI} {g:TG} {tb:TS} (hp:PassesOwn (model X.prog X.w) X.A X.env X.xe) (hc:X.calm=true) (hi:PI X tg iter wi) (hg:PG X tg g) (hb:PSs X body tb)
  (hs:∀ x,foldedSetIterable iter X.env x=pure x:=by intro _; rfl):PS X (.For tg iter body [] pos) (TJ wi g tb):=by
 intro aa s σ H D I h;refine wpAny_For (thn (hi aa s σ H _ I h) fun v s1 h1=>thn h1 fun itv s2 h2=>?_) hs;obtain ⟨it,fp,tn,J,H2,e,I2,T,st2,f2,W,⟨m0,w0⟩,turn⟩:=h2;subst e;have stat:∀ {H':Hp},(∀ b ∈ fp,H' b=none)->∀ b ∈ fp,Ei X aa H' b:=fun hn b hb=>⟨hn b hb,(f2 b hb).2⟩;refine codeAny_forLoop_any (fun n s'=>∃ i σ' H',Inv X aa σ' H' s'/\tn i s'.heap/\(∀ b ∈ fp,H' b=none)/\W i n σ' H') ?_ m0 ⟨0,σ,H2,I2,st2,fun b hb=>(f2 b hb).1,w0⟩;rintro n s3 ⟨i,σ3,H3,I3,st3,fr3,w3⟩;rcases turn i n σ3 H3 w3 with ⟨stop,qn⟩ | ⟨go,N,hN,step⟩
 ·refine wpAny_passesOwn hp (thn (T.done X rfl rfl rfl hc i aa s3 σ3 H3 X.xe I3 (stat fr3) st3 stop) fun r s4 ⟨hr,I4⟩=>?_);subst hr;exact wpAny_execs_nil ⟨σ3,H3,I4,qn⟩
 ·refine wpAny_passesOwn hp (thn (T.item X rfl rfl rfl hc i aa s3 σ3 H3 X.xe I3 (stat fr3) st3 go) fun r s4 ⟨u,hr,h4⟩=>?_);subst hr;refine wpAny_passesOwn hp (thn h4 fun _ s5 ⟨x,H5,I5,r5,y5,st5,fr5⟩=>?_);have I5':=I5.pinned (stat fr5) (T.obj _ _ st5);refine wpAny_passesOwn hp (thn (hg _ s5 σ3 H5 x u _ I5' r5 (step x H5 y5)) fun _ s6 ⟨σ6,H6,I6,q6⟩=>?_);refine wpAny_passesOwn hp (thn (hb _ s6 σ6 H6 _ I6 q6) fun f s7 q7=>?_)
  have again:∀ {σ7:St} {H7:Hp},Inv X (aa++D9 fp s5.heap) σ7 H7 s7->N σ7 H7->∃ m,m < n/\∃ i σ' H',Inv X aa σ' H' s7/\tn i s7.heap/\(∀ b ∈ fp,H' b=none)/\W i m σ' H':=fun {σ7 H7} I7 n7=>by
   obtain ⟨m',hm,w7⟩:=hN σ7 H7 n7;refine ⟨m',hm,i + 1,σ7,H7,I7.unpinned,T.keep _ _ _ st5 fun b hb o e=>(I7.pin (b,o) (mem_append_right _ (mem_append_right _ (Cz hb e)))).1,fun b hb=>?_,w7⟩;obtain ⟨o,e,d⟩:=T.obj _ _ st5 b hb;exact (I7.pin (b,o) (mem_append_right _ (mem_append_right _ (Cz hb e)))).2.1
  cases f with
  | next=>obtain ⟨σ7,H7,I7,n7⟩:=q7; exact again I7 n7
  | cont=>obtain ⟨σ7,H7,I7,n7⟩:=q7; exact again I7 n7
  | brk=>obtain ⟨σ7,H7,I7,q7⟩:=q7; exact ⟨σ7,H7,I7.unpinned,q7⟩
  | ret v=>obtain ⟨x7,σ7,H7,I7,r7,q7⟩:=q7; exact ⟨x7,σ7,H7,I7.unpinned,r7,q7⟩
end
theorem Cq {g:TG} {tb:TS} {D:D7} (Pv:Nat->St->Hp->Prop) (h0:Pv 0 σ H) (hl:∀ i σ H,i <= xs.length->Pv i σ H->SqL K H a xs)
  (hs:∀ i x σ H,xs[i]?=some x->Pv i σ H->g x σ H fun σ2 H2=>tb { D with nx:=Pv (i + 1),ct:=Pv (i + 1),bk:=D.nx } σ2 H2) (hd:∀ σ H,Pv xs.length σ H->D.nx σ H) :
  ∃ W:Nat->Nat->St->Hp->Prop,(∃ m,W 0 m σ H)/\∀ i m σ H,W i m σ H ->
   ((Itl K a).stop i H/\D.nx σ H)\/((Itl K a).go i H/\∃ N:St->Hp->Prop,(∀ σ' H',N σ' H'->∃ m',m' < m/\W (i + 1) m' σ' H')/\∀ x H',(Itl K a).yld i H x H'->g x σ H' fun σ2 H2=>tb { D with nx:=N,ct:=N,bk:=D.nx } σ2 H2):=by
 refine ⟨fun i m σ H=>m=xs.length - i/\i <= xs.length/\Pv i σ H,⟨xs.length,by simp,Nat.zero_le _,h0⟩,?_⟩;rintro i m σ H ⟨rfl,hi,p⟩;have q:=hl i σ H hi p;by_cases hlt:i < xs.length
 ·refine .inr ⟨⟨xs,xs[i],q,by simp [hlt]⟩,Pv (i + 1),fun σ' H' p'=>⟨xs.length - (i + 1),by omega,rfl,hlt,p'⟩,fun x H' y=>?_⟩;obtain ⟨e,y⟩:=y;subst e;exact hs i x σ _ (y xs q) p
 ·have e:i=xs.length:=by omega
  subst e;exact .inl ⟨⟨xs,q,Nat.le_refl _⟩,hd σ H p⟩
theorem HS {lo:Int} {n:Nat} {g:TG} {tb:TS} {D:D7} (Pv:Nat->St->Hp->Prop) (h0:Pv 0 σ H)
  (hs:∀ i σ H,i < n->Pv i σ H->g (.int (lo + i)) σ H fun σ2 H2=>tb { D with nx:=Pv (i + 1),ct:=Pv (i + 1),bk:=D.nx } σ2 H2) (hd:∀ σ H,Pv n σ H->D.nx σ H) :
  ∃ W:Nat->Nat->St->Hp->Prop,(∃ m,W 0 m σ H)/\∀ i m σ H,W i m σ H ->
   ((Itr lo n).stop i H/\D.nx σ H)\/((Itr lo n).go i H/\∃ N:St->Hp->Prop,(∀ σ' H',N σ' H'->∃ m',m' < m/\W (i + 1) m' σ' H')/\∀ x H',(Itr lo n).yld i H x H'->g x σ H' fun σ2 H2=>tb { D with nx:=N,ct:=N,bk:=D.nx } σ2 H2):=by
 refine ⟨fun i m σ H=>m=n - i/\i <= n/\Pv i σ H,⟨n,by simp,Nat.zero_le _,h0⟩,?_⟩;rintro i m σ H ⟨rfl,hi,p⟩;by_cases hlt:i < n
 ·refine .inr ⟨hlt,Pv (i + 1),fun σ' H' p'=>⟨n - (i + 1),by omega,rfl,hlt,p'⟩,fun x H' y=>?_⟩;obtain ⟨e,y⟩:=y;subst e y;exact hs i σ _ hlt p
 ·have e:i=n:=by omega
  subst e;exact .inl ⟨Nat.le_refl _,hd σ H p⟩
theorem Nu {c:TT} {tb:TS} {D:D7} (Pv:St->Hp->Prop) (μ:St->Hp->Nat) (h0:Pv σ H)
  (hs:∀ σ H,Pv σ H->c σ H fun b H1=>if b=true then tb { D with nx:=fun σ' H'=>Pv σ' H'/\μ σ' H' < μ σ H,ct:=fun σ' H'=>Pv σ' H'/\μ σ' H' < μ σ H,bk:=D.nx } σ H1 else D.nx σ H1)
  (mono:∀ σ H Q Q',(∀ b H1,Q b H1->Q' b H1)->c σ H Q->c σ H Q'):Np c tb D σ H:=by
 refine ⟨fun m σ H=>m=μ σ H/\Pv σ H,⟨_,rfl,h0⟩,?_⟩;rintro m σ H ⟨rfl,p⟩;refine mono σ H _ _ (fun b H1 q=>?_) (hs σ H p);cases b with
 | true=>exact ⟨_,fun σ' H' ⟨p',l⟩=>⟨_,l,rfl,p'⟩,q⟩
 | false=>exact q
end L2
namespace L2
open PySem PySem.Spec PyProof.Rows
abbrev R2:=V->V->Hp->VK->Prop
def OpR (X:Cx) (f:Value->Value->Sem Value) (r:R2):Prop :=
 ∀ (aa:LO) (s:Shared) (σ:St) (H:Hp) (x y:V) (v u:Value) (Q:VK),Inv X aa σ H s->RelV x v->RelV y u->r x y H Q ->
  wpAny (model X.prog X.w) X.A (f v u) (EP X aa σ Q) X.xe s
def UnR (X:Cx) (f:Value->Sem Value) (r:V->Hp->VK->Prop):Prop :=
 ∀ (aa:LO) (s:Shared) (σ:St) (H:Hp) (x:V) (v:Value) (Q:VK),Inv X aa σ H s->RelV x v->r x H Q ->
  wpAny (model X.prog X.w) X.A (f v) (EP X aa σ Q) X.xe s
def CallR (X:Cx) (f:Value) (r:List V->Hp->VK->Prop):Prop :=
 ∀ (aa:LO) (s:Shared) (σ:St) (H:Hp) (xs:List V) (us:List Value) (Q:VK),Inv X aa σ H s->Vals xs us->r xs H Q ->
  wpAny (model X.prog X.w) X.A (call f us) (EP X aa σ Q) X.xe s
def tOp (r:R2) (ta tb:TE):TE:=fun σ H Q=>ta σ H fun x H1=>tb σ H1 fun y H2=>r x y H2 Q
def tUn (r:V->Hp->VK->Prop) (ta:TE):TE:=fun σ H Q=>ta σ H fun x H1=>r x H1 Q
def rI (C:Int->Int->Prop) (g:Int->Int->V):R2:=fun x y H Q=>ExI x y fun i j=>C i j/\Q (g i j) H
def rI0 (g:Int->Int->V):R2:=fun x y H Q=>ExI x y fun i j=>Q (g i j) H
def rU (g:Int->V):V->Hp->VK->Prop:=fun x H Q=>∃ i,x=.int i/\Q (g i) H
section
variable {a b c:Expr} {ta tb tc:TE}
theorem Rq (ha:PE X a ta) (hb:PE X b tb) {R:V->V->Hp->Prop} (I:Inv X aa σ H s)
  (h:ta σ H fun x H1=>tb σ H1 fun y H2=>R x y H2) {Q:VS} {f:Value->Value->Sem Value}
  (hf:∀ v u s2 x y H2,Inv X aa σ H2 s2->RelV x v->RelV y u->R x y H2->wpAny (model X.prog X.w) X.A (f v u) Q X.xe s2) :
  wpAny (model X.prog X.w) X.A (eval a X.env) (fun v s₁=>wpAny (model X.prog X.w) X.A (eval b X.env) (fun u s₂=>wpAny (model X.prog X.w) X.A (f v u) Q X.xe s₂) X.xe s₁) X.xe s:=by
 refine thn (ha aa s σ H _ I h) fun v s1 ⟨x,H1,I1,r1,q1⟩=>?_;refine thn (hb aa s1 σ H1 _ I1 q1) fun u s2 ⟨y,H2,I2,r2,q2⟩=>?_;exact hf v u s2 x y H2 I2 r1 r2 q2
theorem AZ {op:Operator} {r:R2} (ho:OpR X (binaryOp op) r) (ha:PE X a ta) (hb:PE X b tb):PE X (.BinOp a op b pos) (tOp r ta tb):=by
 intro aa s σ H Q I h;exact wpAny_BinOp (Rq ha hb I h fun v u s2 x y H2 I2 rx ry q=>ho aa s2 σ H2 x y v u Q I2 rx ry q)
theorem DU {op:UnaryOp} {r:V->Hp->VK->Prop} (ho:UnR X (unaryOp op) r) (ha:PE X a ta):PE X (.UnaryOp op a pos) (tUn r ta):=by
 intro aa s σ H Q I h;exact UnaryOp_ (thn (ha aa s σ H _ I h) fun v s1 ⟨x,H1,I1,r1,q1⟩=>ho aa s1 σ H1 x v Q I1 r1 q1)
theorem opI {f:Value->Value->Sem Value} {C:Int->Int->Prop} {g:Int->Int->Int}
  (rule:∀ (i j:Int) (t u:Tok) (s:Shared) (Q:VS) (E:VS),C i j->Q (.int (g i j) s.toks) { s with toks:=s.toks + 1 }->wpAny (model X.prog X.w) X.A (f (.int i t) (.int j u)) Q E s) :
  OpR X f (rI C fun i j=>.int (g i j)):=by
 intro aa s σ H x y v u Q I rx ry h;obtain ⟨i,j,rfl,rfl,hc,q⟩:=h;obtain ⟨t,rfl⟩:=rx;obtain ⟨t',rfl⟩:=ry;exact rule i j t t' s _ _ hc ⟨.int (g i j),H,I.tok _,⟨_,rfl⟩,q⟩
theorem KM {f:Value->Value->Sem Value} {g:Int->Int->Int}
  (rule:∀ (i j:Int) (t u:Tok) (s:Shared) (Q:VS) (E:VS),Q (.int (g i j) s.toks) { s with toks:=s.toks + 1 }->wpAny (model X.prog X.w) X.A (f (.int i t) (.int j u)) Q E s) :
  OpR X f (rI0 fun i j=>.int (g i j)):=by
 intro aa s σ H x y v u Q I rx ry h;obtain ⟨i,j,rfl,rfl,q⟩:=h;obtain ⟨t,rfl⟩:=rx;obtain ⟨t',rfl⟩:=ry;exact rule i j t t' s _ _ ⟨.int (g i j),H,I.tok _,⟨_,rfl⟩,q⟩
theorem Pu {f:Value->Value->Sem Value} {g:Int->Int->Bool}
  (rule:∀ (i j:Int) (t u:Tok) (s:Shared) (Q:VS) (E:VS),Q (.bool (g i j)) s->wpAny (model X.prog X.w) X.A (f (.int i t) (.int j u)) Q E s) :
  OpR X f (rI0 fun i j=>.bl (g i j)):=by
 intro aa s σ H x y v u Q I rx ry h;obtain ⟨i,j,rfl,rfl,q⟩:=h;obtain ⟨t,rfl⟩:=rx;obtain ⟨t',rfl⟩:=ry;exact rule i j t t' s _ _ ⟨.bl (g i j),H,I,rfl,q⟩
def UQ (i j:Int):Prop:=0 < j/\j < 1073741824
def Rr (i j:Int):Prop:=0 <= j/\j <= 1000000/\i.natAbs < 2 ^ 64
def CMul (i j:Int):Prop:=(-(2 ^ 64) < i/\i < 2 ^ 64)\/(-(2 ^ 64) < j/\j < 2 ^ 64)
theorem CMul.ok {i j:Int} (h:CMul i j):IntMulOk i j:=by
 rcases h with ⟨h1,h2⟩ | ⟨h1,h2⟩
 ·exact .of_left (intBits_le_64 h1 h2)
 ·exact .of_right (intBits_le_64 h1 h2)
theorem KN (k:Nat):(0:Int) <= 2 ^ k:=by
 rw [two_pow_cast];exact Int.natCast_nonneg _
theorem Ci:OpR X (binaryOp .Add) (rI0 fun i j=>.int (i + j)):=KM fun _ _ _ _ _ _ _ q=>add_int q
theorem B9:OpR X (binaryOp .Sub) (rI0 fun i j=>.int (i - j)):=KM fun _ _ _ _ _ _ _ q=>sub_int q
theorem F9:OpR X (binaryOp .Mult) (rI CMul fun i j=>.int (i * j)):=opI fun _ _ _ _ _ _ _ hc q=>mul_int q hc.ok
theorem IL:OpR X (binaryOp .FloorDiv) (rI UQ fun i j=>.int (i / j)):=opI fun i j _ _ _ _ _ hc q=>by
 have h1:(0:Int) < j:=hc.1;have h2:j < 1073741824:=hc.2;exact floordiv_int (by omega) (by rw [Int.fdiv_eq_ediv_of_nonneg i (by omega)]; exact q) (.inl (PyProof.noPylong_small (by omega)))
theorem EB:OpR X (binaryOp .Mod) (rI (fun _ j=>0 < j) fun i j=>.int (i % j)):=opI fun i j _ _ _ _ _ hc q=>by
 have h1:(0:Int) < j:=hc;exact mod_int' (by omega) (by rw [Int.fmod_eq_emod_of_nonneg i (by omega)]; exact q)
theorem KP:OpR X (binaryOp .Pow) (rI Rr fun i j=>.int (i ^ j.toNat)):=opI fun _ _ _ _ _ _ _ hc q=>pow_int_small hc.1 hc.2.1 hc.2.2 q
theorem IM:OpR X (binaryOp .LShift) (rI Rr fun i j=>.int (i * 2 ^ j.toNat)):=opI fun _ _ _ _ _ _ _ hc q=>lshift_int_small hc.1 hc.2.1 hc.2.2 q
theorem Rs:OpR X (binaryOp .RShift) (rI (fun _ j=>0 <= j) fun i j=>.int (i / 2 ^ j.toNat)):=opI fun i j _ _ _ _ _ hc q =>
 rshift_int hc (by rw [Int.fdiv_eq_ediv_of_nonneg i (KN _)]; exact q)
theorem CA:OpR X (binaryOp .BitAnd) (rI0 fun i j=>.int (Builtin.bitAnd i j)):=KM fun _ _ _ _ _ _ _ q=>and_int q
theorem Lb:OpR X (binaryOp .BitOr) (rI0 fun i j=>.int (Builtin.bitOr i j)):=KM fun _ _ _ _ _ _ _ q=>or_int q
theorem Nv:OpR X (binaryOp .BitXor) (rI0 fun i j=>.int (Builtin.bitXor i j)):=KM fun _ _ _ _ _ _ _ q=>xor_int q
theorem Lc:OpR X (inplaceOp .Add) (rI0 fun i j=>.int (i + j)):=KM fun _ _ _ _ _ _ _ q=>iadd_int q
theorem Rt:OpR X (inplaceOp .BitOr) (rI0 fun i j=>.int (Builtin.bitOr i j)):=KM fun _ _ _ _ _ _ _ q=>ior_int q
theorem unI {f:Value->Sem Value} {g:Int->Int}
  (rule:∀ (i:Int) (t:Tok) (s:Shared) (Q:VS) (E:VS),Q (.int (g i) s.toks) { s with toks:=s.toks + 1 }->wpAny (model X.prog X.w) X.A (f (.int i t)) Q E s) :
  UnR X f (rU fun i=>.int (g i)):=by
 intro aa s σ H x v Q I rx h;obtain ⟨i,rfl,q⟩:=h;obtain ⟨t,rfl⟩:=rx;exact rule i t s _ _ ⟨.int (g i),H,I.tok _,⟨_,rfl⟩,q⟩
theorem ED:UnR X (unaryOp .USub) (rU fun i=>.int (-i)):=unI fun _ _ _ _ _ q=>neg_int q
theorem IN:UnR X (unaryOp .Invert) (rU fun i=>.int (Builtin.bitNot i)):=unI fun _ _ _ _ _ q=>invert_int q
end
noncomputable def TK:V->V->Bool
 | .non,.non=>true | .non,.int _=>true | .int _,.non=>true | .non,.bl _=>true | .bl _,.non=>true | .non,.str _=>true | .str _,.non=>true
 | .int _,.int _=>true | .bl _,.bl _=>true | .str _,.str _=>true | .byt _,.byt _=>true
 | .int _,.str _=>true | .str _,.int _=>true | .bl _,.str _=>true | .str _,.bl _=>true
 | _,_=>false
def rEq:R2:=fun x y H Q=>TK x y=true/\Q (.bl (decide (x=y))) H
def rNe:R2:=fun x y H Q=>TK x y=true/\Q (.bl (!decide (x=y))) H
theorem Ld {i j:Int}:decide (V.int i=V.int j)=(i == j):=by
 rw [Bool.eq_iff_iff];simp
theorem Nw {i j:Bool}:decide (V.bl i=V.bl j)=(i == j):=by
 rw [Bool.eq_iff_iff];simp
theorem Le {i j:Str}:decide (V.str i=V.str j)=(i == j):=by
 rw [Bool.eq_iff_iff];simp
theorem Lf {i j:Array UInt8}:decide (V.byt i=V.byt j)=(i.toList == j.toList):=by
 rw [Bool.eq_iff_iff];cases i;cases j;simp
section
variable {a b c:Expr} {ta tb tc:TE}
theorem An {Q:VK} {k k':Bool} (I:Inv X aa σ H s) (q:Q (.bl k) H) (e:k=k'):EP X aa σ Q (.bool k') s:=by
 subst e;exact ⟨.bl k,H,I,rfl,q⟩
theorem Aw:OpR X (compareOp .Eq) rEq:=by
 intro aa s σ H x y v u Q I rx ry h;obtain ⟨hs,q⟩:=h;cases x with
 | non =>
  cases rx;cases y with
  | non=>cases ry; exact PySem.EqNone.eq_none_none (An I q (by simp))
  | bl j=>cases ry; exact PySem.EqNone.eq_none_bool (An I q (by simp))
  | int j=>obtain ⟨t',rfl⟩:=ry; exact PySem.EqNone.eq_none_int (An I q (by simp))
  | str j=>obtain ⟨t',rfl⟩:=ry; exact PySem.EqNone.eq_none_str (An I q (by simp))
  | _=>exact absurd (show false=true from hs) Bool.false_ne_true
 | bl i =>
  cases rx;cases y with
  | non=>cases ry; exact PySem.EqNone.eq_bool_none (An I q (by simp))
  | bl j=>cases ry; exact eq_bool (An I q Nw)
  | str j=>obtain ⟨t',rfl⟩:=ry; exact PySem.EqMixed.eq_bool_str (An I q (by simp))
  | _=>exact absurd (show false=true from hs) Bool.false_ne_true
 | int i =>
  obtain ⟨t,rfl⟩:=rx;cases y with
  | non=>cases ry; exact PySem.EqNone.eq_int_none (An I q (by simp))
  | int j=>obtain ⟨t',rfl⟩:=ry; exact eq_int (An I q Ld)
  | str j=>obtain ⟨t',rfl⟩:=ry; exact PySem.EqMixed.eq_int_str (An I q (by simp))
  | _=>exact absurd (show false=true from hs) Bool.false_ne_true
 | str i =>
  obtain ⟨t,rfl⟩:=rx;cases y with
  | non=>cases ry; exact PySem.EqNone.eq_str_none (An I q (by simp))
  | bl j=>cases ry; exact PySem.EqMixed.eq_str_bool (An I q (by simp))
  | int j=>obtain ⟨t',rfl⟩:=ry; exact PySem.EqMixed.eq_str_int (An I q (by simp))
  | str j=>obtain ⟨t',rfl⟩:=ry; exact eq_str (An I q Le)
  | _=>exact absurd (show false=true from hs) Bool.false_ne_true
 | byt i =>
  obtain ⟨t,rfl⟩:=rx;cases y with
  | byt j=>obtain ⟨t',rfl⟩:=ry; exact W.eq_bytes (An I q Lf)
  | _=>exact absurd (show false=true from hs) Bool.false_ne_true
 | _=>cases y <;> exact absurd (show false=true from hs) Bool.false_ne_true
theorem Dy:OpR X (compareOp .NotEq) rNe:=by
 intro aa s σ H x y v u Q I rx ry h;obtain ⟨hs,q⟩:=h;cases x with
 | non =>
  cases rx;cases y with
  | non=>cases ry; exact PySem.EqNone.ne_none_none (An I q (by simp))
  | bl j=>cases ry; exact PySem.EqNone.ne_none_bool (An I q (by simp))
  | int j=>obtain ⟨t',rfl⟩:=ry; exact PySem.EqNone.ne_none_int (An I q (by simp))
  | str j=>obtain ⟨t',rfl⟩:=ry; exact PySem.EqNone.ne_none_str (An I q (by simp))
  | _=>exact absurd (show false=true from hs) Bool.false_ne_true
 | bl i =>
  cases rx;cases y with
  | non=>cases ry; exact PySem.EqNone.ne_bool_none (An I q (by simp))
  | bl j=>cases ry; exact ne_bool (An I q (congrArg not Nw))
  | str j=>obtain ⟨t',rfl⟩:=ry; exact PySem.EqMixed.ne_bool_str (An I q (by simp))
  | _=>exact absurd (show false=true from hs) Bool.false_ne_true
 | int i =>
  obtain ⟨t,rfl⟩:=rx;cases y with
  | non=>cases ry; exact PySem.EqNone.ne_int_none (An I q (by simp))
  | int j=>obtain ⟨t',rfl⟩:=ry; exact ne_int (An I q (congrArg not Ld))
  | str j=>obtain ⟨t',rfl⟩:=ry; exact PySem.EqMixed.ne_int_str (An I q (by simp))
  | _=>exact absurd (show false=true from hs) Bool.false_ne_true
 | str i =>
  obtain ⟨t,rfl⟩:=rx;cases y with
  | non=>cases ry; exact PySem.EqNone.ne_str_none (An I q (by simp))
  | bl j=>cases ry; exact PySem.EqMixed.ne_str_bool (An I q (by simp))
  | int j=>obtain ⟨t',rfl⟩:=ry; exact PySem.EqMixed.ne_str_int (An I q (by simp))
  | str j=>obtain ⟨t',rfl⟩:=ry; exact ne_str (An I q (congrArg not Le))
  | _=>exact absurd (show false=true from hs) Bool.false_ne_true
 | byt i =>
  obtain ⟨t,rfl⟩:=rx;cases y with
  | byt j=>obtain ⟨t',rfl⟩:=ry; exact W.ne_bytes (An I q (congrArg not Lf))
  | _=>exact absurd (show false=true from hs) Bool.false_ne_true
 | _=>cases y <;> exact absurd (show false=true from hs) Bool.false_ne_true
theorem Fo:OpR X (compareOp .Lt) (rI0 fun i j=>.bl (decide (i < j))):=Pu fun _ _ _ _ _ _ _ q=>lt_int q
theorem Ej:OpR X (compareOp .LtE) (rI0 fun i j=>.bl (decide (i <= j))):=Pu fun _ _ _ _ _ _ _ q=>le_int q
theorem Ek:OpR X (compareOp .Gt) (rI0 fun i j=>.bl (decide (j < i))):=Pu fun _ _ _ _ _ _ _ q=>gt_int q
theorem JH:OpR X (compareOp .GtE) (rI0 fun i j=>.bl (decide (j <= i))):=Pu fun _ _ _ _ _ _ _ q=>ge_int q
theorem OpR.or {f:Value->Value->Sem Value} {r r':R2} (h:OpR X f r) (h':OpR X f r'):OpR X f (fun x y H Q=>r x y H Q\/r' x y H Q):=by
 intro aa s σ H x y v u Q I rx ry q;rcases q with q | q
 ·exact h aa s σ H x y v u Q I rx ry q
 ·exact h' aa s σ H x y v u Q I rx ry q
theorem AR (b:Expr) {op:CmpOp} (h:op ≠ .In:=by decide) (h2:op ≠ .NotIn:=by decide):behindInMarks op b=false:=by
 have e1:(op == CmpOp.In)=false:=by cases op <;> first | rfl | exact absurd rfl h
 have e2:(op == CmpOp.NotIn)=false:=by cases op <;> first | rfl | exact absurd rfl h2
 cases b <;> simp [behindInMarks,e1,e2]
theorem Be {op:CmpOp} {r:R2} (ho:OpR X (compareOp op) r) (ha:PE X a ta) (hb:PE X b tb) (hm:behindInMarks op b=false):PE X (.Compare a [op] [b] pos) (tOp r ta tb):=by
 intro aa s σ H Q I h;exact wpAny_Compare1 (Rq ha hb I h fun v u s2 x y H2 I2 rx ry q=>ho aa s2 σ H2 x y v u Q I2 rx ry q) hm
def RC (t:TE):TT:=fun σ H Q=>t σ H fun x H'=>ExB x fun k=>Q k H'
theorem AM {op:CmpOp} {r:R2} (ho:OpR X (compareOp op) r) (ha:PE X a ta) (hb:PE X b tb) (hm:behindInMarks op b=false):PT X (.Compare a [op] [b] pos) (RC (tOp r ta tb)):=by
 intro aa s σ H Q I h
 refine wpAny_isTrue_Compare1 (thn (ha aa s σ H _ I h) fun v s1 ⟨x,H1,I1,r1,q1⟩=>thn (hb aa s1 σ H1 _ I1 q1) fun u s2 ⟨y,H2,I2,r2,q2⟩ =>
  thn (ho aa s2 σ H2 x y v u _ I2 r1 r2 q2) fun c s3 ⟨z,H3,I3,r3,k,e,q3⟩=>?_) hm
 subst e;cases r3;exact wpAny_truthy_bool ⟨H3,I3,q3⟩
def Nx (r r':R2) (ta tb tc:TE):TE:=fun σ H Q=>ta σ H fun x H1=>tb σ H1 fun y H2=>r x y H2 fun z H3=>∃ k,z=.bl k /\
 (if k=true then tc σ H3 fun w' H4=>r' y w' H4 Q else Q (.bl false) H3)
theorem El {op op':CmpOp} {r r':R2} (ho:OpR X (compareOp op) r) (ho':OpR X (compareOp op') r') (ha:PE X a ta) (hb:PE X b tb) (hc:PE X c tc)
  (hm:lastMarks [op,op'] [b,c]=false:=by with_unfolding_all rfl):PE X (.Compare a [op,op'] [b,c] pos) (Nx r r' ta tb tc):=by
 intro aa s σ H Q I h
 refine Compare_chain (thn (ha aa s σ H _ I h) fun v s1 ⟨x,H1,I1,r1,q1⟩=>chain_link (thn (hb aa s1 σ H1 _ I1 q1) fun u s2 ⟨y,H2,I2,r2,q2⟩ =>
  thn (ho aa s2 σ H2 x y v u _ I2 r1 r2 q2) fun d s3 ⟨z,H3,I3,r3,k,e,q3⟩=>?_)) hm
 subst e;cases r3;refine wpAny_truthy_bool ?_;cases k with
 | false=>exact ite_ff ⟨.bl false,H3,I3,rfl,q3⟩
 | true=>exact ite_tt (chain_last (thn (hc aa s3 σ H3 _ I3 q3) fun w' s4 ⟨z',H4,I4,r4,q4⟩=>ho' aa s4 σ H4 y z' u w' Q I4 r2 r4 q4))
theorem Em {op op':CmpOp} {r r':R2} (ho:OpR X (compareOp op) r) (ho':OpR X (compareOp op') r') (ha:PE X a ta) (hb:PE X b tb) (hc:PE X c tc)
  (hm:lastMarks [op,op'] [b,c]=false:=by with_unfolding_all rfl):PT X (.Compare a [op,op'] [b,c] pos) (RC (Nx r r' ta tb tc)):=by
 intro aa s σ H Q I h
 refine isTrue_chain (thn (ha aa s σ H _ I h) fun v s1 ⟨x,H1,I1,r1,q1⟩=>test_link (thn (hb aa s1 σ H1 _ I1 q1) fun u s2 ⟨y,H2,I2,r2,q2⟩ =>
  thn (ho aa s2 σ H2 x y v u _ I2 r1 r2 q2) fun d s3 ⟨z,H3,I3,r3,k,e,q3⟩=>?_)) hm
 subst e;cases r3;refine wpAny_truthy_bool ?_;cases k with
 | false =>
  obtain ⟨k',e',q'⟩:=q3;cases e';exact ite_ff ⟨H3,I3,q'⟩
 | true =>
  refine ite_tt (test_last (thn (hc aa s3 σ H3 _ I3 q3) fun w' s4 ⟨z',H4,I4,r4,q4⟩=>thn (ho' aa s4 σ H4 y z' u w' _ I4 r2 r4 q4) fun d' s5 ⟨z2,H5,I5,r5,k2,e2,q5⟩=>?_));subst e2;cases r5;exact wpAny_truthy_bool ⟨H5,I5,q5⟩
theorem FO:(sizeLine:Nat) < 2 ^ 63:=by rw [sizeLine_eq]; decide
theorem BB:OpR X (binaryOp .Add) (fun x y H Q=>∃ i j,x=.str i/\y=.str j/\i.length + j.length <= sizeLine/\Q (.str (i++j)) H):=by
 intro aa s σ H x y v u Q I rx ry h;obtain ⟨i,j,rfl,rfl,hz,q⟩:=h;obtain ⟨t,rfl⟩:=rx;obtain ⟨t',rfl⟩:=ry;exact add_str (fun t' tk=>⟨.str (i++j),H,I.tok _,⟨_,rfl⟩,q⟩) hz
theorem Bs {x:V} (r:Vals [x] us):∃ u,us=[u]/\RelV x u:=by
 cases r with
 | cons r1 r2=>cases r2; exact ⟨_,rfl,r1⟩
theorem HU {x y:V} (r:Vals [x,y] us):∃ u w',us=[u,w']/\RelV x u/\RelV y w':=by
 cases r with
 | cons r1 r2 =>
  cases r2 with
  | cons r3 r4=>cases r4; exact ⟨_,_,rfl,r1,r3⟩
theorem Mi (hc:X.calm=true):CallR X (.builtin "max") (fun xs H Q=>∃ i j,xs=[.int i,.int j]/\Q (.int (if j > i then j else i)) H):=by
 intro aa s σ H xs us Q I r h;obtain ⟨i,j,rfl,q⟩:=h;obtain ⟨u,w',rfl,⟨t,rfl⟩,⟨t',rfl⟩⟩:=HU r;refine max_two_ints (I.ok.hd hc) fun h' tk k=>⟨_,H,I.kept k,?_,q⟩;by_cases hj:j > i
 ·rw [if_pos hj,if_pos hj]; exact ⟨_,rfl⟩
 ·rw [if_neg hj,if_neg hj]; exact ⟨_,rfl⟩
theorem Mj (hc:X.calm=true):CallR X (.builtin "min") (fun xs H Q=>∃ i j,xs=[.int i,.int j]/\Q (.int (if j < i then j else i)) H):=by
 intro aa s σ H xs us Q I r h;obtain ⟨i,j,rfl,q⟩:=h;obtain ⟨u,w',rfl,⟨t,rfl⟩,⟨t',rfl⟩⟩:=HU r;refine min_two_ints (I.ok.hd hc) fun h' tk k=>⟨_,H,I.kept k,?_,q⟩;by_cases hj:j < i
 ·rw [if_pos hj,if_pos hj]; exact ⟨_,rfl⟩
 ·rw [if_neg hj,if_neg hj]; exact ⟨_,rfl⟩
theorem HV:CallR X (.type "int") (fun xs H Q=>(∃ i,xs=[.int i]/\Q (.int i) H)\/∃ k,xs=[.bl k]/\Q (.int (if k then 1 else 0)) H):=by
 intro aa s σ H xs us Q I r h;rcases h with ⟨i,rfl,q⟩ | ⟨k,rfl,q⟩
 ·obtain ⟨u,rfl,t,rfl⟩:=Bs r;exact call_int_int ⟨.int i,H,I,⟨_,rfl⟩,q⟩
 ·obtain ⟨u,rfl,r1⟩:=Bs r;cases r1;exact call_int_bool ⟨.int (if k then 1 else 0),H,I.tok _,⟨_,rfl⟩,q⟩
theorem IP:CallR X (.type "str") (fun xs H Q=>∃ i,xs=[.int i]/\i.natAbs.log2 < 1920/\Q (.str (toString i)) H):=by
 intro aa s σ H xs us Q I r h;obtain ⟨i,rfl,hz,q⟩:=h;obtain ⟨u,rfl,t,rfl⟩:=Bs r;exact PySem.P.str_of_int hz ⟨.str _,H,I.tok _,⟨_,rfl⟩,q⟩
end
end L2
namespace L2
open PySem PySem.Spec PyProof.Rows
structure ObjM (h:Heap) (x dx C:Addr) (mA:SV):Prop where
 obj:h.get? x=some (W.instObj C dx)
 ns:h.Ns1 dx mA
 ne:dx ≠ x
theorem HW {dx:Addr} {mA:SV} (n:h.Ns1 dx mA):∃ od,h.get? dx=some od/\∀ name,W.lookIn name od=some (mA name):=by
 obtain ⟨o,es,ep,ho,hd,hk,_,hm⟩:=n;refine ⟨o,ho,fun name=>?_⟩;have e:=hm name;unfold nsFind findBy at e;rw [← Array.find?_toList] at e;unfold W.lookIn;rw [hd]
 dsimp only
 split
 ·rename_i y q;rw [q] at e;exact congrArg some e
 ·rename_i q;rw [q] at e
  have a:es.toList.any (·.refKey)=false:=by
   rw [List.any_eq_false];intro y hy;obtain ⟨z,t,cq⟩:=hk y (Array.mem_toList_iff.mp hy);simp [DictEntry.refKey,cq]
  have a':¬ es.toList.any (·.refKey)=true:=by rw [a]; exact Bool.false_ne_true
  rw [if_neg a'];exact congrArg some e
theorem ObjM.look {x dx:Addr} {mA:SV} (I:ObjM h x dx C mA):∃ od,W.InstAt h x (W.instObj C dx) C (some od)/\∀ name,W.lookIn name od=some (mA name) :=
 let ⟨od,ho,hl⟩:=HW I.ns
 ⟨od,⟨I.obj,rfl,rfl,ho⟩,hl⟩
section
variable {prog:Program} {x dx f:Addr} {mA:SV} {name:Str} {v:Value}
theorem Pw {expr:Bool} {Q:VS} (X:K.In s.heap) (I:ObjM s.heap x dx C mA) (hg:W.plainGet K C name=true) (hh:W.hasDictIn K C=true)
  (ha:W.findIn K (.ref C) name=some none) (hv:mA name=some v) (hv':W.handedIn v=true) (h:Q v { s with toks:=s.toks + 1 }) :
  wpAny (model prog w) A (getAttr (.ref x) name expr) Q E s:=by
 obtain ⟨od,J,hl⟩:=I.look;exact W.get_value X J (W.plainGet_of hg).1 (W.findObj_own hh ha rfl (by rw [hl,hv])) hv' h
theorem Ny {pl:Sem Bool} {Q:Value × List Value->Shared->Prop} (X:K.In s.heap) (I:ObjM s.heap x dx C mA) (hg:W.plainGet K C name=true)
  (hf:W.findIn K (.ref C) name=some (some (.ref f))) (ht:W.isFn K (.ref f)=true) (hv:mA name=none) (h:Q (.ref f,[.ref x]) s) :
  wpAny (model prog w) A (getMethod (.ref x) name pl) Q E s:=by
 obtain ⟨od,J,hl⟩:=I.look;exact W.method_fn X J (W.plainGet_of hg).1 (W.plainGet_of hg).2 hf (beq_iff_eq.mp ht) (by show (W.lookIn name od).map (·.isSome)=some false; rw [hl,hv]; rfl) h
theorem Px {ns:List Str} {Q:Unit->Shared->Prop} (X:K.In s.heap) (I:ObjM s.heap x dx C mA)
  (hs:W.findIn K (.ref C) "__setattr__" = some (some (.builtin "object.__setattr__"))) (hp:W.plainOver K C=true) (ht:W.takerIn K C name=some none) (hh:W.hasDictIn K C=true)
  (hw:PySem.Within mA ns) (hsz:ns.length <= sizeLine)
  (h:∀ h',ObjM h' x dx C (fun y=>if y=name then some v else mA y)->Heap.SameBut dx s.heap h'->Q () { s with heap:=h',toks:=s.toks + 2 }) :
  wpAny (model prog w) A (setAttr (.ref x) name v) Q E s:=by
 obtain ⟨od,J,hl⟩:=I.look;refine W.set_plain X J hs (W.osa_open (s:={ s with toks:=s.toks + 1 }) (r:=none) X J hp ht fun b=>?_);obtain ⟨cd,hc,hd'⟩:=W.any_some hh;have hx:s.heap.get? x=some ⟨.ref C,some dx,.plain,#[]⟩:=I.obj;refine wpAny_bind (wpAny_pure (wpAny_bind (wpAny_bind (wpAny_loadPart hx (wpAny_bind (W.Looks.here (s:={ s with toks:=s.toks + 1 }) (W.looks_clsIn X hc) ?_))))));rw [hd'];refine wpAny_pure (a:=some dx) (wpAny_bind (wpAny_pure (wpAny_bind ?_)));refine wpAny_nsSet1 (s:={ s with toks:=s.toks + 1 }) I.ns fun h' hn2 hs2=>?_;obtain ⟨oD,esD,epD,hoD,hdD,hcD⟩:=hn2.count (PySem.Within.cons name v hw);refine wpAny_bind (wpAny_lookBehind hoD (by rw [hdD]; exact pastItsLine_dict (Nat.le_trans hcD (by rw [length_cons]; omega))) ?_);exact wpAny_pure (h _ ⟨(hs2.2 _ (Ne.symm I.ne)).trans I.obj,hn2,I.ne⟩ hs2)
theorem JI {R:Result->Shared->Prop} {vs:List Value} {kw:List (Str × Value)} (X:K.In s.heap) (hm:W.makesIn K C=true)
  (hi:W.findIn K (.ref C) "__init__" = some (some (.ref f))) (hf:W.typeIn K (.ref f)=some (.type "function"))
  (h:codeAny (model prog w) (A.under (.builtin "type.__call__" ⟨.ref C :: vs,kw⟩)) (.call (.ref f) ⟨.ref (s.heap.objs.size + 1) :: vs,kw⟩) (W.InitBack (s.heap.objs.size + 1) R)
   { s with heap:=(s.heap.push W.emptyDict).push (W.instObj C s.heap.objs.size) }) :
  codeAny (model prog w) A (.call (.ref C) ⟨vs,kw⟩) R s:=by
 obtain ⟨hh,g,d,t,os⟩:=s;exact W.make_core (W.makes_of X hm) (W.looks_findIn X hi) (fun self=>W.bind_fn X self hf) (.inl rfl) h
end
noncomputable def BL (f:Str) (v:V):List (Str × V)->List (Str × V)
  | []=>[(f,v)]
  | (g,x) :: r=>if g=f then (g,v) :: r else (g,x) :: BL f v r
theorem AU (f g:Str) (v:V):∀ fs:List (Str × V),(BL f v fs).lookup g=if g=f then some v else fs.lookup g
  | []=>by
    show List.lookup g [(f,v)]=_;by_cases h:g=f
    · have hb:(g == f)=true:=beq_iff_eq.mpr h
      simp only [List.lookup,hb,if_pos h]
    · have hb:(g == f)=false:=beq_eq_false_iff_ne.mpr h
      simp only [List.lookup,hb,if_neg h]
  | (k,x) :: r=>by
    have ih:=AU f g v r;rw [show BL f v ((k,x) :: r)=(if k=f then (k,v) :: r else (k,x) :: BL f v r) from rfl];by_cases hk:k=f
    · rw [if_pos hk]
      by_cases h:g=k
      · have hb:(g == k)=true:=beq_iff_eq.mpr h
        simp only [List.lookup,hb,if_pos (h.trans hk)]
      · have hb:(g == k)=false:=beq_eq_false_iff_ne.mpr h
        simp only [List.lookup,hb,if_neg (fun e:g=f=>h (e.trans hk.symm))]
    · rw [if_neg hk]
      by_cases h:g=k
      · have hb:(g == k)=true:=beq_iff_eq.mpr h
        simp only [List.lookup,hb,if_neg (fun e:g=f=>hk (h.symm.trans e))]
      · have hb:(g == k)=false:=beq_eq_false_iff_ne.mpr h
        simp only [List.lookup,hb];exact ih
theorem FP (f:Str) (v:V):∀ fs:List (Str × V),f ∈ (BL f v fs).map (·.1)/\∀ g,g ∈ fs.map (·.1)->g ∈ (BL f v fs).map (·.1)
  | []=>⟨by simp [BL],fun g h=>by simp at h⟩
  | (k,x) :: r=>by
    obtain ⟨i1,i2⟩:=FP f v r;rw [show BL f v ((k,x) :: r)=(if k=f then (k,v) :: r else (k,x) :: BL f v r) from rfl];by_cases hk:k=f
    · rw [if_pos hk]
      subst hk;exact ⟨by simp,fun g h=>by simpa using h⟩
    · rw [if_neg hk]
      refine ⟨?_,fun g h=>?_⟩
      · rw [map_cons]
        exact mem_cons_of_mem _ i1
      · rw [map_cons] at h ⊢
        rcases mem_cons.mp h with e | e
        · exact mem_cons.mpr (.inl e)
        · exact mem_cons_of_mem _ (i2 g e)
theorem A6 (f:Str) (v:V):∀ fs:List (Str × V),(BL f v fs).length <= fs.length + 1
  | []=>by simp [BL]
  | (k,x) :: r=>by
    have ih:=A6 f v r;rw [show BL f v ((k,x) :: r)=(if k=f then (k,v) :: r else (k,x) :: BL f v r) from rfl];by_cases hk:k=f
    · rw [if_pos hk,length_cons,length_cons]; omega
    · rw [if_neg hk,length_cons,length_cons]; omega
theorem RelO.some_of {v:V} {o:Option Value} (r:RelO (some v) o):∃ u,o=some u/\RelV v u:=by
 cases o with
 | none=>exact (show False from r).elim
 | some u=>exact ⟨u,rfl,r⟩
theorem RelO.none_of {o:Option Value} (r:RelO none o):o=none:=by
 cases o with
 | none=>rfl
 | some u=>exact (show False from r).elim
theorem HX {v:V} (r:RelV v u):W.handedIn u=true:=by
 cases v with
 | non=>cases (show u=Value.none from r); rfl
 | bl b=>cases (show u=Value.bool b from r); rfl
 | int i=>obtain ⟨t,e⟩:=(show ∃ t,u=Value.int i t from r); cases e; rfl
 | str x=>obtain ⟨t,e⟩:=(show ∃ t,u=Value.str x t from r); cases e; rfl
 | byt b=>obtain ⟨t,e⟩:=(show ∃ t,u=Value.bytes b t from r); cases e; rfl
 | flt b=>obtain ⟨t,e⟩:=(show ∃ t,u=Value.float b t from r); cases e; rfl
 | ref a=>cases (show u=Value.ref a from r); rfl
 | ty n=>cases (show u=Value.type n from r); rfl
section
variable {h':Heap} {dx:Addr} {fs fs':List (Str × V)}
theorem CY (hok:HOk P w H h) (e:H a=some (.ins C dx fs)):∃ mA,ObjM h a dx C mA/\(∀ f,RelO (fs.lookup f) (mA f))/\PySem.Within mA (fs.map (·.1))/\fs.length <= 1000/\H dx=some (.own a):=by
 obtain ⟨d,z,ne,ob,mA,n,r,q⟩:=(show ObjOk P w H h a (.ins C dx fs) from hok a _ e);exact ⟨mA,⟨ob,n,ne⟩,r,q,z,d⟩
end
structure Cls (K:FG) (C:Addr):Prop where
 pg:W.plainGet K C Str.empty=true
 hd:W.hasDictIn K C=true
 po:W.plainOver K C=true
 sa:W.findIn K (.ref C) "__setattr__" = some (some (.builtin "object.__setattr__"))
theorem Cls.get (c:Cls K C) (f:Str):W.plainGet K C f=true:=c.pg
def NoAttr (K:FG) (C:Addr) (f:Str):Prop:=W.findIn K (.ref C) f=some none
theorem NoAttr.taker {f:Str} (n:NoAttr K C f):W.takerIn K C f=some none:=by
 unfold W.takerIn;rw [show W.findIn K (.ref C) f=some none from n];rfl
structure KQ (K:FG) (C:Addr) (m:Str) (f:Addr):Prop where
 at_:W.findIn K (.ref C) m=some (some (.ref f))
 fn:W.isFn K (.ref f)=true
 kp:W.keepIn K (.ref f)=true
section
variable {dx:Addr} {fs:List (Str × V)} {f:Str} {v:V}
theorem KR {b:Bool} {Q:VS} (I:Inv X aa σ H s) (e:H a=some (.ins C dx fs)) (c:Cls X.K C) (n:NoAttr X.K C f) (l:fs.lookup f=some v)
  (h:∀ u s',Inv X aa σ H s'->RelV v u->Q u s'):wpAny (model X.prog X.w) A (getAttr (.ref a) f b) Q E s:=by
 obtain ⟨mA,O,r,_,_,_⟩:=CY I.hok e;obtain ⟨u,hu,ru⟩:=RelO.some_of (v:=v) (o:=mA f) (by rw [← l]; exact r f);exact Pw I.kIn O (c.get f) c.hd n hu (HX ru) (h u _ (I.tok _) ru)
theorem GG {m:Str} {g:Addr} {pl:Sem Bool} {Q:Value × List Value->Shared->Prop} (I:Inv X aa σ H s) (e:H a=some (.ins C dx fs)) (c:Cls X.K C) (k:KQ X.K C m g) (l:fs.lookup m=none)
  (h:Q (.ref g,[.ref a]) s):wpAny (model X.prog X.w) A (getMethod (.ref a) m pl) Q E s:=by
 obtain ⟨mA,O,r,_,_,_⟩:=CY I.hok e;have hn:mA m=none:=RelO.none_of (by rw [← l]; exact r m);exact Ny I.kIn O (c.get m) k.at_ k.fn hn h
theorem KS {y:V} {Q:Unit->Shared->Prop} (I:Inv X aa σ H s) (e:H a=some (.ins C dx fs)) (c:Cls X.K C) (n:NoAttr X.K C f) (hl:fs.length < 1000) (ry:RelV y u)
  (h:∀ s',Inv X aa σ (upd H a (.ins C dx (BL f y fs))) s'->Q () s'):wpAny (model X.prog X.w) A (setAttr (.ref a) f u) Q E s:=by
 obtain ⟨mA,O,r,wi,_,ho⟩:=CY I.hok e;have hz:(fs.map (·.1)).length <= sizeLine:=by rw [AK,sizeLine_eq]; omega
 refine Px I.kIn O c.sa c.po n.taker c.hd wi hz fun h' O' sb=>h _ ?_;have hd:∃ o,h'.get? dx=some o:=let ⟨o,_,_,e',_⟩:=O'.ns; ⟨o,e'⟩
 refine I.write (x:=a) (e:=dx) (by rw [e]; exact True.intro) (.inr ho) (fun b q hb z=>(sb.2 b hb).trans z) hd ?_;refine ⟨by rw [AG O.ne]; exact ho,?_,O.ne,O'.obj,_,O'.ns,fun g=>?_,fun g hg=>?_⟩
 ·have:=A6 f y fs; omega
 ·show RelO ((BL f y fs).lookup g) (if g=f then some u else mA g);rw [AU];by_cases q:g=f
  ·rw [if_pos q,if_pos q]; exact ry
  ·rw [if_neg q,if_neg q]; exact r g
 ·by_cases q:g=f
  ·rw [q]; exact (FP f y fs).1
  ·refine (FP f y fs).2 g (wi g fun z=>hg ?_);show (if g=f then some u else mA g)=none;rw [if_neg q]; exact z
theorem Inv.made (I:Inv X aa σ H s):Inv X aa σ (upd (upd H s.heap.objs.size (.own (s.heap.objs.size + 1))) (s.heap.objs.size + 1) (.ins C s.heap.objs.size []))
  { s with heap:=(s.heap.push W.emptyDict).push (W.instObj C s.heap.objs.size) }:=by
 have e1:(s.heap.push W.emptyDict).get? s.heap.objs.size=some W.emptyDict:=get?_push_size s.heap rfl
 have e2:((s.heap.push W.emptyDict).push (W.instObj C s.heap.objs.size)).get? (s.heap.objs.size + 1)=some (W.instObj C s.heap.objs.size):=by
  have:=get?_push_size (s.heap.push W.emptyDict) (o:=W.instObj C s.heap.objs.size) rfl
  rwa [size_push] at this
 have e3:(s.heap.push W.emptyDict).Ns s.heap.objs.size (fun _=>none):=⟨W.emptyDict,#[],_,e1,rfl,(fun e he=>absurd he (by simp)),fun _=>rfl⟩;have I1:=I.laid (a:=s.heap.objs.size) (o:=.own (s.heap.objs.size + 1)) (h':=s.heap.push W.emptyDict) (t':=s.toks) (fun b u q=>get?_push_of_some _ q) (Nat.le_refl _) ⟨_,e1⟩;refine I1.laid (a:=s.heap.objs.size + 1) (o:=.ins C s.heap.objs.size []) (t':=s.toks) (fun b u q=>get?_push_of_some _ q) (Nat.le_of_eq (size_push _ _)) ?_;have ne:s.heap.objs.size ≠ s.heap.objs.size + 1:=Nat.ne_of_lt (Nat.lt_succ_self _);refine ⟨by rw [AG ne,AB],Nat.zero_le _,ne,e2,fun _=>none,(Heap.Ns1.of_empty e3).at fun o q=>get?_push_of_some _ q,fun _=>True.intro,fun y hy=>absurd rfl hy⟩
theorem Lg {prog:Program} {env:Env} {f:Str} {Q:VS} (hb:attributeBase e f env (eval e env)=eval e env)
  (h:wpAny (model prog w) A (eval e env) (fun o s₁=>wpAny (model prog w) A (getAttr o f true) Q E s₁) E s):wpAny (model prog w) A (eval (.Attribute e f pos) env) Q E s :=
 Attribute_any_ h (by rw [arm_eval_Attribute,hb])
end
inductive ExF (K:FG) (x:V) (H:Hp) (f:Str) (k:V->Prop):Prop where
 | mk (a C dx:Addr) (fs:List (Str × V)) (v:V) (h1:x=.ref a) (h2:H a=some (.ins C dx fs)) (h3:Cls K C) (h4:NoAttr K C f) (h5:fs.lookup f=some v) (q:k v):ExF K x H f k
def TL (K:FG) (ta:TE) (f:Str):TE:=fun σ H Q=>ta σ H fun x H1=>ExF K x H1 f fun v=>Q v H1
def UR (K:FG) (ta tv:TE) (f:Str):TS:=fun D σ H=>tv σ H fun y H1=>ta σ H1 fun x H2=>∃ a C dx fs,x=.ref a/\H2 a=some (.ins C dx fs)/\Cls K C/\NoAttr K C f/\fs.length < 1000 /\
 D.nx σ (upd H2 a (.ins C dx (BL f y fs)))
section
variable {o value:Expr} {f:Str} {pos' tpos:Pos} {ta tv:TE}
theorem As (he:PE X e ta) (hb:attributeBase e f X.env (eval e X.env)=eval e X.env):PE X (.Attribute e f pos) (TL X.K ta f):=by
 intro aa s σ H Q I h;refine Lg hb (thn (he aa s σ H _ I h) fun u s1 ⟨x,H1,I1,rx,a,C,dx,fs,v,ex,ea,c,n,l,q⟩=>?_);subst ex;obtain rfl:u=Value.ref a:=rx;exact KR I1 ea c n l fun u' s2 I2 ru=>⟨v,H1,I2,ru,q⟩
theorem Cj (ha:PE X o ta) (hv:PE X value tv) (hs:swapsWith value (some (.Attribute o f pos')) pos.line X.env=pure false):PS X (.Assign [.Attribute o f pos'] value pos) (UR X.K ta tv f):=by
 intro aa s σ H D I h;refine plainObj_wpAny_Assign_Attribute (thn (hv aa s σ H _ I h) fun u s1 ⟨y,H1,I1,ry,q⟩=>thn (ha aa s1 σ H1 _ I1 q) fun ov s2 ⟨x,H2,I2,rx,a,C,dx,fs,ex,ea,c,n,l,q2⟩=>?_) hs;subst ex;obtain rfl:ov=Value.ref a:=rx;exact KS I2 ea c n l ry fun s3 I3=>⟨σ,_,I3,q2⟩
end
section
variable {Q:VS} {c:Value} {b:Bool}
inductive TyOf (K:FG) (H:Hp):V->Value->Prop where
 | non:TyOf K H .non (.type "NoneType")
 | bl (x:Bool):TyOf K H (.bl x) (.type "bool")
 | int (i:Int):TyOf K H (.int i) (.type "int")
 | str (x:Str):TyOf K H (.str x) (.type "str")
 | flt (x:UInt64):TyOf K H (.flt x) (.type "float")
 | lst {a:Addr} {xs:List V} (e:H a=some (.lst xs)):TyOf K H (.ref a) (.type "list")
 | frz {a:Addr} {o:Obj} {xs:List V} (e:H a=some (.frz o (.lst xs))):TyOf K H (.ref a) (.type "list")
 | tup {a:Addr} {xs:List V} (e:H a=some (.tup xs)):TyOf K H (.ref a) (.type "tuple")
 | dK {a:Addr} {kvs:LK} (e:H a=some (.dK kvs)):TyOf K H (.ref a) (.type "dict")
 | dT {a:Addr} {kvs:List (List Key × V)} (e:H a=some (.dT kvs)):TyOf K H (.ref a) (.type "dict")
 | ins {a C dx:Addr} {fs:List (Str × V)} (e:H a=some (.ins C dx fs)) (cl:Cls K C) (ha:W.findIn K (.ref C) "__class__" = some (some (.builtin "object.__class__")))
   (hn:W.specialIn K (.builtin "object.__class__") "__get__" = some (some (.builtin "getset_descriptor.__get__"))) (htk:W.takesIn K (.builtin "object.__class__")=some true)
   (hm:W.mroIn K C (.type "object")=some true):TyOf K H (.ref a) (.ref C)
theorem HY {x:V} {t:Value} (I:Inv X aa σ H s) (rx:RelV x u) (ty:TyOf X.K H x t) (e:W.kitOne X.K t c=some b) (h:∀ tk,Q (.bool b) { s with toks:=tk }) :
  wpAny (model X.prog X.w) A (call (.builtin "isinstance") [u,c]) Q E s:=by
 cases ty with
 | non=>cases (show u=Value.none from rx); exact W.kia_one W.kitx_none I.kIn True.intro e (fun z=>nomatch z) h
 | bl y=>cases (show u=Value.bool y from rx); exact W.kia_one W.kitx_bool I.kIn True.intro e (fun z=>nomatch z) h
 | int i=>obtain ⟨t,q⟩:=(show ∃ t,u=Value.int i t from rx); cases q; exact W.kia_one W.kitx_int I.kIn True.intro e (fun z=>nomatch z) h
 | str y=>obtain ⟨t,q⟩:=(show ∃ t,u=Value.str y t from rx); cases q; exact W.kia_one W.kitx_str I.kIn True.intro e (fun z=>nomatch z) h
 | flt y=>obtain ⟨t,q⟩:=(show ∃ t,u=Value.float y t from rx); cases q; exact W.kia_one W.kitx_float I.kIn True.intro e (fun z=>nomatch z) h
 | @lst a xs ea =>
  cases (show u=Value.ref a from rx);obtain ⟨_,_,n,_,h1⟩:=(show ObjOk X.prog X.w H s.heap a (.lst xs) from I.hok a _ ea);exact W.kia_one W.kitx_list I.kIn ⟨_,h1,rfl⟩ e (fun z=>nomatch z) h
 | @frz a ob xs ea =>
  cases (show u=Value.ref a from rx);obtain ⟨_,_,_,n,_,h1⟩:=(show ObjOk X.prog X.w H s.heap a (.frz ob (.lst xs)) from I.hok a _ ea);exact W.kia_one W.kitx_list I.kIn ⟨_,h1,rfl⟩ e (fun z=>nomatch z) h
 | @tup a xs ea =>
  cases (show u=Value.ref a from rx);obtain ⟨_,_,_,p⟩:=(show ObjOk X.prog X.w H s.heap a (.tup xs) from I.hok a _ ea);obtain ⟨o,h1,h2,_⟩:=p;exact W.kia_one W.kitx_tuple I.kIn ⟨o,h1,h2⟩ e (fun z=>nomatch z) h
 | @dK a kvs ea =>
  cases (show u=Value.ref a from rx);obtain ⟨_,_,vs,_,p⟩:=(show ObjOk X.prog X.w H s.heap a (.dK kvs) from I.hok a _ ea);obtain ⟨o,es,ep,h1,h2,_⟩:=p;exact W.kia_one W.kitx_dict I.kIn ⟨o,h1,h2.1⟩ e (fun z=>nomatch z) h
 | @dT a kvs ea =>
  cases (show u=Value.ref a from rx);obtain ⟨_,_,xs,_,o,es,ep,h1,h2,_⟩:=(show ObjOk X.prog X.w H s.heap a (.dT kvs) from I.hok a _ ea);exact W.kia_one W.kitx_dict I.kIn ⟨o,h1,h2.1⟩ e (fun z=>nomatch z) h
 | @ins a C dx fs ea cl ha hn htk hm =>
  cases (show u=Value.ref a from rx);obtain ⟨mA,O,_⟩:=CY I.hok ea;obtain ⟨od,J,_⟩:=O.look;exact W.kia_one (W.kitx_own (cl.get _) cl.hd ha hn htk hm) I.kIn J e (fun z=>nomatch z) h
end
end L2
namespace L2
open PySem PySem.Spec PyProof.Rows
structure Room (k:Nat) (A:Around):Prop where
 hd:A.handled=none
 dp:A.depth + 3 * k + 5 < recursionLimit
 un:A.units + 16 * k + 200 < cLine
theorem Room.mono {j k:Nat} (r:Room k A) (h:j <= k):Room j A:=⟨r.hd,by have:=r.dp; omega,by have:=r.un; omega⟩
theorem Room.deeper {k:Nat} {A:Around} (r:Room (k + 1) A) (env:Env):Room k (A.deeper env) :=
 ⟨r.hd,by have:=r.dp; show A.depth + 1 + 3 * k + 5 < _; omega,by have:=r.un; show A.units + 3 + 16 * k + 200 < _; omega⟩
theorem Room.in1 {k:Nat} {A:Around} (r:Room (k + 1) A):Room k A.in1 :=
 ⟨r.hd,by have:=r.dp; show A.depth + 3 * k + 5 < _; omega,by have:=r.un; show A.units + 1 + 16 * k + 200 < _; omega⟩
theorem KU {kw:List (Str × Value)}:(A.under (.builtin "type.__call__" ⟨.ref C :: us,kw⟩)).depth=A.depth + 1:=by
 first | rfl | simp [Around.under,Code.weight,Code.isCreation,Code.isGuard,Code.isCaller,Code.frames,Code.isFrame,guardIds]
theorem KW {kw:List (Str × Value)}:(A.under (.builtin "type.__call__" ⟨.ref C :: us,kw⟩)).units=A.units + 1:=by
 first | rfl | simp [Around.under,Code.cUnits,Code.frames,Code.isFrame]
theorem Room.make {k:Nat} (r:Room (k + 1) A) (C:Addr) (us:List Value) (kw:List (Str × Value)):Room k (A.under (.builtin "type.__call__" ⟨.ref C :: us,kw⟩)) :=
 ⟨r.hd,by have:=r.dp; rw [KU]; omega,by have:=r.un; rw [KW]; omega⟩
theorem Room.depth {k:Nat} {A:Around} (r:Room k A):A.depth < recursionLimit:=by have:=r.dp; omega
theorem Room.units {k:Nat} {A:Around} (r:Room k A):A.units + 64 < cLine:=by have:=r.un; omega
def Cr:TA:=fun _ H Q=>Q [] H
def Ao (ta:TE) (tr:TA):TA:=fun σ H Q=>ta σ H fun x H1=>tr σ H1 fun xs H2=>Q (x :: xs) H2
section
variable {es:List Expr} {t:TA}
theorem AC:PA X [] Cr:=fun _ _ _ _ H Q I h=>Calls.spliced_nil ⟨[],H,I,.nil,h⟩
theorem AA (ha:PE X e te) (hr:PA X es t) (hs:starEach (e :: es) X.env=(false,eval e X.env) :: starEach es X.env:=by rfl):PA X (e :: es) (Ao te t):=by
 intro pos aa s σ H Q I h;rw [hs];show wpAny _ _ (spliced ((false,eval e X.env) :: backTo pos (starEach es X.env))) _ _ s;refine Calls.spliced_cons (thn (ha aa s σ H _ I h) fun u s1 ⟨x,H1,I1,r1,q1⟩=>?_);exact thn (hr pos aa s1 σ H1 _ I1 q1) fun us s2 ⟨xs,H2,I2,r2,q2⟩=>⟨x :: xs,H2,I2,.cons r1 r2,q2⟩
def Ru (t:TA):TE:=fun σ H Q=>t σ H fun xs H1=>xs.length <= sizeLine/\∀ p,H1 p=none->Q (.ref p) (upd H1 p (.tup xs))
def TM (t:TA):TE:=fun σ H Q=>t σ H fun xs H1=>xs.length <= sizeLine/\∀ p,H1 p=none->Q (.ref p) (upd H1 p (.lst xs))
theorem BE {x1} (h:PA X es t):PE X (.Tuple es x1 pos) (Ru t):=by
 intro aa s σ H Q I hq;refine wpAny_Tuple_spliced (thn (h pos aa s σ H _ I hq) fun us s1 ⟨xs,H1,I1,r,z,q⟩=>⟨by rw [← r.length]; exact z,?_⟩);have hf:H1 s1.heap.objs.size=none:=I1.hok.fresh (Nat.le_refl _);refine ⟨.ref s1.heap.objs.size,upd H1 s1.heap.objs.size (.tup xs),I1.laid (t':=s1.toks) (fun b u e=>get?_push_of_some _ e) (Nat.le_refl _) ?_,rfl,q _ hf⟩;exact ⟨z,us,r,⟨_,get?_push_size _ rfl,rfl,_,rfl⟩⟩
theorem BK (h:PA X es t):PE X (.List es pos) (TM t):=by
 intro aa s σ H Q I hq;refine wpAny_List_spliced (thn (h pos aa s σ H _ I hq) fun us s1 ⟨xs,H1,I1,r,z,q⟩=>⟨by rw [← r.length]; exact z,?_⟩);have hf:H1 s1.heap.objs.size=none:=I1.hok.fresh (Nat.le_refl _);refine ⟨.ref s1.heap.objs.size,upd H1 s1.heap.objs.size (.lst xs),I1.laid (t':=s1.toks) (fun b u e=>get?_push_of_some _ e) (Nat.le_refl _) ?_,rfl,q _ hf⟩;exact ⟨z,us,0,r,get?_push_size _ rfl⟩
end
abbrev Sp:=List V->Hp->VK->XK->Prop
abbrev CXT:=List Env->Hp->Shared->XK->Value->Shared->Prop
structure Env0 (P:Program) (w:World) (K:FG) (mg:SV) (base:Heap) (A:Around) (outer:List Env) (s:Shared) (H:Hp):Prop where
 frames:A.frames=some outer
 mod:Mod K mg base
 bs:∀ b o,base.get? b=some o->s.heap.get? b=some o/\H b=none
 bsz:base.objs.size <= s.heap.objs.size
 funs:s.heap.FunFrames base outer
 frf:∀ b ∈ frs outer,H b=none
 hok:HOk P w H s.heap
 bare:AllBare s.gens
def CE (outer:List Env) (P:Program) (w:World) (H:Hp) (s:Shared) (Q:VK) (u:Value) (s':Shared):Prop :=
 ∃ v H',s'.os=s.os/\AllBare s'.gens/\Un (frs outer) [] H H' s.heap s'.heap/\HOk P w H' s'.heap/\RelV v u/\Q v H'
def CR (CX:CXT) (outer:List Env) (P:Program) (w:World) (H:Hp) (s:Shared) (Q:VK) (E:XK) (r:Result) (s':Shared):Prop :=
 match r with
 | .ok (.ret u)=>CE outer P w H s Q u s'
 | .ok _=>False
 | .error e=>CX outer H s E e s'
structure AX (P:Program) (w:World) (K:FG) (mg:SV) (base:Heap) (CX:CXT) (k:Nat) (f:Addr) (fd:FuncData) (ps:List Str) (sp:Sp):Prop where
 len:∀ vs H Q E,sp vs H Q E->vs.length=ps.length
 run:∀ (A:Around) (outer:List Env) (s:Shared) (H:Hp) (args:Args) (us:List Value) (vs:List V) (Q:VK) (E:XK),Room k A->Env0 P w K mg base A outer s H->BindsTo s fd args (ps.zip us)->Vals vs us->sp vs H Q E ->
  codeAny (model P w) A (.call (.ref f) args) (CR CX outer P w H s Q E) s
theorem Env0.make {outer:List Env} (e:Env0 P w K mg base A outer s H) (C:Addr) (us:List Value) (kw:List (Str × Value)) :
  Env0 P w K mg base (A.under (.builtin "type.__call__" ⟨.ref C :: us,kw⟩)) outer s H:=⟨by first | exact e.frames | (simpa [Around.under,Code.envs,Code.isFrame,pushEnvs] using e.frames),e.mod,e.bs,e.bsz,e.funs,e.frf,e.hok,e.bare⟩
theorem Env0.in1 {P:Program} {w:World} {K:FG} {mg:SV} {base:Heap} {A:Around} {outer:List Env} {s:Shared} {H:Hp} (e:Env0 P w K mg base A outer s H) :
  Env0 P w K mg base A.in1 outer s H:=⟨e.frames,e.mod,e.bs,e.bsz,e.funs,e.frf,e.hok,e.bare⟩
section
variable {s':Shared}
theorem Inv.env0 (I:Inv X aa σ H s):Env0 X.prog X.w X.K X.mg X.base X.A X.stack s H :=
 ⟨I.ok.frames,I.ok.mod,I.bs,Nat.le_trans I.ok.bsz I.sz,I.stack,I.stkFree,I.hok,I.bare⟩
theorem Inv.after {Q:VK} (I:Inv X aa σ H s) (h:CE X.stack X.prog X.w H s Q u s'):EP X aa σ Q u s':=by
 obtain ⟨v,H',os,bare,un,hok,r,q⟩:=h;obtain ⟨hh,g,d,t,os'⟩:=s';obtain rfl:os'=s.os:=os;exact ⟨v,H',I.call (h':=hh) (g':=g) (d':=d) (t':=t) (ch:=[]) un hok bare (fun b z=>absurd z (by simp)),r,q⟩
end
def JJ (sp:Sp) (dvs:List V) (E:XK) (t:TA):TE:=fun σ H Q=>t σ H fun vs H1=>sp (vs++dvs) H1 Q E
inductive ExM (C:Addr) (m:Str) (x:V) (H:Hp) (k:Prop):Prop where
 | mk (a dx:Addr) (fs:List (Str × V)) (h1:x=.ref a) (h2:H a=some (.ins C dx fs)) (h3:fs.lookup m=none) (q:k):ExM C m x H k
def RE (C:Addr) (m:Str) (sp:Sp) (dvs:List V) (E:XK) (ta:TE) (t:TA):TE:=fun σ H Q=>ta σ H fun x H1=>ExM C m x H1 (t σ H1 fun vs H2=>sp (x :: (vs++dvs)) H2 Q E)
def RF (C:Addr) (sp:Sp) (dvs:List V) (E:XK) (t:TA):TE:=fun σ H Q=>t σ H fun vs H1=>∀ x dx,H1 x=none->H1 dx=none->dx ≠ x ->
 sp (.ref x :: (vs++dvs)) (upd (upd H1 dx (.own x)) x (.ins C dx [])) (fun v H2=>v=.non/\Q (.ref x) H2) E
def Binds (K:FG) (fd:FuncData) (ps:List Str) (ds:List Value):Prop :=
 ∀ (s:Shared) (us:List Value),K.In s.heap->(us++ds).length=ps.length->BindsTo s fd ⟨us,[]⟩ (ps.zip (us++ds))
theorem Binds.all {fd:FuncData} {ps:List Str} (h:∀ us:List Value,us.length=ps.length->bindArgs fd ⟨us,[]⟩=pure (ps.zip us)):Binds K fd ps []:=fun s us _ hl=>by
 rw [append_nil] at hl ⊢;exact .of_eq (h us hl)
def BF (CX:CXT) (X:Cx) (E:XK):Prop:=∀ (aa:LO) (σ:St) (H:Hp) (s:Shared) (e:Value) (s':Shared),Inv X aa σ H s->CX X.stack H s E e s'->X.xe e s'
section
variable {CX:CXT} {k:Nat} {f:Addr} {fd:FuncData} {ps:List Str} {sp:Sp} {dvs:List V} {ds:List Value} {E:XK} {m:Str} {p apos:Pos} {o:Expr} {es:List Expr} {ta:TE} {t:TA}
theorem IQ {Q:VK} {vs:List V} (F:AX X.prog X.w X.K X.mg X.base CX k f fd ps sp) (hr:Room k X.A) (hb:Binds X.K fd ps ds) (hd:Vals dvs ds) (hx:BF CX X E)
  (I:Inv X aa σ H s) (r:Vals vs us) (h:sp (vs++dvs) H Q E):wpAny (model X.prog X.w) X.A (call (.ref f) us) (EP X aa σ Q) X.xe s:=by
 have r2:Vals (vs++dvs) (us++ds):=r.append hd;have hl:(us++ds).length=ps.length:=by rw [← r2.length]; exact F.len _ _ _ _ h
 refine wpAny_call (codeAny_mono (F.run X.A X.stack s H ⟨us,[]⟩ (us++ds) (vs++dvs) Q E hr I.env0 (hb s us I.kIn hl) r2 h) fun r s' hq=>?_);cases r with
 | error e=>exact hx aa σ H s e s' I hq
 | ok fl =>
  cases fl with
  | ret u=>exact I.after hq
  | next=>exact False.elim hq
  | brk=>exact False.elim hq
  | cont=>exact False.elim hq
theorem AS (F:AX X.prog X.w X.K X.mg X.base CX k f fd ps sp) (hr:Room k X.A) (hg:Gl X x) (hm:X.mg x=some (.ref f)) (hk:W.keepIn X.K (.ref f)=true) (hb:Binds X.K fd ps ds) (hd:Vals dvs ds) (hx:BF CX X E)
  (ha:PA X (e :: es) t) (hdb:(x == ("__debug__" : Str))=false:=by decide) (he:starEach (e :: es) X.env=(false,eval e X.env) :: starEach es X.env:=by rfl) (hpl:(backTo pos (starEach es X.env)).any (·.1)=false:=by rfl) :
  PE X (.Call (.Name x p) (e :: es) [] pos) (JJ sp dvs E t):=by
 intro aa s σ H Q I h;refine wpAny_Call_Name_kw (Bb I hg hm ?_ hdb);refine W.callWith_K (h₀:=X.base) I.ok.mod.kin hk (thn (ha pos aa s σ H _ I h) fun us s1 ⟨vs,H1,I1,r,q⟩=>⟨I1.kIn,?_⟩) he hpl;exact IQ F hr hb hd hx I1 r q
theorem CZ {pl:Sem Bool} (he:PE X o ta) (c:Cls X.K C) (hm:KQ X.K C m f) (F:AX X.prog X.w X.K X.mg X.base CX k f fd ps sp) (hr:Room k X.A) (hb:Binds X.K fd ps ds) (hd:Vals dvs ds) (hx:BF CX X E) (ha:PA X (e :: es) t)
  (hst:starEach (e :: es) X.env=(false,eval e X.env) :: starEach es X.env:=by rfl) (hpl:(backTo pos (starEach es X.env)).any (·.1)=false:=by rfl)
  (ht:eval (.Call (.Attribute o m apos) (e :: es) [] pos) X.env=(do
   let ov ← eval o X.env
   standAt apos.atName
   let (f,first) ← holding [ov] (getMethod ov m pl)
   callWith pos f first (backTo pos (starEach (e :: es) X.env)) (backToKw pos (keywordEach [] X.env))):=by rfl) :
  PE X (.Call (.Attribute o m apos) (e :: es) [] pos) (RE C m sp dvs E ta t):=by
 intro aa s σ H Q I h;refine W.methodCall_KW (pl:=pl) (thn (he aa s σ H _ I h) fun u s1 ⟨x,H1,I1,rx,a,dx,fs,ex,ea,l,q⟩=>?_) ht;subst ex;obtain rfl:u=Value.ref a:=rx;refine GG I1 ea c hm l ?_;refine W.callWith_K (first:=[.ref a]) (h₀:=X.base) I.ok.mod.kin hm.kp (thn (ha pos aa s1 σ H1 _ I1 q) fun us s2 ⟨vs,H2,I2,r,q2⟩=>⟨I2.kIn,?_⟩) hst hpl;exact IQ (us:=.ref a :: us) (vs:=.ref a :: vs) F hr hb hd hx I2 (.cons rfl r) q2
theorem A3 {pl:Sem Bool} (he:PE X o ta) (c:Cls X.K C) (hm:KQ X.K C m f) (F:AX X.prog X.w X.K X.mg X.base CX k f fd ps sp) (hr:Room k X.A) (hb:Binds X.K fd ps ds) (hd:Vals dvs ds) (hx:BF CX X E)
  (ht:eval (.Call (.Attribute o m apos) [] [] pos) X.env=(do
   let ov ← eval o X.env
   standAt apos.atName
   let (f,first) ← holding [ov] (getMethod ov m pl)
   callWith pos f first (backTo pos (starEach [] X.env)) (backToKw pos (keywordEach [] X.env))):=by rfl) :
  PE X (.Call (.Attribute o m apos) [] [] pos) (RE C m sp dvs E ta Cr):=by
 intro aa s σ H Q I h;refine W.methodCall_KW (pl:=pl) (thn (he aa s σ H _ I h) fun u s1 ⟨x,H1,I1,rx,a,dx,fs,ex,ea,l,q⟩=>?_) ht;subst ex;obtain rfl:u=Value.ref a:=rx;refine GG I1 ea c hm l ?_;exact W.callWith_K0 (first:=[.ref a]) I1.kIn hm.kp (IQ (us:=[.ref a]) (vs:=[.ref a]) F hr hb hd hx I1 (.cons rfl .nil) q)
structure Mk (K:FG) (C f:Addr):Prop where
 makes:W.makesIn K C=true
 init:W.findIn K (.ref C) "__init__" = some (some (.ref f))
 fn:W.isFn K (.ref f)=true
 kp:W.keepIn K (.ref C)=true
theorem JK {Q:VK} {vs:List V} (M:Mk X.K C f) (F:AX X.prog X.w X.K X.mg X.base CX k f fd ps sp) (hr:Room (k + 1) X.A) (hb:Binds X.K fd ps ds) (hd:Vals dvs ds)
  (hx:BF CX X E) (I:Inv X aa σ H s) (r:Vals vs us)
  (h:∀ x dx,H x=none->H dx=none->dx ≠ x->sp (.ref x :: (vs++dvs)) (upd (upd H dx (.own x)) x (.ins C dx [])) (fun v H2=>v=.non/\Q (.ref x) H2) E) :
  wpAny (model X.prog X.w) X.A (call (.ref C) us) (EP X aa σ Q) X.xe s:=by
 have hq:=h (s.heap.objs.size + 1) s.heap.objs.size (I.hok.fresh (Nat.le_succ _)) (I.hok.fresh (Nat.le_refl _)) (Nat.ne_of_lt (Nat.lt_succ_self _));have I2:=Inv.made (C:=C) I;have r2:Vals (V.ref (s.heap.objs.size + 1) :: (vs++dvs)) (Value.ref (s.heap.objs.size + 1) :: (us++ds)):=.cons rfl (r.append hd)
 have hl:(Value.ref (s.heap.objs.size + 1) :: us++ds).length=ps.length:=by
  have e:=r2.length;rw [F.len _ _ _ _ hq] at e;exact e.symm
 refine wpAny_call (JI (f:=f) I.kIn M.makes M.init (beq_iff_eq.mp M.fn) (codeAny_mono (F.run _ X.stack _ _ ⟨Value.ref (s.heap.objs.size + 1) :: us,[]⟩ (Value.ref (s.heap.objs.size + 1) :: (us++ds)) _ _ E (hr.make C us [])
  (I2.env0.make C us []) (hb _ (Value.ref (s.heap.objs.size + 1) :: us) I2.kIn hl) r2 hq) fun r s' hq'=>?_))
 cases r with
 | error e=>exact hx aa σ _ _ e s' I2 hq'
 | ok fl =>
  cases fl with
  | ret u =>
   obtain ⟨v,H',I3,rv,ev,q3⟩:=I2.after hq';subst ev;exact ⟨rv,⟨V.ref (s.heap.objs.size + 1),H',I3,rfl,q3⟩⟩
  | next=>exact False.elim hq'
  | brk=>exact False.elim hq'
  | cont=>exact False.elim hq'
theorem IR (M:Mk X.K C f) (F:AX X.prog X.w X.K X.mg X.base CX k f fd ps sp) (hr:Room (k + 1) X.A) (hg:Gl X x) (hm:X.mg x=some (.ref C)) (hb:Binds X.K fd ps ds) (hd:Vals dvs ds) (hx:BF CX X E)
  (ha:PA X (e :: es) t) (hdb:(x == ("__debug__" : Str))=false:=by decide) (he:starEach (e :: es) X.env=(false,eval e X.env) :: starEach es X.env:=by rfl) (hpl:(backTo pos (starEach es X.env)).any (·.1)=false:=by rfl) :
  PE X (.Call (.Name x p) (e :: es) [] pos) (RF C sp dvs E t):=by
 intro aa s σ H Q I h;refine wpAny_Call_Name_kw (Bb I hg hm ?_ hdb);refine W.callWith_K (h₀:=X.base) I.ok.mod.kin M.kp (thn (ha pos aa s σ H _ I h) fun us s1 ⟨vs,H1,I1,r,q⟩=>⟨I1.kIn,?_⟩) he hpl;exact JK M F hr hb hd hx I1 r q
theorem Nz (M:Mk X.K C f) (F:AX X.prog X.w X.K X.mg X.base CX k f fd ps sp) (hr:Room (k + 1) X.A) (hg:Gl X x) (hm:X.mg x=some (.ref C)) (hb:Binds X.K fd ps ds) (hd:Vals dvs ds) (hx:BF CX X E)
  (hdb:(x == ("__debug__" : Str))=false:=by decide):PE X (.Call (.Name x p) [] [] pos) (RF C sp dvs E Cr):=by
 intro aa s σ H Q I h;refine wpAny_Call_Name_kw (Bb I hg hm ?_ hdb);exact W.callWith_K0 I.kIn M.kp (JK (us:=[]) M F hr hb hd hx I .nil h)
end
def PK (X:Cx) (kws:List Keyword) (t:TA):Prop :=
 ∀ (pos:Pos) (aa:LO) (s:Shared) (σ:St) (H:Hp) (Q:List V->Hp->Prop),Inv X aa σ H s->t σ H Q->wpAny (model X.prog X.w) X.A (evalAll ((backToKw pos (keywordEach kws X.env)).map (·.2))) (AP X aa σ Q) X.xe s
section
variable {CX:CXT} {k:Nat} {f:Addr} {fd:FuncData} {ps ks:List Str} {sp:Sp} {E:XK} {m:Str} {p apos kpos:Pos} {o:Expr} {es:List Expr} {kws:List Keyword} {ta:TE} {t tk:TA} {nm:Option Str}
theorem KY:PK X [] Cr:=fun _ _ _ _ H Q I h=>wpAny_evalAll_nil ⟨[],H,I,.nil,h⟩
theorem IS (ha:PE X e te) (hr:PK X kws t):PK X (⟨nm,e,kpos⟩ :: kws) (Ao te t):=by
 intro pos aa s σ H Q I h;show wpAny _ _ (evalAll ((do let v ← eval e X.env; standAt pos; pure v) :: (backToKw pos (keywordEach kws X.env)).map (·.2))) _ _ s;refine wpAny_evalAll_cons (wpAny_bind (thn (ha aa s σ H _ I h) fun u s1 ⟨x,H1,I1,r1,q1⟩=>wpAny_bind (wpAny_standAt (wpAny_pure ?_))));exact thn (hr pos aa s1 σ H1 _ I1 q1) fun us s2 ⟨xs,H2,I2,r2,q2⟩=>⟨x :: xs,H2,I2,.cons r1 r2,q2⟩
structure EE (K:FG) (fd:FuncData) (ps ks:List Str) (g:List Value->List Value->List Value) (gV:List V->List V->List V):Prop where
 to:∀ (s:Shared) (us ws:List Value),K.In s.heap->(g us ws).length=ps.length->BindsTo s fd ⟨us,ks.zip ws⟩ (ps.zip (g us ws))
 rel:∀ {vs:List V} {us:List Value} {zs:List V} {ws:List Value},Vals vs us->Vals zs ws->Vals (gV vs zs) (g us ws)
def Rv (sp:Sp) (gV:List V->List V->List V) (E:XK) (t tk:TA):TE:=fun σ H Q=>t σ H fun vs H1=>tk σ H1 fun zs H2=>sp (gV vs zs) H2 Q E
variable {g:List Value->List Value->List Value} {gV:List V->List V->List V}
theorem Py {Q:VK} {ws:List Value} {vs zs:List V} (F:AX X.prog X.w X.K X.mg X.base CX k f fd ps sp) (hr:Room k X.A) (hb:EE X.K fd ps ks g gV) (hx:BF CX X E)
  (I:Inv X aa σ H s) (r:Vals vs us) (rz:Vals zs ws) (h:sp (gV vs zs) H Q E):wpAny (model X.prog X.w) X.A (call (.ref f) us (ks.zip ws)) (EP X aa σ Q) X.xe s:=by
 have r2:=hb.rel r rz;have hl:(g us ws).length=ps.length:=by rw [← r2.length]; exact F.len _ _ _ _ h
 refine wpAny_call (codeAny_mono (F.run X.A X.stack s H ⟨us,ks.zip ws⟩ (g us ws) (gV vs zs) Q E hr I.env0 (hb.to s us ws I.kIn hl) r2 h) fun r s' hq=>?_);cases r with
 | error e=>exact hx aa σ H s e s' I hq
 | ok fl =>
  cases fl with
  | ret u=>exact I.after hq
  | next=>exact False.elim hq
  | brk=>exact False.elim hq
  | cont=>exact False.elim hq
theorem N0 (F:AX X.prog X.w X.K X.mg X.base CX k f fd ps sp) (hr:Room k X.A) (hg:Gl X x) (hm:X.mg x=some (.ref f)) (hk:W.keepIn X.K (.ref f)=true) (hb:EE X.K fd ps ks g gV) (hx:BF CX X E)
  (ha:PA X (e :: es) t) (hkw:PK X kws tk) (be:(backToKw pos (keywordEach kws X.env)).all (·.1.isSome)=true:=by rfl) (hks:(backToKw pos (keywordEach kws X.env)).filterMap (·.1)=ks:=by rfl)
  (hdb:(x == ("__debug__" : Str))=false:=by decide) (he:starEach (e :: es) X.env=(false,eval e X.env) :: starEach es X.env:=by rfl)
  (hpl:((backTo pos (starEach (e :: es) X.env)).any (·.1) || (backToKw pos (keywordEach kws X.env)).any (·.1.isNone))=false:=by rfl) :
  PE X (.Call (.Name x p) (e :: es) kws pos) (Rv sp gV E t tk):=by
 intro aa s σ H Q I h;refine wpAny_Call_Name_kw (Bb I hg hm ?_ hdb);refine W.callWith_KW (h₀:=X.base) I.ok.mod.kin hk be (thn (ha pos aa s σ H _ I h) fun us s1 ⟨vs,H1,I1,r,q⟩=>?_) hpl he;refine thn (hkw pos aa s1 σ H1 _ I1 q) fun ws s2 ⟨zs,H2,I2,rz,q2⟩=>⟨I2.kIn,?_⟩;rw [hks];exact Py F hr hb hx I2 r rz q2
end
structure AJ (N P:List Str) (sc:Scope):Prop where
 kind:sc.kind=.function
 co:sc.isCoroutine=false
 gen:sc.isGenerator=false
 nd:N.Nodup
 pre:N.take P.length=P
 par:∀ x ∈ P,sc.names.lookup x=some .local\/sc.names.lookup x=some .cell
 nofree:∀ y ∈ sc.names,y.2 ≠ .free
theorem fsc {N P:List Str} {sc:Scope} (a:sc.kind=.function:=by exact rfl) (b:sc.isCoroutine=false:=by exact rfl) (c:sc.isGenerator=false:=by exact rfl) (d:N.Nodup:=by decide +kernel) (e:N.take P.length=P:=by exact rfl) (f:∀ x ∈ P,sc.names.lookup x=some .local\/sc.names.lookup x=some .cell:=by decide +kernel) (g:∀ y ∈ sc.names,y.2 ≠ .free:=by decide +kernel):AJ N P sc:=⟨a,b,c,d,e,f,g⟩
theorem HZ {kindOf:Str->Option NameKind} {x:Str}:∀ {binds:List (Str × Value)} {m:SV},(∀ v,(x,v) ∉ binds)->bindL kindOf binds m x=m x
  | [],_,_=>rfl
  | (n,v) :: r,m,h=>by
    unfold bindL;rw [HZ fun w hw=>h w (mem_cons_of_mem _ hw)];split
    · have:x ≠ n:=by rintro rfl; exact h v mem_cons_self
      simp [this]
    · rfl
theorem Hf {kindOf:Str->Option NameKind} {x:Str}:∀ {binds:List (Str × Value)} {m:SV},(∀ v,(x,v) ∉ binds)->bindC kindOf binds m x=m x
  | [],_,_=>rfl
  | (n,v) :: r,m,h=>by
    unfold bindC;rw [Hf fun w hw=>h w (mem_cons_of_mem _ hw)];split
    · rfl
    · have:x ≠ n:=by rintro rfl; exact h v mem_cons_self
      simp [this]
theorem Hg {kindOf:Str->Option NameKind} {x:Str} {v:Value}:∀ {P:List Str} {vs:List Value} {i:Nat} {m:SV},P.Nodup->P[i]?=some x->vs[i]?=some v->kindOf x=some .local ->
  bindL kindOf (P.zip vs) m x=some v
 | [],_,_,_,_,h,_,_=>by simp at h
 | _ :: _,[],_,_,_,_,h,_=>by simp at h
 | p :: P,w :: vs,0,m,nd,h1,h2,hk=>by
  simp at h1 h2; subst h1; subst h2;show bindL kindOf ((p,w) :: P.zip vs) m p=_;unfold bindL;rw [HZ fun v hv=>(nodup_cons.mp nd).1 (of_mem_zip hv).1,if_pos hk];simp
 | p :: P,w :: vs,i + 1,m,nd,h1,h2,hk=>by
  show bindL kindOf ((p,w) :: P.zip vs) m x=_;unfold bindL;exact Hg (i:=i) (nodup_cons.mp nd).2 (by simpa using h1) (by simpa using h2) hk
theorem Hh {kindOf:Str->Option NameKind} {x:Str} {v:Value}:∀ {P:List Str} {vs:List Value} {i:Nat} {m:SV},P.Nodup->P[i]?=some x->vs[i]?=some v->kindOf x ≠ some .local ->
  bindC kindOf (P.zip vs) m x=some v
 | [],_,_,_,_,h,_,_=>by simp at h
 | _ :: _,[],_,_,_,_,h,_=>by simp at h
 | p :: P,w :: vs,0,m,nd,h1,h2,hk=>by
  simp at h1 h2; subst h1; subst h2;show bindC kindOf ((p,w) :: P.zip vs) m p=_;unfold bindC;rw [Hf fun v hv=>(nodup_cons.mp nd).1 (of_mem_zip hv).1,if_neg hk];simp
 | p :: P,w :: vs,i + 1,m,nd,h1,h2,hk=>by
  show bindC kindOf ((p,w) :: P.zip vs) m x=_;unfold bindC;exact Hh (i:=i) (nodup_cons.mp nd).2 (by simpa using h1) (by simpa using h2) hk
noncomputable def Bi (N:List Str) (vs:List V):St:=vs.map some++List.replicate (N.length - vs.length) none
noncomputable def BG (CX:CXT) (P:Program) (w:World) (K:FG) (mg:SV) (base:Heap) (N:List Str) (qual:Str) (scope:Scope) (f:Addr) (cd:Value) (A:Around) (outer:List Env) (s:Shared) (H:Hp) (E:XK):Cx where
 prog:=P
 w:=w
 K:=K
 mg:=mg
 base:=base
 A:=A.deeper (envOfC qual scope s.heap.objs.size f cd)
 N:=N
 s₀:=s
 H₀:=H
 env:=envOfC qual scope s.heap.objs.size f cd
 outer:=outer
 stack:=envOfC qual scope s.heap.objs.size f cd :: outer
 ex:=[]
 calm:=true
 fn:=fun _=>true
 pn:=[]
 xe:=fun e s'=>wpAny (model P w) (A.deeper (envOfC qual scope s.heap.objs.size f cd)) (leaving (envOfC qual scope s.heap.objs.size f cd) e) (fun _ s''=>CX outer H s E e s'') (fun e' s''=>CX outer H s E e' s'') s'
theorem JL {sc:Scope} {n:Nat} (h:sc.names.lookup x=some .cell):∃ c,(cellsFrom n sc.names []).lookup x=some c:=by
 have q:=W.cellsFrom_some sc.names n [] (.inl h);exact Option.isSome_iff_exists.mp q
theorem FQ {CX:CXT} {ps:List Str} {qual:Str} {scope:Scope} {f:Addr} {cd:Value} {outer:List Env} {s1:Shared} {E:XK} {vs:List V}
  (S:AJ N ps scope) (hd:A.handled=none) (e0:Env0 P w K mg base A outer s H) (hl:vs.length=ps.length) (r:Vals vs us)
  (x:InCallC s s.heap.objs.size (bindL (envOfC qual scope s.heap.objs.size f cd).kindOf (ps.zip us) fun _=>none) (cellsFrom (s.heap.objs.size + 1) scope.names []) (bindC (envOfC qual scope s.heap.objs.size f cd).kindOf (ps.zip us) fun _=>none) s1) :
  Inv (BG CX P w K mg base N qual scope f cd A outer s H E) [] (Bi N vs) H s1:=by
 have hpl:ps.length <= N.length:=by have:=congrArg List.length S.pre; rw [length_take] at this; omega
 obtain ⟨h1,tk,rfl,hk⟩:=x.done;have noA:∀ b:Addr,b ∉ (BG CX P w K mg base N qual scope f cd A outer s H E).ex:=fun b z=>absurd (show b ∈ ([]:List Addr) from z) (by simp)
 refine ⟨⟨e0.mod,S.kind,rfl,rfl,Nat.le_refl _,fun y z c h1 h2=>?_,fun y hy=>?_,fun y c _ h=>?_,fun _=>hd,Around.frames_deeper e0.frames,.inr ⟨rfl,rfl⟩,fun b z=>absurd z (noA b),e0.bs,e0.bsz,fun b _ _=>noA b,fun b z=>absurd z (noA b),e0.funs,e0.frf⟩,
  rfl,e0.bare,Un.kept hk,⟨_,x.toInCall.ns,fun i y v h1 h2 h3=>?_⟩,fun y c h=>⟨_,x.cell y c h⟩,e0.hok.fresh (Nat.le_refl _),fun y c h=>?_,fun p hp=>absurd (show p ∈ ([]:LO) from hp) (by simp),e0.hok.kept hk,?_⟩
 ·exact name_of_addr x.apart (PySem.mem_of_lookup h1) (PySem.mem_of_lookup h2)
 ·have hy:scope.names.lookup y=some .cell\/scope.names.lookup y=some .free:=hy;rcases hy with hy | hy
  ·exact JL hy
  ·exact absurd rfl (S.nofree _ (PySem.mem_of_lookup hy))
 ·exact Nat.le_of_lt (x.above y c (PySem.mem_of_lookup h))
 ·have hi:i < vs.length:=by
   unfold Bi at h2;by_cases hi:i < vs.length
   ·exact hi
   ·rw [getElem?_append_right (by simpa using hi)] at h2;rw [List.getElem?_replicate] at h2;split at h2 <;> cases h2
  have ha:vs[i]?=some v:=by
   unfold Bi at h2;rw [List.getElem?_append_left (by simpa using hi),getElem?_map] at h2;cases e:vs[i]? with
   | none=>rw [e] at h2; cases h2
   | some a=>rw [e] at h2; cases h2; rfl
  obtain ⟨u,hu,rv⟩:=r.get ha
  have hp:ps[i]?=some y:=by
   rw [← S.pre,List.getElem?_take_of_lt (by omega)]; exact h1
  have ndP:ps.Nodup:=by rw [← S.pre]; exact S.nd.sublist (List.take_sublist _ _)
  refine ⟨u,rv,?_⟩;rcases S.par y (mem_of_getElem? hp) with k | k
  ·exact .inl ⟨k,Hg ndP hp hu k⟩
  ·obtain ⟨c,e⟩:=JL (n:=s.heap.objs.size + 1) k;refine .inr ⟨.inl k,c,e,?_⟩;have q:=x.cell y c e;rw [Hh ndP hp hu (by show scope.names.lookup y ≠ _; rw [k]; decide)] at q;exact q
 ·exact e0.hok.fresh (Nat.le_of_lt (x.above y c (PySem.mem_of_lookup h)))
 ·unfold Bi;show _=N.length;rw [length_append,AK,List.length_replicate];omega
theorem Lh {CX:CXT} {k:Nat} {f:Addr} {name qual:Str} {params:Arguments} {body:List Stmt} {scope:Scope} {dV kV doc pm ad ct oc:Value} {an od:Option Addr}
  {osl:Array (Option Value)} {N ps:List Str} {sp:Sp} (lk:K.lookup f=some ⟨oc,od,.func (W.fnOf name qual params body scope dV kV doc pm an ad ct),osl⟩) (hcd:W.codeIn K ad qual=true) (S:AJ N ps scope)
  (len:∀ vs H Q E,sp vs H Q E->vs.length=ps.length)
  (bg:∀ (A:Around) (outer:List Env) (s:Shared) (H:Hp) (vs:List V) (Q:VK) (E:XK),Room k (A.deeper (envOfC qual scope s.heap.objs.size f ad))->sp vs H Q E ->
   ∃ t,PSs (BG CX P w K mg base N qual scope f ad A outer s H E) body t/\t { nx:=fun _ H'=>Q .non H',rt:=Q } (Bi N vs) H) :
  AX P w K mg base CX (k + 1) f (W.fnOf name qual params body scope dV kV doc pm an ad ct) ps sp:=by
 refine ⟨len,fun A outer s H args us vs Q E hr e0 hb r hsp=>?_⟩;have hl:=len _ _ _ _ hsp;have KX:K.In s.heap:=e0.mod.kin.keeps fun b o e=>(e0.bs b o e).1;have lim:s.heap.NoLimit:=e0.mod.nolimit.keeps fun b o e=>(e0.bs b o e).1
 have hkind:∀ y ∈ ps.zip us,scope.names.lookup y.1=some .local\/(scope.names.lookup y.1=some .cell/\((cellsFrom (s.heap.objs.size + 1) scope.names []).lookup y.1).isSome=true):=fun ⟨n,v⟩ hy=>by
  rcases S.par n (of_mem_zip hy).1 with q | q
  ·exact .inl q
  ·exact .inr ⟨q,W.cellsFrom_some _ _ _ (.inl q)⟩
 refine codeAny_call_function hr.depth (KX _ _ lk) rfl S.co S.gen rfl (W.codeRec_of KX hcd) (hb _ _ _ _ ?_);refine wpAny_newFunctionEnv_cells S.kind hkind fun env he s1 x=>?_;subst he;refine ⟨lim.keeps x.toInCall.keep,codeAny_func ?_⟩;obtain ⟨t,ht,hq⟩:=bg A outer s H vs Q E (hr.deeper _) hsp;have I:Inv (BG CX P w K mg base N qual scope f ad A outer s H E) [] (Bi N vs) H s1:=FQ S hr.hd e0 hl r x;refine wpAny_mono (ht [] s1 (Bi N vs) H _ I hq) (fun fl s' hs=>?_) fun e s' hs=>hs
 have fin:∀ {σ':St} {H':Hp} {v:V} {u:Value},Inv (BG CX P w K mg base N qual scope f ad A outer s H E) [] σ' H' s'->RelV v u->Q v H'->CE outer P w H s Q u s' :=
  fun {σ' H' v u} J rv q=>⟨v,H',J.os,J.bare,J.base,J.hok,rv,q⟩
 cases fl with
 | ret u =>
  obtain ⟨v,σ',H',J,rv,q⟩:=hs;exact fin J rv q
 | next =>
  obtain ⟨σ',H',J,q⟩:=hs;exact fin (v:=V.non) (u:=Value.none) J rfl q
 | brk =>
  obtain ⟨_,_,_,q⟩:=hs;exact False.elim q
 | cont =>
  obtain ⟨_,_,_,q⟩:=hs;exact False.elim q
end L2
namespace L2
open PySem PySem.Spec PyProof.Rows
section
variable {p:Pos} {es:List Expr} {t:TA} {id T:String} {r:List V->Hp->VK->Prop}
def tCB (r:List V->Hp->VK->Prop) (t:TA):TE:=fun σ H Q=>t σ H fun vs H1=>r vs H1 Q
theorem AY (hc:CallR X (.builtin id) r) (hg:Gl X x) (hm:X.mg x=none) (hv:bootBuiltins x=some (.builtin id)) (ha:PA X (e :: es) t) (hn:x ≠ "__name__" := by decide) (hdb:(x == ("__debug__" : Str))=false:=by decide)
  (he:starEach (e :: es) X.env=(false,eval e X.env) :: starEach es X.env:=by rfl) (hpl:(backTo pos (starEach es X.env)).any (·.1)=false:=by rfl):PE X (.Call (.Name x p) (e :: es) [] pos) (tCB r t):=by
 intro aa s σ H Q I h;refine wpAny_Call_Name_kw (D8 I hg hm hv ?_ hn hdb);exact PyProof.Rows.callWith_builtin1 (thn (ha pos aa s σ H _ I h) fun us s1 ⟨vs,H1,I1,r1,q1⟩=>hc aa s1 σ H1 vs us Q I1 r1 q1) he hpl
theorem BR (hc:CallR X (.type T) r) (hg:Gl X x) (hm:X.mg x=none) (hv:bootBuiltins x=some (.type T)) (ha:PA X (e :: es) t) (hn:x ≠ "__name__" := by decide) (hdb:(x == ("__debug__" : Str))=false:=by decide)
  (he:starEach (e :: es) X.env=(false,eval e X.env) :: starEach es X.env:=by rfl) (hpl:(backTo pos (starEach es X.env)).any (·.1)=false:=by rfl):PE X (.Call (.Name x p) (e :: es) [] pos) (tCB r t):=by
 intro aa s σ H Q I h;refine wpAny_Call_Name_kw (D8 I hg hm hv ?_ hn hdb);exact PyProof.Rows.callWith_type1 (thn (ha pos aa s σ H _ I h) fun us s1 ⟨vs,H1,I1,r1,q1⟩=>hc aa s1 σ H1 vs us Q I1 r1 q1) he hpl
end
end L2
namespace HT
open PySem PyProof.Rows
section
variable {prog:Program}
theorem cat_tup {t b:Addr} {vs ws:List Value} {Q:VS} (ht:IsTup s.heap t vs.toArray) (hb:IsTup s.heap b ws.toArray) (hv:vs ≠ [])
  (h1:ws=[]->Q (.ref t) s) (h2:ws ≠ []->Q (.ref s.heap.objs.size) { s with heap:=s.heap.push { cls:=.type "tuple", data:=.seq (vs++ws).toArray } })
  (hsz:vs.length + ws.length <= sizeLine):wpAny (model prog w) A (binaryOp .Add (.ref t) (.ref b)) Q E s:=by
 obtain ⟨⟨cls,dd,data,sl⟩,ho,hc,n,hd⟩:=id ht;obtain ⟨⟨cls2,dd2,data2,sl2⟩,ho2,hc2,n2,hd2⟩:=id hb;simp only at hc hd hc2 hd2;subst hc hd hc2 hd2;have e:vs.toArray++ws.toArray=(vs++ws).toArray:=by simp
 by_cases hw:ws=[]
 ·exact concat_meets ⟨_,ho,rfl⟩ ⟨_,ho2,rfl⟩ noFill_tuple_add seq_tuple_add PySem.F.slot_tuple_add PySem.F.entry_tuple_add (PySem.F.args_tuple_add_2 _ _)
   (tuple_addW1 t b vs.toArray ws.toArray n n2 dd dd2 sl sl2 (by simpa using hv) (by simp [hw])) ⟨ho,ho2,h1 hw⟩
 ·refine concat_meets ⟨_,ho,rfl⟩ ⟨_,ho2,rfl⟩ noFill_tuple_add seq_tuple_add PySem.F.slot_tuple_add PySem.F.entry_tuple_add (PySem.F.args_tuple_add_2 _ _)
   (tuple_addW2 t b vs.toArray ws.toArray n n2 dd dd2 sl sl2 (by simpa using hv) (by simpa using hw) (by rw [size_toArray,size_toArray]; exact hsz)) ⟨ho,ho2,?_⟩
  rw [e];exact h2 hw
end
end HT
namespace L2
open PySem PySem.Spec PyProof.Rows
abbrev TO:=St->Hp->(Option Int->Hp->Prop)->Prop
def PO (X:Cx) (e:Option Expr) (t:TO):Prop :=
 ∀ (aa:LO) (s:Shared) (σ:St) (H:Hp) (Q:Option Int->Hp->Prop),Inv X aa σ H s->t σ H Q ->
  wpAny (model X.prog X.w) X.A (evalPart e X.env) (fun u s'=>∃ o H',Inv X aa σ H' s'/\IsPart u o/\Q o H') X.xe s
def TN (t:TE):TO:=fun σ H Q=>t σ H fun x H1=>∃ i,x=.int i/\Q (some i) H1
theorem C0 {ns:List Int}:∀ {us:List Value},Vals (ns.map V.int) us->IntsAre us ns:=by
 induction ns with
 | nil=>intro us r; rw [map_nil] at r; cases r; exact .nil
 | cons n ns ih =>
  intro us r;rw [map_cons] at r;cases r with
  | cons r1 r2 =>
   obtain ⟨t,e⟩:=r1;subst e;exact .cons n t (ih r2)
section
variable {lo hi:Option Expr} {tl th:TO} {p2:Pos}
theorem F0 (h:PE X e te):PO X (some e) (TN te):=by
 intro aa s σ H Q I hw;rw [evalPart_some];refine thn (h aa s σ H _ I hw) fun u s1 ⟨x,H1,I1,r1,q1⟩=>?_;obtain ⟨i,rfl,q⟩:=q1;obtain ⟨t,rfl⟩:=r1;exact ⟨some i,H1,I1,.int i t,q⟩
def SlR (X:Cx) (r:V->Option Int->Option Int->Hp->VK->Prop):Prop :=
 ∀ (aa:LO) (s:Shared) (σ:St) (H:Hp) (x:V) (v vl vu:Value) (lo hi:Option Int) (sl:Addr) (Q:VK),Inv X aa σ H s->RelV x v->s.heap.IsSliceOf sl vl vu .none->IsPart vl lo->IsPart vu hi->r x lo hi H Q ->
  ∃ T id,typeLookup (.type T) "__getitem__" = pure (some (.builtin id))/\s.TypeIs v T/\wpAny (model X.prog X.w) X.A (getItem v (.ref sl)) (EP X aa σ Q) X.xe s
def tSl (r:V->Option Int->Option Int->Hp->VK->Prop) (te:TE) (tl th:TO):TE:=fun σ H Q=>te σ H fun x H1=>tl σ H1 fun l H2=>th σ H2 fun u H3=>r x l u H3 Q
theorem JM {r:V->Option Int->Option Int->Hp->VK->Prop} (hr:SlR X r) (he:PE X e te) (hl:PO X lo tl) (hu:PO X hi th):PE X (.Subscript e (.Slice lo hi none p2) pos) (tSl r te tl th):=by
 intro aa s σ H Q I h;refine Subscript_ (thn (he aa s σ H _ I h) fun v s1 ⟨x,H1,I1,r1,q1⟩=>?_);refine wpAny_Slice (thn (hl aa s1 σ H1 _ I1 q1) fun vl s2 ⟨l,H2,I2,pl,q2⟩=>thn (hu aa s2 σ H2 _ I2 q2) fun vu s3 ⟨u,H3,I3,pu,q3⟩=>?_);rw [evalPart_none];refine wpAny_pure ?_;have I4:Inv X aa σ H3 { s3 with heap:=s3.heap.push { cls:=.type "slice", data:=.fields #[vl,vu,.none] } }:=I3.kept (t':=s3.toks) fun b ob q=>get?_push_of_some _ q;obtain ⟨T,id,hT,ht,hg⟩:=hr aa { s3 with heap:=s3.heap.push { cls:=.type "slice", data:=.fields #[vl,vu,.none] } } σ H3 x v vl vu l u s3.heap.objs.size Q I4 r1 (Heap.IsSliceOf.new ..) pl pu q3;show wpAny (model X.prog X.w) X.A (subscriptTail e (.Slice lo hi none p2) v (.ref s3.heap.objs.size)) (EP X aa σ Q) X.xe { s3 with heap:=s3.heap.push { cls:=.type "slice", data:=.fields #[vl,vu,.none] } };exact tail_any (ops:=[.ref s3.heap.objs.size,v]) ht hT hg (by with_unfolding_all rfl)
def Li (K:FG):R2:=fun x y H Q=>∃ a b xs ys,x=.ref a/\y=.ref b/\SqT K H a xs/\SqT K H b ys/\xs ≠ []/\xs.length + ys.length <= sizeLine /\
 (ys=[]->Q (.ref a) H)/\(ys ≠ []->∀ p,H p=none->Q (.ref p) (upd H p (.tup (xs++ys))))
theorem Vals.nil_iff (r:Vals xs us):us=[] ↔ xs=[]:=by
 cases r with
 | nil=>simp
 | cons _ _=>simp
theorem Pz:OpR X (binaryOp .Add) (Li X.K):=by
 intro aa s σ H x y v u Q I rx ry h;obtain ⟨a,b,xs,ys,rfl,rfl,ha,hb,hx,hz,q1,q2⟩:=h;cases rx;cases ry;obtain ⟨its,r1,p1,_⟩:=I.tuple ha;obtain ⟨its2,r2,p2,_⟩:=I.tuple hb;refine HT.cat_tup p1 p2 (fun z=>hx (r1.nil_iff.mp z)) (fun z=>⟨.ref a,H,I,rfl,q1 (r2.nil_iff.mp z)⟩) (fun z=>?_) (by rw [← r1.length,← r2.length]; exact hz);refine ⟨.ref s.heap.objs.size,_,I.laid (t':=s.toks) (o:=.tup (xs++ys)) (fun b ob q=>get?_push_of_some _ q) (Nat.le_refl _) ?_,rfl,q2 (fun w=>z (r2.nil_iff.mpr w)) _ (I.hok.fresh (Nat.le_refl _))⟩;exact ⟨by rw [length_append]; exact hz,_,r1.append r2,IsTup.new _ _⟩
end
end L2
namespace L2
open PySem PySem.Spec PyProof.Rows
noncomputable def ixN (n:Nat) (i:Int):Option Nat:=if 0 <= i then (if i < n then some i.toNat else none) else if -(n:Int) <= i then some (i + n).toNat else none
noncomputable def atI {α:Type} (xs:List α) (i:Int):Option α:=(ixN xs.length i).bind fun j=>xs[j]?
theorem Lj {n:Nat} {i:Int} {j:Nat} (h:ixN n i=some j):seqIndex? i n=some j/\j < n/\-(n:Int) <= i/\i < n:=by
 unfold ixN at h;by_cases h0:0 <= i
 ·rw [if_pos h0] at h;by_cases h1:i < n
  ·rw [if_pos h1] at h;have e:i.toNat=j:=Option.some.inj h;exact ⟨by rw [seqIndex_of h0 h1,e],by omega,by omega,h1⟩
  ·rw [if_neg h1] at h; cases h
 ·rw [if_neg h0] at h;by_cases h1:-(n:Int) <= i
  ·rw [if_pos h1] at h;have e:(i + n).toNat=j:=Option.some.inj h;exact ⟨by rw [seqIndex_neg (by omega) h1,e],by omega,h1,by omega⟩
  ·rw [if_neg h1] at h; cases h
theorem IT {α:Type} {xs:List α} {i:Int} {v:α} (h:atI xs i=some v):∃ j,seqIndex? i xs.length=some j/\xs[j]?=some v/\j < xs.length/\-(xs.length:Int) <= i/\i < xs.length:=by
 unfold atI at h;cases e:ixN xs.length i with
 | none=>rw [e] at h; cases h
 | some j =>
  rw [e] at h;obtain ⟨h1,h2,h3,h4⟩:=Lj e;exact ⟨j,h1,h,h2,h3,h4⟩
theorem Bm {α:Type} {xs:List α} {j:Nat} {v:α} (h:xs[j]?=some v):atI xs (j:Int)=some v:=by
 have hj:j < xs.length:=(List.getElem?_eq_some_iff.mp h).1
 have e:ixN xs.length (j:Int)=some j:=by
  unfold ixN;rw [if_pos (by omega),if_pos (by omega)]; simp
 unfold atI; rw [e]; exact h
def Lk (b:Expr):Prop:=∀ o i,subscripted b false o i=operate [o,i] (getItem o i)
def IxR (X:Cx) (r:R2):Prop :=
 ∀ (value slice:Expr) (aa:LO) (s:Shared) (σ:St) (H:Hp) (x y:V) (v u:Value) (Q:VK),Inv X aa σ H s->RelV x v->RelV y u->r x y H Q ->
  subscripted slice false v u=operate [v,u] (getItem v u)->wpAny (model X.prog X.w) X.A (subscriptTail value slice v u) (EP X aa σ Q) X.xe s
def MtR (X:Cx) (id:String) (r:V->List V->Hp->VK->Prop):Prop :=
 ∀ (aa:LO) (s:Shared) (σ:St) (H:Hp) (x:V) (xs:List V) (v:Value) (us:List Value) (Q:VK),Inv X aa σ H s->RelV x v->Vals xs us->r x xs H Q ->
  wpAny (model X.prog X.w) X.A (call (.builtin id) (v :: us)) (EP X aa σ Q) X.xe s
section
variable {a b:Expr} {ta tb:TE}
theorem BI {r:R2} (hr:IxR X r) (ha:PE X a ta) (hb:PE X b tb) (hs:Lk b):PE X (.Subscript a b pos) (tOp r ta tb):=by
 intro aa s σ H Q I h;exact Subscript_ (Rq ha hb I h fun v u s2 x y H2 I2 rx ry q=>hr a b aa s2 σ H2 x y v u Q I2 rx ry q (hs _ _))
inductive ExrIxL (K:FG) (x y:V) (H:Hp) (k:V->Prop):Prop where
 | mk (p:Addr) (xs:List V) (i:Int) (v:V) (h1:x=.ref p) (h2:y=.int i) (h3:SqL K H p xs) (h4:atI xs i=some v) (q:k v):ExrIxL K x y H k
def TQ (K:FG):R2:=fun x y H Q=>ExrIxL K x y H fun v=>Q v H
inductive ExrIxT (K:FG) (x y:V) (H:Hp) (k:V->Prop):Prop where
 | mk (p:Addr) (xs:List V) (i:Int) (v:V) (h1:x=.ref p) (h2:y=.int i) (h3:SqT K H p xs) (h4:atI xs i=some v) (q:k v):ExrIxT K x y H k
def TR (K:FG):R2:=fun x y H Q=>ExrIxT K x y H fun v=>Q v H
def US:R2:=fun x y H Q=>∃ z i c,x=.str z/\y=.int i/\z.length <= sizeLine/\atI z.cps.toList i=some c/\Q (.str ⟨#[c]⟩) H
theorem P1:IxR X (TQ X.K):=by
 intro value slice aa s σ H x y v u Q I rx ry h hs;obtain ⟨p,xs,i,z,rfl,rfl,hq,he,q⟩:=h;cases rx;obtain ⟨t,rfl⟩:=ry;obtain ⟨its,r,pl,hz⟩:=I.list hq;obtain ⟨j,h1,h2,h3,h4,h5⟩:=IT he;obtain ⟨w,ew,rw'⟩:=r.get h2;have hl:=r.length;have hn:=FO;have fin:EP X aa σ Q w s:=⟨z,H,I,rw',q⟩;by_cases h0:0 <= i
 ·have hj:i.toNat=j:=by
   rw [seqIndex_of h0 h5] at h1;exact Option.some.inj h1
  exact item_listR pl.isList h0 (by omega) (by rw [hj]; simpa using ew) fin hs
 ·have hj:(i + (its.toArray.size:Int)).toNat=j:=by
   rw [seqIndex_neg (by omega) h4] at h1;rw [size_toArray,← hl];exact Option.some.inj h1
  exact subscriptTail_builtinR (x:=w) pl.isList.typeIs slot_list_getitem.lookup
   (wpAny_getItem_list_neg (Q:=fun r s'=>r=w/\EP X aa σ Q r s') pl.isList (by omega) (by rw [size_toArray] <;> omega) (by omega) (by rw [hj]; simpa using ew) ⟨rfl,fin⟩) hs
theorem Rw:IxR X (TR X.K):=by
 intro value slice aa s σ H x y v u Q I rx ry h hs;obtain ⟨p,xs,i,z,rfl,rfl,hq,he,q⟩:=h;cases rx;obtain ⟨t,rfl⟩:=ry;obtain ⟨its,r,pl,hz⟩:=I.tuple hq;obtain ⟨j,h1,h2,h3,h4,h5⟩:=IT he;obtain ⟨w,ew,rw'⟩:=r.get h2;have hl:=r.length;have hn:=FO;have fin:EP X aa σ Q w s:=⟨z,H,I,rw',q⟩
 exact subscriptTail_builtinR (x:=w) pl.typeIs slot_tuple_getitem.lookup
  (getItem_tuple (j:=j) (Q:=fun r s'=>r=w/\EP X aa σ Q r s') pl (by omega) (by omega) (by rw [size_toArray,← hl]; exact h1) (by simpa using ew) ⟨rfl,fin⟩) hs
theorem KZ:IxR X US:=by
 intro value slice aa s σ H x y v u Q I rx ry h hs;obtain ⟨z,i,c,rfl,rfl,hz,he,q⟩:=h;obtain ⟨t,rfl⟩:=rx;obtain ⟨t',rfl⟩:=ry;obtain ⟨j,h1,h2,h3,h4,h5⟩:=IT he;have hl:z.cps.toList.length=z.length:=by simp [Str.length]
 rw [hl] at h1 h4 h5;have hn:=FO
 exact tail_any (typeIs_str s z t) slot_str_getitem.lookup (getItem_str (c:=c) (by
  have e1:decide (i < -(2 ^ 63:Int))=false:=decide_eq_false (by omega);have e2:decide (i ≥ 2 ^ 63)=false:=decide_eq_false (by omega)
  rw [e1,e2,Bool.or_false]) (by rw [h1]; simpa using h2) ⟨.str ⟨#[c]⟩,H,I.tok _,⟨_,rfl⟩,q⟩) hs
theorem Ka (its:List Value) (n j:Nat) (u:Value):Obj.mapSeq (·.setIfInBounds j u) { cls:=.type "list", data:=.seq its.toArray n }={ cls:=.type "list", data:=.seq (its.set j u).toArray n }:=by
 simp [Obj.mapSeq]
theorem Inv.lst {aa:LO} {σ:St} {H:Hp} {s:Shared} {p:Addr} {xs:List V} (I:Inv X aa σ H s) (h:H p=some (.lst xs)) :
  ∃ (its:List Value) (n:Nat),Vals xs its/\s.heap.get? p=some { cls:=.type "list", data:=.seq its.toArray n }/\xs.length <= sizeLine:=by
 obtain ⟨z,its,n,r,e⟩:=I.hok p _ h;exact ⟨its,n,r,e,z⟩
theorem Inv.lstUpd {p:Addr} {ys:List V} {its its':List Value} {n n':Nat} {f:Obj->Obj} (I:Inv X aa σ H s) (h:H p=some (.lst xs))
  (ho:s.heap.get? p=some { cls:=.type "list", data:=.seq its.toArray n }) (hf:f { cls:=.type "list", data:=.seq its.toArray n }={ cls:=.type "list", data:=.seq its'.toArray n' }) (r:Vals ys its') (hz:ys.length <= sizeLine) (t:Nat) :
  Inv X aa σ (upd H p (.lst ys)) { s with heap:=s.heap.update p f,toks:=t }:=by
 have e:(s.heap.update p f).get? p=some { cls:=.type "list", data:=.seq its'.toArray n' }:=by
  rw [get?_update_self f ho (by rw [hf] <;> rfl),hf]
 refine I.write (x:=p) (e:=p) (by rw [h]; trivial) (.inl rfl) (fun b u hb q=>(get?_update_other _ _ (Ne.symm hb)).trans q) ⟨_,e⟩ ?_;exact ⟨hz,its',n',r,e⟩
def TU:V->V->V->Hp->(Hp->Prop)->Prop:=fun o i v H Q=>∃ p xs k j,o=.ref p/\i=.int k/\H p=some (.lst xs)/\ixN xs.length k=some j/\Q (upd H p (.lst (xs.set j v)))
theorem En:TF X TU:=by
 intro aa s σ H o i v ov iv u Q I ro ri rv h;obtain ⟨p,xs,k,j,rfl,rfl,hp,hj,q⟩:=h;cases ro;obtain ⟨t,rfl⟩:=ri;obtain ⟨its,n,r,ho,hz⟩:=I.lst hp;obtain ⟨h1,h2,h3,h4⟩:=Lj hj;have hl:=r.length;have hn:=FO
 have I':Inv X aa σ (upd H p (.lst (xs.set j v))) { s with heap:=s.heap.update p (Obj.mapSeq (·.setIfInBounds j u)) } :=
  I.lstUpd hp ho (Ka its n j u) (r.set rv j) (by rw [List.length_set]; exact hz) s.toks
 by_cases h0:0 <= k
 ·have hk:k.toNat=j:=by
   rw [seqIndex_of h0 h4] at h1;exact Option.some.inj h1
  exact W.ki_setAt ho h0 (by omega) (by rw [size_toArray,← hl]; exact h4) (by rw [hk]; exact ⟨_,I',q⟩)
 ·have hk:(k + (its.toArray.size:Int)).toNat=j:=by
   rw [seqIndex_neg (by omega) h3] at h1;rw [size_toArray,← hl];exact Option.some.inj h1
  exact W.ki_setBack ho (by omega) (by rw [size_toArray,← hl]; exact h3) (by omega) (by rw [hk]; exact ⟨_,I',q⟩)
noncomputable def Eo:V->Bool
 | .non=>true
 | .bl _=>true
 | .int _=>true
 | .str _=>true
 | _=>false
noncomputable def eqV:V->V->Bool
 | .non,.non=>true
 | .bl a,.bl b=>a == b
 | .bl a,.int b=>(if a then 1 else 0) == b
 | .int a,.bl b=>a == (if b then 1 else 0)
 | .int a,.int b=>a == b
 | .str a,.str b=>a == b
 | _,_=>false
theorem Rx {y x:V} {v:Value} (ry:RelV y u) (rx:RelV x v) (fy:Eo y=true) (fx:Eo x=true):SeqAt.EqAt A s u v (eqV y x):=by
 cases y with
 | non =>
  cases ry;cases x with
  | non=>cases rx; exact SeqAt.EqAt.same _
  | bl b=>cases rx; exact SeqAt.EqAt.none_bool b
  | int b=>obtain ⟨t,rfl⟩:=rx; exact SeqAt.EqAt.none_int b t
  | str b=>obtain ⟨t,rfl⟩:=rx; exact SeqAt.EqAt.none_str b t
  | _=>exact absurd (show false=true from fx) Bool.false_ne_true
 | bl a =>
  cases ry;cases x with
  | non=>cases rx; exact SeqAt.EqAt.bool_none a
  | bl b=>cases rx; exact SeqAt.EqAt.bool_bool a b
  | int b=>obtain ⟨t,rfl⟩:=rx; exact SeqAt.EqAt.bool_int a b t
  | str b=>obtain ⟨t,rfl⟩:=rx; exact SeqAt.EqAt.bool_str a b t
  | _=>exact absurd (show false=true from fx) Bool.false_ne_true
 | int a =>
  obtain ⟨t',rfl⟩:=ry;cases x with
  | non=>cases rx; exact SeqAt.EqAt.int_none a t'
  | bl b=>cases rx; exact SeqAt.EqAt.int_bool a t' b
  | int b=>obtain ⟨t,rfl⟩:=rx; exact SeqAt.EqAt.int_int a t' b t
  | str b=>obtain ⟨t,rfl⟩:=rx; exact SeqAt.EqAt.int_str a t' b t
  | _=>exact absurd (show false=true from fx) Bool.false_ne_true
 | str a =>
  obtain ⟨t',rfl⟩:=ry;cases x with
  | non=>cases rx; exact SeqAt.EqAt.str_none a t'
  | bl b=>cases rx; exact SeqAt.EqAt.str_bool a t' b
  | int b=>obtain ⟨t,rfl⟩:=rx; exact SeqAt.EqAt.str_int a t' b t
  | str b=>obtain ⟨t,rfl⟩:=rx; exact SeqAt.EqAt.str_str a t' b t
  | _=>exact absurd (show false=true from fx) Bool.false_ne_true
 | _=>exact absurd (show false=true from fy) Bool.false_ne_true
noncomputable def eqU (x:V) (u:Value):Bool:=match u with
 | .none=>eqV .non x
 | .bool b=>eqV (.bl b) x
 | .int i _=>eqV (.int i) x
 | .str z _=>eqV (.str z) x
 | _=>false
theorem N1 {x y:V} (r:RelV y u) (f:Eo y=true):eqU x u=eqV y x:=by
 cases y with
 | non=>cases r; rfl
 | bl b=>cases r; rfl
 | int i=>obtain ⟨t,rfl⟩:=r; rfl
 | str z=>obtain ⟨t,rfl⟩:=r; rfl
 | _=>exact absurd (show false=true from f) Bool.false_ne_true
theorem Ep {x:V}:∀ {xs:List V} {us:List Value},Vals xs us->xs.all Eo=true->us.any (eqU x)=xs.any fun y=>eqV y x
 | _,_,.nil,_=>rfl
 | y :: xs,u :: us,.cons r t,f=>by
  rw [List.all_cons,Bool.and_eq_true] at f;rw [any_cons,any_cons,N1 r f.1,Ep t f.2]
theorem DV {A:Around} {s:Shared} {x:V} {v:Value} (rx:RelV x v) (fx:Eo x=true):∀ {xs:List V} {us:List Value},Vals xs us->xs.all Eo=true->∀ u ∈ us,SeqAt.EqAt A s u v (eqU x u)
 | _,_,.nil,_=>fun u hu=>by cases hu
 | y :: xs,u :: us,.cons r t,f=>fun u' hu=>by
  rw [List.all_cons,Bool.and_eq_true] at f;rcases mem_cons.mp hu with rfl | hu
  ·rw [N1 r f.1]; exact Rx r rx f.1 fx
  ·exact DV rx fx t f.2 u' hu
noncomputable def inV (x:V) (xs:List V):Bool:=xs.any fun y=>eqV y x
def rIn (K:FG) (neg:Bool):R2:=fun x y H Q=>∃ p xs,y=.ref p/\(SqL K H p xs\/SqT K H p xs)/\Eo x=true/\xs.all Eo=true/\Q (.bl (if neg then !inV x xs else inV x xs)) H
theorem Dq:OpR X (compareOp .In) (rIn X.K false):=by
 intro aa s σ H x y v u Q I rx ry h;obtain ⟨p,xs,rfl,hq,fx,fs,q⟩:=h;cases ry;rcases hq with hq | hq
 ·obtain ⟨its,r,pl,hz⟩:=I.list hq;refine SeqAt.in_listAt (eqU x) pl.isList (fun w hw=>DV rx fx r fs w (by simpa using hw)) ⟨.bl _,H,I,rfl,?_⟩;rw [show its.toArray.any (eqU x)=its.any (eqU x) by simp,Ep r fs];exact q
 ·obtain ⟨its,r,pl,hz⟩:=I.tuple hq;refine SeqAt.in_tupleAt (eqU x) pl (fun w hw=>DV rx fx r fs w (by simpa using hw)) ⟨.bl _,H,I,rfl,?_⟩;rw [show its.toArray.any (eqU x)=its.any (eqU x) by simp,Ep r fs];exact q
theorem IU:OpR X (compareOp .NotIn) (rIn X.K true):=by
 intro aa s σ H x y v u Q I rx ry h;obtain ⟨p,xs,rfl,hq,fx,fs,q⟩:=h;cases ry;rcases hq with hq | hq
 ·obtain ⟨its,r,pl,hz⟩:=I.list hq;refine SeqAt.notIn_listAt (eqU x) pl.isList (fun w hw=>DV rx fx r fs w (by simpa using hw)) ⟨.bl _,H,I,rfl,?_⟩;rw [show its.toArray.any (eqU x)=its.any (eqU x) by simp,Ep r fs];exact q
 ·obtain ⟨its,r,pl,hz⟩:=I.tuple hq;refine SeqAt.notIn_tupleAt (eqU x) pl (fun w hw=>DV rx fx r fs w (by simpa using hw)) ⟨.bl _,H,I,rfl,?_⟩;rw [show its.toArray.any (eqU x)=its.any (eqU x) by simp,Ep r fs];exact q
theorem Er:CallR X (.builtin "len") (fun xs H Q=>∃ p ys,xs=[.ref p]/\(SqL X.K H p ys\/SqT X.K H p ys)/\Q (.int ys.length) H):=by
 intro aa s σ H xs us Q I r h;obtain ⟨p,ys,rfl,hq,q⟩:=h;obtain ⟨u,rfl,rx⟩:=Bs r;cases rx;have hn:=FO;rcases hq with hq | hq
 ·obtain ⟨its,r',pl,hz⟩:=I.list hq;have ba:=r'.length;exact Calls.call_len_list pl.isList (by simp only [size_toArray] <;> omega) ⟨.int ys.length,H,I.tok _,⟨s.toks + 1,by rw [size_toArray,ba]⟩,q⟩
 ·obtain ⟨its,r',pl,hz⟩:=I.tuple hq;have ba:=r'.length;exact len_tuple pl (by simp only [size_toArray] <;> omega) ⟨.int ys.length,H,I.tok _,⟨s.toks + 1,by rw [size_toArray,ba]⟩,q⟩
theorem BS:CallR X (.builtin "len") (fun xs H Q=>∃ z,xs=[.str z]/\z.length <= sizeLine/\Q (.int z.length) H):=by
 intro aa s σ H xs us Q I r h;obtain ⟨z,rfl,hz,q⟩:=h;obtain ⟨u,rfl,t,rfl⟩:=Bs r;have hn:=FO;exact len_str (by omega) ⟨.int z.length,H,I.tok _,⟨_,rfl⟩,q⟩
theorem CallR.or {f:Value} {r r':List V->Hp->VK->Prop} (h:CallR X f r) (h':CallR X f r'):CallR X f (fun xs H Q=>r xs H Q\/r' xs H Q):=by
 intro aa s σ H xs us Q I rs q;rcases q with q | q
 ·exact h aa s σ H xs us Q I rs q
 ·exact h' aa s σ H xs us Q I rs q
theorem HE:CallR X (.type "tuple") (fun xs H Q=>∃ p ys,xs=[.ref p]/\((SqL X.K H p ys/\∀ l,H l=none->Q (.ref l) (upd H l (.tup ys)))\/(SqT X.K H p ys/\Q (.ref p) H))):=by
 intro aa s σ H xs us Q I r h;obtain ⟨p,ys,rfl,h⟩:=h;obtain ⟨u,rfl,rx⟩:=Bs r;cases rx;rcases h with ⟨hq,q⟩ | ⟨hq,q⟩
 ·obtain ⟨its,r',pl,hz⟩:=I.list hq;have ba:=r'.length;refine call_tuple_list pl.isList (fun h' kp=>?_) (by simp only [size_toArray] <;> omega);have I1:Inv X aa σ H { s with heap:=h' }:=I.kept (t':=s.toks) kp
  have I2:Inv X aa σ (upd H h'.objs.size (.tup ys)) { s with heap:=h'.push { cls:=.type "tuple", data:=.seq its.toArray } } :=
   I1.laid (t':=s.toks) (fun b o e=>get?_push_of_some _ e) (Nat.le_refl _) (show ObjOk X.prog X.w _ _ _ (.tup ys) from ⟨hz,its,r',IsTup.new _ _⟩)
  exact ⟨.ref h'.objs.size,_,I2,rfl,q _ (I1.hok.fresh (Nat.le_refl _))⟩
 ·obtain ⟨its,r',pl,hz⟩:=I.tuple hq;exact call_tuple_same pl ⟨.ref p,H,I,rfl,q⟩
def tyV (K:FG) (T:String) (x:V) (H:Hp):Prop:=match x with
 | .str _=>T = "str"
 | .int _=>T = "int"
 | .ref p=>(T = "list" /\ ∃ xs,SqL K H p xs)\/(T = "tuple" /\ ∃ o,K.lookup p=some o/\o.cls=.type "tuple" /\ o.dict=none) \/
   (T = "dict" /\ ((∃ kvs,H p=some (.dK kvs))\/∃ kvs,H p=some (.dT kvs)))\/(T = "set" /\ ∃ S n,H p=some (.set S n))
 | _=>False
theorem N2 {T:String} {x:V} {v:Value} (I:Inv X aa σ H s) (r:RelV x v) (ty:tyV X.K T x H) :
  s.TypeIs v T/\∀ a,v=.ref a->∃ ob,s.heap.get? a=some ob/\ob.dict=none:=by
 cases x with
 | str z =>
  obtain ⟨t,rfl⟩:=r;cases (show T = "str" from ty);exact ⟨typeIs_str s z t,fun _ e=>nomatch e⟩
 | int i =>
  obtain ⟨t,rfl⟩:=r;cases (show T = "int" from ty);exact ⟨typeIs_int s i t,fun _ e=>nomatch e⟩
 | ref p =>
  cases r;rcases ty with ⟨rfl,xs,hq⟩ | ⟨rfl,o,hk,hc,hd⟩ | ⟨rfl,hk⟩ | ⟨rfl,S,n,hk⟩
  ·obtain ⟨its,_,pl,_⟩:=I.list hq;refine ⟨pl.isList.typeIs,fun a e=>?_⟩;cases e;obtain ⟨o,n,e,c,hd,_⟩:=pl;exact ⟨o,e,hd⟩
  ·refine ⟨⟨o,I.kIn p o hk,hc⟩,fun a e=>?_⟩;cases e;exact ⟨o,I.kIn _ o hk,hd⟩
  ·have z:∃ o,s.heap.get? p=some o/\o.ExactDict:=by
    rcases hk with ⟨kvs,hk⟩ | ⟨kvs,hk⟩
    ·obtain ⟨_,_,_,_,o,_,_,e,ex,_⟩:=I.hok p _ hk;exact ⟨o,e,ex⟩
    ·obtain ⟨_,_,_,_,o,_,_,e,ex,_⟩:=I.hok p _ hk;exact ⟨o,e,ex⟩
   obtain ⟨o,e,ex⟩:=z;refine ⟨⟨o,e,ex.1⟩,fun a e2=>?_⟩;cases e2;exact ⟨o,e,ex.2.1⟩
  ·obtain ⟨o,_,_,_,e,ex,_⟩:=I.hok p _ hk;refine ⟨⟨o,e,ex.1⟩,fun a e2=>?_⟩;cases e2;exact ⟨o,e,ex.2.1⟩
 | _=>exact False.elim ty
def UT (K:FG) (T:String) (r:V->List V->Hp->VK->Prop) (to:TE):TE:=fun σ H Q=>to σ H fun x H1=>tyV K T x H1/\r x [] H1 Q
def tBM (K:FG) (T:String) (r:V->List V->Hp->VK->Prop) (to:TE) (t:TA):TE:=fun σ H Q=>to σ H fun x H1=>tyV K T x H1/\t σ H1 fun xs H2=>r x xs H2 Q
variable {o:Expr} {es:List Expr} {to:TE} {t:TA} {name:Str} {apos cpos:Pos} {T id:String} {r:V->List V->Hp->VK->Prop}
theorem GH (pa:PlainAttrs T) (slot:Slot T name id) (hty:typeOf (.builtin id)=pure (.type "method_descriptor")) (hm:MtR X id r) (ho:PE X o to)
  (bp:attributeBase o name X.env (eval o X.env)=eval o X.env:=by rfl) (bv:(apos.endLine == cpos.line)=true:=by rfl):PE X (.Call (.Attribute o name apos) [] [] cpos) (UT X.K T r to):=by
 intro aa s σ H Q I h;refine wpAny_Call_method0_late bp bv (thn (ho aa s σ H _ I h) fun v s1 ⟨x,H1,I1,r1,ty,q1⟩=>?_);obtain ⟨h1,h2⟩:=N2 I1 r1 ty;exact ⟨T,id,pa,slot,hty,h1,h2,Calls.callWith_builtin rfl (PySem.evalArgs_none (hm aa s1 σ H1 x [] v [] Q I1 r1 .nil q1))⟩
theorem Es (pa:PlainAttrs T) (slot:Slot T name id) (hty:typeOf (.builtin id)=pure (.type "method_descriptor")) (hm:MtR X id r) (ho:PE X o to) (ha:PA X (e :: es) t)
  (bp:attributeBase o name X.env (eval o X.env)=eval o X.env:=by rfl)
  (hfew:((backTo cpos (starEach (e :: es) X.env)).all (fun x=>!x.1) && (backToKw cpos (keywordEach [] X.env)).all (fun x=>x.1.isSome)
   && decide ((e :: es).length + ([]:List Keyword).length + (if ([]:List Keyword).isEmpty then 0 else 1) < 30))=true:=by rfl)
  (bv:(apos.endLine == cpos.line)=true:=by rfl) (hs:starEach (e :: es) X.env=(false,eval e X.env) :: starEach es X.env:=by rfl) (hplain:(backTo cpos (starEach es X.env)).any (·.1)=false:=by rfl) :
  PE X (.Call (.Attribute o name apos) (e :: es) [] cpos) (tBM X.K T r to t):=by
 intro aa s σ H Q I h;refine wpAny_Call_method_late bp hfew bv rfl (thn (ho aa s σ H _ I h) fun v s1 ⟨x,H1,I1,r1,ty,q1⟩=>?_);obtain ⟨h1,h2⟩:=N2 I1 r1 ty;refine ⟨T,id,pa,slot,hty,h1,h2,?_⟩;have hA:=ha cpos aa s1 σ H1 _ I1 q1;rw [hs] at hA ⊢;refine Calls.callWith_builtin (by show (false || (backTo cpos (starEach es X.env)).any (·.1))=false; rw [hplain] <;> rfl) (Calls.evalArgs_plain ?_);exact thn hA fun us s2 ⟨vs,H2,I2,r2,q2⟩=>hm aa s2 σ H2 x vs v us Q I2 r1 r2 q2
end
end L2
namespace L2
open PySem PySem.Spec PyProof.Rows
def MtM (X:Cx) (id:String) (r:V->List V->Hp->VK->Prop):Prop :=
 ∀ (aa:LO) (s:Shared) (σ:St) (H:Hp) (x:V) (xs:List V) (v:Value) (us:List Value) (Q:VK),Inv X aa σ H s->RelV x v->Vals xs us->r x xs H Q ->
  wpAny (model X.prog X.w) X.A (call (.builtin id) (v :: us)) (EP X aa σ Q) X.xe s
theorem Vals.one:∀ {x:V} {us:List Value},Vals [x] us->∃ u,us=[u]/\RelV x u
 | _,_,.cons r .nil=>⟨_,rfl,r⟩
theorem Vals.zero:∀ {us:List Value},Vals [] us->us=[]
 | _,.nil=>rfl
theorem Vals.dropLast {xs:List V} {us:List Value} (h:Vals xs us):Vals xs.dropLast us.dropLast:=by
 induction h with
 | nil=>exact .nil
 | cons r t ih =>
  cases t with
  | nil=>exact .nil
  | cons q t'=>exact .cons r ih
theorem Kb {α:Type} (l:List α):l.eraseIdx (l.length - 1)=l.dropLast:=by
 induction l with
 | nil=>rfl
 | cons a r ih =>
  cases r with
  | nil=>rfl
  | cons b r =>
   have e:(a :: b :: r).length - 1=((b :: r).length - 1) + 1:=by
    have h1:(a :: b :: r).length=r.length + 2:=rfl;have h2:(b :: r).length=r.length + 1:=rfl;omega
   rw [e,List.eraseIdx_cons_succ,ih]
   all_goals rfl
section
variable {l b:Addr} {ys zs:List V}
theorem Inv.lset {its its':List Value} {n:Nat} {f:Array Value->Array Value} {t':Nat} (I:Inv X aa σ H s) (hH:H l=some (.lst xs))
  (e:s.heap.get? l=some { cls:=.type "list", data:=.seq its.toArray n }) (hf:f its.toArray=its'.toArray) (hv:Vals ys its') (hz:ys.length <= sizeLine) :
  Inv X aa σ (upd H l (.lst ys)) { s with heap:=s.heap.update l (Obj.mapSeq f),toks:=t' }:=by
 have q:=PySem.IsL.update e f;rw [hf] at q;refine I.write (x:=l) (e:=l) (by rw [hH]; exact trivial) (.inl rfl) (fun b' u hb hu=>(get?_update_other s.heap (Obj.mapSeq f) (Ne.symm hb)).trans hu) ⟨_,q⟩ ?_;exact ⟨hz,its',_,hv,q⟩
theorem Inv.lnew {its:List Value} {t':Nat} (I:Inv X aa σ H s) (hv:Vals ys its) (hz:ys.length <= sizeLine) :
  Inv X aa σ (upd H s.heap.objs.size (.lst ys)) { s with heap:=s.heap.push { cls:=.type "list", data:=.seq its.toArray },toks:=t' } :=
 I.laid (fun _ _ q=>get?_push_of_some _ q) (Nat.le_refl _) ⟨hz,its,0,hv,get?_push_size _ rfl⟩
theorem Inv.fresh (I:Inv X aa σ H s):H s.heap.objs.size=none:=I.hok.fresh (Nat.le_refl _)
theorem Inv.lstM (I:Inv X aa σ H s) (hH:H l=some (.lst xs)):xs.length <= sizeLine/\∃ (its:List Value) (n:Nat),Vals xs its/\xs.length=its.length/\s.heap.get? l=some { cls:=.type "list", data:=.seq its.toArray n }:=by
 obtain ⟨z,its,n,r,e⟩:=I.hok l _ hH;exact ⟨z,its,n,r,r.length,e⟩
end
section
def P2:V->List V->Hp->VK->Prop:=fun x vs H Q=>∃ l xs y,x=.ref l/\vs=[y]/\H l=some (.lst xs)/\xs.length < sizeLine/\Q .non (upd H l (.lst (xs++[y])))
theorem Bt:MtM X "list.append" P2:=by
 intro aa s σ H x vs v us Q I rx rv h;obtain ⟨l,xs,y,rfl,rfl,hH,hz,q⟩:=h;cases rx;obtain ⟨u,rfl,ru⟩:=rv.one;obtain ⟨z,its,n,r,hl,e⟩:=I.lstM hH;refine call_meets F.slot_list_append ⟨_,e,rfl⟩ F.entry_list_append (F.args_list_append_2 _ _) (PySem.list_append l its.toArray n u (by rw [size_toArray]; omega)) ⟨e,?_⟩;refine ⟨.non,_,I.lset (its':=its++[u]) hH e (by simp) (r.append (.cons ru .nil)) ?_,rfl,q⟩;rw [length_append,length_singleton];omega
def UU:V->List V->Hp->VK->Prop:=fun x vs H Q=>∃ l xs y,x=.ref l/\vs=[]/\H l=some (.lst xs)/\xs[xs.length - 1]?=some y/\Q y (upd H l (.lst xs.dropLast))
theorem IV:MtM X "list.pop" UU:=by
 intro aa s σ H x vs v us Q I rx rv h;obtain ⟨l,xs,y,rfl,rfl,hH,hy,q⟩:=h;cases rx;have hus:=rv.zero;subst hus;obtain ⟨z,its,n,r,hl,e⟩:=I.lstM hH;obtain ⟨u,hu,ru⟩:=r.get hy
 have hy':its.toArray[its.toArray.size - 1]?=some u:=by
  show its.toArray[its.length - 1]?=some u;rw [← Array.getElem?_toList,← hl];exact hu
 refine call_meets F.slot_list_pop ⟨_,e,rfl⟩ F.entry_list_pop (F.args_list_pop_1 _) (MeetsSeq.list_pop_last l its.toArray n u hy' (by rw [size_toArray]; omega)) ⟨e,?_⟩;refine ⟨y,_,I.lset (its':=its.dropLast) hH e ?_ r.dropLast ?_,ru,q⟩
 ·show its.toArray.eraseIdxIfInBounds (its.toArray.size - 1)=its.dropLast.toArray;rw [size_toArray,List.eraseIdxIfInBounds_toArray,Kb]
 ·rw [List.length_dropLast];omega
def UV:R2:=fun x y H Q=>∃ l b xs zs,x=.ref l/\y=.ref b/\H l=some (.lst xs)/\H b=some (.lst zs)/\xs.length + zs.length <= sizeLine/\∀ p,H p=none->Q (.ref p) (upd H p (.lst (xs++zs)))
theorem GQ:OpR X (binaryOp .Add) UV:=by
 intro aa s σ H x y v u Q I rx ry h;obtain ⟨l,b,xs,zs,rfl,rfl,hH,hB,hz,q⟩:=h;cases rx;cases ry;obtain ⟨z,its,n,r,hl,e⟩:=I.lstM hH;obtain ⟨z2,its2,n2,r2,hl2,e2⟩:=I.lstM hB;refine PySem.P.add_list e e2 ?_ (by rw [size_toArray,size_toArray]; omega);have ea:its.toArray++its2.toArray=(its++its2).toArray:=by simp
 rw [ea];exact ⟨.ref _,_,I.lnew (t':=s.toks) (r.append r2) (by rw [length_append]; omega),rfl,q _ I.fresh⟩
end
end L2
namespace L2
open PySem PySem.Spec PyProof.Rows
section
variable {κ:Type} [DecidableEq κ]
noncomputable def BN (kvs:List (κ × V)) (k:κ):Option V:=(kvs.find? fun kv=>decide (kv.1=k)).map (·.2)
noncomputable def Ck (kvs:List (κ × V)) (k:κ) (v:V):List (κ × V) :=
 if (kvs.any fun kv=>decide (kv.1=k))=true then kvs.map (fun kv=>if kv.1=k then (kv.1,v) else kv) else kvs++[(k,v)]
theorem DW {p:κ × V} {r:List (κ × V)} {k:κ} (e:p.1=k):BN (p :: r) k=some p.2:=by simp [BN,find?_cons,e]
theorem DX {p:κ × V} {r:List (κ × V)} {k:κ} (e:¬ p.1=k):BN (p :: r) k=BN r k:=by simp [BN,find?_cons,e]
theorem GV (k:κ):∀ kvs:List (κ × V),(kvs.any fun kv=>decide (kv.1=k))=(BN kvs k).isSome
 | []=>rfl
 | p :: r=>by
  rw [any_cons];by_cases e:p.1=k
  ·simp only [DW e,decide_eq_true e,Bool.true_or,Option.isSome_some]
  ·rw [DX e,decide_eq_false e,Bool.false_or]; exact GV k r
theorem Ca (kvs:List (κ × V)) (k:κ) (v:V):(Ck kvs k v).length <= kvs.length + 1:=by
 unfold Ck;split
 ·rw [AK]; omega
 ·rw [length_append,length_cons,length_nil]; omega
theorem JN {kvs:List (κ × V)} {k:κ} (v:V) (h:BN kvs k=none):Ck kvs k v=kvs++[(k,v)]:=by
 unfold Ck;rw [GV,h];exact if_neg (by decide)
theorem RelO.isSome_eq {o:Option V} {u:Option Value} (r:RelO o u):o.isSome=u.isSome:=by
 cases o with
 | none=>cases u with
  | none=>rfl
  | some _=>exact (show False from r).elim
 | some _=>cases u with
  | none=>exact (show False from r).elim
  | some _=>rfl
theorem KV.val {kvs:List (κ × V)} {vs:List (κ × Value)} (r:KV kvs vs) (k:κ):RelO (BN kvs k) (valueAt vs k):=by
 unfold KV at r;induction r with
 | nil=>exact True.intro
 | @cons p q ps qs h t ih =>
  obtain ⟨h1,h2⟩:=h;by_cases e:p.1=k
  ·have e':q.1=k:=h1.symm.trans e;have b:valueAt (q :: qs) k=some q.2:=by simp [valueAt,find?_cons,e']
   rw [DW e,b]; exact h2
  ·have e':¬ q.1=k:=fun z=>e (h1.trans z);have b:valueAt (q :: qs) k=valueAt qs k:=by simp [valueAt,find?_cons,e']
   rw [DX e,b]; exact ih
theorem KV.any {kvs:List (κ × V)} {vs:List (κ × Value)} (r:KV kvs vs) (k:κ):(kvs.any fun kv=>decide (kv.1=k))=vs.any fun kv=>decide (kv.1=k):=by
 unfold KV at r;induction r with
 | nil=>rfl
 | cons h t ih=>rw [any_cons,any_cons,ih,h.1]
theorem KV.repl {kvs:List (κ × V)} {vs:List (κ × Value)} (r:KV kvs vs) (k:κ) {y:V} (ry:RelV y u) :
  KV (kvs.map fun kv=>if kv.1=k then (kv.1,y) else kv) (vs.map fun kv=>if kv.1=k then (kv.1,u) else kv):=by
 unfold KV at r ⊢;induction r with
 | nil=>exact .nil
 | @cons p q ps qs h t ih =>
  rw [map_cons,map_cons];refine .cons ?_ ih;obtain ⟨h1,h2⟩:=h;by_cases e:p.1=k
  ·rw [if_pos e,if_pos (h1.symm.trans e)]; exact ⟨h1,ry⟩
  ·rw [if_neg e,if_neg (fun z=>e (h1.trans z))]; exact ⟨h1,h2⟩
theorem KV.put {kvs:List (κ × V)} {vs:List (κ × Value)} (r:KV kvs vs) (k:κ) {y:V} (ry:RelV y u):KV (Ck kvs k y) (stored vs k u):=by
 unfold Ck stored;rw [r.any k];by_cases e:(vs.any fun kv=>decide (kv.1=k))=true
 ·rw [if_pos e,if_pos e]; exact r.repl k ry
 ·rw [if_neg e,if_neg e]; exact Paired.snoc r ⟨rfl,ry⟩
theorem KV.length {kvs:List (κ × V)} {vs:List (κ × Value)} (r:KV kvs vs):kvs.length=vs.length:=Paired.length r
end
theorem GY {k:Key} (r:RelV (kV k) u):(Ai P w).is k u=true:=by
 cases k with
 | inl i=>obtain ⟨t,e⟩:=(show ∃ t,u=Value.int i t from r); subst e; exact JE P w i t
 | inr x=>obtain ⟨t,e⟩:=(show ∃ t,u=Value.str x t from r); subst e; exact DQ P w x t
theorem Hi {P:Program} {w:World}:∀ {ks:List Key} {us:List Value},Vals (ks.map kV) us->ItemsAre (Ai P w) ks us
 | [],_,r=>by rw [map_nil] at r; cases r; exact .nil
 | k :: ks,_,r=>by
  rw [map_cons] at r;cases r with
  | cons h t=>exact .cons (GY h) (Hi t)
abbrev KT (H:Hp):List (List Key × V)->List (List Key × Addr × Value)->Prop:=Paired fun p q=>p.1=q.1/\H q.2.1=some (.tup (p.1.map kV))/\RelV p.2 q.2.2
theorem KT.val {kvs:List (List Key × V)} {xs:List (List Key × Addr × Value)} (r:KT H kvs xs) (k:List Key):RelO (BN kvs k) ((atKey xs k).map (·.2)):=by
 induction r with
 | nil=>exact True.intro
 | @cons p q ps qs h t ih =>
  obtain ⟨h1,_,h2⟩:=h;by_cases e:p.1=k
  ·have e':q.1=k:=h1.symm.trans e;have b:atKey (q :: qs) k=some q.2:=by simp [atKey,find?_cons,e']
   rw [DW e,b]; exact h2
  ·have e':¬ q.1=k:=fun z=>e (h1.trans z);have b:atKey (q :: qs) k=atKey qs k:=by simp [atKey,find?_cons,e']
   rw [DX e,b]; exact ih
theorem KT.repl {kvs:List (List Key × V)} {xs:List (List Key × Addr × Value)} (r:KT H kvs xs) (k:List Key) {y:V} (ry:RelV y u) :
  KT H (kvs.map fun kv=>if kv.1=k then (kv.1,y) else kv) (xs.map (putAt k u)):=by
 induction r with
 | nil=>exact .nil
 | @cons p q ps qs h t ih =>
  rw [map_cons,map_cons];refine .cons ?_ ih;obtain ⟨h1,h2,h3⟩:=h;unfold putAt;by_cases e:p.1=k
  ·rw [if_pos e,if_pos (h1.symm.trans e)]; exact ⟨h1,h2,ry⟩
  ·rw [if_neg e,if_neg (fun z=>e (h1.trans z))]; exact ⟨h1,h2,h3⟩
theorem KT.put {kvs:List (List Key × V)} {xs:List (List Key × Addr × Value)} (r:KT H kvs xs) (k:List Key) {b:Addr} {y:V} (hb:H b=some (.tup (k.map kV))) (ry:RelV y u) :
  KT H (Ck kvs k y) (storedH xs k b u):=by
 have e:(kvs.any fun kv=>decide (kv.1=k))=(atKey xs k).isSome:=by
  rw [GV,(r.val k).isSome_eq,Option.isSome_map]
 unfold Ck storedH;rw [e];by_cases q:(atKey xs k).isSome=true
 ·rw [if_pos q,if_pos q]; exact r.repl k ry
 ·rw [if_neg q,if_neg q]; exact Paired.snoc r ⟨rfl,hb,ry⟩
theorem KT.keeps {kvs:List (List Key × V)} {xs:List (List Key × Addr × Value)} (r:KT H kvs xs) (ht:∀ b ys,H b=some (.tup ys)->H' b=some (.tup ys)):KT H' kvs xs :=
 Paired.mapP r fun _ _ z=>⟨z.1,ht _ _ z.2.1,z.2.2⟩
section
theorem RG {u:HO} (ok:HOk P w H h) (e:Rd H a u):ObjOk P w H h a u:=e.ok ok
theorem DI {kvs:LK} (ok:HOk P w H h) (e:Rd H a (.dK kvs)):kvs.length <= sizeLine/\(a == sysModules)=false/\∃ vs,KV kvs vs/\h.DictOf (Ai P w) a vs :=
 show ObjOk P w H h a (.dK kvs) from RG ok e
theorem N3 {kvs:LK} (ok:HOk P w H h) (e:H a=some (.dK kvs)):kvs.length <= sizeLine/\(a == sysModules)=false/\∃ vs,KV kvs vs/\h.DictOf (Ai P w) a vs:=DI ok (.inl e)
theorem GZ {ks:List Key} (ok:HOk P w H h) (e:H a=some (.tup (ks.map kV))):(tupleKind (Ai P w)).is h ks a:=by
 obtain ⟨_,its,r,o,h1,h2,n,h3⟩:=(show ObjOk P w H h a (.tup (ks.map kV)) from ok a _ e);exact ⟨o,its.toArray,n,h1,h2,h3,by simpa using Hi r⟩
theorem Hj {kvs:List (List Key × V)} (ok:HOk P w H h) (e:Rd H a (.dT kvs)):kvs.length <= sizeLine/\(a == sysModules)=false /\
  ∃ xs,KT H kvs xs/\h.DictOfH (tupleKind (Ai P w)) a xs:=by
 obtain ⟨z,y,xs,r,o,es,ep,h1,h2,h3,h4,h5⟩:=(show ObjOk P w H h a (.dT kvs) from RG ok e);refine ⟨z,y,xs,r,o,es,ep,h1,h2,h3,h4,fun x hx=>?_,h5⟩
 have all:∀ {l:List (List Key × V)} {m:List (List Key × Addr × Value)},KT H l m->∀ x ∈ m,(tupleKind (Ai P w)).is h x.1 x.2.1:=by
  intro l m q;induction q with
  | nil=>intro x hx; exact nomatch hx
  | @cons p q ps qs hq t ih =>
   intro x hx;rcases mem_cons.mp hx with e | hx
   ·subst e;exact GZ ok (by rw [← hq.1]; exact hq.2.1)
   ·exact ih x hx
 exact all r x hx
theorem TV {kvs:List (List Key × V)} (ok:HOk P w H h) (e:H a=some (.dT kvs)):kvs.length <= sizeLine/\(a == sysModules)=false /\
  ∃ xs,KT H kvs xs/\h.DictOfH (tupleKind (Ai P w)) a xs:=Hj ok (.inl e)
end
def JO (H:Hp) (a:Addr) (y:V) (r:Option V):Prop :=
 (∃ kvs k,Rd H a (.dK kvs)/\y=kV k/\r=BN kvs k)\/∃ kvs k b,Rd H a (.dT kvs)/\y=.ref b/\H b=some (.tup (k.map kV))/\r=BN kvs k
def DPut (H:Hp) (a:Addr) (y v:V) (H':Hp):Prop :=
 (∃ kvs k,H a=some (.dK kvs)/\y=kV k/\kvs.length < sizeLine/\H'=upd H a (.dK (Ck kvs k v))) \/
 ∃ kvs k b,H a=some (.dT kvs)/\y=.ref b/\H b=some (.tup (k.map kV))/\kvs.length < sizeLine/\H'=upd H a (.dT (Ck kvs k v))
theorem DPut.k {H:Hp} {a:Addr} {kvs:LK} {k:Key} {v:V} (e:H a=some (.dK kvs)) (hl:kvs.length < sizeLine):DPut H a (kV k) v (upd H a (.dK (Ck kvs k v))):=.inl ⟨kvs,k,e,rfl,hl,rfl⟩
section
variable {y v:V} {r:Value} {o:Option V}
theorem Inv.big (I:Inv X aa σ H s):sysModules < s.heap.objs.size:=by
 have h:mainGlobals < s.heap.objs.size:=(I.mod.glob.keeps I.bk).lt;exact Nat.lt_trans (by decide) h
theorem Ml {Q:VS} (hu:A.units + 1 < cLine) (I:Inv X aa σ H s) (g:JO H a y (some v)) (ry:RelV y u) (h:∀ w' s',Inv X aa σ H s'->RelV v w'->Q w' s') :
  wpAny (model X.prog X.w) A (getItem (.ref a) u) Q E s:=by
 rcases g with ⟨kvs,k,e,ey,l⟩ | ⟨kvs,k,b,e,ey,eb,l⟩
 ·subst ey;obtain ⟨z,hd,vs,rel,dd⟩:=DI I.hok e;obtain ⟨w',hw,rw'⟩:=RelO.some_of (v:=v) (o:=valueAt vs k) (by rw [l]; exact rel.val k);exact wpAny_getItem_of (GY ry) dd.mapOf hw (h w' _ (I.tok _) rw')
 ·subst ey;cases (show u=Value.ref b from ry);obtain ⟨z,hd,xs,rel,dd⟩:=Hj I.hok e;obtain ⟨w',hw,rw'⟩:=RelO.some_of (v:=v) (o:=(atKey xs k).map (·.2)) (by rw [l]; exact rel.val k);obtain ⟨p,hp,al⟩:=Option.map_eq_some_iff.mp hw;refine wpAny_getItem_heap (tupleKind_room_in1 hu) (GZ I.hok eb) dd hp ?_;rw [al];exact h w' _ (I.tok _) rw'
theorem UW {Q:VS} (hu:A.units + 1 < cLine) (I:Inv X aa σ H s) (g:JO H a y o) (ry:RelV y u) (h:∀ s',Inv X aa σ H s'->Q (.bool o.isSome) s') :
  wpAny (model X.prog X.w) A (compareOp .In u (.ref a)) Q E s:=by
 rcases g with ⟨kvs,k,e,ey,l⟩ | ⟨kvs,k,b,e,ey,eb,l⟩
 ·subst ey;obtain ⟨z,hd,vs,rel,dd⟩:=DI I.hok e;refine wpAny_in_of (GY ry) hd dd.mapOf ?_;rw [← (rel.val k).isSome_eq,← l];exact h _ (I.tok _)
 ·subst ey;cases (show u=Value.ref b from ry);obtain ⟨z,hd,xs,rel,dd⟩:=Hj I.hok e;refine wpAny_in_heap (tupleKind_room_in1 hu) (GZ I.hok eb) hd dd ?_;have q:=(rel.val k).isSome_eq;rw [Option.isSome_map] at q;rw [← q,← l];exact h _ (I.tok _)
theorem P3 {Q:VS} (hu:A.units + 1 < cLine) (I:Inv X aa σ H s) (g:JO H a y o) (ry:RelV y u) (h:∀ s',Inv X aa σ H s'->Q (.bool (!o.isSome)) s') :
  wpAny (model X.prog X.w) A (compareOp .NotIn u (.ref a)) Q E s:=by
 rcases g with ⟨kvs,k,e,ey,l⟩ | ⟨kvs,k,b,e,ey,eb,l⟩
 ·subst ey;obtain ⟨z,hd,vs,rel,dd⟩:=DI I.hok e;refine wpAny_notIn_of (GY ry) hd dd.mapOf ?_;rw [← (rel.val k).isSome_eq,← l];exact h _ (I.tok _)
 ·subst ey;cases (show u=Value.ref b from ry);obtain ⟨z,hd,xs,rel,dd⟩:=Hj I.hok e;refine wpAny_notIn_heap (tupleKind_room_in1 hu) (GZ I.hok eb) hd dd ?_;have q:=(rel.val k).isSome_eq;rw [Option.isSome_map] at q;rw [← q,← l];exact h _ (I.tok _)
theorem F1 {h':Heap} {t':Nat} {ob:HO} (I:Inv X aa σ H s) (mu:Mut (H a)) (hs:Heap.SameBut a s.heap h') (he:∃ q,h'.get? a=some q) (new:ObjOk X.prog X.w (upd H a ob) h' a ob) :
  Inv X aa σ (upd H a ob) { s with heap:=h',toks:=t' } :=
 I.write (x:=a) (e:=a) mu (.inl rfl) (fun b q hb z=>(hs.2 b hb).trans z) he new
theorem Kc {h':Heap} {kvs:LK} {vs:List (Key × Value)} (z:kvs.length <= sizeLine) (hd:(a == sysModules)=false) (rel:KV kvs vs) (dd:h'.DictOf (Ai P w) a vs) :
  ObjOk P w H' h' a (.dK kvs):=⟨z,hd,vs,rel,dd⟩
theorem Mm {Q:Unit->Shared->Prop} (hu:A.units + 1 < cLine) (I:Inv X aa σ H s) (g:DPut H a y v H') (ry:RelV y u) (rv:RelV v r) (h:∀ s',Inv X aa σ H' s'->Q () s') :
  wpAny (model X.prog X.w) A (setItem (.ref a) u r) Q E s:=by
 rcases g with ⟨kvs,k,e,ey,l,eH⟩ | ⟨kvs,k,b,e,ey,eb,l,eH⟩
 ·subst ey eH;obtain ⟨z,hd,vs,rel,dd⟩:=N3 I.hok e;have hz:vs.length <= sizeLine:=by rw [← rel.length]; exact z
  have hl:(Ck kvs k v).length <= sizeLine:=by have:=Ca kvs k v; omega
  refine wpAny_setItem_pairs (hsz:=hz) (GY ry) dd fun h' dd' hs=>h _ ?_;have he:∃ q,h'.get? a=some q:=let ⟨q,_,_,hq,_⟩:=dd'; ⟨q,hq⟩
  exact F1 I (by rw [e]; exact True.intro) hs he (Kc hl hd (rel.put k rv) dd')
 ·subst ey eH;cases (show u=Value.ref b from ry);obtain ⟨z,hd,xs,rel,dd⟩:=TV I.hok e;have hz:xs.length <= sizeLine:=by rw [← Paired.length rel]; exact z
  have hl:(Ck kvs k v).length <= sizeLine:=by have:=Ca kvs k v; omega
  refine wpAny_setItem_heap (hsz:=hz) (tupleKind_room_in1 hu) (GZ I.hok eb) dd fun h' dd' hs=>h _ ?_;obtain ⟨q,es,ep,hq,h2,h3,h4,_,h5⟩:=dd';refine F1 I (by rw [e]; exact True.intro) hs ⟨q,hq⟩ ⟨hl,hd,_,(rel.put k eb rv).keeps fun c ys ec=>?_,q,es,ep,hq,h2,h3,h4,h5⟩;rw [AG (LY ec e (fun z=>nomatch z))];exact ec
end
def TW (i:Expr):Prop:=∀ ov iv,subscripted i false ov iv=operate [ov,iv] (getItem ov iv)
theorem P4 {prog:Program} {env:Env} {value slice:Expr} {T id:String} {Q:VS}
  (hl:typeLookup (.type T) "__getitem__" = pure (some (.builtin id))) (hs:TW slice)
  (h:wpAny (model prog w) A (eval value env) (fun o s₁=>wpAny (model prog w) A (eval slice env) (fun i s₂=>s₂.TypeIs o T/\wpAny (model prog w) A (getItem o i) Q E s₂) E s₁) E s) :
  wpAny (model prog w) A (eval (.Subscript value slice pos) env) Q E s:=by
 refine Subscript_ (wpAny_mono h (fun o s₁ h₁=>wpAny_mono h₁ (fun i s₂ h₂=>?_) fun _ _ x=>x) fun _ _ x=>x);obtain ⟨hT,h₂⟩:=h₂;unfold subscriptTail;refine wpAny_bind ?_;rw [getitemInPython_of_ne hT.not_modules];refine wpAny_bind (wpAny_specialOf hT hl ?_)
 have fin:wpAny (model prog w) A (subscripted slice false o i) (fun r s₃=>wpAny (model prog w) A (letTemporaryGo value o r >>= fun _=>pure r) Q E s₃) E s₂:=by
  rw [hs o i];exact wpAny_operating (wpAny_mono h₂ (fun r s₃ h₃=>wpAny_bind (wpAny_letTemporaryGo (wpAny_pure h₃))) fun _ _ x=>x)
 first
  | exact wpAny_pure (wpAny_bind fin)
  | exact wpAny_bind (wpAny_pure (wpAny_bind fin))
  | exact wpAny_bind fin
theorem JP {y:V} {o:Option V} (I:Inv X aa σ H s) (g:JO H a y o):s.TypeIs (.ref a) "dict" := by
 rcases g with ⟨kvs,k,e,_,_⟩ | ⟨kvs,k,b,e,_,_,_⟩
 ·obtain ⟨_,_,vs,_,dd⟩:=DI I.hok e;exact dd.typeIs
 ·obtain ⟨_,_,xs,_,dd⟩:=Hj I.hok e;exact dd.typeIs
inductive ExD (x:V) (H:Hp) (y:V) (k:V->Prop):Prop where
 | mk (a:Addr) (v:V) (h1:x=.ref a) (h2:JO H a y (some v)) (q:k v):ExD x H y k
def TX (td ty:TE):TE:=fun σ H Q=>td σ H fun x H1=>ty σ H1 fun y H2=>ExD x H2 y fun v=>Q v H2
def UX (ty td:TE):TE:=fun σ H Q=>ty σ H fun y H1=>td σ H1 fun x H2=>∃ a o,x=.ref a/\JO H2 a y o/\Q (.bl o.isSome) H2
def P5 (ty td:TE):TE:=fun σ H Q=>ty σ H fun y H1=>td σ H1 fun x H2=>∃ a o,x=.ref a/\JO H2 a y o/\Q (.bl (!o.isSome)) H2
def TY (td ty tv:TE):TS:=fun D σ H=>tv σ H fun v H1=>td σ H1 fun x H2=>ty σ H2 fun y H3=>∃ a H4,x=.ref a/\DPut H3 a y v H4/\D.nx σ H4
section
variable {o i value:Expr} {pos' tpos:Pos} {td ty tv:TE}
theorem BU (hu:X.A.units + 1 < cLine) (ho:PE X o td) (hi:PE X i ty) (hs:TW i):PE X (.Subscript o i pos) (TX td ty):=by
 intro aa s σ H Q I h;refine P4 PySem.F.slot_dict_getitem.lookup hs (thn (ho aa s σ H _ I h) fun u s1 ⟨x,H1,I1,rx,q1⟩=>thn (hi aa s1 σ H1 _ I1 q1) fun iv s2 ⟨y,H2,I2,ry,a,v,ex,g,q2⟩=>?_);subst ex;obtain rfl:u=Value.ref a:=rx;exact ⟨JP I2 g,Ml hu I2 g ry fun w' s3 I3 rw'=>⟨v,H2,I3,rw',q2⟩⟩
theorem N4 (hu:X.A.units + 1 < cLine) (hi:PE X i ty) (ho:PE X o td):PC X .In i o (UX ty td):=by
 intro aa s σ H Q I h;refine thn (hi aa s σ H _ I h) fun iv s1 ⟨y,H1,I1,ry,q1⟩=>thn (ho aa s1 σ H1 _ I1 q1) fun u s2 ⟨x,H2,I2,rx,a,ov,ex,g,q2⟩=>?_;subst ex;obtain rfl:u=Value.ref a:=rx;exact UW hu I2 g ry fun s3 I3=>⟨.bl ov.isSome,H2,I3,rfl,q2⟩
theorem Mn (hu:X.A.units + 1 < cLine) (hi:PE X i ty) (ho:PE X o td):PC X .NotIn i o (P5 ty td):=by
 intro aa s σ H Q I h;refine thn (hi aa s σ H _ I h) fun iv s1 ⟨y,H1,I1,ry,q1⟩=>thn (ho aa s1 σ H1 _ I1 q1) fun u s2 ⟨x,H2,I2,rx,a,ov,ex,g,q2⟩=>?_;subst ex;obtain rfl:u=Value.ref a:=rx;exact P3 hu I2 g ry fun s3 I3=>⟨.bl (!ov.isSome),H2,I3,rfl,q2⟩
theorem IW (hu:X.A.units + 1 < cLine) (ho:PE X o td) (hi:PE X i ty) (hv:PE X value tv) (hs:swapsWith value (some (.Subscript o i pos')) pos.line X.env=pure false) :
  PS X (.Assign [.Subscript o i pos'] value pos) (TY td ty tv):=by
 intro aa s σ H D I h;refine wpAny_Assign_Subscript (thn (hv aa s σ H _ I h) fun r s1 ⟨v,H1,I1,rv,q1⟩=>thn (ho aa s1 σ H1 _ I1 q1) fun u s2 ⟨x,H2,I2,rx,q2⟩=>thn (hi aa s2 σ H2 _ I2 q2) fun iv s3 ⟨y,H3,I3,ry,a,H4,ex,g,q3⟩=>?_) hs;subst ex;obtain rfl:u=Value.ref a:=rx;exact Mm hu I3 g ry rv fun s4 I4=>⟨σ,H4,I4,q3⟩
end
theorem JQ (h:Heap) (hb:sysModules < h.objs.size):ObjOk P w H (h.push { cls:=.type "dict", data:=.dict #[] }) h.objs.size (.dK []) :=
 ⟨Nat.zero_le _,beq_eq_false_iff_ne.mpr (Ne.symm (Nat.ne_of_lt hb)),[],.nil,Heap.DictOf.new h⟩
def Ry:TE:=fun _ H Q=>∀ p,H p=none->Q (.ref p) (upd H p (.dK []))
section
theorem Ct:PE X (.Dict [] [] pos) Ry:=fun aa s σ H Q I h =>
 wpAny_Dict_empty ⟨.ref s.heap.objs.size,_,I.laid (a:=s.heap.objs.size) (o:=.dK []) (t':=s.toks) (fun _ _ q=>get?_push_of_some _ q) (Nat.le_refl _) (JQ s.heap I.big),rfl,h _ (I.hok.fresh (Nat.le_refl _))⟩
end
def Kd:List (TE × TE)->St->Hp->(List (V × V)->Hp->Prop)->Prop
  | [],_,H,Q=>Q [] H
  | (tk,tv) :: r,σ,H,Q=>tk σ H fun x H1=>tv σ H1 fun y H2=>Kd r σ H2 fun ps H3=>Q ((x,y) :: ps) H3
abbrev VV:List (V × V)->List (Value × Value)->Prop:=Paired fun p q=>RelV p.1 q.1/\RelV p.2 q.2
def PPs (X:Cx) (pos:Pos) (keys:List (Option Expr)) (values:List Expr) (trs:List (TE × TE)):Prop :=
 ∀ (aa:LO) (s:Shared) (σ:St) (H:Hp) (Q:List (V × V)->Hp->Prop),Inv X aa σ H s->Kd trs σ H Q ->
  wpAny (model X.prog X.w) X.A (evalPairs (pairTrees keys values X.env pos)) (fun vs s'=>∃ ps H',Inv X aa σ H' s'/\VV ps vs/\Q ps H') X.xe s
theorem Ll:PPs X pos [] [] []:=fun aa s σ H Q I h=>pairTrees_nil_walk ⟨[],H,I,.nil,h⟩
theorem B1 {k v:Expr} {ks:List (Option Expr)} {vs:List Expr} {tk tv:TE} {trs:List (TE × TE)} (hk:PE X k tk) (hv:PE X v tv) (hr:PPs X pos ks vs trs) :
  PPs X pos (some k :: ks) (v :: vs) ((tk,tv) :: trs):=fun aa s σ H Q I h =>
 pairTrees_cons_walk (thn (hk aa s σ H _ I h) fun u s1 ⟨x,H1,I1,rx,q1⟩=>thn (hv aa s1 σ H1 _ I1 q1) fun w2 s2 ⟨y,H2,I2,ry,q2⟩ =>
  thn (hr aa s2 σ H2 _ I2 q2) fun ws s3 ⟨ps,H3,I3,rel,q3⟩=>⟨(x,y) :: ps,H3,I3,.cons ⟨rx,ry⟩ rel,q3⟩)
noncomputable def C1 (kvs more:LK):LK:=more.foldl (fun acc kv=>Ck acc kv.1 kv.2) kvs
theorem KV.merge:∀ {more:LK} {rs:List (Key × Value)} {kvs:LK} {vs:List (Key × Value)},KV more rs->KV kvs vs->KV (C1 kvs more) (merged vs rs):=by
 intro more rs kvs vs r;unfold KV at r;induction r generalizing kvs vs with
 | nil=>intro q; exact q
 | @cons p q ps qs h t ih =>
  intro r0
  have e:KV (Ck kvs p.1 p.2) (stored vs q.1 q.2):=by
   have:=r0.put p.1 h.2;rw [← h.1]; exact this
  exact ih e
theorem Dz:∀ (more kvs:LK),(C1 kvs more).length <= kvs.length + more.length
 | [],kvs=>by show kvs.length <= kvs.length + 0; omega
 | p :: r,kvs=>by
  have h1:=Dz r (Ck kvs p.1 p.2);have h2:=Ca kvs p.1 p.2;show (C1 (Ck kvs p.1 p.2) r).length <= _;rw [length_cons]; omega
theorem Ga {P:Program} {w:World}:∀ {kvs:LK} {ws:List (Value × Value)},VV (kvs.map fun kv=>(kV kv.1,kv.2)) ws->∃ rs,Carries (Ai P w) ws rs/\KV kvs rs
 | [],_,r=>by rw [map_nil] at r; cases r; exact ⟨[],True.intro,.nil⟩
 | p :: kvs,_,r=>by
  rw [map_cons] at r;cases r with
  | @cons a b as bs h t =>
   obtain ⟨rs,c,q⟩:=Ga (P:=P) (w:=w) t;obtain ⟨b1,b2⟩:=b;exact ⟨(p.1,b2) :: rs,⟨GY h.1,rfl,c⟩,.cons ⟨rfl,h.2⟩ q⟩
def TZ (trs:List (TE × TE)):TE:=fun σ H Q=>∀ p,H p=none->Kd trs σ (upd H p (.dK [])) fun ps H2=>H2 p=some (.dK [])/\∃ kvs:LK,ps=kvs.map (fun kv=>(kV kv.1,kv.2))/\kvs.length <= 15/\Q (.ref p) (upd H2 p (.dK (C1 [] kvs)))
theorem Lm {keys:List (Option Expr)} {values:List Expr} {trs:List (TE × TE)} (h:PPs X pos keys values trs) (be:keys.all (·.isSome)=true) (hl:keys.length=values.length) (h0:keys ≠ [])
  (h15:keys.length <= 15):PE X (.Dict keys values pos) (TZ trs):=by
 intro aa s σ H Q I q;have hn:=I.hok.fresh (Nat.le_refl s.heap.objs.size);have I1:=I.laid (a:=s.heap.objs.size) (o:=.dK []) (h':=s.heap.push { cls:=.type "dict", data:=.dict #[] }) (t':=s.toks) (fun _ _ q=>get?_push_of_some _ q) (Nat.le_refl _) (JQ s.heap I.big);refine wpAny_Dict_walk (knd:=Ai X.prog X.w) be hl h0 h15 (thn (h aa _ σ _ _ I1 (q _ hn)) fun ws s2 ⟨ps,H2,I2,rel,e,kvs,ep,lk,q2⟩=>?_);subst ep;obtain ⟨rs,c,rk⟩:=Ga (P:=X.prog) (w:=X.w) rel;obtain ⟨z,hd,vs0,r0,dd⟩:=N3 I2.hok e;cases r0;refine ⟨rs,c,dd,fun h' dd' hs=>⟨.ref s.heap.objs.size,_,?_,rfl,q2⟩⟩
 have hz:(C1 [] kvs).length <= sizeLine:=by
  have h1:=Dz kvs [];rw [length_nil] at h1;rw [sizeLine_eq]; omega
 have he:∃ q,h'.get? s.heap.objs.size=some q:=let ⟨q,_,_,hq,_⟩:=dd'; ⟨q,hq⟩
 exact F1 I2 (by rw [e]; exact True.intro) hs he (Kc hz hd (rk.merge .nil) dd')
def IsD (H:Hp) (a:Addr):Prop:=(∃ kvs,Rd H a (.dK kvs))\/∃ kvs,Rd H a (.dT kvs)
theorem N5 (I:Inv X aa σ H s) (d:IsD H a) :
  s.TypeIs (.ref a) "dict" /\ (∀ b,Value.ref a=.ref b->∃ ob,s.heap.get? b=some ob/\ob.dict=none)/\(a == sysModules)=false:=by
 rcases d with ⟨kvs,e⟩ | ⟨kvs,e⟩
 ·obtain ⟨_,hd,vs,_,dd⟩:=DI I.hok e;refine ⟨dd.typeIs,fun b q=>?_,hd⟩;cases q;obtain ⟨ob,_,_,h1,h2,_⟩:=dd;exact ⟨ob,h1,h2.2.1⟩
 ·obtain ⟨_,hd,xs,_,dd⟩:=Hj I.hok e;refine ⟨dd.typeIs,fun b q=>?_,hd⟩;cases q;obtain ⟨ob,_,_,h1,h2,_⟩:=dd;exact ⟨ob,h1,h2.2.1⟩
end L2
namespace Att
open PySem PySem.W PySem.Calls PyProof.Rows
theorem Fv {P:Params}:∀ (ns:List Int) (vs:List Value),WellAll P h vs (ns.map WData.int)->IntsAre vs ns:=by
 intro ns;induction ns with
 | nil =>
  intro vs w;rw [map_nil] at w;cases w;exact .nil
 | cons n ns ih =>
  intro vs w;rw [map_cons] at w;cases w with
  | cons a b =>
   cases a;exact .cons _ _ (ih _ b)
theorem Mo {l:OpenLaw} {n:Nat} (hn:l.most=some n) {P:Params} {args:List WData} {vals:List Value}
    (cf:l.row.toRowW.claim.pre args=true) (hwl:WellAll P h vals args) :
    ∃ a vs ns,vals=[Value.ref a]/\args=[WData.list (ns.map WData.int)]/\h.get? a=some { cls:=.type "list", data:=.seq vs.toArray }/\IntsAre vs ns/\ns.length <= n:=by
  have ai:WShape.hasAll [] args [.list .int]=true:=(pre_splitW cf).1;have hc:l.pre.holds [] { args:=args }=true:=(pre_splitW cf).2;obtain ⟨d,r,rfl,h1,h2⟩:=hasAllW_cons ai;obtain rfl:=hasAllW_nil h2;obtain ⟨xs,rfl,h3⟩:=hasW_list h1;obtain ⟨ns,rfl⟩:=items_int h3
  have ba:ns.length <= n:=by
    unfold OpenLaw.pre at hc
    have h4:(WTm.not (.lt (.lit (.int (n:Int))) (.len (.arg 0)))).holds [] { args:=[.list (ns.map .int)] }=true:=by
      have h4:=(holds_andW hc).1;rw [hn] at h4;exact h4
    have h5:=condW_of h4 (w_not (w_lt w_lit (w_len_list (w_arg rfl))));rw [AK] at h5;refine Nat.le_of_not_lt fun q=>?_;have q':(n:Int) < ((ns.length:Nat):Int):=by omega
    first
      | (rw [decide_eq_true q'] at h5; exact absurd h5 (by decide))
      | (simp at h5; omega)
  cases hwl with
  | cons w1 w2 =>
    cases w2;cases w1 with
    | list ho be=>exact ⟨_,_,ns,rfl,rfl,ho,Fv ns _ be,ba⟩
theorem Mp (l:OpenLaw) (args:List WData):l.row.toRowW.claim.post args (.bool true) args=true :=
 postW_of (r:=l.row.toRowW) (X:=(true == true))
  (show WShape.has [] (.bool true) .bool=true by first | rfl | decide | simp [WShape.has,WShape.arms,WShape.armsAll])
  (show (WTm.eq .res (.lit (.bool true))).value [] { args:=args,res:=some (.bool true),after:=args }=some (.bool (true == true)) from w_eq_bool (w_res rfl) w_lit) rfl
theorem attach_call {l:OpenLaw} {n:Nat} {q:Program} {loose:List Str} {XP:(Str->Option Value)->Heap->Prop} {YP:World->Heap->Prop} {d:DefRec}
  (hn:l.most=some n) (hdf:d.params.defaults=[])
  (call:∀ (w:World) (s₀ s₁:Shared) (mg mb:SV) (fa:Addr) (o:Obj) (pm cd doc:Value) (a:Addr) (vs:List Value) (ns:List Int),
   Ground q loose [] XP w s₀ mg mb s₁.heap->YP w s₁.heap ->
   s₁.heap.get? fa=some o->o.data=.func (docDef d.name d.params d.body d.scope pm cd doc)->s₁.heap.CodeRec cd d.name->mg d.name=some (.ref fa) ->
   s₁.heap.get? a=some { cls:=.type "list", data:=.seq vs.toArray }->IntsAre vs ns->ns.length <= n->s₁.gens=#[] ->
   codeAny (model l.prog w) callerA (.call (.ref fa) ⟨[.ref a],[]⟩) (fun r s'=>r=.ok (.ret (.bool true))/\OldK s₁.heap s'.heap/\s'.os=s₁.os/\AllBare s'.gens) s₁) :
  WalkO q loose XP YP l.row.toRowW d [] (fun f vs=>PySem.call f vs):=by
 intro w s₀ s₁ mg mb G Y fa o pm cd doc dV kV ho hd hcd hD hmg hg args vals as cf hlay hrd hwl hlo;obtain rfl:dV=.none:=Dflts.none hD hdf;obtain rfl:kV=.none:=Dflts.noKw hD;obtain ⟨a,vs,ns,rfl,rfl,cr,bt,ba⟩:=Mo hn cf hwl;refine enter_call (codeAny_mono (call w s₀ s₁ mg mb fa o pm cd doc a vs ns G Y ho (fd_plain hd) hcd hmg cr bt ba hg) fun r s' hq=>?_);obtain ⟨rfl,h2,h3,h4⟩:=hq;exact ⟨.inl ⟨.bool true,.bool true,[],rfl,fun _=>rfl,.bool true,Mp l _,fun _=>⟨List.Pairwise.nil,fun _ hm=>(nomatch hm)⟩⟩,h2,h3,h4⟩
end Att
namespace L2
open PySem PySem.Spec PyProof.Rows
theorem Dr:∀ {vs:List Value} {ns:List Int},IntsAre vs ns->Vals (ns.map V.int) vs
 | _,_,.nil=>.nil
 | _,_,.cons n t h=>.cons ⟨t,rfl⟩ (Dr h)
end L2
namespace L2
open PySem PySem.Spec PyProof.Rows
noncomputable def inClass (s:Stmt) (j:Nat):Stmt:=match s with
 | .ClassDef _ _ _ body _ _ _ _ _ _ _=>body.getD j (.Pass ⟨0,0,0,0⟩)
 | _=>.Pass ⟨0,0,0,0⟩
noncomputable def defArgs (s:Stmt):Arguments:=match s with
 | .FunctionDef _ a _ _ _ _ _ _ _ _=>a
 | _=>{ posonlyargs:=[],args:=[],vararg:=none,kwonlyargs:=[],kw_defaults:=[],kwarg:=none,defaults:=[] }
noncomputable def defBody (s:Stmt):List Stmt:=match s with
 | .FunctionDef _ _ b _ _ _ _ _ _ _=>b
 | _=>[]
noncomputable def defScope (s:Stmt):Scope:=match s with
 | .FunctionDef _ _ _ _ _ _ sc _ _ _=>sc
 | _=>{ kind:=.function,names:=[],isGenerator:=false,isCoroutine:=false }
abbrev CX0:CXT:=fun _ _ _ _ _ _=>False
abbrev E0:XK:=fun _ _ _=>False
theorem AQ:BF CX0 X E0:=fun _ _ _ _ _ _ _ h=>h.elim
structure Fun (K:FG) (x qual:Str) (st:Stmt) (f:Addr) (fd:FuncData):Prop where
 ex:∃ (oc:Value) (od:Option Addr) (kV doc pm:Value) (an:Option Addr) (ad ct:Value) (osl:Array (Option Value)),
  fd=W.fnOf x qual (defArgs st) (defBody st) (defScope st) .none kV doc pm an ad ct/\K.lookup f=some ⟨oc,od,.func fd,osl⟩/\W.codeIn K ad qual=true
 kp:W.keepIn K (.ref f)=true
section
theorem Fun.ok {qual:Str} {st:Stmt} {f:Addr} {fd:FuncData} {ps:List Str} {k:Nat} {sp:Sp} (F:Fun K x qual st f fd) (S:AJ N ps (defScope st)) (len:∀ vs H Q E,sp vs H Q E->vs.length=ps.length)
  (bg:∀ (ad:Value) (A:Around) (outer:List Env) (s:Shared) (H:Hp) (vs:List V) (Q:VK) (E:XK),Room k (A.deeper (envOfC qual (defScope st) s.heap.objs.size f ad))->sp vs H Q E ->
   ∃ t,PSs (BG CX0 P w K mg base N qual (defScope st) f ad A outer s H E).nox (defBody st) t/\t { nx:=fun _ H'=>Q .non H',rt:=Q } (Bi N vs) H):AX P w K mg base CX0 (k + 1) f fd ps sp:=by
 obtain ⟨oc,od,kV,doc,pm,an,ad,ct,osl,rfl,lk,hcd⟩:=F.ex;refine Lh lk hcd S len fun A outer s H vs Q E hr hsp=>?_;obtain ⟨t,h,q⟩:=bg ad A outer s H vs Q E hr hsp;exact ⟨t,h.nox,q⟩
structure BdC (P:Program) (w:World) (K:FG) (mg:SV) (base:Heap) (f:Addr) (qual:Str) (st:Stmt) (N ps:List Str) (k:Nat) (vs:List V) (H:Hp) (Q:VK) (E:XK):Prop where
 len:vs.length=ps.length
 ok:∀ (ad:Value) (A:Around) (outer:List Env) (s:Shared),Room k (A.deeper (envOfC qual (defScope st) s.heap.objs.size f ad)) ->
  ∃ t,PSs (BG CX0 P w K mg base N qual (defScope st) f ad A outer s H E |>.nox) (defBody st) t/\t { nx:=fun _ H'=>Q .non H',rt:=Q } (Bi N vs) H
theorem Fun.m {qual:Str} {st:Stmt} {f:Addr} {fd:FuncData} {ps:List Str} {k:Nat} {sp:Sp} (F:Fun K x qual st f fd) (S:AJ N ps (defScope st)) (h:∀ vs H Q E,sp vs H Q E->BdC P w K mg base f qual st N ps k vs H Q E) :
  AX P w K mg base CX0 (k + 1) f fd ps sp:=F.ok S (fun vs H Q E q=>(h vs H Q E q).len) fun c A o s H vs Q E r q=>(h vs H Q E q).ok c A o s r
theorem Fun.binds {qual:Str} {st:Stmt} {f:Addr} {fd:FuncData} {ps:List Str} (F:Fun K x qual st f fd)
  (h:∀ (kV doc pm:Value) (an:Option Addr) (ad ct:Value) (us:List Value),us.length=ps.length->bindArgs (W.fnOf x qual (defArgs st) (defBody st) (defScope st) .none kV doc pm an ad ct) ⟨us,[]⟩=pure (ps.zip us)):Binds K fd ps []:=by
 obtain ⟨oc,od,kV,doc,pm,an,ad,ct,osl,rfl,lk,hcd⟩:=F.ex;exact .all (h kV doc pm an ad ct)
theorem fun_mk {qual:Str} {st:Stmt} {f:Addr} {oc:Value} {od an:Option Addr} {osl:Array (Option Value)} {kV doc pm ad ct:Value} (l:K.lookup f=some ⟨oc,od,.func (W.fnOf x qual (defArgs st) (defBody st) (defScope st) .none kV doc pm an ad ct),osl⟩)
  (c:W.codeIn K ad qual=true) (k:W.keepIn K (.ref f)=true):Fun K x qual st f (W.fnOf x qual (defArgs st) (defBody st) (defScope st) .none kV doc pm an ad ct):=⟨⟨oc,od,kV,doc,pm,an,ad,ct,osl,rfl,l,c⟩,k⟩
end
theorem Cb {k:Nat} (hr:Room k A):A.units + 1 < cLine:=Nat.lt_of_le_of_lt (Nat.add_le_add_left (by decide:1 <= 64) _) hr.units
theorem AO {n:Nat} (h:n <= 1000):n < sizeLine:=Nat.lt_of_le_of_lt h (by decide)
section
theorem pv (i:Nat) (hN:X.N[i]?=some x:=by rfl) (hv:Vis X.env.scope x:=by first | exact Or.inl rfl | exact Or.inr (Or.inl rfl) | exact Or.inr (Or.inr rfl)) (hd:(x == ("__debug__" : Str))=false:=by decide)
  (hcd:(x == ("__classdict__" : Str))=false:=by decide):PE X (.Name x pos) (Fu i):=Nm hN hv hd hcd
end
theorem AW {A B:Prop} (h:B):if false=true then A else B:=by
 rw [if_neg Bool.false_ne_true];exact h
theorem Aj {A B:Prop} (h:A):if true=true then A else B:=by
 rw [if_pos rfl];exact h
theorem BY {c A B:Prop} [Decidable c] (h1:c->A) (h2:¬ c->B):if c then A else B:=by
 by_cases h:c
 ·rw [if_pos h];exact h1 h
 ·rw [if_neg h];exact h2 h
theorem N6 {c A B:Prop} [Decidable c] (hc:c) (h:B):if (!decide c)=true then A else B:=by
 rw [decide_eq_true hc];exact AW h
def Same (H H':Hp):Prop:=∀ b o,H b=some o->H' b=some o
theorem Same.refl (H:Hp):Same H H:=fun _ _ h=>h
theorem Same.trans {H1 H2:Hp} (a:Same H H1) (b:Same H1 H2):Same H H2:=fun c o h=>b c o (a c o h)
theorem Same.seq (e:Same H H') (h:SqL K H a xs):SqL K H' a xs:=by
 rcases h with (h | ⟨o,h⟩) | h
 ·exact .inl (.inl (e _ _ h))
 ·exact .inl (.inr ⟨o,e _ _ h⟩)
 ·exact .inr h
section
variable {κ:Type} [DecidableEq κ]
theorem Ln:∀ {l:List κ} {k:κ},l.Nodup->¬ k ∈ l->(l++[k]).Nodup
 | [],k,_,_=>by simp
 | a :: r,k,h,hk=>by
  obtain ⟨h1,h2⟩:=nodup_cons.mp h;show (a :: (r++[k])).Nodup;refine nodup_cons.mpr ⟨fun m=>?_,Ln h2 fun m=>hk (mem_cons.mpr (Or.inr m))⟩;rcases mem_append.mp m with q | q
  ·exact h1 q
  ·exact hk (mem_cons.mpr (Or.inl (mem_singleton.mp q).symm))
end
end L2
end
section
variable {X:L2.Cx} {H:L2.Hp} {H':L2.Hp} {s:PySem.Shared} {pos:PySem.Pos} {σ:L2.St} {P:PySem.Program} {w:PySem.World} {A:PySem.Around} {aa:LO} {x:PySem.Str} {a:PySem.Addr} {K:FG} {C:PySem.Addr} {E:VS} {h:PySem.Heap} {us:List PySem.Value} {u:PySem.Value} {xs:List L2.V} {e:PySem.Expr} {te:L2.TE} {base:PySem.Heap} {N:List PySem.Str} {mg:SV}
section
namespace L2
open PySem PySem.Spec PyProof.Rows
theorem Inv.track {o:HO} (I:Inv X aa σ H s) (hn:H a=none) (hL:a ≠ X.env.locals) (h1:a ∈ X.ex\/X.s₀.heap.objs.size <= a)
  (h2:∀ x c,X.env.cells.lookup x=some c->c ≠ a) (h3:∀ p ∈ X.pn++aa,p.1 ≠ a) (new:ObjOk X.prog X.w (upd H a o) s.heap a o):Inv X aa σ (upd H a o) s:=by
 have ax:∀ b u,H b=some u->b ≠ a:=fun b u e=>AI e hn
 refine I.step (h':=s.heap) (H':=upd H a o) (g':=s.gens) (t':=s.toks) (d':=s.drawn) (ch:=[a])
  (fun b hb=>by have e:b=a:=by simpa using hb
                subst e; exact ⟨h1,hL,h2,h3⟩)
  (fun b o _ _ _ e _=>e) (fun b o _ _ _ e _=>⟨o.slots,e⟩) (fun b o hc e n=>by rw [AG (by simpa using hc)]; exact n)
  (fun b o _ e=>⟨o,e⟩) (fun b xs e=>by rw [AG (ax b _ e)]; exact e) (fun b o u e=>by rw [AG (ax b _ e)]; exact e)
  (fun b ps e=>⟨#[],by rw [AG (ax b _ e),e]; simp⟩) (fun m h=>h) (fun b u e=>?_) I.bare
 by_cases hb:b=a
 ·subst hb; rw [AB] at e; cases e; exact new
 ·rw [AG hb] at e;exact (I.hok b u e).stay (fun c v _ q=>q) (fun c q=>by rw [AG (ax c _ q)]; exact q) fun c xs q=>by rw [AG (ax c _ q)]; exact q
structure CompFits (osc sc:Scope) (N N':List Str) (ix:List (Option Nat)):Prop where
 kind:sc.kind=.function
 nocell:∀ y ∈ sc.names,y.2 ≠ .cell
 free:∀ y ∈ sc.names,y.2=.free->osc.names.lookup y.1=some .cell\/osc.names.lookup y.1=some .free
 loc:∀ y ∈ sc.names,y.2=.local->sc.names.lookup y.1=some .local
 len:ix.length=N'.length
 slot:∀ (j:Nat) (x:Str) (i:Nat),N'[j]?=some x->ix[j]?=some (some i)->N[i]?=some x/\sc.names.lookup x=some .free
noncomputable def RH (sc:Scope) (N:List Str) (x:Str):Option Nat->Bool
 | none=>true
 | some i=>decide (N[i]?=some x) && decide (sc.names.lookup x=some .free)
noncomputable def C2 (sc:Scope) (N:List Str):List Str->List (Option Nat)->Bool
 | [],[]=>true
 | x :: r,o :: os=>RH sc N x o && C2 sc N r os
 | _,_=>false
noncomputable def Hk (osc sc:Scope) (N N':List Str) (ix:List (Option Nat)):Bool :=
 decide (sc.kind=.function) && (sc.names.all fun y=>decide (y.2 ≠ .cell) && (decide (y.2 ≠ .free) || decide (osc.names.lookup y.1=some .cell) || decide (osc.names.lookup y.1=some .free)) &&
  (decide (y.2 ≠ .local) || decide (sc.names.lookup y.1=some .local))) && C2 sc N N' ix
theorem Gb {sc:Scope} {N:List Str}:∀ {N':List Str} {ix:List (Option Nat)},C2 sc N N' ix=true->ix.length=N'.length
 | [],[],_=>rfl
 | [],_ :: _,h=>by simp [C2] at h
 | _ :: _,[],h=>by simp [C2] at h
 | x :: r,o :: os,h=>by
  simp only [C2,Bool.and_eq_true] at h;simp only [length_cons,Gb h.2]
theorem Hl {sc:Scope} {N:List Str}:∀ {N':List Str} {ix:List (Option Nat)},C2 sc N N' ix=true->∀ (j:Nat) (x:Str) (i:Nat),N'[j]?=some x->ix[j]?=some (some i)->N[i]?=some x/\sc.names.lookup x=some .free
 | [],_,_,_,_,_,e,_=>by simp at e
 | _ :: _,[],h,_,_,_,_,_=>by simp [C2] at h
 | y :: r,o :: os,h,j,x,i,e1,e2=>by
  simp only [C2,Bool.and_eq_true] at h;cases j with
  | zero =>
   simp only [List.getElem?_cons_zero,Option.some.injEq] at e1 e2;subst e1 e2;have h1:=h.1;simp only [RH,Bool.and_eq_true,decide_eq_true_eq] at h1;exact h1
  | succ j =>
   simp only [List.getElem?_cons_succ] at e1 e2;exact Hl h.2 j x i e1 e2
theorem CompFits.of {osc sc:Scope} {N':List Str} {ix:List (Option Nat)} (h:Hk osc sc N N' ix=true):CompFits osc sc N N' ix:=by
 simp only [Hk,Bool.and_eq_true,decide_eq_true_eq,List.all_eq_true,Bool.or_eq_true] at h;obtain ⟨⟨h1,h2⟩,h3⟩:=h;refine ⟨h1,fun y hy=>(h2 y hy).1.1,fun y hy e=>?_,fun y hy e=>?_,Gb h3,Hl h3⟩
 ·rcases (h2 y hy).1.2 with (z | z) | z
  ·exact absurd e z
  ·exact .inl z
  ·exact .inr z
 ·rcases (h2 y hy).2 with z | z
  ·exact absurd e z
  ·exact z
noncomputable abbrev EG (env:Env):Str × NameKind->Str × NameKind:=fun (n,k)=>if (k == NameKind.free && env.scope.kind == .function && env.kindOf n == some .cell) then (n,NameKind.cell) else (n,k)
theorem JR (env:Env) (y:Str × NameKind):(EG env y).1=y.1:=by
 obtain ⟨n,k⟩:=y; simp only [EG]; split <;> rfl
theorem Mq (env:Env) (n:Str):(EG env (n,.free)).2=.cell\/(EG env (n,.free)).2=.free:=by
 simp only [EG]; split
 ·exact .inl rfl
 ·exact .inr rfl
theorem P6 (env:Env) (y:Str × NameKind) (h:y.2 ≠ .free):EG env y=y:=by
 obtain ⟨n,k⟩:=y;have e:(k == NameKind.free)=false:=by simpa using h
 simp only [EG,e,Bool.false_and,Bool.false_eq_true,if_false]
theorem D0 {env:Env}:∀ {names:List (Str × NameKind)} {x:Str},names.lookup x=some .free->(names.map (EG env)).lookup x=some .cell\/(names.map (EG env)).lookup x=some .free
  | [],_,h=>by simp at h
  | (n,k) :: r,x,h=>by
    rw [map_cons]
    have e:EG env (n,k)=(n,(EG env (n,k)).2):=by
      have:=JR env (n,k);exact Prod.ext this rfl
    rw [e];cases hx:x == n with
    | true =>
      simp only [lookup_cons,hx] at h ⊢;cases h;rcases Mq env n with z | z
      · rw [z]; exact .inl rfl
      · rw [z]; exact .inr rfl
    | false =>
      simp only [lookup_cons,hx] at h ⊢;exact D0 h
theorem Fp {env:Env}:∀ {names:List (Str × NameKind)} {x:Str},(∀ y ∈ names,y.2 ≠ .cell)->((names.map (EG env)).lookup x=some .cell\/(names.map (EG env)).lookup x=some .free)->(x,NameKind.free) ∈ names
  | [],_,_,h=>by simp at h
  | (n,k) :: r,x,hc,h=>by
    rw [map_cons] at h;have e:EG env (n,k)=(n,(EG env (n,k)).2):=Prod.ext (JR env (n,k)) rfl;rw [e] at h;cases hx:x == n with
    | true =>
      simp only [lookup_cons,hx] at h;have exn:x=n:=by simpa using hx
      subst exn;by_cases hk:k=.free
      · subst hk; exact mem_cons_self
      · rw [P6 env (x,k) hk] at h
        rcases h with z | z
        · have:k=.cell:=by simpa using z
          exact absurd this (hc (x,k) mem_cons_self)
        · have:k=.free:=by simpa using z
          exact absurd this hk
    | false =>
      simp only [lookup_cons,hx] at h;exact mem_cons_of_mem _ (Fp (fun y hy=>hc y (mem_cons_of_mem _ hy)) h)
theorem IY {env:Env} {f:Str × NameKind->List (Str × Addr)->Sem (ForInStep (List (Str × Addr)))}
  (h1:∀ y acc,y.2 ≠ .free->f y acc=pure (.yield acc)) (h2:∀ y acc c,y.2=.free->env.cells.lookup y.1=some c->f y acc=pure (.yield ((y.1,c) :: acc))) :
  ∀ (names:List (Str × NameKind)) (acc:List (Str × Addr)),(∀ y ∈ names,y.2=.free->∃ c,env.cells.lookup y.1=some c)->(∀ x c,acc.lookup x=some c->env.cells.lookup x=some c) ->
   ∃ cl,forIn names acc f=(pure cl:Sem _)/\(∀ x c,cl.lookup x=some c->env.cells.lookup x=some c)/\(∀ y ∈ names,y.2=.free->∃ c,cl.lookup y.1=some c)/\∀ x c,acc.lookup x=some c->∃ c',cl.lookup x=some c'
 | [],acc,_,ha=>⟨acc,rfl,ha,fun _ hy=>(nomatch hy),fun x c e=>⟨c,e⟩⟩
 | y :: r,acc,hn,ha=>by
  have hr:∀ z ∈ r,z.2=.free->∃ c,env.cells.lookup z.1=some c:=fun z hz=>hn z (mem_cons_of_mem _ hz);by_cases hy:y.2=.free
  ·obtain ⟨c,hc⟩:=hn y mem_cons_self hy
   obtain ⟨cl,e,p1,p2,p3⟩:=IY h1 h2 r ((y.1,c) :: acc) hr fun x d e=>by
    cases hx:x == y.1 with
    | true =>
     simp only [lookup_cons,hx,Option.some.injEq] at e;have:x=y.1:=by simpa using hx
     rw [this,← e]; exact hc
    | false =>
     simp only [lookup_cons,hx] at e;exact ha x d e
   refine ⟨cl,by rw [List.forIn_cons,h2 y acc c hy hc,pure_bind]; exact e,p1,fun z hz hf=>?_,fun x d e=>?_⟩
   ·rcases mem_cons.mp hz with rfl | hz
    ·exact p3 z.1 c (by simp [lookup_cons])
    ·exact p2 z hz hf
   ·cases hx:x == y.1 with
    | true=>exact p3 x c (by simp [lookup_cons,hx])
    | false=>exact p3 x d (by simp only [lookup_cons,hx]; exact e)
  ·obtain ⟨cl,e,p1,p2,p3⟩:=IY h1 h2 r acc hr ha;refine ⟨cl,by rw [List.forIn_cons,h1 y acc hy,pure_bind]; exact e,p1,fun z hz hf=>?_,p3⟩;rcases mem_cons.mp hz with rfl | hz
   ·exact absurd hf hy
   ·exact p2 z hz hf
theorem P7 {env:Env} {scope:Scope} (hn:∀ y ∈ scope.names,y.2=.free->∃ c,env.cells.lookup y.1=some c) :
  ∃ cl,closureFor scope env=pure cl/\(∀ x c,cl.lookup x=some c->env.cells.lookup x=some c)/\∀ y ∈ scope.names,y.2=.free->∃ c,cl.lookup y.1=some c:=by
 obtain ⟨cl,e,p1,p2,_⟩:=IY (env:=env) (f:=fun (x:Str × NameKind) (r:List (Str × Addr))=>if (x.2 == NameKind.free)=true then (cellOf env x.1 >>= fun a=>pure (ForInStep.yield ((x.1,a) :: r))) else pure (ForInStep.yield r)) (fun y acc hy=>by
  have:(y.2 == NameKind.free)=false:=by simpa using hy
  rw [this,if_neg Bool.false_ne_true]) (fun y acc c hy hc=>by
  have h0:(y.2 == NameKind.free)=true:=by rw [hy]; rfl
  rw [if_pos h0];simp only [cellOf,hc]
  rfl) scope.names [] hn fun x c e=>by simp at e
 refine ⟨cl,?_,p1,p2⟩;have e0:closureFor scope env=(forIn scope.names [] (fun (x:Str × NameKind) (r:List (Str × Addr))=>if (x.2 == NameKind.free)=true then (cellOf env x.1 >>= fun a=>pure (ForInStep.yield ((x.1,a) :: r))) else pure (ForInStep.yield r)) >>= fun cs=>pure cs):=rfl;rw [e0,e];rfl
noncomputable def Au (X:Cx) (N':List Str) (scope:Scope) (cl:List (Str × Addr)) (s:Shared) (H:Hp) (C:Addr) (fp:List Addr) (pn:LO):Cx where
 prog:=X.prog
 w:=X.w
 K:=X.K
 mg:=X.mg
 base:=X.base
 A:=X.A
 N:=N'
 s₀:=s
 H₀:=H
 env:=compEnvC scope cl C X.env
 outer:=X.stack
 stack:=X.stack
 ex:=fp
 fn:=fun _=>false
 calm:=X.calm
 pn:=pn
 xe:=fun _ _=>False
noncomputable def Cl (ix:List (Option Nat)) (σ:St):St:=ix.map fun o=>o.bind fun i=>(σ[i]?).join
theorem P8 {ix:List (Option Nat)} {j:Nat} {v:V} (h:(Cl ix σ)[j]?=some (some v)):∃ i,ix[j]?=some (some i)/\σ[i]?=some (some v):=by
 unfold Cl at h;rw [getElem?_map] at h;cases e:ix[j]? with
 | none=>rw [e] at h; cases h
 | some o =>
  rw [e] at h;simp only [Option.map_some,Option.some.injEq] at h;cases o with
  | none=>cases h
  | some i =>
   refine ⟨i,rfl,?_⟩;simp only [Option.bind_some] at h;cases q:σ[i]? with
   | none=>rw [q] at h; cases h
   | some u=>rw [q] at h; simp only [Option.join_some] at h; rw [h]
section
variable {N':List Str} {ix:List (Option Nat)} {scope:Scope} {cl:List (Str × Addr)} {fp:List Addr}
theorem P9 (I:Inv X aa σ H s) (hf:CompFits X.env.scope scope X.N N' ix) (c1:∀ x c,cl.lookup x=some c->X.env.cells.lookup x=some c) (c2:∀ y ∈ scope.names,y.2=.free->∃ c,cl.lookup y.1=some c)
  (hC:s.heap.objs.size <= C) (hfp:∀ b ∈ fp,Ei X aa H b) (hlt:∀ b ∈ fp,b < s.heap.objs.size):(Au X N' scope cl s H C fp (X.pn++aa)).Ok where
 mod:=I.mod
 kind:=hf.kind
 glob:=I.ok.glob
 blt:=I.ok.blt
 above:=hC
 inj:=fun x y c e1 e2=>I.ok.inj x y c (c1 x c e1) (c1 y c e2)
 has:=fun x h=>by
  have hm:(x,NameKind.free) ∈ scope.names:=Fp (env:=X.env) hf.nocell h;exact c2 (x,.free) hm rfl
 cab:=fun x c h=>by cases h
 hd:=I.ok.hd
 frames:=I.ok.frames
 stk:=.inl rfl
 exf:=fun b hb=>⟨Nat.ne_of_lt (Nat.lt_of_lt_of_le (hlt b hb) hC),fun x c e=>(hfp b hb).2.2.2.2.1 x c (c1 x c e)⟩
 bs:=I.bs
 bsz:=Nat.le_trans I.ok.bsz I.sz
 noex:=fun b o e hb=>by
  rcases (hfp b hb).2.2.2.1 with z | z
  ·exact I.ok.noex b o e z
  ·exact absurd (Nat.lt_of_lt_of_le (Nat.lt_of_lt_of_le (lt_size e) I.ok.bsz) z) (Nat.lt_irrefl _)
 exfs:=fun b hb z=>by
  rcases mem_cons.mp (I.stkSub b z) with e | e
  ·exact (hfp b hb).2.1 e
  ·exact (hfp b hb).2.2.1 e
 funs:=I.stack
 frf:=I.stkFree
theorem Ke (I:Inv X aa σ H s) (hf:CompFits X.env.scope scope X.N N' ix) (c1:∀ x c,cl.lookup x=some c->X.env.cells.lookup x=some c) (c2:∀ y ∈ scope.names,y.2=.free->∃ c,cl.lookup y.1=some c)
  (hC:s.heap.objs.size <= C) (hfp:∀ b ∈ fp,Ei X aa H b) (hlt:∀ b ∈ fp,b < s.heap.objs.size) {h₁:Heap} {tk:Nat} {m:SV} (old:∀ b o,s.heap.get? b=some o->h₁.get? b=some o) (hns:h₁.Ns C m) :
  Inv (Au X N' scope cl s H C fp (X.pn++aa)) [] (Cl ix σ) H { s with heap:=h₁,toks:=tk } where
 ok:=P9 I hf c1 c2 hC hfp hlt
 os:=rfl
 bare:=I.bare
 base:=Un.kept old
 loc:=⟨m,hns,fun j x v e1 e2 e3=>by
  obtain ⟨i,ei,ev⟩:=P8 e2;obtain ⟨hN,bz⟩:=hf.slot j x i e1 ei;obtain ⟨mX,_,hl⟩:=I.loc
  have hm:(x,NameKind.free) ∈ scope.names:=by
   have:∀ {l:List (Str × NameKind)} {k:NameKind},l.lookup x=some k->(x,k) ∈ l:=fun {l k}=>by
    induction l with
    | nil=>intro e; simp at e
    | cons y r ih =>
     intro e;obtain ⟨n,kk⟩:=y;cases hx:x == n with
     | true =>
      simp only [lookup_cons,hx,Option.some.injEq] at e;have:x=n:=by simpa using hx
      subst this e;exact mem_cons_self
     | false =>
      simp only [lookup_cons,hx] at e;exact mem_cons_of_mem _ (ih e)
   exact this bz
  have hk:=hf.free _ hm rfl;obtain ⟨u,r,q⟩:=hl i x v hN ev (.inr hk);refine ⟨u,r,.inr ⟨D0 (env:=X.env) bz,?_⟩⟩;obtain ⟨c,hc⟩:=c2 _ hm rfl;refine ⟨c,hc,?_⟩;rcases q with ⟨k,_⟩ | ⟨_,c',hc',z⟩
  ·have k':X.env.scope.names.lookup x=some .local:=k;rcases hk with a | a <;> (rw [k'] at a; cases a)
  ·rw [c1 x c hc] at hc';cases hc'
   exact z.keeps old⟩
 cell:=fun x c e=>by
  obtain ⟨v,z⟩:=I.cell x c (c1 x c e);exact ⟨v,z.keeps old⟩
 free:=I.hok.fresh hC
 freeC:=fun x c e=>I.freeC x c (c1 x c e)
 pin:=fun p hp=>by
  have hp':p ∈ X.pn++aa:=by
   have z:=hp;rw [append_nil] at z;exact z
  obtain ⟨e,n,ne,nf,d⟩:=I.pin p hp';refine ⟨old _ _ e,n,Nat.ne_of_lt (Nat.lt_of_lt_of_le (lt_size e) hC),fun z=>?_,d⟩;rcases mem_cons.mp (I.stkSub p.1 z) with q | q
  ·exact ne q
  ·exact nf q
 hok:=I.hok.kept old
 len:=by
  show (Cl ix σ).length=N'.length;unfold Cl;rw [AK]; exact hf.len
theorem Mr {pins':LO} {σ':St} {s':Shared} (I:Inv X aa σ H s) (hfp:∀ b ∈ fp,Ei X aa H b) (J:Inv (Au X N' scope cl s H C fp (X.pn++aa)) pins' σ' H' s'):Inv X aa σ H' s' :=
 I.call' (ch:=fp) J.os J.base J.hok J.bare fun b hb=>⟨(hfp b hb).2.2.2.1,(hfp b hb).2.1,(hfp b hb).2.2.2.2.1,(hfp b hb).2.2.2.2.2⟩
end
def PTs (X:Cx) (ifs:List Expr) (t:TT):Prop :=
 ∀ (aa:LO) (s:Shared) (σ:St) (H:Hp) (Q:Bool->Hp->Prop),Inv X aa σ H s->t σ H Q ->
  wpAny (model X.prog X.w) X.A (forIn ifs true fun c r=>if r=true then do let ok ← isTrue c X.env (eval c X.env); pure (ForInStep.yield ok) else pure (ForInStep.yield r)) (TP X aa σ Q) X.xe s
def UY:TT:=fun _ H Q=>Q true H
theorem By:PTs X [] UY:=fun aa s σ H Q I h=>wpAny_tests_nil ⟨H,I,h⟩
theorem IZ {c:Expr} {t:TT} (h:PT X c t):PTs X [c] t:=fun aa s σ H Q I q=>wpAny_tests_one (h aa s σ H Q I q)
def DY (wi:TI) (g:TG) (tt:TT) (te:TE) (ix:List (Option Nat)) (R:List V->Hp->Prop):St->Hp->Prop:=fun σ H=>wi σ H fun J H1=>∃ W:Nat->Nat->List V->Hp->Prop,(∃ m,W 0 m [] H1)/\∀ i m ys H,W i m ys H ->
 (J.stop i H/\ys.length <= sizeLine/\R ys H) \/
 (J.go i H/\∃ N:List V->Hp->Prop,(∀ ys' H',N ys' H'->ys'.length <= sizeLine/\∃ m',m' < m/\W (i + 1) m' ys' H') /\
  ∀ x H',J.yld i H x H'->g x (Cl ix σ) H' fun σ2 H2=>tt σ2 H2 fun b H3=>if b=true then te σ2 H3 fun y H4=>N (ys++[y]) H4 else N ys H3)
def PGk (X:Cx) (tg:Expr) (ix:List (Option Nat)) (g:TG):Prop :=
 ∀ (aa:LO) (s:Shared) (σ:St) (H:Hp) (v:V) (u:Value) (Q:St->Hp->Prop),Inv X aa (Cl ix σ) H s->RelV v u->g v (Cl ix σ) H Q ->
  wpAny (model X.prog X.w) X.A (assign tg X.env u) (fun _ s'=>∃ σ' H',Inv X aa σ' H' s'/\(∀ (j:Nat) (v:V),(Cl ix σ)[j]?=some (some v)->σ'[j]?=some (some v))/\Q σ' H') X.xe s
theorem Gc {ixc:List (Option Nat)} (h:PG X (.Name x pos) (CW 0)):PGk X (.Name x pos) (none :: ixc) (CW 0):=by
 intro aa s σ H v u Q I r q;refine thn (h aa s _ H v u (fun σ' H'=>(∀ (j:Nat) (v:V),(Cl (none :: ixc) σ)[j]?=some (some v)->σ'[j]?=some (some v))/\Q σ' H') I r ⟨fun j w e=>?_,q⟩) fun _ s' ⟨σ',H',I',k,q⟩=>⟨σ',H',I',k,q⟩;cases j with
 | zero=>cases e
 | succ j=>exact e
theorem N7 {tg:Expr} {ixc:List (Option Nat)} (h:PG X tg (Pt K 2 (F8 (CW 0) (F8 (CW 1) Ps)))):PGk X tg (none :: none :: ixc) (Pt K 2 (F8 (CW 0) (F8 (CW 1) Ps))):=by
 intro aa s σ H v u Q I r q;obtain ⟨a,xs,e1,e2,e3,v1,r1,e4,v2,r2,e5,e6,q⟩:=q;refine thn (h aa s _ H v u (fun σ' H'=>(∀ (j:Nat) (v:V),(Cl (none :: none :: ixc) σ)[j]?=some (some v)->σ'[j]?=some (some v))/\Q σ' H') I r ⟨a,xs,e1,e2,e3,v1,r1,e4,v2,r2,e5,e6,fun j w e=>?_,q⟩) fun _ s' ⟨σ',H',I',k,q⟩=>⟨σ',H',I',k,q⟩
 match j with
 | 0=>cases e
 | 1=>cases e
 | j + 2=>exact e
structure RJ (RD:Cx->Prop) (P:Program) (w:World) (K:FG) (tg:Expr) (J:It) (fp:List Addr) (it:Addr) (tn:Nat->Heap->Prop):Prop where
 obj:∀ i h,tn i h->∀ b ∈ fp,∃ o,h.get? b=some o/\∀ v,o.data ≠ .cell v
 keep:∀ i h h',tn i h->(∀ b ∈ fp,∀ o,h.get? b=some o->h'.get? b=some o)->tn i h'
 item:∀ (X:Cx),X.prog=P->X.w=w->X.K=K->RD X->∀ (i:Nat) (aa:LO) (s:Shared) (σ:St) (H:Hp) (E:VS),Inv X aa σ H s->(∀ b ∈ fp,Ei X aa H b)->tn i s.heap->J.go i H ->
  wpAny (model P w) X.A (pyNext (.ref it)) (fun r s1=>∃ u,r=some u/\wpAny (model P w) X.A (letOwnedTupleGo tg (.ref it) u) (fun _ s2=>∃ x H',Inv X aa σ H' s2/\RelV x u/\J.yld i H x H'/\tn (i + 1) s2.heap/\∀ b ∈ fp,H' b=none) E s1) E s
 done:∀ (X:Cx),X.prog=P->X.w=w->X.K=K->RD X->∀ (i:Nat) (aa:LO) (s:Shared) (σ:St) (H:Hp) (E:VS),Inv X aa σ H s->(∀ b ∈ fp,Ei X aa H b)->tn i s.heap->J.stop i H ->
  wpAny (model P w) X.A (pyNext (.ref it)) (fun r s1=>r=none/\Inv X aa σ H s1) E s
 self:∀ (A:Around) (i:Nat) (s:Shared) (Q:VS) (E:VS),tn i s.heap->Q (.ref it) s->wpAny (model P w) A (pyIter (.ref it)) Q E s
def PIg (RD:Cx->Prop) (X:Cx) (tg iter:Expr) (wi:TI):Prop:=∀ (aa:LO) (s:Shared) (σ:St) (H:Hp) (R:It->Hp->Prop),Inv X aa σ H s->wi σ H R ->
 wpAny (model X.prog X.w) X.A (eval iter X.env) (fun v s1=>wpAny (model X.prog X.w) X.A (pyIter v) (fun itv s2=>∃ (it:Addr) (fp:List Addr) (tn:Nat->Heap->Prop) (J:It) (H':Hp),itv=.ref it/\Inv X aa σ H' s2/\RJ RD X.prog X.w X.K tg J fp it tn/\tn 0 s2.heap/\(∀ b ∈ fp,Ei X aa H' b)/\R J H') X.xe s1) X.xe s
theorem PI.g {tg iter:Expr} {wi:TI} (h:PI X tg iter wi):PIg (fun X=>X.calm=true) X tg iter wi:=fun aa s σ H R I q =>
 thn (h aa s σ H R I q) fun v s1 z=>thn z fun itv s2 ⟨it,fp,tn,J,H',e,I',T,r⟩=>⟨it,fp,tn,J,H',e,I',⟨T.obj,T.keep,T.item,T.done,T.self⟩,r⟩
section
variable {tg iter elt:Expr} {ifs:List Expr} {scope:Scope} {pos':Pos} {N':List Str} {ix:List (Option Nat)} {wi:TI} {g:TG} {tt:TT}
theorem FR {α:Type} {M:Model} {t:Sem α} {Q:α->Shared->Prop} (h:wpAny M A t Q (fun _ _=>False) s):wpAny M A t Q E s :=
 wpAny_mono h (fun _ _ q=>q) fun _ _ z=>z.elim
theorem Hm {RD:Cx->Prop} {use:Option (Value->Sem Unit)} {Qv:VS} (hf:CompFits X.env.scope scope X.N N' ix) (hc:∀ cl s H C fp aa,RD (Au X N' scope cl s H C fp (X.pn++aa))) (hi:PIg RD X tg iter wi)
  (hg:∀ cl s H C fp pn,PGk (Au X N' scope cl s H C fp pn) tg ix g) (ht:∀ cl s H C fp pn,PTs (Au X N' scope cl s H C fp pn) ifs tt) (he:∀ cl s H C fp pn,PE (Au X N' scope cl s H C fp pn) elt te)
  (hs:∀ x,foldedSetIterable iter X.env x=pure x) {aa:LO} {s:Shared} {σ:St} {H:Hp} {R:List V->Hp->Prop} (I:Inv X aa σ H s) (h:DY wi g tt te ix R σ H)
  (hpost:∀ s' ys H' D C m,Inv X aa σ (upd H' D (.lst ys)) s'->R ys H'->H' D=none->s'.heap.Ns C m->X.s₀.heap.objs.size <= C->C ≠ X.env.locals->(∀ x c,X.env.cells.lookup x=some c->c ≠ C)->(∀ p ∈ X.pn++aa,p.1 ≠ C) ->
   upd H' D (.lst ys) C=none->compPost (model X.prog X.w) X.A X.xe use Qv (.ref D) C (.ok .next) s') :
  wpAny (model X.prog X.w) X.A (comprehension (.ListComp elt [⟨tg,iter,ifs,0⟩] scope pos) scope X.env pos' (newList []) false (eval iter X.env) use) Qv X.xe s:=by
 obtain ⟨cl,hclos,c1,c2⟩:=P7 (env:=X.env) (scope:=scope) fun y hy hyf=>by
  have:=hf.free y hy hyf;exact I.ok.has y.1 this
 refine wpAny_comprehension_free (use:=use) rfl hs hclos hf.kind hf.loc (thn (hi aa s σ H _ I h) fun v s1 h1=>thn h1 fun itv s2 h2=>?_);obtain ⟨it,fp,tn,J,H2,e,I2,T,st2,f2,W,⟨m0,w0⟩,turn⟩:=h2;subst e
 have hlt:∀ b ∈ fp,b < s2.heap.objs.size:=fun b hb=>by
  obtain ⟨o,e,_⟩:=T.obj _ _ st2 b hb;exact lt_size e
 refine wpAny_newObj_type (wpAny_newFunctionEnv hf.nocell (by intro y hy; simp at hy) (fun h₁ hns₁ hsb₁=>?_) hf.kind)
 dsimp only at hns₁ hsb₁ ⊢
 generalize hH2:s2.heap.push { cls:=.type "list", dict:=none,data:=.seq ([]:List Value).toArray }=HP at hns₁ hsb₁ ⊢;have hC:HP.objs.size=s2.heap.objs.size + 1:=by rw [← hH2,size_push]
 have hDC:s2.heap.objs.size ≠ HP.objs.size:=by rw [hC]; exact Nat.ne_of_lt (Nat.lt_succ_self _)
 have hCle:s2.heap.objs.size <= HP.objs.size:=by rw [hC]; exact Nat.le_succ _
 have hCne:∀ b,b < s2.heap.objs.size->b ≠ HP.objs.size:=fun b hb=>by rw [hC]; exact Nat.ne_of_lt (Nat.lt_succ_of_lt hb)
 have old:∀ b o,s2.heap.get? b=some o->h₁.get? b=some o:=fun b o e=>hsb₁.extBut b o (hCne b (lt_size e)) (get?_push_of_some _ (hH2 ▸ get?_push_of_some _ e));have cu:h₁.get? s2.heap.objs.size=some { cls:=.type "list", dict:=none,data:=.seq ([]:List Value).toArray }:=hsb₁.extBut _ _ hDC (get?_push_of_some _ (hH2 ▸ get?_push_size _ rfl));generalize hCC:HP.objs.size=C at *;generalize hDD:s2.heap.objs.size=D at *;have IX:=Ke (N':=N') (fp:=fp) I2 hf c1 c2 (by rw [hDD]; exact hCle) f2 (by rw [hDD]; exact hlt) (tk:=s2.toks + ([]:List (Str × Value)).length) old hns₁;have hDn:H2 D=none:=I2.hok.fresh (by rw [hDD]; exact Nat.le_refl _)
 have hDfs:D ∉ frs X.stack:=fun z=>by
  rcases mem_cons.mp (I2.stkSub D z) with q | q
  ·have:=I2.lt; rw [← q,hDD] at this; exact Nat.lt_irrefl _ this
  ·exact I2.nofs (by rw [hDD]; exact Nat.le_refl _) q
 have cellLt:∀ x c,X.env.cells.lookup x=some c->c < D:=fun x c e=>by
  obtain ⟨v,z⟩:=I2.cell x c e;rw [← hDD]; exact z.lt
 have pinLt:∀ p ∈ X.pn++aa,p.1 < D:=fun p hp=>by rw [← hDD]; exact lt_size (I2.pin p hp).1
 have s0D:X.s₀.heap.objs.size <= D:=by rw [← hDD]; exact I2.sz
 have locLt:X.env.locals < D:=by rw [← hDD]; exact I2.lt
 let X':Cx:=Au X N' scope cl s2 H2 C fp (X.pn++aa)
 have stat:∀ {H':Hp} {ob:Obj},(∀ b ∈ fp,H' b=none)->∀ b ∈ fp,Ei X' [(D,ob)] H' b:=fun {H' ob} hn b hb=>by
  refine ⟨hn b hb,Nat.ne_of_lt (Nat.lt_of_lt_of_le (hlt b hb) hCle),fun z=>?_,.inl hb,fun x c e=>(f2 b hb).2.2.2.2.1 x c (c1 x c e),fun p hp=>?_⟩
  ·exact IX.ok.exfs b hb z
  ·rcases mem_append.mp hp with z | z
   ·exact (f2 b hb).2.2.2.2.2 p z
   ·have e:p=(D,ob):=by simpa using z
    subst e;exact Nat.ne_of_gt (hlt b hb)
 have pinD:∀ {σ':St} {H':Hp} {s':Shared} {ob:Obj},Inv X' [] σ' H' s'->s'.heap.get? D=some ob->H' D=none->(∀ v,ob.data ≠ .cell v)->Inv X' [(D,ob)] σ' H' s':=fun {σ' H' s' ob} Ia e n d =>
  Ia.pins_of fun p hp=>by
   have q:p=(D,ob):=by simpa using hp
   subst q;exact ⟨e,n,hDC,hDfs,d⟩
 have loop:∀ s3:Shared,s3={ s2 with heap:=h₁,toks:=s2.toks + ([]:List (Str × Value)).length } ->
   codeAny (model X.prog X.w) X.A (.compLoop (.ListComp elt [⟨tg,iter,ifs,0⟩] scope pos) 0 (.ref it) (.ref D) (compEnvC scope cl C X.env)) (compPost (model X.prog X.w) X.A X.xe use Qv (.ref D) C) s3:=by
  rintro s3 rfl
  refine codeAny_loop rfl (fun n s'=>∃ i ys its k H',Inv X' [(D,({ cls:=.type "list", data:=.seq (List.toArray its) k }:Obj))] (Cl ix σ) H' s'/\tn i s'.heap/\(∀ b ∈ fp,H' b=none)/\W i n ys H'/\Vals ys its)
   (fun n s4 hI=>?_) m0 ⟨0,[],[],_,H2,pinD IX cu hDn (fun v z=>by cases z),T.keep _ _ _ st2 (fun b _ o e=>old b o e),fun b hb=>(f2 b hb).1,w0,.nil⟩
  obtain ⟨i,ys,its,k,H4,I4,st4,fr4,w4,rv⟩:=hI;show wpAny _ X.A ((compTurn (.ListComp elt [⟨tg,iter,ifs,0⟩] scope pos) 0 (.ref it) (.ref D) (compEnvC scope cl C X.env)).onRaise (fun x=>do noteFrame x (compEnvC scope cl C X.env); theTreesLotGoes x)) _ _ s4;refine wpAny_noted ?_;rw [compTurn_list];refine FR ?_;rcases turn i n ys H4 w4 with ⟨stop,hz,r⟩ | ⟨go,N,hN,step⟩
  ·refine wpAny_bind (wpAny_standAt (wpAny_bind (thn (T.done X' rfl rfl rfl (hc _ _ _ _ _ _) i _ s4 _ H4 _ I4 (stat fr4) st4 stop) fun r' s5 ⟨hr,I5⟩=>?_)));subst hr;have pD:=I5.pin (D,_) (mem_append_right _ mem_cons_self);have Ib:Inv X aa σ H4 s5:=Mr I2 f2 I5;have Ic:Inv X aa σ (upd H4 D (.lst ys)) s5:=Ib.track pD.2.1 (Nat.ne_of_gt locLt) (.inr s0D) (fun x c e=>Nat.ne_of_lt (cellLt x c e)) (fun p hp=>Nat.ne_of_lt (pinLt p hp)) ⟨hz,its,k,rv,pD.1⟩;obtain ⟨m5,n5,_⟩:=I5.loc
   refine wpAny_pure (hpost s5 ys H4 D C m5 Ic r pD.2.1 n5 (Nat.le_trans s0D hCle) (Nat.ne_of_gt (Nat.lt_of_lt_of_le locLt hCle)) (fun x c e=>Nat.ne_of_lt (Nat.lt_of_lt_of_le (cellLt x c e) hCle))
    (fun p hp=>Nat.ne_of_lt (Nat.lt_of_lt_of_le (pinLt p hp) hCle)) ?_)
   rw [AG (Ne.symm hDC)];exact I5.free
  ·refine wpAny_bind (wpAny_standAt (wpAny_bind (thn (T.item X' rfl rfl rfl (hc _ _ _ _ _ _) i _ s4 _ H4 _ I4 (stat fr4) st4 go) fun r' s5 ⟨u,hr,h5⟩=>?_)));subst hr;refine wpAny_bind (thn h5 fun _ s6 ⟨x,H6,I6,r6,y6,st6,fr6⟩=>?_);have I6':=I6.pinned (stat fr6) (T.obj _ _ st6);refine wpAny_bind (thn (hg _ _ _ _ _ _ _ s6 _ H6 x u _ I6' r6 (step x H6 y6)) fun _ s7 ⟨σ7,H7,I7,k7,q7⟩=>?_);refine wpAny_bind (thn (ht _ _ _ _ _ _ _ s7 σ7 H7 _ I7 q7) fun b s8 ⟨H8,I8,q8⟩=>?_)
   have again:∀ {H9:Hp} {s9:Shared} {ys':List V} {its':List Value} {k':Nat},Inv X' ([(D,({ cls:=.type "list", data:=.seq (List.toArray its') k' }:Obj))]++D9 fp s6.heap) σ7 H9 s9->Vals ys' its' ->
     (∃ m',m' < n/\W (i + 1) m' ys' H9)->∃ m,m < n/\∃ i ys its k H',Inv X' [(D,({ cls:=.type "list", data:=.seq (List.toArray its) k }:Obj))] (Cl ix σ) H' s9/\tn i s9.heap/\(∀ b ∈ fp,H' b=none)/\W i m ys H'/\Vals ys its:=by
    intro H9 s9 ys' its' k' I9 rv' ⟨m',hm,w9⟩;refine ⟨m',hm,i + 1,ys',its',k',H9,I9.unpinned.weak (I4.len.trans I9.len.symm) k7,T.keep _ _ _ st6 fun b hb o e=>(I9.pin (b,o) (mem_append_right _ (mem_append_right _ (Cz hb e)))).1,fun b hb=>?_,w9,rv'⟩;obtain ⟨o,e,d⟩:=T.obj _ _ st6 b hb;exact (I9.pin (b,o) (mem_append_right _ (mem_append_right _ (Cz hb e)))).2.1
   cases b with
   | false =>
    rw [if_neg Bool.false_ne_true] at q8;exact wpAny_pure ⟨rfl,again I8 rv (hN _ _ q8).2⟩
   | true =>
    rw [if_pos rfl] at q8;refine wpAny_bind (wpAny_bind (thn (he _ _ _ _ _ _ _ s8 σ7 H8 _ I8 q8) fun y s9 ⟨z,H9,I9,r9,q9⟩=>?_))
    have hz:ys.length < sizeLine:=by
     have:=(hN _ _ q9).1;rw [length_append,length_singleton] at this;omega
    have pD:=I9.pin (D,_) (mem_append_right _ (mem_append_left _ mem_cons_self));have ba:=rv.length;refine wpAny_bind (call_meets F.slot_list_append ⟨_,pD.1,rfl⟩ F.entry_list_append (F.args_list_append_2 _ _) (PySem.list_append D its.toArray k y (by rw [size_toArray]; omega)) ⟨pD.1,wpAny_pure (wpAny_pure ⟨rfl,?_⟩)⟩);have eq':its.toArray.push y=(its++[y]).toArray:=by simp
    obtain ⟨k',q⟩:∃ k',(s9.heap.update D (Obj.mapSeq (·.push y))).get? D=some { cls:=.type "list", data:=.seq (its++[y]).toArray k' }:=⟨_,by rw [← eq']; exact PySem.IsL.update pD.1 (·.push y)⟩;have Iw:Inv X' (D9 fp s6.heap) σ7 H9 s9:=I9.pins_of fun p hp=>I9.pin p (mem_append_right _ (mem_append_right _ hp))
    have It:Inv X' (D9 fp s6.heap) σ7 H9 { s9 with heap:=s9.heap.update D (Obj.mapSeq (·.push y)),toks:=s9.toks }:=Iw.turned (it:=D) (fun b o hb e=>(get?_update_other s9.heap (Obj.mapSeq (·.push y)) (Ne.symm hb)).trans e) pD.2.1 hDC
     (.inr (by show s2.heap.objs.size <= D; rw [hDD]; exact Nat.le_refl _)) (fun x c e=>Nat.ne_of_lt (cellLt x c (c1 x c e))) (fun p hp=>by
      rcases mem_append.mp hp with z' | z'
      ·exact Nat.ne_of_lt (pinLt p z')
      ·exact Nat.ne_of_lt (hlt p.1 (HR z').1))
    refine again (its':=its++[y]) (k':=k') (It.pins_of fun p hp=>?_) (rv.append (.cons r9 .nil)) (hN _ _ q9).2;rcases mem_append.mp hp with z' | z'
    ·have e:p=(D,({ cls:=.type "list", data:=.seq (its++[y]).toArray k' }:Obj)):=by simpa using z'
     subst e;exact ⟨q,pD.2.1,hDC,hDfs,fun v z=>by cases z⟩
    ·exact It.pin p (mem_append_right _ z')
 exact codeAny_compStart_list (loop _ rfl) (T.self _ 0 _ _ _ (T.keep _ _ _ st2 fun b _ o e=>old b o e) (loop _ rfl))
theorem Hn {RD:Cx->Prop} (hf:CompFits X.env.scope scope X.N N' ix) (hc:∀ cl s H C fp aa,RD (Au X N' scope cl s H C fp (X.pn++aa))) (hi:PIg RD X tg iter wi)
  (hg:∀ cl s H C fp pn,PGk (Au X N' scope cl s H C fp pn) tg ix g) (ht:∀ cl s H C fp pn,PTs (Au X N' scope cl s H C fp pn) ifs tt) (he:∀ cl s H C fp pn,PE (Au X N' scope cl s H C fp pn) elt te)
  (hs:∀ x,foldedSetIterable iter X.env x=pure x:=by intro _; rfl) :
  PE X (.ListComp elt [⟨tg,iter,ifs,0⟩] scope pos) (fun σ H Q=>DY wi g tt te ix (fun ys H'=>∀ p,H' p=none->Q (.ref p) (upd H' p (.lst ys))) σ H):=by
 intro aa s σ H Q I h;rw [eval_ListComp];refine Hm (use:=none) hf hc hi hg ht he hs I h fun s' ys H' D C m I' r hD hn h1 h2 h3 h4 h5=>?_;refine ⟨m,hn,fun h'' hs''=>⟨.ref D,_,I'.turned (it:=C) (t':=s'.toks) (fun b o hb e=>(hs''.2 b hb).trans e) h5 h2 (.inr h1) h3 h4,rfl,r D hD⟩⟩
theorem JS (hf:CompFits X.env.scope scope X.N N' ix) (hc:X.calm=true) (hi:PI X tg iter wi)
  (hg:∀ cl s H C fp pn,PGk (Au X N' scope cl s H C fp pn) tg ix g) (ht:∀ cl s H C fp pn,PTs (Au X N' scope cl s H C fp pn) ifs tt) (he:∀ cl s H C fp pn,PE (Au X N' scope cl s H C fp pn) elt te)
  (hs:∀ x,foldedSetIterable iter X.env x=pure x:=by intro _; rfl) :
  PE X (.ListComp elt [⟨tg,iter,ifs,0⟩] scope pos) (fun σ H Q=>DY wi g tt te ix (fun ys H'=>∀ p,H' p=none->Q (.ref p) (upd H' p (.lst ys))) σ H):=Hn hf (fun _ _ _ _ _ _=>hc) hi.g hg ht he hs
theorem N8 {i:Nat} {py spos:Pos} (hN:X.N.Nodup) (hi':X.N[i]?=some x) (hx:X.env.scope.names.lookup x=some .local) (hsw:swapsWith (.ListComp elt [⟨tg,iter,ifs,0⟩] scope pos) (some (.Name x py)) spos.line X.env=pure true)
  (hf:CompFits X.env.scope scope X.N N' ix) (hc:X.calm=true) (hi:PI X tg iter wi)
  (hg:∀ cl s H C fp pn,PGk (Au X N' scope cl s H C fp pn) tg ix g) (ht:∀ cl s H C fp pn,PTs (Au X N' scope cl s H C fp pn) ifs tt) (he:∀ cl s H C fp pn,PE (Au X N' scope cl s H C fp pn) elt te)
  (hs:∀ x,foldedSetIterable iter X.env x=pure x:=by intro _; rfl) :
  PS X (.Assign [.Name x py] (.ListComp elt [⟨tg,iter,ifs,0⟩] scope pos) spos) (fun D σ H=>DY wi g tt te ix (fun ys H'=>∀ p,H' p=none->D.nx (σ.set i (some (.ref p))) (upd H' p (.lst ys))) σ H):=by
 intro aa s σ H D I h;rw [exec_Assign_Name_used _ _ _ _ hsw];refine wpAny_bind (wpAny_standAt (wpAny_bind ?_));show wpAny _ X.A (do let _ ← comprehension (.ListComp elt [⟨tg,iter,ifs,0⟩] scope pos) scope X.env _ (newList []) false (eval iter X.env) (some (assign (.Name x py) X.env))) _ _ s;refine wpAny_bind (thn (Hm (use:=some (assign (.Name x py) X.env)) (Qv:=fun _ s'=>SP X aa D .next s') hf (fun _ _ _ _ _ _=>hc) hi.g hg ht he hs I h fun s' ys H' Da C m I' r hD hn h1 h2 h3 h4 h5=>?_) fun _ s' hq=>wpAny_pure (wpAny_pure hq));show wpAny _ X.A (assign (.Name x py) X.env (.ref Da)) _ _ _;refine wpAny_assign_Name (HN (v:=.ref Da) I' hN hi' (.inl hx) rfl (fun s'' I'' ⟨a,hsb,ha⟩=>?_) (.inr hx))
 have hCa:C ≠ a:=by
  rcases ha with z | z
  ·rw [z]; exact h2
  ·exact (h3 x a z).symm
 refine ⟨m,hn.sameBut hsb hCa,fun h'' hs''=>?_⟩;exact ⟨_,_,I''.turned (it:=C) (t':=s''.toks) (fun b o hb e=>(hs''.2 b hb).trans e) h5 h2 (.inr h1) h3 h4,r Da hD⟩
end
abbrev g2 (K:FG):TG:=Pt K 2 (F8 (CW 0) (F8 (CW 1) Ps))
section
variable {iter elt:Expr} {ifs:List Expr} {scope:Scope} {px py pt:Pos} {wi:TI} {tt:TT} {y:Str} {kt:Nat}
theorem B2 (Nc:List Str) (ixc:List (Option Nat)) (hf:Hk X.env.scope scope X.N (x :: Nc) (none :: ixc)=true) (hnd:(x :: Nc).Nodup) (hx:scope.names.lookup x=some .local) (hc:X.calm=true) (hi:PI X (.Name x px) iter wi)
  (ht:∀ cl s H C fp pn,PTs (Au X (x :: Nc) scope cl s H C fp pn) ifs tt) (he:∀ cl s H C fp pn,PE (Au X (x :: Nc) scope cl s H C fp pn) elt te) (hs:∀ x,foldedSetIterable iter X.env x=pure x:=by intro _; rfl) :
  PE X (.ListComp elt [⟨.Name x px,iter,ifs,0⟩] scope pos) (fun σ H Q=>DY wi (CW 0) tt te (none :: ixc) (fun ys H'=>∀ p,H' p=none->Q (.ref p) (upd H' p (.lst ys))) σ H) :=
 JS (CompFits.of hf) hc hi (fun cl s H C fp pn=>Gc (Ae (i:=0) hnd rfl (.inl (lookup_relabel_local hx)) (.inr (lookup_relabel_local hx)))) ht he hs
theorem Gd (Nc:List Str) (ixc:List (Option Nat)) (hf:Hk X.env.scope scope X.N (x :: y :: Nc) (none :: none :: ixc)=true) (hnd:(x :: y :: Nc).Nodup) (hx:scope.names.lookup x=some .local) (hy:scope.names.lookup y=some .local) (hc:X.calm=true)
  (hi:PI X (.Tuple [.Name x px,.Name y py] kt pt) iter wi)
  (ht:∀ cl s H C fp pn,PTs (Au X (x :: y :: Nc) scope cl s H C fp pn) ifs tt) (he:∀ cl s H C fp pn,PE (Au X (x :: y :: Nc) scope cl s H C fp pn) elt te) (hs:∀ x,foldedSetIterable iter X.env x=pure x:=by intro _; rfl) :
  PE X (.ListComp elt [⟨.Tuple [.Name x px,.Name y py] kt pt,iter,ifs,0⟩] scope pos) (fun σ H Q=>DY wi (g2 X.K) tt te (none :: none :: ixc) (fun ys H'=>∀ p,H' p=none->Q (.ref p) (upd H' p (.lst ys))) σ H) :=
 JS (CompFits.of hf) hc hi (fun cl s H C fp pn=>N7 (B8 (X:=Au X (x :: y :: Nc) scope cl s H C fp pn) hc (Af (Ae (i:=0) hnd rfl (.inl (lookup_relabel_local hx)) (.inr (lookup_relabel_local hx)))
  (Af (Ae (i:=1) hnd rfl (.inl (lookup_relabel_local hy)) (.inr (lookup_relabel_local hy))) Bd)))) ht he hs
theorem N9 {i:Nat} {z:Str} {pz spos:Pos} (hN:X.N.Nodup) (hi':X.N[i]?=some z) (hz:X.env.scope.names.lookup z=some .local) (Nc:List Str) (ixc:List (Option Nat)) (hf:Hk X.env.scope scope X.N (x :: Nc) (none :: ixc)=true) (hnd:(x :: Nc).Nodup)
  (hx:scope.names.lookup x=some .local) (hc:X.calm=true) (hi:PI X (.Name x px) iter wi)
  (ht:∀ cl s H C fp pn,PTs (Au X (x :: Nc) scope cl s H C fp pn) ifs tt) (he:∀ cl s H C fp pn,PE (Au X (x :: Nc) scope cl s H C fp pn) elt te)
  (hsw:swapsWith (.ListComp elt [⟨.Name x px,iter,ifs,0⟩] scope pos) (some (.Name z pz)) spos.line X.env=pure true:=by rfl) (hs:∀ x,foldedSetIterable iter X.env x=pure x:=by intro _; rfl) :
  PS X (.Assign [.Name z pz] (.ListComp elt [⟨.Name x px,iter,ifs,0⟩] scope pos) spos) (fun D σ H=>DY wi (CW 0) tt te (none :: ixc) (fun ys H'=>∀ p,H' p=none->D.nx (σ.set i (some (.ref p))) (upd H' p (.lst ys))) σ H) :=
 N8 hN hi' hz hsw (CompFits.of hf) hc hi (fun cl s H C fp pn=>Gc (Ae (i:=0) hnd rfl (.inl (lookup_relabel_local hx)) (.inr (lookup_relabel_local hx)))) ht he hs
end
theorem CH {g:TG} {tt:TT} {ix:List (Option Nat)} {R:List V->Hp->Prop} {H1:Hp} (Pv:Nat->List V->Hp->Prop) (h0:Pv 0 [] H1) (hl:∀ i ys H,i <= xs.length->Pv i ys H->SqL K H a xs) (hz:∀ i ys H,Pv i ys H->ys.length <= 1000)
  (hs:∀ i x ys H,xs[i]?=some x->Pv i ys H->g x (Cl ix σ) H fun σ2 H2=>tt σ2 H2 fun b H3=>if b=true then te σ2 H3 fun y H4=>Pv (i + 1) (ys++[y]) H4 else Pv (i + 1) ys H3) (hd:∀ ys H,Pv xs.length ys H->R ys H) :
  ∃ W:Nat->Nat->List V->Hp->Prop,(∃ m,W 0 m [] H1)/\∀ i m ys H,W i m ys H ->
   ((Itl K a).stop i H/\ys.length <= sizeLine/\R ys H) \/
   ((Itl K a).go i H/\∃ N:List V->Hp->Prop,(∀ ys' H',N ys' H'->ys'.length <= sizeLine/\∃ m',m' < m/\W (i + 1) m' ys' H') /\
    ∀ x H',(Itl K a).yld i H x H'->g x (Cl ix σ) H' fun σ2 H2=>tt σ2 H2 fun b H3=>if b=true then te σ2 H3 fun y H4=>N (ys++[y]) H4 else N ys H3):=by
 refine ⟨fun i m ys H=>m=xs.length - i/\i <= xs.length/\Pv i ys H,⟨_,rfl,Nat.zero_le _,h0⟩,?_⟩;rintro i m ys H ⟨rfl,hi,hp⟩;by_cases hlt:i < xs.length
 ·have hx:xs[i]?=some xs[i]:=List.getElem?_eq_getElem hlt;refine .inr ⟨⟨xs,xs[i],hl i ys H hi hp,hx⟩,Pv (i + 1),fun ys' H' q=>⟨Nat.le_of_lt (AO (hz _ ys' H' q)),xs.length - (i + 1),by omega,rfl,hlt,q⟩,?_⟩;rintro x H' ⟨rfl,hy⟩
  have ex:x=xs[i]:=by
   have:=hy xs (hl i ys H' hi hp);rw [hx] at this;exact (Option.some.inj this).symm
  subst ex;exact hs i xs[i] ys H' hx hp
 ·have e:i=xs.length:=by omega
  subst e;exact .inl ⟨⟨xs,hl _ ys H hi hp,Nat.le_refl _⟩,Nat.le_of_lt (AO (hz _ ys H hp)),hd ys H hp⟩
theorem JT {g:TG} {tt:TT} {ix:List (Option Nat)} {R:List V->Hp->Prop} {H1:Hp} (Pv:Nat->List V->Hp->Prop) (h0:Pv 0 [] H1) (hl:∀ i ys H,i <= xs.length->Pv i ys H->SqT K H a xs) (hz:∀ i ys H,Pv i ys H->ys.length <= 1000)
  (hs:∀ i x ys H,xs[i]?=some x->Pv i ys H->g x (Cl ix σ) H fun σ2 H2=>tt σ2 H2 fun b H3=>if b=true then te σ2 H3 fun y H4=>Pv (i + 1) (ys++[y]) H4 else Pv (i + 1) ys H3) (hd:∀ ys H,Pv xs.length ys H->R ys H) :
  ∃ W:Nat->Nat->List V->Hp->Prop,(∃ m,W 0 m [] H1)/\∀ i m ys H,W i m ys H ->
   ((Itt K a).stop i H/\ys.length <= sizeLine/\R ys H) \/
   ((Itt K a).go i H/\∃ N:List V->Hp->Prop,(∀ ys' H',N ys' H'->ys'.length <= sizeLine/\∃ m',m' < m/\W (i + 1) m' ys' H') /\
    ∀ x H',(Itt K a).yld i H x H'->g x (Cl ix σ) H' fun σ2 H2=>tt σ2 H2 fun b H3=>if b=true then te σ2 H3 fun y H4=>N (ys++[y]) H4 else N ys H3):=by
 refine ⟨fun i m ys H=>m=xs.length - i/\i <= xs.length/\Pv i ys H,⟨_,rfl,Nat.zero_le _,h0⟩,?_⟩;rintro i m ys H ⟨rfl,hi,hp⟩;by_cases hlt:i < xs.length
 ·have hx:xs[i]?=some xs[i]:=List.getElem?_eq_getElem hlt;refine .inr ⟨⟨xs,xs[i],hl i ys H hi hp,hx⟩,Pv (i + 1),fun ys' H' q=>⟨Nat.le_of_lt (AO (hz _ ys' H' q)),xs.length - (i + 1),by omega,rfl,hlt,q⟩,?_⟩;rintro x H' ⟨rfl,hy⟩
  have ex:x=xs[i]:=by
   have:=hy xs (hl i ys H' hi hp);rw [hx] at this;exact (Option.some.inj this).symm
  subst ex;exact hs i xs[i] ys H' hx hp
 ·have e:i=xs.length:=by omega
  subst e;exact .inl ⟨⟨xs,hl _ ys H hi hp,Nat.le_refl _⟩,Nat.le_of_lt (AO (hz _ ys H hp)),hd ys H hp⟩
theorem EH {lo:Int} {n:Nat} {g:TG} {tt:TT} {ix:List (Option Nat)} {R:List V->Hp->Prop} {H1:Hp} (Pv:Nat->List V->Hp->Prop) (h0:Pv 0 [] H1) (hz:∀ i ys H,Pv i ys H->ys.length <= 1000)
  (hs:∀ (i:Nat) ys H,i < n->Pv i ys H->g (.int (lo + i)) (Cl ix σ) H fun σ2 H2=>tt σ2 H2 fun b H3=>if b=true then te σ2 H3 fun y H4=>Pv (i + 1) (ys++[y]) H4 else Pv (i + 1) ys H3) (hd:∀ ys H,Pv n ys H->R ys H) :
  ∃ W:Nat->Nat->List V->Hp->Prop,(∃ m,W 0 m [] H1)/\∀ i m ys H,W i m ys H ->
   ((Itr lo n).stop i H/\ys.length <= sizeLine/\R ys H) \/
   ((Itr lo n).go i H/\∃ N:List V->Hp->Prop,(∀ ys' H',N ys' H'->ys'.length <= sizeLine/\∃ m',m' < m/\W (i + 1) m' ys' H') /\
    ∀ x H',(Itr lo n).yld i H x H'->g x (Cl ix σ) H' fun σ2 H2=>tt σ2 H2 fun b H3=>if b=true then te σ2 H3 fun y H4=>N (ys++[y]) H4 else N ys H3):=by
 refine ⟨fun i m ys H=>m=n - i/\i <= n/\Pv i ys H,⟨_,rfl,Nat.zero_le _,h0⟩,?_⟩;rintro i m ys H ⟨rfl,hi,hp⟩;by_cases hlt:i < n
 ·refine .inr ⟨hlt,Pv (i + 1),fun ys' H' q=>⟨Nat.le_of_lt (AO (hz _ ys' H' q)),n - (i + 1),by omega,rfl,hlt,q⟩,?_⟩;rintro x H' ⟨rfl,rfl⟩;exact hs i ys H' hlt hp
 ·have e:i=n:=by omega
  subst e;exact .inl ⟨Nat.le_refl _,Nat.le_of_lt (AO (hz _ ys H hp)),hd ys H hp⟩
section
variable {o:Obj} {kvs:LK}
theorem Inv.newOk (I:Inv X aa σ H s) {p:Addr} (hp:s.heap.objs.size <= p):H p=none/\p ≠ X.env.locals/\X.s₀.heap.objs.size <= p/\(∀ x c,X.env.cells.lookup x=some c->c ≠ p)/\∀ q ∈ X.pn++aa,q.1 ≠ p :=
 ⟨I.hok.fresh hp,Nat.ne_of_gt (Nat.lt_of_lt_of_le I.lt hp),Nat.le_trans I.sz hp,fun x c e=>by
  obtain ⟨v,z⟩:=I.cell x c e
  exact Nat.ne_of_lt (Nat.lt_of_lt_of_le z.lt hp),fun q hq=>Nat.ne_of_lt (Nat.lt_of_lt_of_le (lt_size (I.pin q hq).1) hp)⟩
theorem Inv.freeze (I:Inv X aa σ H s) (h:H a=some (.dK kvs)):∃ o,Inv X aa σ (upd H a (.frz o (.dK kvs))) s:=by
 obtain ⟨z,y,vs,r,ob,es,ep,e,rest⟩:=I.hok a _ h;refine ⟨ob,?_⟩;exact I.write (x:=a) (e:=a) (o:=.frz ob (.dK kvs)) (h':=s.heap) (t':=s.toks) (by rw [h]; exact trivial) (.inl rfl) (fun b u _ q=>q) ⟨ob,e⟩ ⟨e,z,y,vs,r,ob,es,ep,e,rest⟩
theorem Ge {sts:List Stmt} {t:TS} (h:PSs X sts t):PSs X sts (fun D σ H=>∃ a kvs,H a=some (.dK kvs)/\∀ o,t D σ (upd H a (.frz o (.dK kvs)))):=by
 intro aa s σ H D I ⟨a,kvs,e,k⟩;obtain ⟨o,I'⟩:=I.freeze e;exact h aa s σ _ D I' (k o)
noncomputable def OA (o:Obj):Nat:=match o.data with
 | .dict _ ep=>ep
 | _=>0
theorem Gf (I:Inv X aa σ H s) (h:H a=some (.frz o (.dK kvs))):kvs.length <= sizeLine/\(a == sysModules)=false/\∃ vs,KV kvs vs/\s.heap.DictAt (Ai X.prog X.w) a vs (OA o):=by
 obtain ⟨e,z,y,vs,r,ob,es,ep,e2,ex,d,rest⟩:=I.hok a _ h;rw [e] at e2; cases e2;refine ⟨z,y,vs,r,o,es,e,ex,?_,rest⟩;show o.data=.dict es (OA o);unfold OA; rw [d]
end
theorem KV.get {κ:Type}:∀ {kvs:List (κ × V)} {vs:List (κ × Value)} {i:Nat} {kv:κ × V},KV kvs vs->kvs[i]?=some kv->∃ v,vs[i]?=some (kv.1,v)/\RelV kv.2 v
 | _,_,_,_,.nil,e=>by simp at e
 | _,_,0,_,.cons r _,e=>by
  simp only [List.getElem?_cons_zero,Option.some.injEq] at e;subst e;rename_i q _ _ _;exact ⟨q.2,by rw [r.1]; rfl,r.2⟩
 | _,_,i + 1,kv,.cons _ t,e=>by
  obtain ⟨u,h1,h2⟩:=KV.get (i:=i) (kv:=kv) (show KV _ _ from t) (by simpa using e);exact ⟨u,by simpa using h1,h2⟩
theorem F2 {k:Key} (h:(Ai P w).is k u=true):RelV (kV k) u:=by
 rcases A5 (show F5 k u=true from h) with ⟨i,t,rfl,rfl⟩ | ⟨x,t,rfl,rfl⟩
 ·exact ⟨t,rfl⟩
 ·exact ⟨t,rfl⟩
noncomputable def Iti (a:Addr) (o:Obj) (kvs:LK):It:=⟨fun i H=>H a=some (.frz o (.dK kvs))/\i < kvs.length,fun i H x H'=>∃ p kv,H p=none/\x=.ref p/\kvs[i]?=some kv/\H'=upd H p (.tup [kV kv.1,kv.2]),
 fun i H=>H a=some (.frz o (.dK kvs))/\kvs.length <= i⟩
theorem Kh {elts:List Expr} {k0:Nat} (a it:Addr) (o:Obj) (kvs:LK) :
  KJ P w K (.Tuple elts k0 pos) (Iti a o kvs) [it] it (fun i h=>∃ ok ov,IsItemIter h it a i kvs.length (OA o) ok ov) where
 mem:=by simp
 obj:=fun i h st b hb=>by
  have e:b=it:=by simpa using hb
  subst e;obtain ⟨ok,ov,e⟩:=st;exact ⟨_,e,fun v z=>by cases z⟩
 keep:=fun i h h' st k=>by
  obtain ⟨ok,ov,e⟩:=st;exact ⟨ok,ov,k it (by simp) _ e⟩
 item:=by
  intro X hP hw hK hc i aa s σ H E I hf st hg;subst hP hw hK;obtain ⟨hfz,hi⟩:=hg;obtain ⟨z,y,vs,rel,dd⟩:=Gf I hfz;obtain ⟨ok,ov,st⟩:=st;have ba:=rel.length;obtain ⟨kv,hkv⟩:∃ kv,kvs[i]?=some kv:=⟨_,List.getElem?_eq_getElem hi⟩;obtain ⟨v,hv,rv⟩:=KV.get rel hkv;obtain ⟨f0,f1,f2,f3,f4,f5⟩:=hf it (by simp);rw [ba] at st;have hlt:it < s.heap.objs.size:=lt_size st;refine wpAny_pyNext_items_item st dd hv fun key h' cq st' hp hsz keep=>?_;have I1:Inv X aa σ H { s with heap:=h' }:=I.turned (t':=s.toks) keep f0 f1 f3 f4 f5;obtain ⟨n1,n2,n3,n4,n5⟩:=I.newOk (Nat.le_refl s.heap.objs.size);have I2:Inv X aa σ (upd H s.heap.objs.size (.tup [kV kv.1,kv.2])) { s with heap:=h' }:=I1.track n1 n2 (.inr n3) n4 n5 ⟨by show 2 <= sizeLine; decide,[key,v],.cons (F2 cq) (.cons rv .nil),_,hp,rfl,_,rfl⟩;have fi:(upd H s.heap.objs.size (.tup [kV kv.1,kv.2])) it=none:=by rw [AG (Nat.ne_of_lt hlt)]; exact f0
  refine ⟨.ref s.heap.objs.size,rfl,wpAny_letOwnedTupleGo_items st' fun h'' st'' sb=>?_⟩;refine ⟨.ref s.heap.objs.size,_,I2.turned (it:=it) (t':=s.toks) (fun b o hb e=>(sb.2 b hb).trans e) fi f1 f3 f4 f5,rfl,⟨_,kv,n1,rfl,hkv,rfl⟩,⟨key,v,by rw [ba]; exact st''⟩,fun b hb=>?_⟩;have e:b=it:=by simpa using hb
  rw [e]; exact fi
 done:=by
  intro X hP hw hK hc i aa s σ H E I hf st hg;subst hP hw hK;obtain ⟨hfz,hi⟩:=hg;obtain ⟨z,y,vs,rel,dd⟩:=Gf I hfz;obtain ⟨ok,ov,st⟩:=st;have ba:=rel.length;rw [ba] at st;obtain ⟨f0,f1,f2,f3,f4,f5⟩:=hf it (by simp);exact wpAny_pyNext_items_end (I.ok.hd hc) st dd (List.getElem?_eq_none_iff.mpr (by omega)) fun h' eb=>⟨rfl,I.turned (t':=s.toks) (fun b o hb e=>eb b o hb e) f0 f1 f3 f4 f5⟩
 self:=fun _ _ _ _ _ st h=>by
  obtain ⟨ok,ov,e⟩:=st;exact W.kcp_self e h
def Rz (to:TE):TI:=fun σ H R=>to σ H fun x H1=>∃ a o kvs,x=.ref a/\H1 a=some (.frz o (.dK kvs))/\R (Iti a o kvs) H1
theorem OB {elts:List Expr} {k0:Nat} {o:Expr} {to:TE} {apos cpos:Pos} (ho:PE X o to) (bp:attributeBase o "items" X.env (eval o X.env)=eval o X.env:=by rfl) (bv:(apos.endLine == cpos.line)=true:=by rfl) :
  PI X (.Tuple elts k0 pos) (.Call (.Attribute o "items" apos) [] [] cpos) (Rz to):=by
 intro aa s σ H R I h;refine wpAny_Call_method0_late bp bv (thn (ho aa s σ H _ I h) fun v s1 ⟨x,H1,I1,r1,a,ob,kvs,ex,hfz,q⟩=>?_);subst ex;cases r1;obtain ⟨t1,t2,_⟩:=N5 I1 (.inl ⟨kvs,.inr ⟨ob,hfz⟩⟩);obtain ⟨z,y,vs,rel,dd⟩:=Gf I1 hfz;refine ⟨"dict", "dict.items", PySem.F.plainAttrs_dict,PySem.F.slot_dict_items,PySem.F.type_dict_items,t1,t2,Calls.callWith_builtin rfl (PySem.evalArgs_none (call_meetsIn PySem.F.slot_dict_items t1 PySem.F.entry_dict_items (PySem.F.args_dict_items_1 _) (meets_dict_items (Ai X.prog X.w) a y) ⟨⟨vs,dd.dictOf⟩,?_⟩))⟩;have I2:Inv X aa σ H1 { s1 with heap:=s1.heap.push { cls:=.type "dict_items", data:=.fields #[.ref a] } }:=I1.kept (t':=s1.toks) fun b o e=>get?_push_of_some _ e;refine wpAny_pyIter_items (knd:=Ai X.prog X.w) (d:=a) (kvs:=vs) (ep:=OA ob) ⟨_,get?_push_size _ rfl,rfl,rfl⟩ (dd.push _) ?_;refine ⟨_,[_],_,_,H1,rfl,I2.kept (t':=s1.toks) fun b o e=>get?_push_of_some _ e,Kh a _ ob kvs,⟨.none,.none,by rw [rel.length]; exact get?_push_size _ rfl⟩,fun b hb=>?_,q⟩;have e:b=(s1.heap.push { cls:=.type "dict_items", data:=.fields #[.ref a] }).objs.size:=by simpa using hb
 subst e;exact I2.fpOk (Nat.le_refl _) (I2.hok.fresh (Nat.le_refl _))
noncomputable def Ite (K:FG) (a:Addr):It:=⟨fun i H=>∃ xs x,SqL K H a xs/\xs[i]?=some x,fun i H x H'=>∃ p y,H p=none/\x=.ref p/\(∀ xs,SqL K H a xs->xs[i]?=some y)/\H'=upd H p (.tup [.int i,y]),fun i H=>∃ xs,SqL K H a xs/\xs.length <= i⟩
theorem Ms {elts:List Expr} {k0:Nat} (a e it:Addr) (ax:e ≠ it) :
  KJ P w K (.Tuple elts k0 pos) (Ite K a) [e,it] e (fun i h=>∃ old,IsEnum h e it i old/\h.IsListIter it a i) where
 mem:=by simp
 obj:=fun i h st b hb=>by
  obtain ⟨old,e1,o,e2,c,d⟩:=st;have hb':b=e\/b=it:=by simpa using hb
  rcases hb' with rfl | rfl
  ·exact ⟨_,e1,fun v z=>by cases z⟩
  ·exact ⟨o,e2,fun v z=>by rw [d] at z; cases z⟩
 keep:=fun i h h' st k=>by
  obtain ⟨old,e1,e2⟩:=st;exact ⟨old,k e (by simp) _ e1,e2.at fun o q=>k it (by simp) o q⟩
 item:=by
  intro X hP hw hK hc i aa s σ H E I hf st hg;subst hP hw hK;obtain ⟨xs,x,hq,hx⟩:=hg;obtain ⟨its,rv,p,hz⟩:=I.list hq;obtain ⟨u,hu,ru⟩:=rv.get hx;obtain ⟨old,s1,s2⟩:=st;obtain ⟨f0,f1,f2,f3,f4,f5⟩:=hf e (by simp);obtain ⟨g0,g1,g2,g3,g4,g5⟩:=hf it (by simp);have hlt:e < s.heap.objs.size:=lt_size s1;have hlt2:it < s.heap.objs.size:=by obtain ⟨o,q,_⟩:=id s2; exact lt_size q
  refine wpAny_pyNext_enum_item s1 s2 p.isList (x:=u) (by simpa using hu) ax fun h' st' st2' hp hsz keep=>?_
  have I1:Inv X aa σ H { s with heap:=h',toks:=s.toks + 1 }:=by
   refine I.step (H':=H) (g':=s.gens) (d':=s.drawn) (ch:=[e,it]) (fun b hb=>?_) (fun b o _ _ hb q _=>keep b o (by simp at hb; exact hb.1) (by simp at hb; exact hb.2) q) (fun b o _ _ hb q _=>⟨o.slots,keep b o (by simp at hb; exact hb.1) (by simp at hb; exact hb.2) q⟩)
    (fun _ _ _ _ n=>n) (fun b o hb q=>⟨o,keep b o (by simp at hb; exact hb.1) (by simp at hb; exact hb.2) q⟩) (fun _ _ q=>q) (fun _ _ _ q=>q) (fun b ps q=>⟨#[],by rw [q]; simp⟩) (fun m hm=>?_) (fun b u q=>?_) I.bare
   ·have hb':b=e\/b=it:=by simpa using hb
    rcases hb' with rfl | rfl
    ·exact ⟨f3,f1,f4,f5⟩
    ·exact ⟨g3,g1,g4,g5⟩
   ·obtain ⟨oL,es,ep,hoL,r⟩:=hm;exact ⟨oL,es,ep,keep _ oL (Ne.symm f1) (Ne.symm g1) hoL,r⟩
   ·have ne1:∀ c v,H c=some v->c ≠ e/\c ≠ it:=fun c v q=>⟨AI q f0,AI q g0⟩;refine (I.hok b u q).stay (fun c v hc q'=>keep c v ?_ ?_ q') (fun _ q=>q) fun _ _ q=>q
    ·rcases hc with z | z
     ·rw [z]; exact (ne1 b u q).1
     ·exact (ne1 c _ z).1
    ·rcases hc with z | z
     ·rw [z]; exact (ne1 b u q).2
     ·exact (ne1 c _ z).2
  obtain ⟨n1,n2,n3,n4,n5⟩:=I.newOk (Nat.le_refl s.heap.objs.size);have I2:Inv X aa σ (upd H s.heap.objs.size (.tup [.int i,x])) { s with heap:=h',toks:=s.toks + 1 }:=I1.track n1 n2 (.inr n3) n4 n5 ⟨by show 2 <= sizeLine; decide,[.int i s.toks,u],.cons ⟨_,rfl⟩ (.cons ru .nil),_,hp,rfl,_,rfl⟩;have fe:(upd H s.heap.objs.size (.tup [.int i,x])) e=none:=by rw [AG (Nat.ne_of_lt hlt)]; exact f0
  have fi:(upd H s.heap.objs.size (.tup [.int i,x])) it=none:=by rw [AG (Nat.ne_of_lt hlt2)]; exact g0
  refine ⟨.ref s.heap.objs.size,rfl,wpAny_letOwnedTupleGo_enum st' fun h'' st'' sb=>?_⟩;refine ⟨.ref s.heap.objs.size,_,I2.turned (it:=e) (t':=s.toks + 1) (fun b o hb q=>(sb.2 b hb).trans q) fe f1 f3 f4 f5,rfl,⟨_,x,n1,rfl,fun ys hy=>by rw [I.list_inj hy hq]; exact hx,rfl⟩,⟨_,by exact_mod_cast st'',st2'.extBut sb.extBut (Ne.symm ax)⟩,fun b hb=>?_⟩;have hb':b=e\/b=it:=by simpa using hb
  rcases hb' with rfl | rfl
  ·exact fe
  ·exact fi
 done:=by
  intro X hP hw hK hc i aa s σ H E I hf st hg;subst hP hw hK;obtain ⟨xs,hq,hx⟩:=hg;obtain ⟨its,rv,p,hz⟩:=I.list hq;obtain ⟨old,s1,s2⟩:=st;obtain ⟨g0,g1,g2,g3,g4,g5⟩:=hf it (by simp);have hl:=rv.length;exact wpAny_pyNext_enum_end (I.ok.hd hc) s1 s2 p.isList (by simp; omega) fun h' eb=>⟨rfl,I.turned (t':=s.toks) (fun b o hb e=>eb b o hb e) g0 g1 g3 g4 g5⟩
 self:=fun _ _ _ _ _ st h=>by
  obtain ⟨old,e1,_⟩:=st;exact wpAny_pyIter_enum e1 h
def Ta (K:FG) (tl:TA):TI:=fun σ H R=>tl σ H fun vs H1=>∃ a,vs=[.ref a]/\(∃ xs,SqL K H1 a xs)/\R (Ite K a) H1
theorem QA {elts:List Expr} {k0:Nat} {p cpos:Pos} {l:Expr} {tl:TA} (hg:Gl X "enumerate") (hm:X.mg "enumerate" = none) (hl:PA X [l] tl) (hs:starEach [l] X.env=[(false,eval l X.env)]:=by rfl) :
  PI X (.Tuple elts k0 pos) (.Call (.Name "enumerate" p) [l] [] cpos) (Ta X.K tl):=by
 intro aa s σ H R I h;refine wpAny_Call_Name_kw (D8 (u:=.type "enumerate") I hg hm (by decide +kernel) ?_);refine PyProof.Rows.callWith_type1 (thn (hl cpos aa s σ H _ I h) fun us s1 ⟨vs,H1,I1,r1,a,ev,⟨xs,hq⟩,q⟩=>?_) hs rfl;subst ev;obtain ⟨u,rfl,ru⟩:=Bs r1;cases ru;obtain ⟨its,rv,pl,hz⟩:=I1.list hq;refine call_enumerate_list pl.isList fun h' he hi hsz keep=>?_;refine wpAny_pyIter_enum he ?_;have I2:Inv X aa σ H1 { s1 with heap:=h' }:=I1.kept (t':=s1.toks) keep;refine ⟨_,[s1.heap.objs.size + 1,s1.heap.objs.size],_,_,H1,rfl,I2,Ms a _ _ (Nat.succ_ne_self _),⟨_,he,hi⟩,fun b hb=>?_,q⟩;have hb':b=s1.heap.objs.size + 1\/b=s1.heap.objs.size:=by simpa using hb
 rcases hb' with rfl | rfl
 ·exact I1.fpOk (Nat.le_succ _) (I1.hok.fresh (Nat.le_succ _))
 ·exact I1.fpOk (Nat.le_refl _) (I1.hok.fresh (Nat.le_refl _))
noncomputable def Its (x:Str):It:=⟨fun i _=>i < x.cps.size,fun i H v H'=>H'=H/\∃ c,x.cps[i]?=some c/\v=.str ⟨#[c]⟩,fun i _=>x.cps.size <= i⟩
theorem OC {n:Str} (it:Addr) (x:Str) (t:Tok) :
  KJ P w K (.Name n pos) (Its x) [it] it (fun i h=>h.IsStrIter it "str_ascii_iterator" x t i) where
 mem:=by simp
 obj:=fun i h st b hb=>by
  have e:b=it:=by simpa using hb
  subst e;obtain ⟨o,e,c,d⟩:=st;exact ⟨o,e,fun v z=>by rw [d] at z; cases z⟩
 keep:=fun i h h' st k=>by
  obtain ⟨o,e,r⟩:=st;exact ⟨o,k it (by simp) o e,r⟩
 item:=by
  intro X hP hw hK hc i aa s σ H E I hf st hg;subst hP hw hK;have hi:i < x.cps.size:=hg;obtain ⟨f0,f1,f2,f3,f4,f5⟩:=hf it (by simp);refine wpAny_pyNext_ascii_item st (Array.getElem?_eq_getElem hi) fun h' st' sb=>?_;refine ⟨_,rfl,wpAny_pure ⟨.str ⟨#[x.cps[i]]⟩,H,I.turned (t':=s.toks + 1) (fun b o hb e=>(sb.2 b hb).trans e) f0 f1 f3 f4 f5,⟨_,rfl⟩,⟨rfl,_,Array.getElem?_eq_getElem hi,rfl⟩,st',fun b hb=>(hf b hb).1⟩⟩
 done:=by
  intro X hP hw hK hc i aa s σ H E I hf st hg;subst hP hw hK;have hi:x.cps.size <= i:=hg;obtain ⟨f0,f1,f2,f3,f4,f5⟩:=hf it (by simp);exact wpAny_pyNext_ascii_end (I.ok.hd hc) st (Array.getElem?_eq_none hi) fun h' eb=>⟨rfl,I.turned (t':=s.toks) (fun b o hb e=>eb b o hb e) f0 f1 f3 f4 f5⟩
 self:=fun _ _ _ _ _ st h=>wpAny_pyIter_striter_ascii st h
def UZ (ts:TE):TI:=fun σ H R=>ts σ H fun v H1=>∃ x,v=.str x/\x.cps.all (· < 128)=true/\R (Its x) H1
theorem OD {n:Str} {ts:TE} (he:PE X e ts):PI X (.Name n pos) e (UZ ts):=by
 intro aa s σ H R I h;refine thn (he aa s σ H _ I h) fun v s1 ⟨z,H1,I1,r1,x,ez,ha,q⟩=>?_;subst ez;obtain ⟨t,rfl⟩:=r1;refine wpAny_pyIter_ascii ha ?_;refine ⟨s1.heap.objs.size,[s1.heap.objs.size],_,_,H1,rfl,I1.kept (t':=s1.toks) fun b o e=>get?_push_of_some _ e,OC _ x t,⟨_,get?_push_size _ rfl,rfl,rfl⟩,fun b hb=>?_,q⟩;have e:b=s1.heap.objs.size:=by simpa using hb
 subst e;exact I1.fpOk (Nat.le_refl _) (I1.hok.fresh (Nat.le_refl _))
theorem HF:entryFor table "proto.unchain" = some Builtin.«proto.unchain»:=entryFor_of_tree (by kernel_rfl)
section
variable {prog:Program}
theorem QB {α:Type} {c e:Addr} {oc oe:Obj} {vc ve:Array Value} {Q:α->Shared->Prop} (hh:A.handled=some (.ref c)) (hce:c ≠ e) (hc:s.heap.get? c=some oc) (hdc:oc.data=.fields vc) (h2:vc[2]?=some .none)
  (he:s.heap.get? e=some oe) (hde:oe.data=.fields ve) (hz:2 < ve.size) (h:E (.ref e) { s with heap:=s.heap.update e (Obj.mapFields (·.setIfInBounds 2 (.ref c))) }):wpAny (model prog w) A (raiseNew (.ref e):Sem α) Q E s:=by
 unfold raiseNew;refine wpAny_bind (wpAny_handled ?_);rw [hh]
 dsimp only
 rw [if_pos (show (Value.ref c != Value.ref e)=true by simp [hce])];refine wpAny_bind (wpAny_holding (wpAny_runValue (codeAny_builtin HF ?_)));unfold Builtin.«proto.unchain»
 dsimp only
 refine wpAny_bind (wpAny_field hc hdc h2 ?_);rw [if_pos (by decide)];refine wpAny_pure ?_;show wpAny _ _ _ _ _ _;have up:=wpAny_setField (M:=model prog w) (A:=A) (E:=E) (x:=Value.ref c) (Q:=fun _ s'=>E (.ref e) s') he hde hz h;unfold setField at up;exact wpAny_bind (wpAny_mono up (fun _ s' z=>wpAny_throw z) fun _ _ z=>z)
theorem DJ {it l c:Addr} {i:Nat} {xs:Array Value} {oc:Obj} {vc:Array Value} {Q:Option Value->Shared->Prop} (hh:A.handled=some (.ref c)) (hc:s.heap.get? c=some oc) (hdc:oc.data=.fields vc) (h2:vc[2]?=some .none) (hci:c ≠ it)
  (hI:s.heap.IsListIter it l i) (hL:s.heap.IsList l xs) (hx:xs[i]?=none) (fin:∀ h',Heap.ExtBut it s.heap h'->Q none { s with heap:=h' }):wpAny (model prog w) A (pyNext (.ref it)) Q E s:=by
 obtain ⟨o,ho,oc1,hd⟩:=id hI;obtain ⟨ol,hol,_,nl,hdl⟩:=hL;unfold pyNext;refine wpAny_bind (wpAny_attempt (wpAny_callSpecial?_slot (name:=Str.ofString "__next__") hI.typeIs slot_listiter_next (wpAny_call_entry slot_listiter_next hI.typeIs entry_listiter_next ?_ (args_listiter_next _))));show wpAny _ _ (field (.ref it) 0 >>= _) _ _ s;refine wpAny_bind (wpAny_field (x:=.ref l) ho hd rfl ?_);show wpAny _ _ (if (Value.ref l == Value.none)=true then _ else _) _ _ s;rw [if_neg (by simp:¬ (Value.ref l == Value.none)=true)];show wpAny _ _ (field (.ref it) 1 >>= _) _ _ s;refine wpAny_bind (wpAny_field (x:=.int i 0) ho hd rfl ?_);show wpAny _ _ (seqItems? (.ref l) >>= _) _ _ s;refine wpAny_bind (wpAny_seqItems hol hdl ?_);simp only [Int.toNat_natCast,hx];refine wpAny_bind (wpAny_rule (wpAny_bind (wpAny_setField ho hd (by simp) ?_)));show wpAny _ _ (newExc (.type "StopIteration") [] >>= raiseNew) _ _ _;refine wpAny_bind ?_;simp only [newExc,newTuple];refine wpAny_bind (wpAny_newObj_type ?_ (by size_fits));refine wpAny_bind (m:=firstArgMember _ _) (wpAny_of_eq (a:=Value.none) (by first | rfl | (simp only [firstArgMember]; rfl)) (wpAny_newObj_type ?_ (by size_fits)));have k1:=(get?_update_other s.heap (Obj.mapFields (·.setIfInBounds 0 Value.none)) (Ne.symm hci)).trans hc;refine QB (c:=c) (show A.in1.handled=_ from hh) (fun z=>?_) (get?_push_of_some _ (get?_push_of_some _ k1)) hdc h2 (get?_push_size _ rfl) rfl (by simp; omega) ?_
 ·have:=lt_size (get?_push_of_some { cls:=.type "tuple", data:=.seq #[] } k1);rw [z] at this;exact absurd this (Nat.lt_irrefl _)
 ·refine wpAny_bind (wpAny_isInstance (T := "StopIteration") (b:=true) ⟨_,get?_update_self _ (get?_push_size _ rfl) rfl,rfl⟩ isSubtype_stop ?_);refine wpAny_pure (fin _ fun b u hb z=>?_);have z1:=(get?_update_other s.heap (Obj.mapFields (·.setIfInBounds 0 Value.none)) (Ne.symm hb)).trans z;have z2:=get?_push_of_some { cls:=.type "tuple", data:=.seq #[] } z1;rw [get?_update_other _ _ (Nat.ne_of_gt (lt_size z2))];exact get?_push_of_some _ z2
end
def Sft (X:Cx):Prop:=∃ e oe vs,X.A.handled=some (.ref e)/\(e,oe) ∈ X.pn/\oe.data=.fields vs/\vs[2]?=some .none
def Rdy (X:Cx):Prop:=X.calm=true\/Sft X
theorem Rdy.comp {N':List Str} {scope:Scope} {cl:List (Str × Addr)} {fp:List Addr} (h:Rdy X):Rdy (Au X N' scope cl s H C fp (X.pn++aa)):=by
 rcases h with h | ⟨e,oe,vs,a,b,c,d⟩
 ·exact .inl h
 ·exact .inr ⟨e,oe,vs,a,mem_append_left _ b,c,d⟩
section
theorem OE {it l:Addr} {i:Nat} {xs:Array Value} {Q:Option Value->Shared->Prop} (hc:Rdy X) (I:Inv X aa σ H s) (hf:Ei X aa H it) (hI:s.heap.IsListIter it l i) (hL:s.heap.IsList l xs) (hx:xs[i]?=none)
  (fin:∀ h',Heap.ExtBut it s.heap h'->Q none { s with heap:=h' }):wpAny (model X.prog X.w) X.A (pyNext (.ref it)) Q E s:=by
 rcases hc with hc | ⟨e,oe,vs,a,b,c,d⟩
 ·exact wpAny_pyNext_list_end (I.ok.hd hc) hI hL hx fin
 ·exact DJ a (I.pin (e,oe) (mem_append_left _ b)).1 c d (hf.2.2.2.2.2 (e,oe) (mem_append_left _ b)) hI hL hx fin
end
theorem Ki {tg:Expr} (a it:Addr):RJ Rdy P w K tg (Itl K a) [it] it (fun i h=>h.IsListIter it a i):=by
 have T:=HQ (P:=P) (w:=w) (K:=K) (tg:=tg) a it;refine ⟨T.obj,T.keep,?_,?_,T.self⟩
 ·intro X hP hw hK hc i aa s σ H E I hf st hg;subst hP hw hK;obtain ⟨xs,x,hq,hx⟩:=hg;obtain ⟨its,rv,p,hz⟩:=I.list hq;obtain ⟨u,hu,ru⟩:=rv.get hx;obtain ⟨f0,f1,f2,f3,f4,f5⟩:=hf it (by simp);refine wpAny_pyNext_list_item st p.isList (x:=u) (by simpa using hu) fun h' st' sb=>?_;obtain ⟨o,e,c,d⟩:=id st';exact ⟨u,rfl,La (s:={ s with heap:=h' }) e c d (by decide) ⟨x,H,I.turned (t':=s.toks) (fun b o hb e=>(sb.2 b hb).trans e) f0 f1 f3 f4 f5,ru,⟨rfl,fun ys hy=>by rw [I.list_inj hy hq]; exact hx⟩,st',fun b hb=>(hf b hb).1⟩⟩
 ·intro X hP hw hK hc i aa s σ H E I hf st hg;subst hP hw hK;obtain ⟨xs,hq,hx⟩:=hg;obtain ⟨its,rv,p,hz⟩:=I.list hq;have f:=hf it (by simp);have hl:=rv.length;exact OE hc I f st p.isList (by simp; omega) fun h' eb=>⟨rfl,I.turned (t':=s.toks) (fun b o hb e=>eb b o hb e) f.1 f.2.1 f.2.2.2.1 f.2.2.2.2.1 f.2.2.2.2.2⟩
section
variable {iter elt:Expr} {ifs:List Expr} {scope:Scope} {px:Pos} {wi:TI} {tt:TT}
theorem OF {tg l:Expr} {tl:TE} (hl:PE X l tl):PIg Rdy X tg l (Nq X.K tl):=by
 intro aa s σ H R I h;refine thn (hl aa s σ H _ I h) fun v s1 ⟨x,H1,I1,r1,a,e,⟨xs,hq⟩,q⟩=>?_;subst e;cases r1;obtain ⟨its,rv,p,hz⟩:=I1.list hq;refine wpAny_pyIter_list p.isList ⟨s1.heap.objs.size,[s1.heap.objs.size],_,_,H1,rfl,I1.kept (t':=s1.toks) fun b o e=>get?_push_of_some _ e,Ki a _,⟨_,get?_push_size _ rfl,rfl,rfl⟩,fun b hb=>?_,q⟩;obtain rfl:b=s1.heap.objs.size:=by simpa using hb
 exact I1.fpOk (Nat.le_refl _) (I1.hok.fresh (Nat.le_refl _))
theorem Mu (Nc:List Str) (ixc:List (Option Nat)) (hf:Hk X.env.scope scope X.N (x :: Nc) (none :: ixc)=true) (hnd:(x :: Nc).Nodup) (hx:scope.names.lookup x=some .local) (hc:Rdy X) (hi:PIg Rdy X (.Name x px) iter wi)
  (ht:∀ cl s H C fp pn,PTs (Au X (x :: Nc) scope cl s H C fp pn) ifs tt) (he:∀ cl s H C fp pn,PE (Au X (x :: Nc) scope cl s H C fp pn) elt te) (hs:∀ x,foldedSetIterable iter X.env x=pure x:=by intro _; rfl) :
  PE X (.ListComp elt [⟨.Name x px,iter,ifs,0⟩] scope pos) (fun σ H Q=>DY wi (CW 0) tt te (none :: ixc) (fun ys H'=>∀ p,H' p=none->Q (.ref p) (upd H' p (.lst ys))) σ H) :=
 Hn (CompFits.of hf) (fun _ _ _ _ _ _=>hc.comp) hi (fun cl s H C fp pn=>Gc (Ae (i:=0) hnd rfl (.inl (lookup_relabel_local hx)) (.inr (lookup_relabel_local hx)))) ht he hs
end
theorem Kj {p:Addr} {its:List Value} (hc:Rdy X) (I:Inv X aa σ H s) (pl:s.heap.IsList p its.toArray):∃ fp St,Walks X.prog X.w X.A.in1 s.heap.objs.size fp [s.heap.objs.size] its.toArray.size (fun i v=>its.toArray[i]?=some v) St /\
  St 0 (s.heap.push { cls:=.type "list_iterator", data:=.fields #[.ref p,.int 0 0] })/\∀ b ∈ fp,b < s.heap.objs.size + 1:=by
 have hp:p < s.heap.objs.size:=by obtain ⟨o,e,_⟩:=id pl; exact lt_size e
 have st0:(s.heap.push { cls:=.type "list_iterator", data:=.fields #[.ref p,.int 0 0] }).IsListIter s.heap.objs.size p 0/\(s.heap.push { cls:=.type "list_iterator", data:=.fields #[.ref p,.int 0 0] }).IsList p its.toArray :=
  ⟨⟨_,get?_push_size _ rfl,rfl,rfl⟩,pl.at fun o e=>get?_push_of_some _ e⟩
 rcases hc with hc | ⟨e,oe,vs,a,b,c,d⟩
 ·refine ⟨_,_,Walks.list (A:=X.A.in1) (show X.A.in1.handled=none from I.ok.hd hc) _ p (Nat.ne_of_lt hp) its.toArray,st0,fun b hb=>?_⟩;have z:b=s.heap.objs.size\/b=p:=by simpa using hb
  rcases z with rfl | rfl
  ·exact Nat.lt_succ_self _
  ·exact Nat.lt_succ_of_lt hp
 ·have he:=(I.pin (e,oe) (mem_append_left _ b)).1;have hlt:=lt_size he;refine ⟨[s.heap.objs.size,p,e],fun i h=>(h.IsListIter s.heap.objs.size p i/\h.IsList p its.toArray)/\h.get? e=some oe,⟨fun b hb=>by simp at hb; simp [hb],fun i h h' st k=>⟨⟨st.1.1.at fun o z=>k _ (by simp) o z,st.1.2.at fun o z=>k _ (by simp) o z⟩,k e (by simp) oe st.2⟩,?_,?_,fun _ _ _ _ st hQ=>wpAny_pyIter_listiter st.1.1 hQ⟩,⟨st0,get?_push_of_some _ he⟩,fun b hb=>?_⟩
  ·intro i s1 Q E hi st hQ;refine wpAny_pyNext_list_item st.1.1 st.1.2 (x:=its.toArray[i]) (by simp [hi]) fun h' t1 t2=>?_;exact hQ _ h' s1.toks (by simp [hi]) ⟨⟨t1,st.1.2.extBut t2.extBut (Nat.ne_of_lt hp)⟩,t2.extBut e oe (Nat.ne_of_lt hlt) st.2⟩ fun b o hb z=>t2.extBut b o (fun y=>hb (by simp [y])) z
  ·intro s1 Q E st hQ;exact DJ (show X.A.in1.handled=_ from a) st.2 c d (Nat.ne_of_lt hlt) st.1.1 st.1.2 (by simp) fun h' z=>hQ h' s1.toks fun b o hb y=>z b o (fun y'=>hb (by simp [y'])) y
  ·have z:b=s.heap.objs.size\/b=p\/b=e:=by simpa using hb
   rcases z with rfl | rfl | rfl
   ·exact Nat.lt_succ_self _
   ·exact Nat.lt_succ_of_lt hp
   ·exact Nat.lt_succ_of_lt hlt
noncomputable def Lo (a p:Addr):HO:=.ext fun h=>h.IsItemsView p a
noncomputable def OG (a p:Addr):HO:=.ext fun h=>h.IsValuesView p a
section
variable {o:Expr} {to:TE} {name:Str} {apos cpos:Pos} {id:String} {r:V->List V->Hp->VK->Prop}
theorem OH (slot:Slot "dict" name id) (hty:typeOf (.builtin id)=pure (.type "method_descriptor")) (hm:MtR X id r) (ho:PE X o to)
  (bp:attributeBase o name X.env (eval o X.env)=eval o X.env:=by rfl) (bv:(apos.endLine == cpos.line)=true:=by rfl) :
  PE X (.Call (.Attribute o name apos) [] [] cpos) (fun σ H Q=>to σ H fun x H1=>∃ a,x=.ref a/\IsD H1 a/\r x [] H1 Q):=by
 intro aa s σ H Q I h;refine wpAny_Call_method0_late bp bv (thn (ho aa s σ H _ I h) fun v s1 ⟨x,H1,I1,r1,a,ex,d,q1⟩=>?_);subst ex;cases r1;obtain ⟨t1,t2,_⟩:=N5 I1 d;exact ⟨"dict", id,PySem.F.plainAttrs_dict,slot,hty,t1,t2,Calls.callWith_builtin rfl (PySem.evalArgs_none (hm aa s1 σ H1 (.ref a) [] (.ref a) [] Q I1 rfl .nil q1))⟩
theorem OI:MtR X "dict.items" (fun x xs H Q=>∃ a kvs,x=.ref a/\xs=[]/\Rd H a (.dK kvs)/\∀ p,H p=none->Q (.ref p) (upd H p (Lo a p))):=by
 intro aa s σ H x xs v us Q I rx rs h;obtain ⟨a,kvs,rfl,rfl,hd,q⟩:=h;cases rx;cases rs;obtain ⟨z,y,vs,rel,dd⟩:=DI I.hok hd;refine call_meetsIn PySem.F.slot_dict_items dd.typeIs PySem.F.entry_dict_items (PySem.F.args_dict_items_1 _) (meets_dict_items (Ai X.prog X.w) a y) ⟨⟨vs,dd⟩,?_⟩;refine ⟨.ref s.heap.objs.size,_,I.laid (t':=s.toks) (o:=Lo a s.heap.objs.size) (fun b o e=>get?_push_of_some _ e) (Nat.le_refl _) ⟨⟨_,get?_push_size _ rfl,rfl,rfl⟩,⟨_,get?_push_size _ rfl⟩,fun h1 h2 z k=>?_⟩,rfl,q _ (I.hok.fresh (Nat.le_refl _))⟩;obtain ⟨ob,e,r⟩:=z;exact ⟨ob,k ob e,r⟩
theorem Mv:MtR X "dict.values" (fun x xs H Q=>∃ a kvs,x=.ref a/\xs=[]/\Rd H a (.dK kvs)/\∀ p,H p=none->Q (.ref p) (upd H p (OG a p))):=by
 intro aa s σ H x xs v us Q I rx rs h;obtain ⟨a,kvs,rfl,rfl,hd,q⟩:=h;cases rx;cases rs;obtain ⟨z,y,vs,rel,dd⟩:=DI I.hok hd;refine call_meetsIn PySem.F.slot_dict_values dd.typeIs PySem.F.entry_dict_values (PySem.F.args_dict_values_1 _) (meets_dict_values (Ai X.prog X.w) a y) ⟨⟨vs,dd⟩,?_⟩;refine ⟨.ref s.heap.objs.size,_,I.laid (t':=s.toks) (o:=OG a s.heap.objs.size) (fun b o e=>get?_push_of_some _ e) (Nat.le_refl _) ⟨⟨_,get?_push_size _ rfl,rfl,rfl⟩,⟨_,get?_push_size _ rfl⟩,fun h1 h2 z k=>?_⟩,rfl,q _ (I.hok.fresh (Nat.le_refl _))⟩;obtain ⟨ob,e,r⟩:=z;exact ⟨ob,k ob e,r⟩
theorem CI {α β:Type} {F:α->β->Prop}:∀ {xs:List α} {ys:List β},xs.length=ys.length->(∀ (j:Nat) x y,xs[j]?=some x->ys[j]?=some y->F x y)->Paired F xs ys
 | [],[],_,_=>.nil
 | [],_ :: _,h,_=>by simp at h
 | _ :: _,[],h,_=>by simp at h
 | x :: xs,y :: ys,h,k=>.cons (k 0 x y rfl rfl) (CI (by simpa using h) fun j a b ea eb=>k (j + 1) a b (by simpa using ea) (by simpa using eb))
theorem Kk (hc:X.calm=true):CallR X (.type "list") (fun xs H Q=>∃ a kvs,xs=[.ref a]/\Rd H a (.dK kvs)/\∀ l,H l=none->Q (.ref l) (upd H l (.lst (kvs.map fun kv=>kV kv.1)))):=by
 intro aa s σ H xs us Q I r h;obtain ⟨a,kvs,rfl,hd,q⟩:=h;obtain ⟨u,rfl,ru⟩:=Bs r;cases ru;obtain ⟨z,y,vs,rel,dd⟩:=DI I.hok hd;obtain ⟨ep,da⟩:=dd.dictAt;have hl:=rel.length;refine W.kdl_call (W.kdl_dict (knd:=Ai X.prog X.w) (kvs:=vs) (ep:=ep) y) (I.ok.hd hc) da (by rw [← hl]; exact z) fun h' tk acc c' keep e hit=>?_;refine ⟨.ref s.heap.objs.size,_,I.laid (t':=tk) keep (Nat.le_refl _) (show ObjOk X.prog X.w _ h' _ (.lst (kvs.map fun kv=>kV kv.1)) from ⟨by rw [AK]; exact z,acc.toList,c',?_,by rw [Array.toArray_toList]; exact e⟩),rfl,q _ (I.hok.fresh (Nat.le_refl _))⟩
 refine CI (by have e0:acc.toList.length=acc.size:=by simp
               rw [AK,e0,hit.1,hl]) fun j v w' ev ew=>?_
 rw [Array.getElem?_toList] at ew;obtain ⟨k,x,ex,hk⟩:=hit.2 j w' ew;rw [getElem?_map] at ev;cases e2:kvs[j]? with
 | none=>rw [e2] at ev; cases ev
 | some kv =>
  rw [e2] at ev;simp only [Option.map_some,Option.some.injEq] at ev;obtain ⟨v2,hv2,_⟩:=KV.get rel e2;rw [ex] at hv2;simp only [Option.some.injEq,Prod.mk.injEq] at hv2;rw [← ev,← hv2.1];exact F2 hk
theorem Kl (hc:X.calm=true):CallR X (.type "list") (fun xs H Q=>∃ p a kvs,xs=[.ref p]/\H p=some (OG a p)/\Rd H a (.dK kvs)/\∀ l,H l=none->Q (.ref l) (upd H l (.lst (kvs.map (·.2))))):=by
 intro aa s σ H xs us Q I r h;obtain ⟨p,a,kvs,rfl,hp,hd,q⟩:=h;obtain ⟨u,rfl,ru⟩:=Bs r;cases ru;obtain ⟨z,y,vs,rel,dd⟩:=DI I.hok hd;obtain ⟨ep,da⟩:=dd.dictAt;obtain ⟨hv,_⟩:=I.hok p _ hp;have hl:=rel.length;refine W.kdl_call (W.kdl_values (knd:=Ai X.prog X.w) (d:=a) (kvs:=vs) (ep:=ep)) (I.ok.hd hc) ⟨hv,da⟩ (by rw [← hl]; exact z) fun h' tk acc c' keep e hit=>?_;refine ⟨.ref s.heap.objs.size,_,I.laid (t':=tk) keep (Nat.le_refl _) (show ObjOk X.prog X.w _ h' _ (.lst (kvs.map (·.2))) from ⟨by rw [AK]; exact z,acc.toList,c',?_,by rw [Array.toArray_toList]; exact e⟩),rfl,q _ (I.hok.fresh (Nat.le_refl _))⟩
 refine CI (by have e0:acc.toList.length=acc.size:=by simp
               rw [AK,e0,hit.1,hl]) fun j v w' ev ew=>?_
 rw [Array.getElem?_toList] at ew;obtain ⟨k,ex⟩:=hit.2 j w' ew;rw [getElem?_map] at ev;cases e2:kvs[j]? with
 | none=>rw [e2] at ev; cases ev
 | some kv =>
  rw [e2] at ev;simp only [Option.map_some,Option.some.injEq] at ev;obtain ⟨v2,hv2,rv2⟩:=KV.get rel e2;rw [ex] at hv2;simp only [Option.some.injEq,Prod.mk.injEq] at hv2;rw [← ev,hv2.2];exact rv2
theorem Et (hc:X.calm=true):CallR X (.builtin "sorted") (fun xs H Q=>∃ a kvs,xs=[.ref a]/\Rd H a (.dK kvs)/\kvs.length < 64/\(∀ kv ∈ kvs,∃ i,kv.1=Sum.inl i) /\
  ∀ (l:Addr) (ns:List Int),H l=none->ns.Perm (kvs.map fun kv=>match kv.1 with | Sum.inl i=>i | Sum.inr _=>0)->ns.Pairwise (· <= ·)->Q (.ref l) (upd H l (.lst (ns.map V.int)))):=by
 intro aa s σ H xs us Q I r h;obtain ⟨a,kvs,rfl,hd,h64,hk,q⟩:=h;obtain ⟨u,rfl,ru⟩:=Bs r;cases ru;obtain ⟨z,y,vs,rel,dd⟩:=DI I.hok hd;obtain ⟨ep,da⟩:=dd.dictAt;have hl:=rel.length;refine Calls.call_function_entry kind_sorted plain_sorted entry_sorted (args_sorted1 _) ?_;unfold Builtin.«sorted»;refine wpAny_bind (m:=checkCount "sorted" 1 1 _) (wpAny_pure ?_);refine wpAny_bind (W.kdu_collect (A:=X.A.in1) (W.kdl_dict (knd:=Ai X.prog X.w) (kvs:=vs) (ep:=ep) y) (I.ok.hd hc) da (by rw [← hl]; exact z) fun h' tk acc keep hit=>?_)
 have au:acc.toList.length=kvs.length:=by
  have e0:acc.toList.length=acc.size:=by simp
  rw [e0,hit.1,hl]
 refine wpAny_bind (wpAny_newList ?_ (by rw [au]; exact z))
 have bt:IntsAre acc.toList (kvs.map fun kv=>match kv.1 with | Sum.inl i=>i | Sum.inr _=>0):=by
  refine C0 (CI (by rw [AK,AK,au]) fun j v w' ev ew=>?_);rw [Array.getElem?_toList] at ew;obtain ⟨k,x,ex,hkk⟩:=hit.2 j w' ew;rw [getElem?_map,getElem?_map] at ev;cases e2:kvs[j]? with
  | none=>rw [e2] at ev; cases ev
  | some kv =>
   rw [e2] at ev;simp only [Option.map_some,Option.some.injEq] at ev;obtain ⟨v2,hv2,_⟩:=KV.get rel e2;rw [ex] at hv2;simp only [Option.some.injEq,Prod.mk.injEq] at hv2;obtain ⟨i,hi⟩:=hk kv (mem_of_getElem? e2);rw [hv2.1,hi] at hkk;rw [← ev,hi];exact F2 hkk
 have I1:Inv X aa σ H { s with heap:=h',toks:=tk }:=I.kept keep;have hoL:(h'.push { cls:=.type "list", data:=.seq acc.toList.toArray }).get? h'.objs.size=some (seqObj "list" acc.toList.toArray 0):=get?_push_size _ rfl;refine wpAny_bind (wpAny_holding (wpAny_call_entry slot_list_sort ⟨_,hoL,rfl⟩ entry_list_sort (list_sort_tree hoL bt (by rw [au]; exact h64) fun out ns' a1 a2 a3=>⟨_,rfl,?_⟩) (args_list_sort _)));refine wpAny_pure ⟨_,rfl,?_⟩;have hn:H h'.objs.size=none:=I1.hok.fresh (Nat.le_refl _);have ba:ns'.length=kvs.length:=by rw [a2.length_eq,AK]
 refine ⟨.ref h'.objs.size,_,I1.laid (t':=tk) (o:=.lst (ns'.map V.int)) (h':=sortedHeap (h'.push { cls:=.type "list", data:=.seq acc.toList.toArray }) h'.objs.size acc.toList out) (fun b o e=>?_) (Nat.le_refl _) ⟨by rw [AK,ba]; exact z,out.toList,?_⟩,rfl,q _ ns' hn a2 a3⟩
 ·rw [sortedHeap_old (Nat.ne_of_lt (lt_size e)) (lt_size (get?_push_of_some _ e))];exact get?_push_of_some _ e
 ·obtain ⟨c,hcx⟩:=sortedHeap_at (out:=out) hoL;exact ⟨c,Dr a1,by rw [Array.toArray_toList]; exact hcx⟩
end
section
theorem Gg (hc:X.calm=true):CallR X (.builtin "all") (fun xs H Q=>∃ (p:Addr) (bs:List Bool),xs=[.ref p]/\SqL X.K H p (bs.map V.bl)/\Q (.bl (bs.all id)) H):=by
 intro aa s σ H xs us Q I r h;obtain ⟨p,bs,rfl,hq,q⟩:=h;obtain ⟨u,rfl,ru⟩:=Bs r;cases ru;obtain ⟨its,rv,pl,hz⟩:=I.list hq;have hp:p < s.heap.objs.size:=by obtain ⟨o,n,e,_⟩:=id pl; exact lt_size e
 have ba:bs.length=its.length:=by have:=rv.length; rw [AK] at this; exact this
 refine call_all_walk (wpAny_pyIter_list pl.isList ?_);refine ⟨_,_,_,_,_,_,fun i=>bs.getD i false,rfl,Walks.list (A:=X.A.in1) (show X.A.in1.handled=none from I.ok.hd hc) _ p (Nat.ne_of_lt hp) its.toArray,⟨⟨_,get?_push_size _ rfl,rfl,rfl⟩,pl.isList.at fun o e=>get?_push_of_some _ e⟩,fun i v s' Q' E' hP hQ=>?_,fun h' tk keep=>?_⟩
 ·have hv:its[i]?=some v:=by simpa using hP
  have hi:i < its.length:=(List.getElem?_eq_some_iff.mp hv).1;have hb:bs[i]?=some (bs[i]'(by omega)):=List.getElem?_eq_getElem (by omega);obtain ⟨u',hu',ru'⟩:=rv.get (i:=i) (x:=V.bl (bs[i]'(by omega))) (by rw [getElem?_map,hb]; rfl);rw [hv] at hu';cases hu';cases (show v=Value.bool _ from ru');refine wpAny_truthy_bool ?_;have hQ':Q' (bs.getD i false) s':=hQ;rw [getD_eq_getElem?_getD,hb] at hQ';exact hQ'
 ·have I1:Inv X aa σ H { s with heap:=h',toks:=tk }:=I.kept fun b o e=>keep b o (by simp; exact Nat.ne_of_lt (lt_size e)) (get?_push_of_some _ e);refine ⟨.bl _,H,I1,rfl,?_⟩
  have e:(List.range its.toArray.size).all (fun i=>bs.getD i false)=bs.all id:=by
   rw [size_toArray,← ba,Bool.eq_iff_iff,List.all_eq_true,List.all_eq_true];constructor
   ·intro h b hb;obtain ⟨i,hi,rfl⟩:=List.mem_iff_getElem.mp hb;have:=h i (mem_range.mpr hi);rw [getD_eq_getElem?_getD,List.getElem?_eq_getElem hi] at this;exact this
   ·intro h i hi;have hi':=mem_range.mp hi;rw [getD_eq_getElem?_getD,List.getElem?_eq_getElem hi'];exact h _ (List.getElem_mem hi')
  rw [e];exact q
theorem DZ (ns:List Int):∀ k,k <= ns.length->preSum (fun i=>ns.getD i 0) k=(ns.take k).sum
 | 0,_=>by simp [preSum]
 | k + 1,h=>by
  have ih:=DZ ns k (by omega);have hk:k < ns.length:=by omega
  simp only [preSum,ih];rw [take_add_one,List.getElem?_eq_getElem hk,sum_append];simp [getD_eq_getElem?_getD,List.getElem?_eq_getElem hk]
theorem Ho (hc:Rdy X):CallR X (.builtin "sum") (fun xs H Q=>∃ (p:Addr) (ns:List Int),xs=[.ref p]/\SqL X.K H p (ns.map V.int)/\(∀ n ∈ ns,0 <= n)/\ns.sum < 2 ^ 62/\Q (.int ns.sum) H):=by
 intro aa s σ H xs us Q I r h;obtain ⟨p,ns,rfl,hq,hnn,hsum,q⟩:=h;obtain ⟨u,rfl,ru⟩:=Bs r;cases ru;obtain ⟨its,rv,pl,hz⟩:=I.list hq;have hp:p < s.heap.objs.size:=by obtain ⟨o,n,e,_⟩:=id pl; exact lt_size e
 have ba:ns.length=its.length:=by have:=rv.length; rw [AK] at this; exact this
 have tk0:∀ k,0 <= (ns.take k).sum:=fun k=>by
  have:∀ l:List Int,(∀ n ∈ l,0 <= n)->0 <= l.sum:=fun l=>by
   induction l with
   | nil=>intro _; simp
   | cons a r ih=>intro h; rw [sum_cons]; have:=h a mem_cons_self; have:=ih fun n hn=>h n (mem_cons_of_mem _ hn); omega
  exact this _ fun n hn=>hnn n (mem_of_mem_take hn)
 have tkle:∀ k,(ns.take k).sum <= ns.sum:=fun k=>by
  have e:ns.sum=(ns.take k).sum + (ns.drop k).sum:=by rw [← sum_append,List.take_append_drop]
  have:∀ l:List Int,(∀ n ∈ l,0 <= n)->0 <= l.sum:=fun l=>by
   induction l with
   | nil=>intro _; simp
   | cons a r ih=>intro h; rw [sum_cons]; have:=h a mem_cons_self; have:=ih fun n hn=>h n (mem_cons_of_mem _ hn); omega
  have:=this _ fun n hn=>hnn n (List.mem_of_mem_drop (i:=k) hn);omega
 refine call_sum_walk (wpAny_pyIter_list pl.isList ?_);obtain ⟨fp,St,W,st0,hfp⟩:=Kj hc I pl.isList;refine ⟨_,_,_,_,_,_,fun i=>ns.getD i 0,rfl,W,st0,fun b hb=>?_,fun i v hP=>?_,fun j hj=>?_,fun h' tk t' keep=>?_⟩
 ·have hs:(s.heap.push { cls:=.type "list_iterator", data:=.fields #[.ref p,.int 0 0] }).objs.size=s.heap.objs.size + 1:=size_push ..;show b < (s.heap.push { cls:=.type "list_iterator", data:=.fields #[.ref p,.int 0 0] }).objs.size;rw [hs];exact hfp b hb
 ·have hv:its[i]?=some v:=by simpa using hP
  have hi:i < its.length:=(List.getElem?_eq_some_iff.mp hv).1;have hb:ns[i]?=some (ns[i]'(by omega)):=List.getElem?_eq_getElem (by omega);obtain ⟨u',hu',t,ru'⟩:=rv.get (i:=i) (x:=V.int (ns[i]'(by omega))) (by rw [getElem?_map,hb]; rfl);rw [hv] at hu';cases hu';refine ⟨t,?_⟩;show v=Value.int (ns.getD i 0) t;rw [ru',getD_eq_getElem?_getD,hb];rfl
 ·have hj':j < ns.length:=by rw [size_toArray] at hj; omega
  rw [DZ ns (j + 1) (by omega)];have h1:=tk0 (j + 1);have h2:=tkle (j + 1);have h3:ns.getD j 0=ns[j]:=by rw [getD_eq_getElem?_getD,List.getElem?_eq_getElem hj']; rfl
  have h4:=hnn _ (List.getElem_mem hj');have h5:(ns.take (j + 1)).sum=(ns.take j).sum + ns[j]:=by rw [take_add_one,List.getElem?_eq_getElem hj',sum_append]; simp
  have h6:=tk0 j;show InLong (ns.getD j 0)/\InLong _;unfold InLong;rw [h3];omega
 ·have I1:Inv X aa σ H { s with heap:=h',toks:=tk }:=I.kept fun b o e=>keep b o (by simp; exact Nat.ne_of_lt (lt_size e)) (get?_push_of_some _ e);refine ⟨.int ns.sum,H,I1,⟨t',?_⟩,q⟩;rw [size_toArray,← ba,DZ ns ns.length (Nat.le_refl _),take_length]
theorem OJ (hc:X.calm=true):CallR X (.builtin "sum") (fun xs H Q=>∃ (p:Addr) (ns:List Int),xs=[.ref p]/\SqL X.K H p (ns.map V.int)/\(∀ n ∈ ns,0 <= n)/\ns.sum < 2 ^ 62/\Q (.int ns.sum) H):=Ho (.inl hc)
theorem Ie:MtR X "int.bit_length" (fun x xs H Q=>∃ i,x=.int i/\xs=[]/\Q (.int (Builtin.Int.intBits i)) H):=by
 intro aa s σ H x xs v us Q I rx rs h;obtain ⟨i,rfl,rfl,q⟩:=h;obtain ⟨t,rfl⟩:=rx;cases rs;exact call_int_bit_length ⟨.int _,H,I.tok _,⟨_,rfl⟩,q⟩
theorem CJ:OpR X (compareOp .LtE) (fun x y H Q=>∃ i j,x=.str i/\y=.str j/\Q (.bl (!decide (j.cps.toList < i.cps.toList))) H):=by
 intro aa s σ H x y v u Q I rx ry h;obtain ⟨i,j,rfl,rfl,q⟩:=h;obtain ⟨t,rfl⟩:=rx;obtain ⟨t',rfl⟩:=ry;exact PySem.P.le_str (An I q rfl)
theorem HG:MtR X "dict.setdefault" (fun x xs H Q=>∃ a kvs k v,x=.ref a/\xs=[kV k,v]/\H a=some (.dK kvs)/\kvs.length < sizeLine /\
  (∀ w,BN kvs k=some w->Q w H)/\(BN kvs k=none->Q v (upd H a (.dK (Ck kvs k v))))):=by
 intro aa s σ H x xs u us Q I rx rs h;obtain ⟨a,kvs,k,v,rfl,rfl,hd,hl,q1,q2⟩:=h;cases rx;obtain ⟨uk,uv,rfl,rk,rv⟩:=HU rs;obtain ⟨z,y,vs,rel,dd⟩:=N3 I.hok hd;refine call_meetsIn PySem.F.slot_dict_setdefault dd.typeIs PySem.F.entry_dict_setdefault (PySem.F.args_dict_setdefault_3 _ _ _) (PySem.kt_meets_setdefault (Ai X.prog X.w) a (GY rk) y uv) ⟨vs,dd,by rw [← rel.length]; exact z,fun w' hw=>?_,fun hn h' dd' hs=>?_⟩
 ·have rr:=rel.val k;rw [hw] at rr;cases e:BN kvs k with
  | none=>rw [e] at rr; exact False.elim rr
  | some w=>rw [e] at rr; exact ⟨w,H,I.tok _,rr,q1 w e⟩
 ·have rr:=rel.val k;rw [hn] at rr
  have e:BN kvs k=none:=by
   cases e:BN kvs k with
   | none=>rfl
   | some w=>rw [e] at rr; exact False.elim rr
  have he:∃ q,h'.get? a=some q:=let ⟨q,_,_,hq,_⟩:=dd'; ⟨q,hq⟩
  have hl':(Ck kvs k v).length <= sizeLine:=by have:=Ca kvs k v; omega
  exact ⟨v,_,F1 I (by rw [hd]; exact True.intro) hs he (Kc hl' y (rel.put k rv) dd'),rv,q2 e⟩
theorem OK:CallR X (.builtin "isinstance") (fun xs H Q=>∃ v T t b,xs=[v,.ty T]/\TyOf X.K H v t/\W.kitOne X.K t (.type T)=some b/\Q (.bl b) H):=by
 intro aa s σ H xs us Q I r h;obtain ⟨v,T,t,b,rfl,ty,hk,q⟩:=h;obtain ⟨u,uT,rfl,ru,ruT⟩:=HU r;cases (show uT=Value.type T from ruT);exact HY I ru ty hk fun tk=>⟨.bl b,H,I.tok tk,rfl,q⟩
end
noncomputable def JU (d:Int):List Int->Int
 | []=>d
 | n :: r=>r.foldl max n
theorem Hq (d:Int) (ns:List Int) (n:Int) (h:ns ≠ []):JU d (ns++[n])=max (JU d ns) n:=by
 cases ns with
 | nil=>exact absurd rfl h
 | cons a r=>show (r++[n]).foldl max a=_; rw [foldl_append]; rfl
theorem Mw (a v:Value):argsOk "max" ⟨[a],[(Str.ofString "default", v)]⟩:=by unfold argsOk; kernel_rfl
section
variable {prog:Program} {R:Result->Shared->Prop} {p I S:Addr} {its:List Value} {ns:List Int} {d:Value}
noncomputable def OL:Option (Int × Tok)->Array Value
 | none=>#[]
 | some (m,t)=>#[.int m t,.int m t]
theorem Mx (hh:A.handled=none) (bt:IntsAre its ns) (hpI:p ≠ I) (hSI:S ≠ I) (hpS:p ≠ S)
  (hR:∀ h' tk v,(∀ b o,b ≠ I->b ≠ S->s.heap.get? b=some o->h'.get? b=some o)->(ns=[]->v=d)->(ns ≠ []->∃ t,v=.int (JU 0 ns) t)->R (.ok (.ret v)) { s with heap:=h',toks:=tk }) :
  ∀ (k i:Nat) (h:Heap) (tk c:Nat) (b:Option (Int × Tok)),its.length - i=k->i <= its.length->h.IsListIter I p i->h.IsList p its.toArray->h.get? S=some { cls:=.type "list", data:=.seq (OL b) c } ->
   (b=none->i=0)->(∀ m t,b=some (m,t)->0 < i/\m=JU 0 (ns.take i))->(∀ b' o,b' ≠ I->b' ≠ S->s.heap.get? b'=some o->h.get? b'=some o) ->
   codeAny (model prog w) A (.builtin "max.loop" ⟨[.ref I,.none,.ref S],[(Str.ofString "default", d)]⟩) R { s with heap:=h,toks:=tk }:=by
 have b8:(toString "max" ++ toString ".loop" : String) = "max.loop" := by decide
 have ba:=bt.length;intro k;induction k with
 | zero =>
  intro i h tk c b hk hi hit hl hS hb0 hb1 keep;have e:i=its.length:=by omega
  refine codeAny_builtin PySem.F.entry_max_loop ?_;rw [Around.under_plainId PySem.F.plain_max_loop _];show wpAny _ A.in1 (seqItems? (.ref S) >>= _) _ _ _;refine wpAny_bind (wpAny_seqItems hS rfl ?_);show wpAny _ A.in1 (tryCatch (pyNext (.ref I)) _ >>= _) _ _ _;refine wpAny_bind (wpAny_tryCatch (wpAny_pyNext_list_end (show A.in1.handled=none from hh) hit hl (by simp; omega) fun h' eb=>?_));cases b with
  | none =>
   have hn:ns=[]:=by
    have:=hb0 rfl;exact List.eq_nil_of_length_eq_zero (by omega)
   exact wpAny_bind (wpAny_rule (wpAny_pure (hR h' tk d (fun b o h1 h2 q=>eb b o h1 (keep b o h1 h2 q)) (fun _=>rfl) fun z=>absurd hn z)))
  | some mt =>
   obtain ⟨m,t⟩:=mt;obtain ⟨hpos,hm⟩:=hb1 m t rfl
   have ax:ns ≠ []:=fun z=>by
    have:its.length=0:=by rw [ba,z]; rfl
    omega
   show wpAny _ A.in1 (updateSeq S (fun _=>#[]) >>= _) _ _ _;refine wpAny_bind (wpAny_updateSeq (eb S _ hSI hS) rfl (wpAny_bind (wpAny_letGo (wpAny_pure ?_))) sl2);refine hR _ tk _ (fun b o h1 h2 q=>(get?_update_other _ _ (Ne.symm h2)).trans (eb b o h1 (keep b o h1 h2 q))) (fun z=>absurd z ax) fun _=>⟨t,?_⟩;rw [hm,e,ba,take_length]
 | succ k ih =>
  intro i h tk c b hk hi hit hl hS hb0 hb1 keep;have hlt:i < its.length:=by omega
  have hv:its[i]?=some its[i]:=List.getElem?_eq_getElem hlt
  obtain ⟨n,t,hn,hvt⟩:∃ n t,ns[i]?=some n/\its[i]=.int n t:=by
   have hi2:i < ns.length:=by omega
   obtain ⟨u,hu,t,ru⟩:=(Dr bt).get (i:=i) (x:=V.int ns[i]) (by rw [getElem?_map,List.getElem?_eq_getElem hi2]; rfl);rw [hv] at hu;exact ⟨ns[i],t,List.getElem?_eq_getElem hi2,(Option.some.inj hu).trans ru⟩
  refine codeAny_builtin PySem.F.entry_max_loop ?_;rw [Around.under_plainId PySem.F.plain_max_loop _];show wpAny _ A.in1 (seqItems? (.ref S) >>= _) _ _ _;refine wpAny_bind (wpAny_seqItems hS rfl ?_);show wpAny _ A.in1 (tryCatch (pyNext (.ref I)) _ >>= _) _ _ _;refine wpAny_bind (wpAny_tryCatch (wpAny_pyNext_list_item hit hl (x:=.int n t) (by simpa [hvt] using hv) fun h' hit' sb=>?_));have hS':h'.get? S=some { cls:=.type "list", data:=.seq (OL b) c }:=(sb.2 S hSI).trans hS;have hl':h'.IsList p its.toArray:=hl.at fun o q=>(sb.2 p hpI).trans q;have keep':∀ b' o,b' ≠ I->b' ≠ S->s.heap.get? b'=some o->h'.get? b'=some o:=fun b' o h1 h2 q=>(sb.2 b' h1).trans (keep b' o h1 h2 q);have etk:ns.take (i + 1)=ns.take i++[n]:=by rw [take_add_one,hn]; rfl
  have store:∀ c0,(∀ v,v=Value.int n t->(h'.update S (Obj.mapSeq fun _=>#[v,v])).get? S=some { cls:=.type "list", data:=.seq (OL (some (n,t))) c0 })->n=JU 0 (ns.take (i + 1)) ->
    codeAny (model prog w) A (.builtin "max.loop" ⟨[.ref I,.none,.ref S],[(Str.ofString "default", d)]⟩) R { s with heap:=h'.update S (Obj.mapSeq fun _=>#[.int n t,.int n t]),toks:=tk }:=fun c0 e0 em =>
   ih (i + 1) _ tk c0 (some (n,t)) (by omega) hlt (hit'.at fun o q=>(get?_update_other _ _ hSI).trans q) (hl'.at fun o q=>(get?_update_other _ _ (Ne.symm hpS)).trans q) (e0 _ rfl) (fun z=>by cases z)
    (fun m t' z=>by cases z; exact ⟨Nat.succ_pos _,em⟩) fun b' o h1 h2 q=>(get?_update_other _ _ (Ne.symm h2)).trans (keep' b' o h1 h2 q)
  cases b with
  | none =>
   have hi0:=hb0 rfl;show wpAny _ A.in1 (updateSeq S (fun _=>#[Value.int n t,Value.int n t]) >>= _) _ _ _;refine wpAny_bind (wpAny_updateSeq hS' rfl ?_);rw [b8];refine wpAny_pure ⟨plainId_quiet PySem.F.plain_max_loop _,store _ (fun v e=>by subst e; exact get?_update_seq hS' fun _=>#[_,_]) ?_⟩;rw [etk,hi0];rfl
  | some mt =>
   obtain ⟨m,t0⟩:=mt;obtain ⟨hpos,hm⟩:=hb1 m t0 rfl
   have ax:ns.take i ≠ []:=fun z=>by
    have:=congrArg List.length z;rw [length_take,length_nil] at this;omega
   show wpAny _ A.in1 (tryCatch (holding [Value.int n t,Value.int n t] (richCompare .Gt (.int n t) (.int m t0) >>= _)) _ >>= _) _ _ _
   refine wpAny_bind (wpAny_tryCatch (wpAny_holding (wpAny_bind (CmpOf.ints_gt (P:=fun i v=>(i=0/\v=.int n t)\/(i=1/\v=.int m t0)) (fun i=>if i=0 then n else m) (fun i v h=>by
    rcases h with ⟨rfl,rfl⟩ | ⟨rfl,rfl⟩
    ·exact ⟨t,rfl⟩
    ·exact ⟨t0,rfl⟩) 0 1 _ _ _ _ _ (.inl ⟨rfl,rfl⟩) (.inr ⟨rfl,rfl⟩) ?_))))
   refine wpAny_bind (wpAny_holding (wpAny_truthy_bool ?_));refine wpAny_bind (wpAny_letGo (wpAny_pure ?_));by_cases hgt:n > m
   ·have e1:(fun (i j:Nat)=>decide ((if i=0 then n else m) > if j=0 then n else m)) 0 1=true:=decide_eq_true hgt;rw [e1];simp only [if_true];refine wpAny_bind (wpAny_updateSeq hS' rfl (wpAny_bind (wpAny_letGo ?_)) sl2);rw [b8];refine wpAny_pure ⟨plainId_quiet PySem.F.plain_max_loop _,store _ (fun v e=>by subst e; exact get?_update_seq hS' fun _=>#[_,_]) ?_⟩;rw [etk,Hq 0 _ n ax,← hm];omega
   ·have e1:(fun (i j:Nat)=>decide ((if i=0 then n else m) > if j=0 then n else m)) 0 1=false:=decide_eq_false hgt;rw [e1];simp only [Bool.false_eq_true,if_false];refine wpAny_bind (wpAny_letGo ?_);rw [b8]
    refine wpAny_pure ⟨plainId_quiet PySem.F.plain_max_loop _,ih (i + 1) _ tk c (some (m,t0)) (by omega) hlt hit' hl' hS' (fun z=>by cases z) (fun m' t' z=>by
     cases z;refine ⟨Nat.succ_pos _,?_⟩;rw [etk,Hq 0 _ n ax,← hm]
     omega) keep'⟩
end
section
variable {c:Expr} {tc:TE} {p kp:Pos}
theorem Lp (hc:X.calm=true) (hg:Gl X "max") (hm:X.mg "max" = none) (he:PE X e te) (hcc:PE X c tc) (hs:starEach [e] X.env=(false,eval e X.env) :: starEach [] X.env:=by rfl)
  (hs2:backTo pos (starEach [e] X.env)=(false,eval e X.env) :: backTo pos (starEach [] X.env):=by rfl) :
  PE X (.Call (.Name "max" p) [e] [⟨some "default", c,kp⟩] pos) (fun σ H Q=>te σ H fun x H1=>tc σ H1 fun y H2=>∃ (a:Addr) (ns:List Int) (d:Int),x=.ref a/\y=.int d/\SqL X.K H2 a (ns.map V.int)/\(ns=[]->Q (.int d) H2)/\(ns ≠ []->Q (.int (JU 0 ns)) H2)):=by
 intro aa s σ H Q I h;refine wpAny_Call_Name_kw (D8 (u:=.builtin "max") I hg hm boot_max ?_)
 let R3:V->V->Hp->Prop:=fun x y H2=>∃ (a:Addr) (ns:List Int) (d:Int),x=.ref a/\y=.int d/\SqL X.K H2 a (ns.map V.int)/\(ns=[]->Q (.int d) H2)/\(ns ≠ []->Q (.int (JU 0 ns)) H2)
 refine callWith_kw (thn ((AA he AC hs:PA X [e] (Ao te Cr)) pos aa s σ H (fun vs H1=>match vs with | [x]=>tc σ H1 (fun y H2=>R3 x y H2) | _=>False) I h) fun us s1 ⟨vs,H1,I1,r1,q1⟩=>?_) hs2 (by rw [hs2]; rfl)
 match vs,r1,q1 with
 | [x],r1,q1 =>
  refine thn ((IS (nm:=some "default") (kpos:=kp) hcc KY:PK X [⟨some "default", c,kp⟩] (Ao tc Cr)) pos aa s1 σ H1 (fun vs H2=>match vs with | [y]=>R3 x y H2 | _=>False) I1 q1) fun us2 s2 ⟨vs2,H2,I2,r2,q2⟩=>?_
  match vs2,r2,q2 with
  | [y],r2,q2 =>
   obtain ⟨a,ns,d,rfl,rfl,hq,k1,k2⟩:=q2;obtain ⟨u,rfl,ru⟩:=Bs r1;cases ru;obtain ⟨ud,rfl,td,rud⟩:=Bs r2;subst rud;obtain ⟨its,rv,pl,hz⟩:=I2.list hq;have hp:a < s2.heap.objs.size:=by obtain ⟨o,n,e,_⟩:=id pl; exact lt_size e
   show wpAny _ _ (call (.builtin "max") [.ref a] [(Str.ofString "default", .int d td)]) _ _ _;refine PyProof.Rows.kmk_tree PySem.F.kind_max PySem.F.plain_max PySem.F.entry_max (Mw _ _) ?_;show wpAny _ X.A.in1 (Builtin.Builtins.bindParams "max" ["key", "default"] 0 ⟨[],[(Str.ofString "default", .int d td)]⟩ >>= _) _ _ _;refine wpAny_bind (wpAny_of_eq (show Builtin.Builtins.bindParams "max" ["key", "default"] 0 ⟨[],[(Str.ofString "default", Value.int d td)]⟩=pure [none,some (.int d td)] from rfl) ?_);refine wpAny_bind (wpAny_pure ?_);refine wpAny_bind (wpAny_pyIter_list pl.isList ?_);refine wpAny_bind (wpAny_newList ?_ (Nat.zero_le _));have b8:(toString "max" ++ toString ".loop" : String) = "max.loop" := by decide
   rw [b8];have hS:(s2.heap.push { cls:=.type "list_iterator", data:=.fields #[.ref a,.int 0 0] }).objs.size=s2.heap.objs.size + 1:=size_push ..
   refine wpAny_pure ⟨plainId_quiet PySem.F.plain_max_loop _,Mx (its:=its) (ns:=ns) (s:=s2) (I.ok.hd hc) (C0 rv) (Nat.ne_of_lt hp) (by rw [hS]; exact Nat.succ_ne_self _) (by rw [hS]; exact Nat.ne_of_lt (Nat.lt_succ_of_lt hp))
    (fun h' tk v keep e1 e2=>?_) _ 0 _ _ 0 none rfl (Nat.zero_le _) ⟨_,get?_push_of_some _ (get?_push_size _ rfl),rfl,rfl⟩ (pl.isList.at fun o q=>get?_push_of_some _ (get?_push_of_some _ q)) (get?_push_size _ rfl) (fun _=>rfl) (fun m t z=>by cases z) fun b o h1 h2 q=>get?_push_of_some _ (get?_push_of_some _ q)⟩
   have I3:Inv X aa σ H2 { s2 with heap:=h',toks:=tk }:=I2.kept fun b o q=>keep b o (Nat.ne_of_lt (lt_size q)) (by rw [hS]; exact Nat.ne_of_lt (Nat.lt_succ_of_lt (lt_size q))) q;by_cases hn:ns=[]
   ·rw [e1 hn];exact ⟨.int d,H2,I3,⟨td,rfl⟩,k1 hn⟩
   ·obtain ⟨t,ev⟩:=e2 hn;rw [ev];exact ⟨.int _,H2,I3,⟨t,rfl⟩,k2 hn⟩
end
def TupsAt (H:Hp):List Addr->List (V × V)->Prop:=Paired fun b p=>H b=some (.tup [p.1,p.2])
theorem TupsAt.same {as:List Addr} {ps:List (V × V)} (s:∀ b o,H b=some o->H' b=some o) (h:TupsAt H as ps):TupsAt H' as ps:=Paired.mapP h fun _ _ e=>s _ _ e
theorem Inv.trackTups {as:List Addr} {ps:List (V × V)} (hr:Paired (fun a (p:V × V)=>∃ its,Vals [p.1,p.2] its/\IsTup s.heap a its.toArray) as ps):∀ (H:Hp),Inv X aa σ H s->as.Pairwise (· < ·) ->
  (∀ a ∈ as,H a=none/\a ≠ X.env.locals/\X.s₀.heap.objs.size <= a/\(∀ x c,X.env.cells.lookup x=some c->c ≠ a)/\∀ q ∈ X.pn++aa,q.1 ≠ a)->∃ H',Inv X aa σ H' s/\Same H H'/\TupsAt H' as ps:=by
 induction hr with
 | nil=>intro H I _ _; exact ⟨H,I,Same.refl H,.nil⟩
 | @cons a p as ps h hr ih =>
  intro H I hp hok;obtain ⟨its,hv,ht⟩:=h;obtain ⟨p1,p2⟩:=List.pairwise_cons.mp hp;obtain ⟨o1,o2,o3,o4,o5⟩:=hok a mem_cons_self;have I1:Inv X aa σ (upd H a (.tup [p.1,p.2])) s:=I.track o1 o2 (.inr o3) o4 o5 ⟨by show 2 <= sizeLine; decide,its,hv,ht⟩;have s1:Same H (upd H a (.tup [p.1,p.2])):=fun b u e=>by rw [AG (AI e o1)]; exact e
  obtain ⟨H',I',s',t'⟩:=ih _ I1 p2 (fun b hb=>by
   obtain ⟨q1,q2⟩:=hok b (mem_cons_of_mem _ hb)
   exact ⟨by rw [AG (Nat.ne_of_gt (p1 b hb))]; exact q1,q2⟩)
  exact ⟨H',I',s1.trans s',.cons (s' _ _ AB) t'⟩
theorem Km (hc:X.calm=true):CallR X (.type "list") (fun xs H Q=>∃ p a kvs,xs=[.ref p]/\H p=some (Lo a p)/\Rd H a (.dK kvs) /\
  ∀ l as H',Same H H'->H l=none->H' l=some (.lst (as.map V.ref))->TupsAt H' as (kvs.map fun kv=>(kV kv.1,kv.2))->Q (.ref l) H'):=by
 intro aa s σ H xs us Q I r h;obtain ⟨p,a,kvs,rfl,hp,hd,q⟩:=h;obtain ⟨u,rfl,ru⟩:=Bs r;cases ru;obtain ⟨z,y,vs,rel,dd⟩:=DI I.hok hd;obtain ⟨ep,da⟩:=dd.dictAt;obtain ⟨hv,_⟩:=I.hok p _ hp;have hl:=rel.length;refine W.kdx_call (knd:=Ai X.prog X.w) (kvs:=vs) (ep:=ep) (I.ok.hd hc) hv da (by rw [← hl]; exact z) fun h' tk acc c as keep e ba G cu=>?_;have I1:Inv X aa σ H { s with heap:=h',toks:=tk }:=I.kept keep;obtain ⟨n1,n2,n3,n4,n5⟩:=I.newOk (Nat.le_refl s.heap.objs.size);have el:acc=(as.map Value.ref).toArray:=by rw [← cu]
 have I2:Inv X aa σ (upd H s.heap.objs.size (.lst (as.map V.ref))) { s with heap:=h',toks:=tk }:=I1.track n1 n2 (.inr n3) n4 n5 ⟨by rw [AK,ba,← hl]; exact z,as.map Value.ref,c,CI (by rw [AK,AK]) fun j v w' ev ew=>by
  rw [getElem?_map] at ev ew;cases e2:as[j]? with
  | none=>rw [e2] at ev; cases ev
  | some b=>rw [e2] at ev ew; cases ev; cases ew; rfl,by rw [← el]; exact e⟩
 have hpp:Paired (fun a (p:V × V)=>∃ its,Vals [p.1,p.2] its/\IsTup h' a its.toArray) as (kvs.map fun kv=>(kV kv.1,kv.2)):=(CI (by rw [AK,ba,hl]) fun j b pr eb ep'=>by
   obtain ⟨key,k,x,ex,hk,ho⟩:=G.pairs j b eb;rw [getElem?_map] at ep';cases e2:kvs[j]? with
   | none=>rw [e2] at ep'; cases ep'
   | some kv =>
    rw [e2] at ep';simp only [Option.map_some,Option.some.injEq] at ep';obtain ⟨v2,hv2,rv2⟩:=KV.get rel e2;rw [ex] at hv2;simp only [Option.some.injEq,Prod.mk.injEq] at hv2;subst ep';refine ⟨[key,x],.cons ?_ (.cons ?_ .nil),_,ho,rfl,_,rfl⟩
    ·show RelV (kV kv.1) key;rw [← hv2.1]; exact F2 hk
    ·show RelV kv.2 x
     rw [hv2.2]; exact rv2)
 obtain ⟨H',I',s',t'⟩:=Inv.trackTups (s:={ s with heap:=h',toks:=tk }) hpp _ I2 G.rise (fun b hb=>by
   have hgt:=G.above b hb;obtain ⟨m1,m2,m3,m4,m5⟩:=I.newOk (Nat.le_of_lt hgt)
   exact ⟨by rw [AG (Nat.ne_of_gt hgt)]; exact m1,m2,m3,m4,m5⟩)
 exact ⟨.ref s.heap.objs.size,H',I',rfl,q _ as H' (fun b u e=>s' b u (by rw [AG (AI e n1)]; exact e)) n1 (s' _ _ AB) t'⟩
mutual
def CB (K:FG) (H:Hp):PyData->V->Prop
 | .none,v=>v=.non
 | .bool b,v=>v=.bl b
 | .int i,v=>v=.int i
 | .str x,v=>v=.str x
 | .list ds,v=>∃ a xs,v=.ref a/\SqL K H a xs/\BZ K H ds xs
 | .tuple ds,v=>∃ a xs,v=.ref a/\SqT K H a xs/\BZ K H ds xs
 | .dict _,_=>False
def BZ (K:FG) (H:Hp):List PyData->List V->Prop
 | [],xs=>xs=[]
 | d :: ds,xs=>∃ x r,xs=x :: r/\CB K H d x/\BZ K H ds r
end
section
mutual
theorem Inv.reads (I:Inv X aa σ H s):∀ (d:PyData) (v:V) (u:Value),RelV v u->CB X.K H d v->∃ as,Reads s.heap u d as
 | .none,v,u,r,h=>by
  have e:v=.non:=by simpa [CB] using h
  subst e; cases r; exact ⟨_,.none⟩
 | .bool b,v,u,r,h=>by
  have e:v=.bl b:=by simpa [CB] using h
  subst e; cases r; exact ⟨_,.bool b⟩
 | .int i,v,u,r,h=>by
  have e:v=.int i:=by simpa [CB] using h
  subst e; obtain ⟨t,rfl⟩:=r; exact ⟨_,.int i t⟩
 | .str x,v,u,r,h=>by
  have e:v=.str x:=by simpa [CB] using h
  subst e; obtain ⟨t,rfl⟩:=r; exact ⟨_,.str x t⟩
 | .list ds,v,u,r,h=>by
  rw [CB] at h;obtain ⟨a,xs,rfl,hq,hd⟩:=h;cases r;obtain ⟨its,rv,⟨o,n,e,c,_,dd⟩,_⟩:=I.list hq;obtain ⟨as,hr⟩:=I.readsAll ds xs its rv hd;exact ⟨_,.list e c dd (by simpa using hr)⟩
 | .tuple ds,v,u,r,h=>by
  rw [CB] at h;obtain ⟨a,xs,rfl,hq,hd⟩:=h;cases r;obtain ⟨its,rv,⟨o,e,c,n,dd⟩,_⟩:=I.tuple hq;obtain ⟨as,hr⟩:=I.readsAll ds xs its rv hd;exact ⟨_,.tuple e c dd (by simpa using hr)⟩
 | .dict kvs,v,u,r,h=>by
  rw [CB] at h;exact h.elim
theorem Inv.readsAll (I:Inv X aa σ H s):∀ (ds:List PyData) (xs:List V) (us:List Value),Vals xs us->BZ X.K H ds xs->∃ as,ReadsAll s.heap us ds as
 | [],xs,us,r,h=>by
  have e:xs=[]:=by simpa [BZ] using h
  subst e; cases r; exact ⟨_,.nil⟩
 | d :: ds,xs,us,r,h=>by
  rw [BZ] at h;obtain ⟨x,xr,rfl,h1,h2⟩:=h;cases r with
  | cons p q =>
   obtain ⟨as,h3⟩:=I.reads d x _ p h1;obtain ⟨bs,h4⟩:=I.readsAll ds xr _ q h2;exact ⟨_,.cons h3 h4⟩
end
end
section
theorem SA (K:FG) (hK:X.K=K) (hu:X.A.units + 64 < cLine):OpR X (compareOp .Eq) (fun x y H Q=>∃ dx dy,CB K H dx x/\CB K H dy y/\SeqAt.shaped dx=true/\SeqAt.shaped dy=true/\Q (.bl (PyData.eqv dx dy)) H):=by
 subst hK;intro aa s σ H x y v u Q I rx ry h;obtain ⟨dx,dy,h1,h2,s1,s2,q⟩:=h;obtain ⟨as,r1⟩:=I.reads dx x v rx h1;obtain ⟨bs,r2⟩:=I.reads dy y u ry h2;exact eq_dataH r1 r2 s1 s2 hu ⟨.bl _,H,I,rfl,q⟩
theorem Kn (K:FG) (hK:X.K=K) (hu:X.A.units + 64 < cLine):OpR X (compareOp .NotEq) (fun x y H Q=>∃ dx dy,CB K H dx x/\CB K H dy y/\SeqAt.shaped dx=true/\SeqAt.shaped dy=true/\Q (.bl (!PyData.eqv dx dy)) H):=by
 subst hK;intro aa s σ H x y v u Q I rx ry h;obtain ⟨dx,dy,h1,h2,s1,s2,q⟩:=h;obtain ⟨as,r1⟩:=I.reads dx x v rx h1;obtain ⟨bs,r2⟩:=I.reads dy y u ry h2;exact ne_dataH r1 r2 s1 s2 hu ⟨.bl _,H,I,rfl,q⟩
theorem SB (K:FG) (hK:X.K=K) (hu:X.A.units + 64 < cLine):OpR X (compareOp .Eq) (fun x y H Q=>∃ (a b:Addr) (ns ms:List Int),x=.ref a/\y=.ref b/\SqL K H a (ns.map V.int)/\SqL K H b (ms.map V.int)/\Q (.bl (decide (ns=ms))) H):=by
 subst hK;intro aa s σ H x y v u Q I rx ry h;obtain ⟨a,b,ns,ms,rfl,rfl,h1,h2,q⟩:=h;cases rx;cases ry;obtain ⟨is1,r1,p1,_⟩:=I.list h1;obtain ⟨is2,r2,p2,_⟩:=I.list h2;exact W.ke_eq_ints p1.isList p2.isList (C0 r1) (C0 r2) hu ⟨.bl _,H,I,rfl,q⟩
def SC (C:Addr) (sp:Sp) (gV:List V->List V->List V) (E:XK) (t tk:TA):TE:=fun σ H Q=>t σ H fun vs H1=>tk σ H1 fun zs H2=>∀ x dx,H2 x=none->H2 dx=none->dx ≠ x ->
 sp (gV (.ref x :: vs) zs) (upd (upd H2 dx (.own x)) x (.ins C dx [])) (fun v H3=>v=.non/\Q (.ref x) H3) E
variable {k:Nat} {f:Addr} {fd:FuncData} {ps ks:List Str} {sp:Sp} {p:Pos} {es:List Expr} {kws:List Keyword} {t tk:TA} {g:List Value->List Value->List Value} {gV:List V->List V->List V}
theorem OM (M:Mk X.K C f) (F:AX X.prog X.w X.K X.mg X.base CX0 k f fd ps sp) (hr:Room (k + 1) X.A) (hg:Gl X x) (hm:X.mg x=some (.ref C)) (hb:EE X.K fd ps ks g gV)
  (ha:PA X (e :: es) t) (hkw:PK X kws tk) (be:(backToKw pos (keywordEach kws X.env)).all (·.1.isSome)=true:=by rfl) (hks:(backToKw pos (keywordEach kws X.env)).filterMap (·.1)=ks:=by rfl)
  (hdb:(x == ("__debug__" : Str))=false:=by decide) (he:starEach (e :: es) X.env=(false,eval e X.env) :: starEach es X.env:=by rfl)
  (hpl:((backTo pos (starEach (e :: es) X.env)).any (·.1) || (backToKw pos (keywordEach kws X.env)).any (·.1.isNone))=false:=by rfl) :
  PE X (.Call (.Name x p) (e :: es) kws pos) (SC C sp gV E0 t tk):=by
 intro aa s σ H Q I h;refine wpAny_Call_Name_kw (Bb I hg hm ?_ hdb);refine W.callWith_KW (h₀:=X.base) I.ok.mod.kin M.kp be (thn (ha pos aa s σ H _ I h) fun us s1 ⟨vs,H1,I1,r,q⟩=>?_) hpl he;refine thn (hkw pos aa s1 σ H1 _ I1 q) fun ws s2 ⟨zs,H2,I2,rz,q2⟩=>⟨I2.kIn,?_⟩;rw [hks];have hq:=q2 (s2.heap.objs.size + 1) s2.heap.objs.size (I2.hok.fresh (Nat.le_succ _)) (I2.hok.fresh (Nat.le_refl _)) (Nat.ne_of_lt (Nat.lt_succ_self _));have I3:=Inv.made (C:=C) I2;have r2:Vals (gV (V.ref (s2.heap.objs.size + 1) :: vs) zs) (g (Value.ref (s2.heap.objs.size + 1) :: us) ws):=hb.rel (.cons rfl r) rz;have hl:(g (Value.ref (s2.heap.objs.size + 1) :: us) ws).length=ps.length:=by rw [← r2.length]; exact F.len _ _ _ _ hq
 refine wpAny_call (JI (f:=f) I2.kIn M.makes M.init (beq_iff_eq.mp M.fn) (codeAny_mono (F.run _ X.stack _ _ ⟨Value.ref (s2.heap.objs.size + 1) :: us,ks.zip ws⟩ _ _ _ E0 (hr.make C us (ks.zip ws)) (I3.env0.make C us (ks.zip ws)) (hb.to _ _ _ I3.kIn hl) r2 hq) fun r' s' hq'=>?_));cases r' with
 | error e=>exact hq'.elim
 | ok fl =>
  cases fl with
  | ret u =>
   obtain ⟨v,H',I4,rv,ev,q3⟩:=I3.after hq';subst ev;exact ⟨rv,⟨V.ref (s2.heap.objs.size + 1),H',I4,rfl,q3⟩⟩
  | next=>exact False.elim hq'
  | brk=>exact False.elim hq'
  | cont=>exact False.elim hq'
def Ua (i j:Int):Prop:=Builtin.Int.intBits i <= 2 ^ 20/\Builtin.Int.intBits j <= 2 ^ 20
theorem Ig:OpR X (binaryOp .Mult) (rI Ua fun i j=>.int (i * j)):=opI fun _ _ _ _ _ _ _ hc q=>mul_int q (IntMulOk.of_bits hc.1 hc.2)
def Tb (i j:Int):Prop:=0 < j/\Builtin.divisionGoesByPylong i j=false
theorem ON:OpR X (binaryOp .FloorDiv) (rI Tb fun i j=>.int (i / j)):=opI fun i j _ _ _ _ _ hc q=>by
 have h1:(0:Int) < j:=hc.1;exact floordiv_int (by omega) (by rw [Int.fdiv_eq_ediv_of_nonneg i (by omega)]; exact q) (.inl hc.2)
end
section
variable {prog:Program} {x y f:Addr} {ox oy:Obj} {od od':Option Obj}
theorem Ih {M:Model} {args:List Value} {Q:Option Value->Shared->Prop} (X:K.In s.heap) (I:W.InstAt s.heap x ox C od) (hs:W.findIn K (.ref C) "__ne__" = some (some (.builtin "object.__ne__")))
  (h:wpAny M A (call (.builtin "object.__ne__") (.ref x :: args)) (fun v=>Q (some v)) E s):wpAny M A (callSpecialIfBound? (.ref x) "__ne__" args) Q E s:=by
 simp only [callSpecialIfBound?,bindSpecialIfBound?];refine wpAny_holding (wpAny_bind (wpAny_bind (wpAny_bind (I.type.here ((W.looks_findIn X hs).here ?_)))));simp only [PySem.F.cmp_object.ne.bind];refine wpAny_bind (wpAny_askSetting (wpAny_ite ?_));have fin:wpAny M A (call (.builtin "object.__ne__") ([.ref x]++args) >>= fun v=>pure (some v)) Q E s:=wpAny_bind (wpAny_mono h (fun v s' h'=>wpAny_pure h') fun _ _ h'=>h');split
 ·exact wpAny_bind (wpAny_pure (wpAny_pure fin))
 ·exact wpAny_tryCatch (wpAny_bind (wpAny_pure (wpAny_pure fin)))
theorem JV {Q:VS} (hu:A.units + 1 < cLine) (X:K.In s.heap) (I:W.InstAt s.heap x ox C od) (hm:W.mroIn K C (.type "object")=some true) (hr:W.findIn K (.ref C) "__eq__" = some (some (.ref f))) (hf:W.isFn K (.ref f)=true)
    (h:wpAny (model prog w) A.in1 (call (.ref f) [.ref x,.ref y]) (fun v s'=>∃ b,v=.bool b/\Q (.bool (!b)) s') E s):wpAny (model prog w) A (call (.builtin "object.__ne__") [.ref x,.ref y]) Q E s:=by
  refine wpAny_call (codeAny_call_builtin PySem.F.cmp_object.ne.plain PySem.F.cmpEntry_ne (W.check_slot (i := "object.__ne__") (owner := "object") (n := "__ne__") (by decide +kernel) (by decide +kernel) (I.type.andThen (W.looks_mroIn X hm)) (PySem.F.cmpArgs_ne _ _) ?_));unfold Builtin.«object.__ne__»
  repeat (first
    | with_reducible refine wpAny_cRoomFor (by show A.in1.units < cLine; exact hu) ?_
    | (refine wpAny_bind (m:=callSpecialIfBound? (.ref x) (Str.ofString "__eq__") [.ref y])
        (W.ifBound_K X I hr hf (wpAny_mono h (fun r s' hr=>by
          obtain ⟨b,rfl,hq⟩:=hr
          repeat (first | exact hq | exact ⟨_,rfl,hq⟩ | exact wpAny_pure ⟨_,rfl,hq⟩ | (refine wpAny_bind (m:=truthy (.bool _)) (wpAny_truthy_bool ?_)) | wp_step)) fun _ _ e=>e)))
    | wp_step)
theorem SD {Q:VS} (hu:A.units + 1 < cLine) (X:K.In s.heap) (I:W.InstAt s.heap x ox C od) (J:W.InstAt s.heap y oy C od') (hm:W.mroIn K C (.type "object")=some true)
  (hn:W.findIn K (.ref C) "__ne__" = some (some (.builtin "object.__ne__"))) (hr:W.findIn K (.ref C) "__eq__" = some (some (.ref f))) (hf:W.isFn K (.ref f)=true)
  (h:wpAny (model prog w) A.in1 (call (.ref f) [.ref x,.ref y]) (fun v s'=>∃ b,v=.bool b/\Q (.bool (!b)) s') E s):wpAny (model prog w) A (compareOp .NotEq (.ref x) (.ref y)) Q E s:=by
 show wpAny _ _ (richCompare .NotEq (.ref x) (.ref y)) _ _ _
 have one:wpAny (model prog w) A (tryCompare (.ref x) (cmpInfo .NotEq).2.1 (.ref y)) (fun r s'=>∃ v,r=some v/\Q v s') E s:=by
  unfold tryCompare;refine wpAny_bind (Ih X I hn (JV hu X I hm hr hf (wpAny_mono h (fun v s' hv=>?_) fun _ _ e=>e)));obtain ⟨b,rfl,hq⟩:=hv;exact ⟨b,rfl,wpAny_pure ⟨_,rfl,hq⟩⟩
 unfold richCompare;simp only [oneThing_ref];refine wpAny_holding (wpAny_bind (wpAny_cRoomFor (Nat.lt_of_succ_lt hu) ?_));refine wpAny_bind (I.type.here (wpAny_bind (J.type.here ?_)));rw [if_neg (by simp)];refine wpAny_bind (wpAny_pure ?_);simp only [Bool.false_eq_true,if_false];refine wpAny_bind (wpAny_mono one (fun r s' z=>?_) fun _ _ e=>e);obtain ⟨v,rfl,hq⟩:=z;exact wpAny_pure hq
end
section
variable {k:Nat} {f:Addr} {fd:FuncData} {sp:Sp}
def SE (sp:Sp) (a b:Addr) (H:Hp) (Q:VK):Prop:=sp [.ref a,.ref b] H (fun v H'=>∃ t:Bool,v=.bl t/\Q (.bl t) H') E0
theorem OO {b:Addr} {Q:VK} (F:AX X.prog X.w X.K X.mg X.base CX0 k f fd ["self", "other"] sp) (hr:Room k A) (hA:Env0 X.prog X.w X.K X.mg X.base A X.stack s H) (hb:Binds X.K fd ["self", "other"] []) (I:Inv X aa σ H s) (h:SE sp a b H Q) :
  wpAny (model X.prog X.w) A (call (.ref f) [.ref a,.ref b]) (fun v s'=>∃ t:Bool,v=.bool t/\EP X aa σ Q (.bool t) s') E s:=by
 refine wpAny_call (codeAny_mono (F.run A X.stack s H ⟨[.ref a,.ref b],[]⟩ [.ref a,.ref b] [.ref a,.ref b] _ E0 hr hA (hb s [.ref a,.ref b] I.kIn rfl) (.cons rfl (.cons rfl .nil)) h) fun r' s' hq=>?_);cases r' with
 | error e=>exact hq.elim
 | ok fl =>
  cases fl with
  | ret u =>
   obtain ⟨v,H',I',rv,t,ev,q'⟩:=I.after hq;subst ev;cases rv;exact ⟨t,rfl,.bl t,H',I',rfl,q'⟩
  | next=>exact False.elim hq
  | brk=>exact False.elim hq
  | cont=>exact False.elim hq
theorem OP (F:AX X.prog X.w X.K X.mg X.base CX0 k f fd ["self", "other"] sp) (hr:Room k X.A) (hb:Binds X.K fd ["self", "other"] []) (hm:KQ X.K C "__eq__" f) :
  OpR X (compareOp .Eq) (fun x y H Q=>∃ a dx fs b,x=.ref a/\y=.ref b/\H a=some (.ins C dx fs)/\((∃ dy gs,H b=some (.ins C dy gs))\/((∃ xs,SqL X.K H b xs)/\W.subIn X.K (.type "list") (.ref C)=some false))/\SE sp a b H Q):=by
 intro aa s σ H x y v u Q I rx ry h;obtain ⟨a,dx,fs,b,rfl,rfl,ha,hy,q⟩:=h;cases rx;cases ry;obtain ⟨m,Fm⟩:=I.fr;obtain ⟨mA,om,_⟩:=CY I.hok ha;obtain ⟨od,ia,_⟩:=om.look;have run:=OO (E:=X.xe) F hr I.env0 hb I q;have hu:X.A.units < cLine:=Nat.lt_of_le_of_lt (Nat.le_add_right _ 64) hr.units
 have run2:wpAny (model X.prog X.w) X.A (call (.ref f) [.ref a,.ref b]) (W.CmpBack (EP X aa σ Q)) X.xe s:=by
  refine thn run fun v s' hv=>?_;obtain ⟨t,rfl,q⟩:=hv;exact q
 show wpAny _ _ (richCompare .Eq (.ref a) (.ref b)) _ _ _;rcases hy with ⟨dy,gs,hy⟩ | ⟨⟨xs,hy⟩,hn⟩
 ·obtain ⟨mB,ob,_⟩:=CY I.hok hy;obtain ⟨odb,ib,_⟩:=ob.look;exact W.cmp_K hu Fm I.mod.kin ia ib.type (by simp [W.notFirst]) hm.at_ hm.fn run2
 ·obtain ⟨its,rv,⟨o,n,e,c,dd,_⟩,_⟩:=I.list hy;have T:W.Looks (model X.prog X.w) s.heap (typeOf (.ref b)) (.type "list"):=c ▸ (W.Looks.ld e).andThen .now;exact W.cmp_K hu Fm I.mod.kin ia T (by simp [W.notFirst,hn]) hm.at_ hm.fn run2
theorem JW (F:AX X.prog X.w X.K X.mg X.base CX0 k f fd ["self", "other"] sp) (hr:Room (k + 1) X.A) (hb:Binds X.K fd ["self", "other"] []) (hm:KQ X.K C "__eq__" f) (hn:W.findIn X.K (.ref C) "__ne__" = some (some (.builtin "object.__ne__"))) (ho:W.mroIn X.K C (.type "object")=some true) :
  OpR X (compareOp .NotEq) (fun x y H Q=>∃ a dx fs b dy gs,x=.ref a/\y=.ref b/\H a=some (.ins C dx fs)/\H b=some (.ins C dy gs)/\SE sp a b H (fun v H'=>∃ t:Bool,v=.bl t/\Q (.bl (!t)) H')):=by
 intro aa s σ H x y v u Q I rx ry h;obtain ⟨a,dx,fs,b,dy,gs,rfl,rfl,ha,hy,q⟩:=h;cases rx;cases ry;obtain ⟨mA,om,_⟩:=CY I.hok ha;obtain ⟨od,ia,_⟩:=om.look;obtain ⟨mB,ob,_⟩:=CY I.hok hy;obtain ⟨odb,ib,_⟩:=ob.look;have run:=OO (E:=X.xe) F hr.in1 I.env0.in1 hb I q;have hu:X.A.units + 1 < cLine:=Nat.lt_of_le_of_lt (Nat.add_le_add_left (by decide) _) hr.units;refine SD hu I.kIn ia ib ho hn hm.at_ hm.fn (thn run fun v s' hv=>?_);obtain ⟨t,rfl,v',H',I',rv,t',e,q⟩:=hv;subst e;cases rv;exact ⟨t,rfl,.bl _,H',I',rfl,q⟩
end
structure Gh (fs:List Addr) (e:Addr) (oe:Obj) (vs:Array Value) (old:Addr->Prop) (h h':Heap):Prop where
 tb:∃ T oT ts,h.objs.size <= T/\h'.get? T=some oT/\oT.data=.fields ts/\ts[3]?=some .none/\h'.get? e=some { oe with data:=.fields (vs.setIfInBounds 1 (.ref T)) }
 keep:∀ b o,h.get? b=some o->b ≠ e->¬ old b->b ∉ fs->h'.get? b=some o
 slot:∀ b o,h.get? b=some o->b ≠ e->¬ old b->b ∈ fs->∃ sl,h'.get? b=some { o with slots:=sl }
 there:∀ b o,h.get? b=some o->∃ o',h'.get? b=some o'
section
variable {M:Model}
theorem EI {o:Obj} {vs:Array Value} (hd:o.data=.fields vs) (f:Array Value->Array Value):Obj.mapFields f o={ o with data:=.fields (f vs) }:=by
 obtain ⟨c,d,dt,sl⟩:=o;cases hd;rfl
theorem My {b:Addr} {f:Obj->Obj} (hf:∀ o,h.get? a=some o->(f o).isFreed=false):∀ o,h.get? b=some o->∃ o',(h.update a f).get? b=some o':=fun o ho=>by
 by_cases q:b=a
 ·subst q;exact ⟨_,get?_update_self f ho (hf o ho)⟩
 ·exact ⟨o,(get?_update_other _ _ (Ne.symm q)).trans ho⟩
theorem Lq {env:Env} {outer:List Env} {L e:Addr} {oe:Obj} {vs:Array Value} {head:Value} {hadNext:Bool} {Q:Unit->Shared->Prop}
  (hfr:A.frames=some (env :: outer)) (hl:s.heap.FunFrames base (env :: outer)) (hf:env.frame=some L) (he:s.heap.get? e=some oe) (hd:oe.data=.fields vs) (hsz:1 < vs.size)
  (h:∀ h',Gh (frs (env :: outer)) e oe vs (fun _=>False) s.heap h'->Q () { s with heap:=h' }) :
  wpAny M A (do let a ← frameOf env; let pl ← entryPlaceOf L hadNext; let b ← EntryCells.newEntry head a .none (rawInt L) .none pl; setField (.ref e) 1 b) (fun _ s'=>wpAny M A (setFlight (.ref e) none) Q E s') E s:=by
 have hene:e ∉ frs (env :: outer):=fun hm=>by
  obtain ⟨_,o,ho,hnf⟩:=hl.mem hm;rw [he] at ho;cases ho;exact hnf vs hd
 refine wpAny_bind (wpAny_frameOf_fun hfr hl hf fun h1 x1=>wpAny_bind (wpAny_entryPlaceOf fun pl hpl=>?_));unfold EntryCells.newEntry newFields;refine wpAny_bind (wpAny_newObj_type ?_ (hpl.sizeOk5 _ _ _ _ _));generalize hpg:([head,Value.ref L,.none,rawInt L,.none]++(if pl.isEmpty then List.replicate 6 Value.none else pl)).toArray=pg;have hp3:3 < pg.size:=by rw [← hpg]; simp only [size_toArray,length_append,length_cons,length_nil]; omega
 have e1:h1.get? e=some oe:=(x1.2.1 e hene).trans he;have e2:=get?_push_of_some (h:=h1) ⟨.type "traceback", none,.fields pg,#[]⟩ e1;refine wpAny_setField e2 hd hsz ?_;have ne:h1.objs.size ≠ e:=Nat.ne_of_gt (lt_size e1);have d3:=Obj.data_mapFields hd (·.setIfInBounds 1 (Value.ref h1.objs.size));have e3:=get?_update_self (Obj.mapFields (·.setIfInBounds 1 (Value.ref h1.objs.size))) e2 (Obj.isFreed_of_fields d3);have t3:=(get?_update_other (h1.push ⟨.type "traceback", none,.fields pg,#[]⟩) (Obj.mapFields (·.setIfInBounds 1 (Value.ref h1.objs.size))) (Ne.symm ne)).trans (get?_push_size h1 rfl);unfold setFlight;refine wpAny_bind (wpAny_field e3 d3 (x:=.ref h1.objs.size) (by simp [hsz]) ?_);rw [if_pos (show (Value.ref h1.objs.size != Value.none)=true from by simp)];refine wpAny_setField t3 rfl hp3 (h _ ?_)
 have other:∀ b o,b ≠ e->h1.get? b=some o->∀ (g:Obj->Obj),(((h1.push ⟨.type "traceback", none,.fields pg,#[]⟩).update e (Obj.mapFields (·.setIfInBounds 1 (Value.ref h1.objs.size)))).update h1.objs.size g).get? b=some o:=fun b o hb hlt g=>by
  rw [get?_update_other _ _ (Nat.ne_of_gt (lt_size hlt)),get?_update_other _ _ (Ne.symm hb)];exact get?_push_of_some _ hlt
 refine ⟨⟨h1.objs.size,_,_,Nat.le_of_eq x1.1.symm,get?_update_self _ t3 (Obj.isFreed_of_fields (Obj.data_mapFields rfl _)),Obj.data_mapFields rfl _,by simp [hp3],?_⟩,fun b o hb n1 _ n3=>?_,fun b o hb n1 _ n3=>?_,fun b o hb=>?_⟩
 ·rw [get?_update_other _ _ ne,e3,EI hd]
 ·have hb1:h1.get? b=some o:=(x1.2.1 b n3).trans hb;exact other b o n1 hb1 _
 ·obtain ⟨sl,hs⟩:=x1.2.2 b o hb;exact ⟨sl,other b _ n1 hs _⟩
 ·obtain ⟨sl,hs⟩:=x1.2.2 b o hb;by_cases q:b=e
  ·subst q;exact ⟨_,(get?_update_other _ _ ne).trans e3⟩
  ·exact ⟨_,other b _ q hs _⟩
theorem JX {env:Env} {outer:List Env} {L e:Addr} {oe:Obj} {vs:Array Value} {Q:Unit->Shared->Prop}
  (hfr:A.frames=some (env :: outer)) (hl:s.heap.FunFrames base (env :: outer)) (hf:env.frame=some L) (he:s.heap.get? e=some oe) (hd:oe.data=.fields vs) (h1:vs[1]?=some .none)
  (h:∀ h',Gh (frs (env :: outer)) e oe vs (fun _=>False) s.heap h'->Q () { s with heap:=h' }):wpAny M A (leaving env (.ref e)) Q E s:=by
 unfold leaving noteFrame;simp only [hf];refine wpAny_bind (wpAny_bind (wpAny_field he hd h1 ?_));rw [if_neg (by decide)];exact Lq hfr hl hf he hd (Array.getElem?_eq_some_iff.mp h1).1 h
theorem Hr {env:Env} {outer:List Env} {L e T:Addr} {oe oT:Obj} {vs ts:Array Value} {Q:Unit->Shared->Prop}
  (hfr:A.frames=some (env :: outer)) (hl:s.heap.FunFrames base (env :: outer)) (hf:env.frame=some L) (he:s.heap.get? e=some oe) (hd:oe.data=.fields vs) (h1:vs[1]?=some (.ref T)) (hTe:T ≠ e)
  (hT:s.heap.get? T=some oT) (hdT:oT.data=.fields ts) (h3:ts[3]?=some .none)
  (h:∀ h',Gh (frs (env :: outer)) e oe vs (·=T) s.heap h'->Q () { s with heap:=h' }):wpAny M A (noteFrame (.ref e) env) (fun _ s2=>wpAny M A (setFlight (.ref e) none) Q E s2) E s:=by
 unfold noteFrame;simp only [hf];refine wpAny_bind (wpAny_field he hd h1 ?_);rw [if_pos (show (Value.ref T != Value.none)=true from by simp)];refine wpAny_bind (wpAny_field hT hdT h3 ?_);rw [if_neg (show ¬ ((Value.none == rawInt L)=true) from by simp [rawInt])];refine wpAny_bind (wpAny_setField hT hdT (Array.getElem?_eq_some_iff.mp h3).1 ?_);have far:∀ b,b ≠ T->(s.heap.update T (Obj.mapFields (·.setIfInBounds 3 Value.none))).get? b=s.heap.get? b:=fun b hb=>get?_update_other _ _ (Ne.symm hb)
 have nr:∀ b o,s.heap.get? b=some o->(∀ vs,o.data ≠ .fields vs)->b ≠ T:=fun b o hb hn q=>by
  subst q;rw [hT] at hb;cases hb;exact hn ts hdT
 refine Lq (hfr:=hfr) (hl.of_keeps fun b o hb hn=>⟨o,(far b (nr b o hb hn)).trans hb,rfl⟩) hf ((far e (Ne.symm hTe)).trans he) hd (Array.getElem?_eq_some_iff.mp h1).1 fun h' x=>h h' ?_
 have fr:∀ o,s.heap.get? T=some o->(Obj.mapFields (·.setIfInBounds 3 Value.none) o).isFreed=false:=fun o ho=>by
  rw [hT] at ho;cases ho;exact Obj.isFreed_of_fields (Obj.data_mapFields hdT _)
 obtain ⟨T',oT',ts',a1,a2⟩:=x.tb;refine ⟨⟨T',oT',ts',by rw [Heap.size_update] at a1; exact a1,a2⟩,fun b o hb n1 n2 n3=>x.keep b o ((far b n2).trans hb) n1 (fun z=>z) n3,fun b o hb n1 n2 n3=>x.slot b o ((far b n2).trans hb) n1 (fun z=>z) n3,fun b o hb=>?_⟩;obtain ⟨o',ho'⟩:=My fr o hb;exact x.there b o' ho'
theorem Ko {env:Env} {outer:List Env} {L e T:Addr} {oe oT:Obj} {vs ts:Array Value} {Q:Unit->Shared->Prop}
  (hfr:A.frames=some (env :: outer)) (hl:s.heap.FunFrames base (env :: outer)) (hf:env.frame=some L) (he:s.heap.get? e=some oe) (hd:oe.data=.fields vs) (h1:vs[1]?=some (.ref T)) (hTe:T ≠ e)
  (hT:s.heap.get? T=some oT) (hdT:oT.data=.fields ts) (h3:ts[3]?=some .none)
  (h:∀ h',Gh (frs (env :: outer)) e oe vs (·=T) s.heap h'->Q () { s with heap:=h' }):wpAny M A (leaving env (.ref e)) Q E s:=by
 unfold leaving;exact wpAny_bind (Hr hfr hl hf he hd h1 hTe hT hdT h3 h)
end
noncomputable def Fw (e C:Addr) (dx:Option Addr):HO:=.ext fun h=>∃ oe vs,h.get? e=some oe/\oe.cls=.ref C/\oe.dict=dx/\oe.data=.fields vs/\5 < vs.size/\vs[2]?=some .none
structure OQ (P:Program) (w:World) (l:List Env) (H:Hp) (s:Shared) (e C:Addr) (dx:Option Addr) (H':Hp) (s':Shared):Prop where
 os:s'.os=s.os
 bare:AllBare s'.gens
 un:Un (frs l) [] H H' s.heap s'.heap
 hok:HOk P w H' s'.heap
 at_:H' e=some (Fw e C dx)
def Tb0 (e:Addr) (s':Shared):Prop:=∃ oe vs,s'.heap.get? e=some oe/\oe.data=.fields vs/\vs[1]?=some .none
def Tb1 (e:Addr) (H':Hp) (s s':Shared) (fl:Value):Prop:=∃ oe vs T oT ts,s'.heap.get? e=some oe/\oe.data=.fields vs/\vs[1]?=some (.ref T)/\T ≠ e/\s'.heap.get? T=some oT/\oT.data=.fields ts/\ts[3]?=some fl/\H' T=none/\s.heap.get? T=none
def Fly (P:Program) (w:World) (l:List Env) (H:Hp) (s:Shared) (e C:Addr) (dx:Option Addr) (H':Hp) (s':Shared):Prop:=OQ P w l H s e C dx H' s'/\Tb1 e H' s s' .none
def CXr (P:Program) (w:World):CXT:=fun outer H s E e s'=>∃ ea C dx H',e=.ref ea/\Fly P w outer H s ea C dx H' s'/\E (.ref C) dx H'
theorem Lr {base h h':Heap} {fs:List Addr} {H H':Hp} (u:Un fs [] H H' h h'):∀ {l:List Env},(∀ b ∈ frs l,b ∈ fs)->(∀ b ∈ frs l,H b=none)->h.FunFrames base l->h'.FunFrames base l
 | [],_,_,_=>trivial
 | env :: r,hs,hn,⟨hk,⟨L,o,hf,hb,ho,hd⟩,hr⟩=>by
  have hL:L ∈ frs (env :: r):=by unfold frs; rw [filterMap_cons,hf]; exact mem_cons_self
  have sub:∀ b ∈ frs r,b ∈ frs (env :: r):=fun b z=>by unfold frs; rw [filterMap_cons,hf]; exact mem_cons_of_mem _ z
  obtain ⟨sl,e⟩:=u.slot L o ho (hn L hL) (hs L hL) (by simp);exact ⟨hk,⟨L,_,hf,hb,e,hd⟩,Lr u (fun b z=>hs b (sub b z)) (fun b z=>hn b (sub b z)) hr⟩
section
variable {H1 H2:Hp} {s1 s2:Shared} {e:Addr} {dx:Option Addr}
structure Kp (X:Cx):Prop where
 stk:X.stack=X.env :: X.outer
 fr:X.env.frame=some X.env.locals
 ex:X.ex=[]
theorem JY {fs:List Addr} {oe:Obj} {vs:Array Value} {old:Addr->Prop} {h':Heap} (ok:HOk P w H2 h) (L:Gh fs e oe vs old h h') (hf:∀ b ∈ fs,H2 b=none) (ho:∀ b,old b->H2 b=none)
  (he:h.get? e=some oe) (hd:oe.data=.fields vs) (at_:H2 e=some (Fw e C dx)):HOk P w H2 h':=fun b u q=>by
 have kp:∀ c v,c ≠ e->(∃ z,H2 c=some z)->h.get? c=some v->h'.get? c=some v:=fun c v n ⟨z,hz⟩ hv=>L.keep c v hv n (fun y=>by rw [ho c y] at hz; cases hz) fun y=>by rw [hf c y] at hz; cases hz
 by_cases hb:b=e
 ·subst hb;rw [at_] at q;cases q;obtain ⟨⟨oe',vs',a1,a2,a3,a4,a5,a6⟩,_,st⟩:=ok _ _ at_;rw [he] at a1;cases a1;rw [hd] at a4;cases a4;obtain ⟨T,oT,ts,b1,b2,b3,b4,b5⟩:=L.tb;exact ⟨⟨_,_,b5,a2,a3,rfl,by rw [Array.size_setIfInBounds]; exact a5,by rw [Array.getElem?_setIfInBounds_ne (by decide)]; exact a6⟩,⟨_,b5⟩,st⟩
 ·refine (ok b u q).stay (fun c v hc r=>?_) (fun _ z=>z) fun _ _ z=>z;rcases hc with rfl | hc
  ·exact kp c v hb ⟨u,q⟩ r
  ·refine kp c v (fun z=>?_) ⟨_,hc⟩ r;subst z;rw [at_] at hc;cases hc
theorem JZ {oe:Obj} {vs:Array Value} {old:Addr->Prop} {h':Heap} (O:Kp X) (I:Inv X aa σ H1 s1) (F:OQ X.prog X.w X.stack H1 s1 e C dx H2 s2) (he:s2.heap.get? e=some oe) (hd:oe.data=.fields vs) (h1:1 < vs.size)
  (hold:∀ b,old b->H2 b=none/\s1.heap.get? b=none) (L:Gh (frs X.stack) e oe vs old s2.heap h'):Fly X.prog X.w X.outer X.H₀ X.s₀ e C dx H2 { s2 with heap:=h' }:=by
 have b0:Un (frs X.outer) [] X.H₀ H1 X.s₀.heap s1.heap:=by have:=I.base; rw [O.ex] at this; exact this
 have free2:∀ b ∈ frs X.stack,H2 b=none:=fun b hb=>by
  obtain ⟨_,o,ho,_⟩:=I.stack.mem hb;exact F.un.free b o ho (I.stkFree b hb) (by simp)
 have ne:∀ b,H2 b=none->b ≠ e:=fun b n z=>by subst z; rw [F.at_] at n; cases n
 have out:∀ b o,X.s₀.heap.get? b=some o->b ∉ frs X.outer->b ∉ frs X.stack:=fun b o hb hn z=>by
  rw [O.stk] at z;unfold frs at z;rw [filterMap_cons,O.fr] at z;rcases mem_cons.mp z with z | z
  ·exact absurd (Nat.lt_of_lt_of_le (lt_size hb) I.ok.above) (by rw [z]; exact Nat.lt_irrefl _)
  ·exact hn z
 have up:∀ b,b ∈ frs X.outer->b ∈ frs X.stack:=fun b hb=>by
  rw [O.stk];unfold frs;rw [filterMap_cons,O.fr];exact mem_cons_of_mem _ hb
 have nold:∀ b o,X.s₀.heap.get? b=some o->¬ old b:=fun b o hb z=>by
  obtain ⟨o',ho'⟩:=b0.there b o hb (by simp);rw [(hold b z).2] at ho';cases ho'
 have und:Un (frs X.outer) [] X.H₀ H2 X.s₀.heap h':=by
  refine ⟨fun b o q n hb _=>?_,fun b o q n hb _=>?_,fun b o q n _=>?_,fun b o q _=>?_,fun b xs q=>F.un.tups b xs (b0.tups b xs q),fun b o xs q=>F.un.frzs b o xs (b0.frzs b o xs q),fun b ps q=>?_⟩
  ·have q1:=b0.keep b o q n hb (by simp);have n1:=b0.free b o q n (by simp);have q2:=F.un.keep b o q1 n1 (out b o q hb) (by simp);exact L.keep b o q2 (ne b (F.un.free b o q1 n1 (by simp))) (nold b o q) (out b o q hb)
  ·obtain ⟨sl,q1⟩:=b0.slot b o q n hb (by simp);have n1:=b0.free b o q n (by simp);obtain ⟨sl2,q2⟩:=F.un.slot b _ q1 n1 (up b hb) (by simp);obtain ⟨sl3,q3⟩:=L.slot b _ q2 (ne b (F.un.free b _ q1 n1 (by simp))) (nold b o q) (up b hb);exact ⟨sl3,q3⟩
  ·obtain ⟨o1,q1⟩:=b0.there b o q (by simp);exact F.un.free b o1 q1 (b0.free b o q n (by simp)) (by simp)
  ·obtain ⟨o1,q1⟩:=b0.there b o q (by simp);obtain ⟨o2,q2⟩:=F.un.there b o1 q1 (by simp);exact L.there b o2 q2
  ·obtain ⟨m1,e1⟩:=b0.tbls b ps q;obtain ⟨m2,e2⟩:=F.un.tbls b _ e1;exact ⟨m1++m2,by rw [e2,Array.append_assoc]⟩
 refine ⟨⟨F.os.trans I.os,F.bare,und,JY F.hok L free2 (fun b z=>(hold b z).1) he hd F.at_,F.at_⟩,?_⟩;obtain ⟨T,oT,ts,b1,b2,b3,b4,b5⟩:=L.tb;have hT:s2.heap.get? T=none:=Heap.get?_none_of_le b1;refine ⟨_,_,T,oT,ts,b5,rfl,by simp [h1],fun z=>?_,b2,b3,b4,F.hok.fresh b1,?_⟩
 ·subst z;rw [he] at hT;cases hT
 ·cases q:X.s₀.heap.get? T with
  | none=>rfl
  | some o =>
   obtain ⟨o1,q1⟩:=b0.there T o q (by simp);obtain ⟨o2,q2⟩:=F.un.there T o1 q1 (by simp);rw [hT] at q2;cases q2
theorem EJ (I:Inv X aa σ H1 s1) (F:OQ X.prog X.w X.stack H1 s1 e C dx H2 s2):s2.heap.FunFrames X.base X.stack:=Lr F.un (fun _ z=>z) I.stkFree I.stack
theorem Gi {E':VS} (O:Kp X) (I:Inv X aa σ H1 s1) (F:Fly X.prog X.w X.stack H1 s1 e C dx H2 s2) :
  wpAny (model X.prog X.w) X.A (leaving X.env (.ref e)) (fun _ s3=>Fly X.prog X.w X.outer X.H₀ X.s₀ e C dx H2 s3) E' s2:=by
 obtain ⟨B,oe,vs,T,oT,ts,a1,a2,a3,a4,a5,a6,a7,a8,a9⟩:=F;have fr:=EJ I B;have hA:=I.ok.frames;rw [O.stk] at fr hA;refine Ko hA fr O.fr a1 a2 a3 a4 a5 a6 a7 fun h' L=>?_;rw [← O.stk] at L;exact JZ O I B a1 a2 (Array.getElem?_eq_some_iff.mp a3).1 (fun b z=>by subst z; exact ⟨a8,a9⟩) L
theorem Kq {E':VS} (O:Kp X) (I:Inv X aa σ H1 s1) (B:OQ X.prog X.w X.stack H1 s1 e C dx H2 s2) (T:Tb0 e s2) :
  wpAny (model X.prog X.w) X.A (leaving X.env (.ref e)) (fun _ s3=>Fly X.prog X.w X.outer X.H₀ X.s₀ e C dx H2 s3) E' s2:=by
 obtain ⟨oe,vs,a1,a2,a3⟩:=T;have fr:=EJ I B;have hA:=I.ok.frames;rw [O.stk] at fr hA;refine JX hA fr O.fr a1 a2 a3 fun h' L=>?_;rw [← O.stk] at L;exact JZ O I B a1 a2 (Array.getElem?_eq_some_iff.mp a3).1 (fun b z=>z.elim) L
end
theorem SG {CX:CXT} {qual:Str} {scope:Scope} {f:Addr} {cd:Value} {outer:List Env} {E:XK} :
  Kp (BG CX P w K mg base N qual scope f cd A outer s H E):=⟨rfl,rfl,rfl⟩
theorem Tc {qual:Str} {scope:Scope} {f:Addr} {cd:Value} {outer:List Env} {E:XK} :
  BF (CXr P w) (BG (CXr P w) P w K mg base N qual scope f cd A outer s H E) E:=by
 rintro aa σ H1 s1 e s2 I ⟨ea,C,dx,H2,rfl,F,q⟩;exact wpAny_mono (Gi (X:=BG (CXr P w) P w K mg base N qual scope f cd A outer s H E) SG I F) (fun _ s3 G=>⟨ea,C,dx,H2,rfl,G,q⟩) fun _ _ z=>z
def OR (X:Cx) (E:XK):Prop:=∀ (aa:LO) (σ:St) (H:Hp) (s:Shared) (e C:Addr) (dx:Option Addr) (H':Hp) (s':Shared),Inv X aa σ H s->OQ X.prog X.w X.stack H s e C dx H' s'->Tb0 e s'->E (.ref C) dx H'->X.xe (.ref e) s'
theorem QC {qual:Str} {scope:Scope} {f:Addr} {cd:Value} {outer:List Env} {E:XK} :
  OR (BG (CXr P w) P w K mg base N qual scope f cd A outer s H E) E:=by
 intro aa σ H1 s1 ea C dx H2 s2 I F T q;exact wpAny_mono (Kq (X:=BG (CXr P w) P w K mg base N qual scope f cd A outer s H E) SG I F T) (fun _ s3 G=>⟨ea,C,dx,H2,rfl,G,q⟩) fun _ _ z=>z
structure Ja (B:String) (bm:List Value):Prop where
 b:bm.contains (.type B)=true
 base:bm.contains (.type "BaseException")=true
 na:bm.contains (.type "AttributeError")=false
 nn:bm.contains (.type "NameError")=false
section
variable {M:Model} {g:Array GenState} {d:Drawn} {t:Nat} {os:OsState}
variable {nm qn:Str} {N:Addr} {bs bm bmB:List Value} {bc:Bool} {sn:List Str} {sub:List Value} {ab:Bool} {col:Option Bool} {dd:Option Addr} {k0 k1 k2 k3 k5:Option Value} {B newId initId:String}
theorem Kr (F:ExcBaseFacts B newId initId bmB) (T:Ja B bm) {rest:List Value} {Q:Unit->Shared->Prop} (oC:h.get? C=some (excClassObj nm qn C N bs bm bc sn sub ab col dd k0 k1 k2 k3 k5 newId))
  (fin:Q () ⟨h,g,d,t,os⟩):wpAny M A (checkBuiltinCall newId ⟨.ref C :: rest,[]⟩) Q E ⟨h,g,d,t,os⟩:=by
 have c1:(Value.ref C :: bm).contains (.type B)=true:=by rw [contains_cons,T.b]; simp
 have st:=F.noStar;simp only [checkBuiltinCall,F.newKind,F.newSplit,F.newRow]
 repeat (first | refine wpAny_loadPart_at oC ?_ | (refine wpAny_isSubtype_exc oC ?_; rw [c1]) | refine wpAny_staticBase_exc oC ?_ | refine wpAny_madeBy_exc oC ?_ | simp only [bne_self_eq_false,Bool.false_eq_true,if_false] | wp_step)
 exact fin
end
section
variable {prog:Program} {R:Result->Shared->Prop} {g:Array GenState} {d:Drawn} {t:Nat} {os:OsState}
variable {nm qn:Str} {N:Addr} {bs bm bmB:List Value} {bc:Bool} {sn:List Str} {sub:List Value} {ab:Bool} {col:Option Bool} {dd:Option Addr} {k0 k1 k2 k3 k5:Option Value} {B newId initId:String}
noncomputable abbrev Ks (C:Addr) (h:Heap):Obj:={ cls:=.ref C,data:=.fields #[.ref h.objs.size,.none,.none,.none,.bool false,.none] }
noncomputable abbrev Db (C:Addr) (rest:List Value) (h:Heap):Heap:=(h.push { cls:=.type "tuple", data:=.seq rest.toArray }).push (Ks C h)
theorem OS (F:ExcBaseFacts B newId initId bmB) (T:Ja B bm) {rest:List Value} (oC:h.get? C=some (excClassObj nm qn C N bs bm bc sn sub ab col dd k0 k1 k2 k3 k5 newId))
  (fin:R (.ok (.ret (.ref (h.objs.size + 1)))) ⟨Db C rest h,g,d,t,os⟩) (hz:rest.length <= sizeLine):codeAny (model prog w) A (.builtin newId ⟨.ref C :: rest,[]⟩) R ⟨h,g,d,t,os⟩:=by
 have e1:=F.ends;have c1:(Value.ref C :: bm).contains (.type B)=true:=by rw [contains_cons,T.b]; simp
 have c2:(Value.ref C :: bm).contains (.type "AttributeError")=false:=by rw [contains_cons,T.na]; rfl
 have c3:(Value.ref C :: bm).contains (.type "NameError")=false:=by rw [contains_cons,T.nn]; rfl
 refine codeAny_builtinAt F.entry ?_;unfold Builtin.«BaseException.__new__»;refine PySem.wpAt_bind ?_;show PySem.wpAt _ _ _ (stack >>= _) _ _ _;refine PySem.wpAt_bind (PySem.wpAt_stack fun p below=>PySem.wpAt_of_wpAny ?_)
 wp_walk
 refine PySem.wpAt_of_wpAny ?_;rw [F.owner]
 repeat (first | with_reducible refine wpAny_madeHere_exc F.canon oC ?_ | with_reducible refine wpAny_loadPart_at oC ?_ | (with_reducible refine wpAny_isSubtype_exc oC ?_; first | rw [c1] | rw [c2] | rw [c3]) | wp_step)
 show R _ _;rw [size_push];exact fin
theorem Kt (F:ExcBaseFacts B newId initId bmB) (T:Ja B bm) {rest:List Value} {fI:Addr} {oI:Obj} {Q:Fin->Shared->Prop}
  (oC:h.get? C=some (excClassObj nm qn C N bs bm bc sn sub ab col dd k0 k1 k2 k3 k5 newId)) (li:W.Looks (model prog w) h (typeLookup (.ref C) "__init__") (some (.ref fI))) (oF:h.get? fI=some oI) (cF:oI.cls=.type "function") (hz:rest.length <= sizeLine)
  (fin:wpAny (model prog w) A (call (.ref fI) (.ref (h.objs.size + 1) :: rest)) (fun r s'=>r=.none/\Q (.done (.ret (.ref (h.objs.size + 1)))) s') E ⟨Db C rest h,g,d,t,os⟩) :
  wpAny (model prog w) A (Builtin.«type.__call__» ⟨.ref C :: rest,[]⟩) Q E ⟨h,g,d,t,os⟩:=by
 repeat (first | with_reducible refine wpAny_loadPart_at oC ?_ | with_reducible refine wpAny_madeBy_exc oC ?_ | wp_step)
 refine codeAny_call_builtin_code (Code.quiet_builtin _ F.quiet) (Kr F T oC (OS F T oC ?_ hz));show wpAny _ _ _ _ _ _;have kp:∀ b o,h.get? b=some o->(Db C rest h).get? b=some o:=fun b o z=>get?_push_of_some _ (get?_push_of_some _ z);have oC1:=kp _ _ oC;have ge:(Db C rest h).get? (h.objs.size + 1)=some (Ks C h):=by unfold Db; heap_get
 have c1:(Value.ref C :: bm).contains (.ref C)=true:=by simp
 unfold isInstance
 repeat (first | with_reducible refine wpAny_loadPart_at ge ?_ | (with_reducible refine wpAny_isSubtype_exc oC1 ?_; rw [c1]) | wp_step)
 refine li A _ E ⟨Db C rest h,g,d,t,os⟩ kp ?_;refine wpAny_holding (wpAny_bind ?_);unfold bindSpecial;refine wpAny_bind (wpAny_typeOf (T := "function") ⟨_,kp _ _ oF,cF⟩ ?_);rw [if_pos (by decide)];refine wpAny_pure (wpAny_bind (wpAny_mono fin (fun r s' z=>?_) fun _ _ x=>x));obtain ⟨rfl,hQ⟩:=z
 wp_walk
 exact hQ
theorem Mz (F:ExcBaseFacts B newId initId bmB) (T:Ja B bm) {rest:List Value} {fI:Addr} {oI:Obj} {Q:VS}
  (oC:h.get? C=some (excClassObj nm qn C N bs bm bc sn sub ab col dd k0 k1 k2 k3 k5 newId)) (li:W.Looks (model prog w) h (typeLookup (.ref C) "__init__") (some (.ref fI))) (oF:h.get? fI=some oI) (cF:oI.cls=.type "function") (hz:rest.length <= sizeLine)
  (fin:wpAny (model prog w) (A.under (.builtin "type.__call__" ⟨.ref C :: rest,[]⟩)) (call (.ref fI) (.ref (h.objs.size + 1) :: rest)) (fun r s'=>r=.none/\Q (.ref (h.objs.size + 1)) s') E ⟨Db C rest h,g,d,t,os⟩) :
  wpAny (model prog w) A (call (.ref C) rest) Q E ⟨h,g,d,t,os⟩:=by
 have f1:=tc_lookup;have f2:=tc_bind (.ref C);have hT:(⟨h,g,d,t,os⟩:Shared).TypeIs (.ref C) "type" := ⟨_,oC,rfl⟩;refine wpAny_call (codeAny_of_tree ?_);show wpAny _ _ (callAny (.ref C) _) _ _ _
 repeat (any_goals (first | assumption | with_reducible refine wpAny_loadPart_at oC ?_ | wp_step))
 refine ⟨rfl,?_⟩;exact codeAny_call_builtin_at (Code.quiet_builtin _ (by decide +kernel)) entry_typeCall (wpAny_check_type_call_sub oC (Kt F T oC li oF cF hz fin))
end
noncomputable def Eu (e C:Addr) (dx:Option Addr):HO:=.ext fun h=>∃ oe vs,h.get? e=some oe/\oe.cls=.ref C/\oe.dict=dx/\oe.data=.fields vs/\vs.size=6/\vs[1]?=some .none/\vs[2]?=some .none
noncomputable def A9 (K:FG) (C:Addr):Bool:=match K.lookup C with
 | some ⟨.type "type", _,.cls cd,sl⟩=>(match cd.mro,sl.toList with
  | .ref C' :: bm,[_,_,_,_,some (.builtin n),_]=>C' == C && !cd.hasDel && n == "ValueError.__new__" && bm.contains (.type "BaseException") && bm.contains (.type "ValueError") && !bm.contains (.type "AttributeError") && !bm.contains (.type "NameError")
  | _,_=>false)
 | _=>false
theorem F3 (X:K.In h) (q:A9 K C=true):∃ nm qn N bs bm bc sn sub ab col dd k0 k1 k2 k3 k5,h.get? C=some (excClassObj nm qn C N bs bm bc sn sub ab col dd k0 k1 k2 k3 k5 "ValueError.__new__")/\Ja "ValueError" bm:=by
 unfold A9 at q;split at q
 ·rename_i dd cd sl ho;split at q
  ·rename_i C' bm k0 k1 k2 k3 n k5 hm hs;simp only [Bool.and_eq_true,beq_iff_eq,Bool.not_eq_true'] at q;obtain ⟨⟨⟨⟨⟨⟨rfl,hdel⟩,rfl⟩,hb⟩,ht⟩,ha⟩,hn⟩:=q;obtain ⟨nm,bs,mro,ns,qn,hd,sn,sub,ab,col,del⟩:=cd
   dsimp only at hm hdel
   subst hm hdel;obtain ⟨l⟩:=sl;simp only at hs;subst hs;exact ⟨nm,qn,ns,bs,bm,hd,sn,sub,ab,col,dd,k0,k1,k2,k3,k5,X _ _ ho,⟨ht,hb,ha,hn⟩⟩
  ·cases q
 ·cases q
structure MkX (K:FG) (C f:Addr):Prop where
 cls:A9 K C=true
 init:W.findIn K (.ref C) "__init__" = some (some (.ref f))
 fn:W.isFn K (.ref f)=true
 fo:∃ o,K.lookup f=some o/\o.cls=.type "function"
 kp:W.keepIn K (.ref C)=true
section
variable {CX:CXT} {k:Nat} {f:Addr} {fd:FuncData} {ps:List Str} {sp:Sp} {dvs:List V} {ds:List Value} {E:XK} {m:Str} {p apos:Pos} {o:Expr} {es:List Expr} {t:TA}
theorem M0 (C:Addr) (rest:List Value) (h:Heap):(Db C rest h).get? (h.objs.size + 1)=some (Ks C h):=by unfold Db; heap_get
theorem Inv.madeX (I:Inv X aa σ H s) (rest:List Value):Inv X aa σ (upd H (s.heap.objs.size + 1) (Eu (s.heap.objs.size + 1) C none)) { s with heap:=Db C rest s.heap }:=by
 have kp:∀ b o,s.heap.get? b=some o->(Db C rest s.heap).get? b=some o:=fun b o z=>get?_push_of_some _ (get?_push_of_some _ z);refine I.laid (t':=s.toks) kp (Nat.le_succ _) ?_;have ge:=M0 C rest s.heap;exact ⟨⟨_,_,ge,rfl,rfl,rfl,rfl,rfl,rfl⟩,⟨_,ge⟩,fun h1 h2 ⟨oe,vs,a,r⟩ k=>⟨oe,vs,k _ a,r⟩⟩
theorem M6 {Q:VK} {vs:List V} (M:MkX X.K C f) (F:AX X.prog X.w X.K X.mg X.base CX k f fd ps sp) (hr:Room (k + 1) X.A) (hb:Binds X.K fd ps ds) (hd:Vals dvs ds) (hx:BF CX X E) (I:Inv X aa σ H s) (r:Vals vs us) (hz:vs.length <= 1000)
  (h:∀ x,H x=none->sp (.ref x :: (vs++dvs)) (upd H x (Eu x C none)) (fun v H2=>v=.non/\Q (.ref x) H2) E):wpAny (model X.prog X.w) X.A (call (.ref C) us) (EP X aa σ Q) X.xe s:=by
 have hq:=h (s.heap.objs.size + 1) (I.hok.fresh (Nat.le_succ _));have I2:=Inv.madeX (C:=C) I us;have r2:Vals (V.ref (s.heap.objs.size + 1) :: (vs++dvs)) (Value.ref (s.heap.objs.size + 1) :: (us++ds)):=.cons rfl (r.append hd)
 have hl:(Value.ref (s.heap.objs.size + 1) :: us++ds).length=ps.length:=by
  have e:=r2.length;rw [F.len _ _ _ _ hq] at e;exact e.symm
 obtain ⟨nm,qn,N,bs,bm,bc,sn,sub,ab,col,dd,k0,k1,k2,k3,k5,oC,T⟩:=F3 I.kIn M.cls;obtain ⟨oF,lF,cF⟩:=M.fo;obtain ⟨hh,g,d,tk,os⟩:=s;refine Mz PySem.F.excBase_ValueError T oC (W.looks_findIn I.kIn M.init) (I.kIn _ _ lF) cF (by rw [← r.length]; exact Nat.le_of_lt (AO hz)) ?_;refine wpAny_call (codeAny_mono (F.run _ X.stack _ _ ⟨_,[]⟩ (Value.ref (hh.objs.size + 1) :: (us++ds)) _ _ E (hr.make C us []) (I2.env0.make C us []) (hb _ (Value.ref (hh.objs.size + 1) :: us) I2.kIn hl) r2 hq) fun r s' hq'=>?_);cases r with
 | error e=>exact hx aa σ _ _ e s' I2 hq'
 | ok fl =>
  cases fl with
  | ret u =>
   obtain ⟨v,H',I3,rv,ev,q3⟩:=I2.after hq';subst ev;exact ⟨rv,⟨V.ref (hh.objs.size + 1),H',I3,rfl,q3⟩⟩
  | next=>exact False.elim hq'
  | brk=>exact False.elim hq'
  | cont=>exact False.elim hq'
def OT (C:Addr) (sp:Sp) (dvs:List V) (E:XK) (t:TA):TE:=fun σ H Q=>t σ H fun vs H1=>vs.length <= 1000/\∀ x,H1 x=none->sp (.ref x :: (vs++dvs)) (upd H1 x (Eu x C none)) (fun v H2=>v=.non/\Q (.ref x) H2) E
theorem OU (M:MkX X.K C f) (F:AX X.prog X.w X.K X.mg X.base CX k f fd ps sp) (hr:Room (k + 1) X.A) (hg:Gl X x) (hm:X.mg x=some (.ref C)) (hb:Binds X.K fd ps ds) (hd:Vals dvs ds) (hx:BF CX X E)
  (ha:PA X (e :: es) t) (hdb:(x == ("__debug__" : Str))=false:=by decide) (he:starEach (e :: es) X.env=(false,eval e X.env) :: starEach es X.env:=by rfl) (hpl:(backTo pos (starEach es X.env)).any (·.1)=false:=by rfl) :
  PE X (.Call (.Name x p) (e :: es) [] pos) (OT C sp dvs E t):=by
 intro aa s σ H Q I h;refine wpAny_Call_Name_kw (Bb I hg hm ?_ hdb);refine W.callWith_K (h₀:=X.base) I.ok.mod.kin M.kp (thn (ha pos aa s σ H _ I h) fun us s1 ⟨vs,H1,I1,r,q⟩=>⟨I1.kIn,?_⟩) he hpl;exact M6 M F hr hb hd hx I1 r q.1 q.2
def OV (C:Addr) (te:TE) (E:XK):TS:=fun _ σ H=>te σ H fun v H1=>∃ e dx,v=.ref e/\H1 e=some (Eu e C dx)/\E (.ref C) dx (upd H1 e (Fw e C dx))
theorem M7 {H1:Hp} {e:Addr} {dx:Option Addr} (ok:HOk P w H1 h) (at_:H1 e=some (Eu e C dx)):HOk P w (upd H1 e (Fw e C dx)) h:=by
 obtain ⟨⟨oe,vs,a1,a2,a3,a4,a5,a6,a7⟩,_,_⟩:=ok _ _ at_;refine ok.write (x:=e) (e:=e) (by rw [at_]; exact True.intro) (.inl rfl) (fun b u _ q=>q) ⟨_,a1⟩ ⟨⟨oe,vs,a1,a2,a3,a4,by omega,a7⟩,⟨_,a1⟩,fun h1 h2 ⟨oe,vs,a,r⟩ k=>⟨oe,vs,k _ a,r⟩⟩
end
section
variable {M:Model} {env:Env}
theorem Jb {x:Sem Value} {Q:Flow->Shared->Prop} (hh:A.handled=none)
  (h:wpAny M A x (fun v s1=>∃ e oe vs,v=.ref e/\s1.heap.get? e=some oe/\oe.cls=.ref C/\oe.data=.fields vs/\vs[1]?=some .none /\
   (∃ nm qn N bs bm bc sn sub ab col dd k0 k1 k2 k3 k5 nid,s1.heap.get? C=some (excClassObj nm qn C N bs bm bc sn sub ab col dd k0 k1 k2 k3 k5 nid)/\bm.contains (.type "BaseException")=true)/\E (.ref e) s1) E s) :
  wpAny M A (raiseStmt env (some x) none) Q E s:=by
 unfold raiseStmt;refine wpAny_bind (wpAny_mono h (fun v s1 z=>?_) fun _ _ y=>y);obtain ⟨e,oe,vs,rfl,he,bj,hd,h1,⟨nm,qn,N,bs,bm,bc,sn,sub,ab,col,dd,k0,k1,k2,k3,k5,nid,oC,hb⟩,hE⟩:=z;have c1:(Value.ref C :: bm).contains (.type "BaseException")=true:=by rw [contains_cons,hb,Bool.or_true]
 obtain ⟨hp,g,d,tk,os⟩:=s1
 repeat (first | (with_reducible refine wpAny_loadPart_at he ?_; rw [bj]) | with_reducible refine wpAny_loadPart_at oC ?_ | (with_reducible refine wpAny_isSubtype_exc oC ?_; rw [c1]) | wp_step)
 rw [hd];refine wpAny_pure ?_;rw [h1];refine wpAny_pure ?_;rw [if_neg (by decide)];exact wpAny_pure (wpAny_raiseNew_none hh hE)
end
section
variable {E:XK} {o:Expr}
theorem OW (hR:OR X E) (hc:X.calm=true) (hC:A9 X.K C=true) (he:PE X o te):PS X (.Raise (some o) none pos) (OV C te E):=by
 intro aa s σ H D I h;rw [arm_exec_Raise];refine wpAny_bind (wpAny_standAt (Jb (C:=C) (I.ok.hd hc) (wpAny_bind (wpAny_mono (he aa s σ H _ I h) (fun v s1 z=>wpAny_bind (wpAny_standAt (wpAny_pure ?_))) fun _ _ y=>y))));obtain ⟨u,H1,I1,ru,e,dx,rfl,at_,q⟩:=z;obtain rfl:v=.ref e:=ru;obtain ⟨⟨oe,vs,a1,a2,a3,a4,a5,a6,a7⟩,_,_⟩:=I1.hok _ _ at_;obtain ⟨nm,qn,N,bs,bm,bc,sn,sub,ab,col,dd,k0,k1,k2,k3,k5,oC,T⟩:=F3 I1.kIn hC;refine ⟨e,oe,vs,rfl,a1,a2,a4,a6,⟨nm,qn,N,bs,bm,bc,sn,sub,ab,col,dd,k0,k1,k2,k3,k5,_,oC,T.base⟩,?_⟩;refine hR aa σ H1 s1 e C dx _ s1 I1 ⟨rfl,I1.bare,Un.write (x:=e) (e:=e) (by rw [at_]; exact True.intro) (.inl rfl) (fun b u _ r=>r) ⟨_,a1⟩,M7 I1.hok at_,AB⟩ ⟨oe,vs,a1,a4,a6⟩ q
end
section
variable {prog:Program} {g:Array GenState} {d:Drawn} {t:Nat} {os:OsState}
variable {nm qn:Str} {N:Addr} {bs bm bmB:List Value} {bc:Bool} {sn:List Str} {sub:List Value} {ab:Bool} {col:Option Bool} {dd:Option Addr} {k0 k1 k2 k3 k5:Option Value} {B newId initId:String}
theorem Jc (F:ExcBaseFacts B newId initId bmB) (T:Ja B bm) {M:Model} {e:Addr} {oe:Obj} {rest:List Value} {Q:Unit->Shared->Prop}
  (oC:h.get? C=some (excClassObj nm qn C N bs bm bc sn sub ab col dd k0 k1 k2 k3 k5 newId)) (he:h.get? e=some oe) (bj:oe.cls=.ref C) (fin:Q () ⟨h,g,d,t,os⟩) :
  wpAny M A (checkBuiltinCall initId ⟨.ref e :: rest,[]⟩) Q E ⟨h,g,d,t,os⟩:=by
 have c1:(Value.ref C :: bm).contains (.type B)=true:=by rw [contains_cons,T.b]; simp
 have st:=F.noStar;simp only [checkBuiltinCall,F.initKind,F.initSplit,F.initRow]
 repeat (first | (with_reducible refine wpAny_loadPart_at he ?_; rw [bj]) | with_reducible refine wpAny_loadPart_at oC ?_ | (with_reducible refine wpAny_isSubtype_exc oC ?_; rw [c1]) | wp_step)
 refine wpAny_onRaise ?_;rw [show ∀ (a b:String) (n:Nat),Bind.check ⟨.positional, "*", B,.self,[⟨"args", .varPos,false⟩]⟩ a b n (List.map (fun x=>x.fst) ({ pos:=Value.ref e :: rest }:Args).kw)=pure () from fun a b n=>check_star_args _ _ _ _ _ _];exact wpAny_pure fin
theorem Ku (F:ExcBaseFacts B newId initId bmB) (T:Ja B bm) {e:Addr} {oe:Obj} {vs:Array Value} {v0:Value} {rest:List Value} {Q:VS}
  (oC:h.get? C=some (excClassObj nm qn C N bs bm bc sn sub ab col dd k0 k1 k2 k3 k5 newId)) (he:h.get? e=some oe) (bj:oe.cls=.ref C) (hd:oe.data=.fields vs) (h0:vs[0]?=some v0) (hz:rest.length <= sizeLine)
  (fin:Q .none ⟨(h.push { cls:=.type "tuple", data:=.seq rest.toArray }).update e (Obj.mapFields (·.setIfInBounds 0 (.ref h.objs.size))),g,d,t,os⟩) :
  wpAny (model prog w) A (call (.builtin initId) (.ref e :: rest)) Q E ⟨h,g,d,t,os⟩:=by
 refine wpAny_call (codeAny_call_builtin F.init.plain F.initEntry (Jc F T oC he bj ?_));have e1:=get?_push_of_some { cls:=.type "tuple", data:=.seq rest.toArray } he;unfold Builtin.«BaseException.__init__»
 wp_walk
 rw [hd];refine wpAny_pure ?_;rw [h0];refine wpAny_pure (wpAny_bind (wpAny_setField e1 hd (Array.getElem?_eq_some_iff.mp h0).1 ?_))
 have done:∀ {E':VS},wpAny (model prog w) A.in1 (match v0 with | Value.ref _=>letGo [v0] | _=>pure ()) (fun _ s'=>Q .none s') E' ⟨(h.push { cls:=.type "tuple", data:=.seq rest.toArray }).update e (Obj.mapFields (·.setIfInBounds 0 (.ref h.objs.size))),g,d,t,os⟩:=fun {E'}=>by
  cases v0 <;> first | exact wpAny_pure fin | (wp_walk; exact fin)
 exact wpAny_mono done (fun _ s' q=>wpAny_pure q) fun _ _ z=>z
end
theorem OX {o:HO} (h:H a=some o):upd H a o=H:=by
 funext b;unfold upd;split
 ·rename_i e;rw [e,h]
 ·rfl
theorem M8 {x:V}:∀ {us:List Value},Vals (x :: xs) us->∃ u ls,us=u :: ls/\RelV x u/\Vals xs ls
 | _ :: _,.cons a b=>⟨_,_,rfl,a,b⟩
section
variable {es:List Expr} {t:TA} {np apos:Pos}
def SH (K:FG) (t:TA):TE:=fun σ H Q=>t σ H fun vs H1=>∃ a C dx rest,vs=.ref a :: rest/\rest.length <= 1000/\A9 K C=true/\H1 a=some (Eu a C dx)/\Q .non H1
theorem QD:typeOf (.type "ValueError")=pure (.type "type"):=by kernel_rfl
theorem QE:Manifest.isStub "ValueError" = false:=by decide +kernel
theorem QF (K:FG):W.findCls K (.type "ValueError") (.type "type") "__init__" = some (.val (.builtin "ValueError.__init__")):=by kernel_rfl
theorem QG:W.handedIn (.builtin "ValueError.__init__")=true:=by decide +kernel
theorem Ls:bootBuiltins "ValueError" = some (.type "ValueError"):=by decide +kernel
theorem OY {pl:Sem Bool} (hg:Gl X "ValueError") (hm:X.mg "ValueError" = none) (ha:PA X (e :: es) t) (he:starEach (e :: es) X.env=(false,eval e X.env) :: starEach es X.env:=by rfl) (hpl:(backTo pos (starEach es X.env)).any (·.1)=false:=by rfl)
  (ht:eval (.Call (.Attribute (.Name "ValueError" np) "__init__" apos) (e :: es) [] pos) X.env=(do
   let ov ← eval (.Name "ValueError" np) X.env
   standAt apos.atName
   let (f,first) ← holding [ov] (getMethod ov "__init__" pl)
   callWith pos f first (backTo pos (starEach (e :: es) X.env)) (backToKw pos (keywordEach [] X.env))):=by rfl) :
  PE X (.Call (.Attribute (.Name "ValueError" np) "__init__" apos) (e :: es) [] pos) (SH X.K t):=by
 intro aa s σ H Q I h;refine W.methodCall_KW (pl:=pl) ?_ ht;refine D8 (u:=.type "ValueError") I hg hm Ls ?_;obtain ⟨m,Fm⟩:=I.fr;have L1:=fun (Q':Value × List Value->Shared->Prop) hq=>W.method_type (prog:=X.prog) (w:=X.w) (A:=X.A) (E:=X.xe) (K:=X.K) (T := "ValueError") (name := "__init__") (pl:=pl) (v:=.builtin "ValueError.__init__") (Q:=Q') Fm I.ok.mod.kin QD QE (QF X.K) QG hq;refine L1 _ ?_;refine PyProof.Rows.callWith_builtin1 (thn (ha pos aa _ σ H _ (I.tok _) h) fun us s1 ⟨vs,H1,I1,r1,a,C,dx,rest,ev,hz,hC,at_,q⟩=>?_) he hpl;subst ev;obtain ⟨nm,qn,N,bs,bm,bc,sn,sub,ab,col,dd,k0,k1,k2,k3,k5,oC,T⟩:=F3 I1.kIn hC;obtain ⟨⟨oe,ws,a1,a2,a3,a4,a5,a6,a7⟩,_,st⟩:=I1.hok _ _ at_;obtain ⟨u0,ls,eu,ra,rr⟩:=M8 r1;subst eu
 ·obtain rfl:=ra;obtain ⟨hp,g,d,tk,os⟩:=s1;refine Ku PySem.F.excBase_ValueError T oC a1 a2 a4 (v0:=ws[0]'(by omega)) (by rw [Array.getElem?_eq_getElem]) (by rw [← rr.length]; exact Nat.le_of_lt (AO hz)) ?_;have J:=I1.kept (h':=hp.push { cls:=.type "tuple", data:=.seq ls.toArray }) (t':=tk) fun b u z=>get?_push_of_some _ z;have e1:=get?_push_of_some { cls:=.type "tuple", data:=.seq ls.toArray } a1;have e2:=get?_update_self (Obj.mapFields (·.setIfInBounds 0 (.ref hp.objs.size))) e1 (Obj.isFreed_of_fields (Obj.data_mapFields a4 _));rw [EI a4] at e2
  have J2:=J.write (x:=a) (e:=a) (o:=Eu a C dx) (t':=tk) (by rw [at_]; exact True.intro) (.inl rfl) (fun b u n z=>(get?_update_other _ _ (Ne.symm n)).trans z) ⟨_,e2⟩
   ⟨⟨_,_,e2,a2,a3,rfl,by rw [Array.size_setIfInBounds]; exact a5,by rw [Array.getElem?_setIfInBounds_ne (by decide)]; exact a6,by rw [Array.getElem?_setIfInBounds_ne (by decide)]; exact a7⟩,⟨_,e2⟩,st⟩
  rw [OX at_] at J2;exact ⟨.non,H1,J2,rfl,q⟩
end
noncomputable def Gj (P:Program) (w:World) (K:FG) (mg:SV) (base:Heap) (N:List Str) (qual:Str) (scope:Scope) (f:Addr) (cd:Value) (A:Around) (outer:List Env) (s:Shared) (H:Hp) (e:Addr) (oe:Obj):Cx :=
 { BG CX0 P w K mg base N qual scope f cd A outer s H (fun _ _ _=>False) with calm:=false,pn:=[(e,oe)],xe:=fun _ _=>False }
structure RoomS (k:Nat) (A:Around):Prop where
 dp:A.depth + 3 * k + 5 < recursionLimit
 un:A.units + 16 * k + 200 < cLine
theorem RoomS.deeper {k:Nat} {A:Around} (r:RoomS (k + 1) A) (env:Env):RoomS k (A.deeper env):=⟨by have:=r.dp; show A.depth + 1 + 3 * k + 5 < _; omega,by have:=r.un; show A.units + 3 + 16 * k + 200 < _; omega⟩
theorem Kv {ps:List Str} {qual:Str} {scope:Scope} {f:Addr} {cd:Value} {outer:List Env} {s1:Shared} {vs:List V} {e:Addr} {oe:Obj}
  (S:AJ N ps scope) (e0:Env0 P w K mg base A outer s H) (hl:vs.length=ps.length) (r:Vals vs us) (he:s.heap.get? e=some oe) (hn:H e=none) (ho:e ∉ frs outer) (hd:∀ v,oe.data ≠ .cell v)
  (x:InCallC s s.heap.objs.size (bindL (envOfC qual scope s.heap.objs.size f cd).kindOf (ps.zip us) fun _=>none) (cellsFrom (s.heap.objs.size + 1) scope.names []) (bindC (envOfC qual scope s.heap.objs.size f cd).kindOf (ps.zip us) fun _=>none) s1) :
  Inv (Gj P w K mg base N qual scope f cd A outer s H e oe) [] (Bi N vs) H s1:=by
 have A0:∃ A0:Around,A0.handled=none/\A0.frames=A.frames:=⟨{ A with handled:=none },rfl,rfl⟩;obtain ⟨A0,h1,h2⟩:=A0;have I:=FQ (CX:=CX0) (E:=fun _ _ _=>False) (A:=A0) S h1 ⟨h2.trans e0.frames,e0.mod,e0.bs,e0.bsz,e0.funs,e0.frf,e0.hok,e0.bare⟩ hl r x;obtain ⟨hh,tk,rfl,hk⟩:=x.done;have ok:=I.ok;refine ⟨⟨ok.mod,ok.kind,ok.glob,ok.blt,ok.above,ok.inj,ok.has,ok.cab,(fun z=>by cases (show false=true from z)),Around.frames_deeper e0.frames,ok.stk,ok.exf,ok.bs,ok.bsz,ok.noex,ok.exfs,ok.funs,ok.frf⟩,I.os,I.bare,I.base,I.loc,I.cell,I.free,I.freeC,fun p hp=>?_,I.hok,I.len⟩;have q:p=(e,oe):=by simpa [Gj] using hp
 subst q;exact ⟨hk _ _ he,hn,Nat.ne_of_lt (lt_size he),ho,hd⟩
end L2
namespace L2
open PySem PySem.Spec PyProof.Rows
abbrev SpS:=Addr->Obj->List V->Hp->VK->Prop
structure Lu (P:Program) (w:World) (K:FG) (mg:SV) (base:Heap) (k:Nat) (f:Addr) (fd:FuncData) (ps:List Str) (sp:SpS):Prop where
 len:∀ e oe vs H Q,sp e oe vs H Q->vs.length=ps.length
 run:∀ (A:Around) (outer:List Env) (s:Shared) (H:Hp) (args:Args) (us:List Value) (vs:List V) (Q:VK) (e:Addr) (oe:Obj),RoomS k A->Env0 P w K mg base A outer s H->A.handled=some (.ref e)->s.heap.get? e=some oe->H e=none->e ∉ frs outer->(∀ v,oe.data ≠ .cell v) ->
  BindsTo s fd args (ps.zip us)->Vals vs us->sp e oe vs H Q->codeAny (model P w) A (.call (.ref f) args) (CR CX0 outer P w H s Q fun _ _ _=>False) s
section
theorem Fun.okS {qual:Str} {st:Stmt} {f:Addr} {fd:FuncData} {ps:List Str} {k:Nat} {sp:SpS} (F:Fun K x qual st f fd) (S:AJ N ps (defScope st)) (len:∀ e oe vs H Q,sp e oe vs H Q->vs.length=ps.length)
  (bg:∀ (ad:Value) (A:Around) (outer:List Env) (s:Shared) (H:Hp) (vs:List V) (Q:VK) (e:Addr) (oe:Obj),A.handled=some (.ref e)->RoomS k (A.deeper (envOfC qual (defScope st) s.heap.objs.size f ad))->sp e oe vs H Q ->
   ∃ t,PSs (Gj P w K mg base N qual (defScope st) f ad A outer s H e oe) (defBody st) t/\t { nx:=fun _ H'=>Q .non H',rt:=Q } (Bi N vs) H):Lu P w K mg base (k + 1) f fd ps sp:=by
 obtain ⟨oc,od,kV,doc,pm,an,ad,ct,osl,rfl,lk,hcd⟩:=F.ex;refine ⟨len,fun A outer s H args us vs Q e oe hr e0 hh he hn ho hd hb r hsp=>?_⟩;have hl:=len _ _ _ _ _ hsp;have KX:K.In s.heap:=e0.mod.kin.keeps fun b o z=>(e0.bs b o z).1;have lim:s.heap.NoLimit:=e0.mod.nolimit.keeps fun b o z=>(e0.bs b o z).1
 have hk:∀ y ∈ ps.zip us,(defScope st).names.lookup y.1=some .local\/((defScope st).names.lookup y.1=some .cell/\((cellsFrom (s.heap.objs.size + 1) (defScope st).names []).lookup y.1).isSome=true):=fun ⟨n,v⟩ hy=>by
  rcases S.par n (of_mem_zip hy).1 with q | q
  ·exact .inl q
  ·exact .inr ⟨q,W.cellsFrom_some _ _ _ (.inl q)⟩
 refine codeAny_call_function (by have:=hr.dp; omega) (KX _ _ lk) rfl S.co S.gen rfl (W.codeRec_of KX hcd) (hb _ _ _ _ (wpAny_newFunctionEnv_cells S.kind hk fun env ee s1 x=>?_));subst ee;refine ⟨lim.keeps x.toInCall.keep,codeAny_func ?_⟩;obtain ⟨t,ht,hq⟩:=bg ad A outer s H vs Q e oe hh (hr.deeper _) hsp;have I:Inv (Gj P w K mg base N qual (defScope st) f ad A outer s H e oe) [] (Bi N vs) H s1:=Kv S e0 hl r he hn ho hd x;refine wpAny_mono (ht [] s1 (Bi N vs) H _ I hq) (fun fl s' z=>?_) fun _ _ z=>z.elim;cases fl with
 | ret u =>
  obtain ⟨v,σ',H',J,rv,q⟩:=z;exact ⟨v,H',J.os,J.bare,J.base,J.hok,rv,q⟩
 | next =>
  obtain ⟨σ',H',J,q⟩:=z;exact ⟨.non,H',J.os,J.bare,J.base,J.hok,rfl,q⟩
 | brk =>
  obtain ⟨_,_,_,q⟩:=z;exact q.elim
 | cont =>
  obtain ⟨_,_,_,q⟩:=z;exact q.elim
theorem QH {qual:Str} {scope:Scope} {f:Addr} {cd:Value} {outer:List Env} {e:Addr} {oe:Obj} {vs:Array Value} (hh:A.handled=some (.ref e)) (hd:oe.data=.fields vs) (h2:vs[2]?=some .none) :
  Rdy (Gj P w K mg base N qual scope f cd A outer s H e oe):=.inr ⟨e,oe,vs,hh,mem_cons_self,hd,h2⟩
end
noncomputable def del (H:Hp) (a:Addr):Hp:=fun b=>if b=a then none else H b
theorem Jd:del H a a=none:=if_pos rfl
theorem Dc {b:Addr} (h:b ≠ a):del H a b=H b:=if_neg h
section
variable {H1 H2:Hp} {s1 s2:Shared} {e:Addr} {dx:Option Addr}
theorem OZ {fs:List Addr} {oe:Obj} {vs:Array Value} {old:Addr->Prop} {h2 h':Heap} (u:Un fs [] H1 H2 h h2) (L:Gh fs e oe vs old h2 h') (at_:H2 e=some (Fw e C dx)) (hold:∀ b,old b->H2 b=none/\h.get? b=none):Un fs [] H1 (del H2 e) h h':=by
 have ne:∀ b,H2 b=none->b ≠ e:=fun b n z=>by subst z; rw [at_] at n; cases n
 have nold:∀ b o,h.get? b=some o->¬ old b:=fun b o hb z=>by rw [(hold b z).2] at hb; cases hb
 have ne2:∀ b v,H2 b=some v->(∀ φ,v ≠ .ext φ)->b ≠ e:=fun b v hv hn z=>by subst z; rw [at_] at hv; cases hv; exact hn _ rfl
 refine ⟨fun b o q n hb _=>?_,fun b o q n hb _=>?_,fun b o q n _=>?_,fun b o q _=>?_,fun b xs q=>?_,fun b o xs q=>?_,fun b ps q=>?_⟩
 ·exact L.keep b o (u.keep b o q n hb (by simp)) (ne b (u.free b o q n (by simp))) (nold b o q) hb
 ·obtain ⟨sl,q1⟩:=u.slot b o q n hb (by simp);obtain ⟨sl2,q2⟩:=L.slot b _ q1 (ne b (u.free b o q n (by simp))) (nold b o q) hb;exact ⟨sl2,q2⟩
 ·have z:=u.free b o q n (by simp);rw [Dc (ne b z)];exact z
 ·obtain ⟨o1,q1⟩:=u.there b o q (by simp);exact L.there b o1 q1
 ·have z:=u.tups b xs q;rw [Dc (ne2 b _ z fun _ y=>nomatch y)];exact z
 ·have z:=u.frzs b o xs q;rw [Dc (ne2 b _ z fun _ y=>nomatch y)];exact z
 ·obtain ⟨m,z⟩:=u.tbls b ps q;exact ⟨m,by rw [Dc (ne2 b _ z fun _ y=>nomatch y)]; exact z⟩
theorem QI (ok:HOk P w H2 h) (at_:H2 e=some (Fw e C dx)):HOk P w (del H2 e) h:=fun b u q=>by
 have hb:b ≠ e:=fun z=>by subst z; rw [Jd] at q; cases q
 rw [Dc hb] at q;have ne2:∀ c v,H2 c=some v->(∀ φ,v ≠ .ext φ)->c ≠ e:=fun c v hv hn z=>by subst z; rw [at_] at hv; cases hv; exact hn _ rfl
 exact (ok b u q).stay (fun _ _ _ z=>z) (fun c z=>by rw [Dc (ne2 c _ z fun _ y=>nomatch y)]; exact z) fun c xs z=>by rw [Dc (ne2 c _ z fun _ y=>nomatch y)]; exact z
structure Cgt (C:Addr) (dx:Option Addr) (e:Addr) (oe:Obj) (T:Addr) (oT:Obj):Prop where
 cls:oe.cls=.ref C
 dict:oe.dict=dx
 fld:∃ vs,oe.data=.fields vs/\vs[1]?=some (.ref T)/\vs[2]?=some .none
 tb:∃ ts,oT.data=.fields ts/\ts[3]?=some .none
theorem SI {E':VS} {Q:Unit->Shared->Prop} (O:Kp X) (I:Inv X aa σ H1 s1) (F:Fly X.prog X.w X.stack H1 s1 e C dx H2 s2)
  (h:∀ s3 oe T oT,Cgt C dx e oe T oT->Inv X ((e,oe) :: (T,oT) :: aa) σ (del H2 e) s3->Q () s3) :
  wpAny (model X.prog X.w) X.A (noteFrame (.ref e) X.env) (fun _ s3=>wpAny (model X.prog X.w) X.A (setFlight (.ref e) none) Q E' s3) E' s2:=by
 obtain ⟨B,oe,vs,T,oT,ts,a1,a2,a3,a4,a5,a6,a7,a8,a9⟩:=F;have fr:=EJ I B;have hA:=I.ok.frames;rw [O.stk] at fr hA;refine Hr hA fr O.fr a1 a2 a3 a4 a5 a6 a7 fun h' L=>?_;rw [← O.stk] at L;have hold:∀ b,b=T->H2 b=none/\s1.heap.get? b=none:=fun b z=>by subst z; exact ⟨a8,a9⟩
 have free2:∀ b ∈ frs X.stack,H2 b=none:=fun b hb=>by
  obtain ⟨_,o,ho,_⟩:=I.stack.mem hb;exact B.un.free b o ho (I.stkFree b hb) (by simp)
 have ok3:=JY B.hok L free2 (fun b z=>(hold b z).1) a1 a2 B.at_;obtain ⟨T',oT',ts',b1,b2,b3,b4,b5⟩:=L.tb;obtain ⟨⟨oe',vs',c1,c2,c3,c4,c5,c6⟩,_,_⟩:=B.hok _ _ B.at_;rw [a1] at c1;cases c1;rw [a2] at c4;cases c4;have I3:Inv X aa σ (del H2 e) { s2 with heap:=h' }:=I.call' (ch:=[]) B.os (OZ B.un L B.at_ hold) (QI ok3 B.at_) B.bare fun b z=>nomatch z;have hT0:s2.heap.get? T'=none:=Heap.get?_none_of_le b1;have hTH:H2 T'=none:=B.hok.fresh b1;have hTe:T' ≠ e:=fun z=>by subst z; rw [a1] at hT0; cases hT0
 have locs:∃ o,s2.heap.get? X.env.locals=some o:=by
  obtain ⟨m,⟨o,_,_,ho,_⟩,_⟩:=id I.loc;exact B.un.there _ o ho (by simp)
 have fsIn:∀ b ∈ X.fs,∃ o,s2.heap.get? b=some o:=fun b hb=>by
  obtain ⟨_,o,ho,_⟩:=I.funs.mem hb;exact B.un.there b o ho (by simp)
 have upfs:∀ b ∈ X.fs,b ∈ frs X.stack:=fun b hb=>by
  rw [O.stk];unfold frs;rw [filterMap_cons,O.fr];exact mem_cons_of_mem _ hb
 refine h _ { oe with data:=.fields (vs.setIfInBounds 1 (.ref T')) } T' oT' ⟨c2,c3,⟨vs.setIfInBounds 1 (.ref T'),rfl,by simp [(Array.getElem?_eq_some_iff.mp a3).1],by rw [Array.getElem?_setIfInBounds_ne (by decide)]; exact c6⟩,⟨ts',b3,b4⟩⟩ (I3.pins_of fun p hp=>?_);rcases mem_cons.mp hp with z | z
 ·subst z;refine ⟨b5,Jd,fun z=>?_,fun z=>?_,fun v z=>by cases z⟩
  ·obtain ⟨m,⟨o,_,_,ho,_⟩,_⟩:=id I.loc;have n1:=B.un.free _ _ ho I.free (by simp);rw [← z,B.at_] at n1;cases n1
  ·have n1:=free2 e (upfs e z);rw [B.at_] at n1;cases n1
 rcases mem_cons.mp z with z | z
 ·subst z;refine ⟨b2,by rw [Dc hTe]; exact hTH,fun z=>?_,fun z=>?_,fun v z=>by rw [b3] at z; cases z⟩
  ·obtain ⟨o,ho⟩:=locs;rw [← z,hT0] at ho;cases ho
  ·obtain ⟨o,ho⟩:=fsIn _ z;rw [hT0] at ho;cases ho
 ·exact I3.pin p (mem_append_right _ z)
end
noncomputable def EK (K:FG) (C:Addr):List Value:=match K.lookup C with
 | some ⟨_,_,.cls cd,_⟩=>cd.mro
 | _=>[]
theorem Je (X:K.In h) (q:A9 K C=true):∃ nm qn N bs bm bc sn sub ab col dd k0 k1 k2 k3 k5,h.get? C=some (excClassObj nm qn C N bs bm bc sn sub ab col dd k0 k1 k2 k3 k5 "ValueError.__new__")/\Ja "ValueError" bm/\EK K C=.ref C :: bm:=by
 obtain ⟨nm,qn,N,bs,bm,bc,sn,sub,ab,col,dd,k0,k1,k2,k3,k5,oC,T⟩:=F3 X q;refine ⟨nm,qn,N,bs,bm,bc,sn,sub,ab,col,dd,k0,k1,k2,k3,k5,oC,T,?_⟩;unfold A9 at q;unfold EK;split at q
 ·rename_i dd' cd sl ho;rw [ho];have e:=X _ _ ho;rw [oC] at e;have e1:=Option.some.inj e;have e3:=congrArg Obj.data e1;injection e3 with e2
  rw [← e2]
 ·cases q
section
variable {M:Model} {g:Array GenState} {d:Drawn} {t:Nat} {os:OsState}
variable {nm qn nm' qn':Str} {N D N':Addr} {bs bm bs' bm':List Value} {bc hdct':Bool} {sn sn':List Str} {sub sub':List Value} {ab ab':Bool} {col col':Option Bool} {dd dd':Option Addr} {k0 k1 k2 k3 k5 l0 l1 l2 l3 l5:Option Value} {newId newId':String}
theorem Ii {e:Addr} {oe:Obj} {Q:Bool->Shared->Prop} (oC:h.get? C=some (excClassObj nm qn C N bs bm bc sn sub ab col dd k0 k1 k2 k3 k5 newId)) (oD:h.get? D=some (excClassObj nm' qn' D N' bs' bm' hdct' sn' sub' ab' col' dd' l0 l1 l2 l3 l5 newId'))
  (he:h.get? e=some oe) (bj:oe.cls=.ref C) (bp:bm'.contains (.type "BaseException")=true) (hq:Q ((Value.ref C :: bm).contains (.ref D)) ⟨h,g,d,t,os⟩):wpAny M A (excMatches (.ref e) (.ref D)) Q E ⟨h,g,d,t,os⟩:=by
 have hcB:(Value.ref D :: bm').contains (.type "BaseException")=true:=by rw [contains_cons,bp,Bool.or_true]
 have f:=tc_notTuple;unfold excMatches;generalize hb:(Value.ref C :: bm).contains (.ref D)=b at hq
 repeat (first | (with_reducible refine wpAny_loadPart_at he ?_; rw [bj]) | with_reducible refine wpAny_loadPart_at oD ?_ | (with_reducible refine wpAny_isSubtype_exc oD ?_; rw [hcB]) | (with_reducible refine wpAny_isSubtype_exc oC ?_; rw [hb]) | wp_step)
 cases b <;> (wp_walk; exact hq)
end
noncomputable def BO (X:Cx) (e:Addr) (oe:Obj) (T:Addr) (oT:Obj):Cx:={ X with A:=X.A.mark (some (.ref e)),calm:=false,pn:=X.pn++[(e,oe),(T,oT)],xe:=fun _ _=>False }
section
variable {e T:Addr} {oe oT:Obj}
theorem Inv.mark (I:Inv X ((e,oe) :: (T,oT) :: aa) σ H s):Inv (BO X e oe T oT) aa σ H s :=
 ⟨⟨I.ok.mod,I.ok.kind,I.ok.glob,I.ok.blt,I.ok.above,I.ok.inj,I.ok.has,I.ok.cab,(fun z=>by cases (show false=true from z)),I.ok.frames,I.ok.stk,I.ok.exf,I.ok.bs,I.ok.bsz,I.ok.noex,I.ok.exfs,I.ok.funs,I.ok.frf⟩,I.os,I.bare,I.base,I.loc,I.cell,I.free,I.freeC,
  fun p hp=>I.pin p (by simpa [BO] using hp),I.hok,I.len⟩
theorem Inv.unmark (ok:X.Ok) (I:Inv (BO X e oe T oT) aa σ H s):Inv X ((e,oe) :: (T,oT) :: aa) σ H s :=
 ⟨ok,I.os,I.bare,I.base,I.loc,I.cell,I.free,I.freeC,fun p hp=>I.pin p (by simpa [BO] using hp),I.hok,I.len⟩
theorem Inv.less {q:LO} (I:Inv X (q++aa) σ H s):Inv X aa σ H s:=I.pins_of fun p hp=>I.pin p (mem_append_right _ (mem_append_right _ hp))
theorem Inv.nameless {h':Heap} {m':SV} {tk:Nat} (I:Inv X aa σ H s) (hn:h'.Ns X.env.locals m') (hs:Heap.SameBut X.env.locals s.heap h'):Inv X aa (List.replicate σ.length none) H { s with heap:=h',toks:=tk }:=by
 obtain ⟨m,⟨oL,_,_,hoL,_⟩,_⟩:=id I.loc;refine ⟨I.ok,I.os,I.bare,⟨fun b o e n hb hx=>?_,fun b o e n hb hx=>?_,I.base.free,fun b o e hx=>?_,I.base.tups,I.base.frzs,I.base.tbls⟩,⟨_,hn,fun j y v' e1 e2 e3=>?_⟩,fun y c e=>?_,I.free,I.freeC,fun p hp=>?_,fun b ob e=>?_,by simpa using I.len⟩
 ·exact (hs.2 b (Nat.ne_of_lt (Nat.lt_of_lt_of_le (lt_size e) I.ok.above))).trans (I.base.keep b o e n hb hx)
 ·obtain ⟨sl,e1⟩:=I.base.slot b o e n hb hx;exact ⟨sl,(hs.2 b (Nat.ne_of_lt (Nat.lt_of_lt_of_le (lt_size e) I.ok.above))).trans e1⟩
 ·obtain ⟨o',e1⟩:=I.base.there b o e hx;exact ⟨o',(hs.2 b (Nat.ne_of_lt (Nat.lt_of_lt_of_le (lt_size e) I.ok.above))).trans e1⟩
 ·rw [List.getElem?_replicate] at e2;split at e2 <;> cases e2
 ·obtain ⟨w',z⟩:=I.cell y c e;exact ⟨w',z.sameBut hs (I.cne y c e)⟩
 ·obtain ⟨e,n,ne,nf,d⟩:=I.pin p hp;exact ⟨(hs.2 p.1 ne).trans e,n,ne,nf,d⟩
 ·refine (I.hok b ob e).stay (fun c w' hc q=>(hs.2 c ?_).trans q) (fun _ q=>q) fun _ _ q=>q;intro z;subst z;rcases hc with z | hc
  ·rw [← z,I.free] at e; cases e
  ·rw [I.free] at hc; cases hc
end
def PH (X:Cx) (C:Addr) (dx:Option Addr) (hs:List ExceptHandler) (t:Addr->TS):Prop :=
 ∀ (aa:LO) (s:Shared) (σ:St) (H:Hp) (D:D7) (e:Addr) (oe:Obj) (T:Addr) (oT:Obj),Cgt C dx e oe T oT->Inv X ((e,oe) :: (T,oT) :: aa) σ H s->t e D σ H->wpAny (model X.prog X.w) X.A (handleBy (.ref e) X.env hs) (SP X aa D) X.xe s
section
variable {Dn:Addr} {dx:Option Addr} {hs:List ExceptHandler} {t:Addr->TS} {np:Pos} {name:Option Str} {body:List Stmt}
theorem Hs (e:Addr):Value.ref e ≠ byPass:=by intro q; cases q
theorem Ht {e T:Addr} {oe oT:Obj} (hC:A9 X.K C=true) (hD:A9 X.K Dn=true) (c:Cgt C dx e oe T oT) (I:Inv X ((e,oe) :: (T,oT) :: aa) σ H s) {Q:Bool->Shared->Prop}
  (h:Q ((EK X.K C).contains (.ref Dn)) s):wpAny (model X.prog X.w) A (excMatches (.ref e) (.ref Dn)) Q E s:=by
 obtain ⟨nm,qn,N,bs,bm,bc,sn,sub,ab,col,dd,k0,k1,k2,k3,k5,oC,T1,e1⟩:=Je I.kIn hC;obtain ⟨nm',qn',N',bs',bm',hdct',sn',sub',ab',col',dd',l0,l1,l2,l3,l5,oD,T2,e2⟩:=Je I.kIn hD;have he:=(I.pin (e,oe) (by simp)).1;rw [e1] at h;obtain ⟨hp,g,d,tk,os⟩:=s;exact Ii oC oD he c.cls T2.base h
theorem Bz (hC:A9 X.K C=true) (hD:A9 X.K Dn=true) (hg:Gl X x) (hm:X.mg x=some (.ref Dn)) (hs':(EK X.K C).contains (.ref Dn)=false) (hr:PH X C dx hs t) (hdb:(x == ("__debug__" : Str))=false:=by decide) :
  PH X C dx (.ExceptHandler (some (.Name x np)) name body pos :: hs) t:=by
 intro aa s σ H D e oe T oT c I h;refine wpAny_handleBy_cons (codeAny_handlers_test ?_) (Hs e);refine Bb (X:=BO X e oe T oT) I.mark hg hm ?_ hdb;refine Ht hC hD c I ?_;rw [hs'];exact hr aa s σ H D e oe T oT c I h
def Lv (i:Nat) (tb:TS):Addr->TS:=fun e D σ H=>tb { nx:=fun _ _=>False,rt:=D.rt } (σ.set i (some (.ref e))) H
theorem Lw {n:Str} {b₀:Stmt} {i:Nat} {tb:Addr->TS} (hN:X.N.Nodup) (hi:X.N[i]?=some n) (hl:X.env.scope.names.lookup n=some .local) (hC:A9 X.K C=true) (hD:A9 X.K Dn=true) (hg:Gl X x) (hm:X.mg x=some (.ref Dn)) (hs':(EK X.K C).contains (.ref Dn)=true)
  (hb:∀ e oe T oT,Cgt C dx e oe T oT->PSs (BO X e oe T oT) (b₀ :: body) (tb e)) (hdb:(x == ("__debug__" : Str))=false:=by decide) :
  PH X C dx (.ExceptHandler (some (.Name x np)) (some n) (b₀ :: body) pos :: hs) (fun e=>Lv i (tb e) e):=by
 intro aa s σ H D e oe T oT c I h;refine wpAny_handleBy_cons (codeAny_handlers_test ?_) (Hs e);refine Bb (X:=BO X e oe T oT) I.mark hg hm ?_ hdb;refine Ht hC hD c I ?_;rw [hs'];refine codeAny_handlers_suite_as ?_;obtain ⟨vs,hd,h1,h2⟩:=c.fld;obtain ⟨ts,hdT,h3⟩:=c.tb;have he:=(I.pin (e,oe) (by simp)).1;have hT:=(I.pin (T,oT) (by simp)).1;refine wpAny_setFlight_none he hd h1 hT hdT (Array.getElem?_eq_some_iff.mp h3).1 ?_
 have I1:Inv X ((e,oe) :: (T,oT) :: aa) σ H { s with heap:=s.heap.update T (Obj.mapFields (·.setIfInBounds 3 .none)) }:=I.kept (t':=s.toks) fun b u q=>by
  by_cases z:b=T
  ·subst z;have e1:=get?_update_self (Obj.mapFields (·.setIfInBounds 3 Value.none)) hT (Obj.isFreed_of_fields (Obj.data_mapFields hdT _));rw [EI hdT] at e1
   have e2:ts.setIfInBounds 3 Value.none=ts:=by
    obtain ⟨l1,l2⟩:=Array.getElem?_eq_some_iff.mp h3;rw [Array.setIfInBounds,dif_pos l1]
    conv=>lhs; rw [← l2]
    exact Array.set_getElem_self l1
   rw [e2,← hdT] at e1;rw [show s.heap.get? b=some oT from hT] at q;cases q;exact e1
  ·exact (get?_update_other _ _ (Ne.symm z)).trans q
 refine CM (X:=BO X e oe T oT) (v:=.ref e) I1.mark hN hi (.inl hl) rfl (fun s2 I2=>?_) (.inr hl);refine wpAny_mono (hb e oe T oT c aa s2 _ H _ I2 h) (fun fl s3 z=>?_) fun _ _ z=>z.elim;cases fl with
 | ret u =>
  obtain ⟨v,σ',H',J,rv,q⟩:=z;have J':=J.unmark I.ok;obtain ⟨m,hn,_⟩:=id J'.loc;have bj:(X.env.scope.kind == .class || (X.env.scope.kind == .module && X.env.locals != X.env.globals))=false:=by rw [I.ok.kind]; rfl
  exact wpAny_nameGoes hl hn bj fun h' m' hn' hs'=>⟨v,_,H',(J'.nameless hn' hs').less (q:=[(e,oe),(T,oT)]),rv,q⟩
 | next =>
  obtain ⟨_,_,_,q⟩:=z;exact q.elim
 | brk =>
  obtain ⟨_,_,_,q⟩:=z;exact q.elim
 | cont =>
  obtain ⟨_,_,_,q⟩:=z;exact q.elim
end
noncomputable def Ew (X:Cx) (P0:LO) (xe:VS):Cx:={ X with pn:=X.pn++P0,xe:=xe }
section
variable {P0:LO} {xe:VS}
theorem Cx.Ok.tr (ok:X.Ok):(Ew X P0 xe).Ok:=⟨ok.mod,ok.kind,ok.glob,ok.blt,ok.above,ok.inj,ok.has,ok.cab,ok.hd,ok.frames,ok.stk,ok.exf,ok.bs,ok.bsz,ok.noex,ok.exfs,ok.funs,ok.frf⟩
theorem Cx.Ok.untr (ok:(Ew X P0 xe).Ok):X.Ok:=⟨ok.mod,ok.kind,ok.glob,ok.blt,ok.above,ok.inj,ok.has,ok.cab,ok.hd,ok.frames,ok.stk,ok.exf,ok.bs,ok.bsz,ok.noex,ok.exfs,ok.funs,ok.frf⟩
theorem Inv.tr (I:Inv X P0 σ H s):Inv (Ew X P0 xe) [] σ H s:=⟨I.ok.tr,I.os,I.bare,I.base,I.loc,I.cell,I.free,I.freeC,fun p hp=>I.pin p (by simpa [Ew] using hp),I.hok,I.len⟩
theorem Inv.untr (I:Inv (Ew X P0 xe) aa σ H s):Inv X P0 σ H s:=⟨I.ok.untr,I.os,I.bare,I.base,I.loc,I.cell,I.free,I.freeC,fun p hp=>I.pin p (by
 rcases mem_append.mp hp with z | z
 ·exact mem_append_left _ (mem_append_left _ z)
 ·exact mem_append_left _ (mem_append_right _ z)),I.hok,I.len⟩
end
def QJ (n:Nat) (th:Addr->Option Addr->Addr->TS) (D:D7):XK:=fun Cv dx H2=>∃ C,Cv=.ref C/\∀ e,H2 e=some (Fw e C dx)->th C dx e D (List.replicate n none) (del H2 e)
def Ub (n:Nat) (tb:XK->TS) (th:Addr->Option Addr->Addr->TS):TS:=fun D σ H=>tb (QJ n th D) { D with nx:=D.nx } σ H
section
variable {body:List Stmt} {h₀:ExceptHandler} {hs:List ExceptHandler} {tb:XK->TS} {th:Addr->Option Addr->Addr->TS} {Cs:Addr->Prop}
theorem SJ (O:Kp X) (hb:∀ P0 xe E,BF (CXr X.prog X.w) (Ew X P0 xe) E->PSs (Ew X P0 xe) body (tb E)) (hh:∀ C dx,PH X C dx (h₀ :: hs) (th C dx)) :
  PS X (.Try body (h₀ :: hs) [] [] pos) (Ub X.N.length tb th):=by
 intro aa s σ H D I h;refine wpAny_Try_except ?_
 let E:XK:=QJ X.N.length th D
 let xe:Value->Shared->Prop:=fun ev s2=>∃ σ1 H1 s1 ea C dx H2,ev=.ref ea/\Inv X aa σ1 H1 s1/\Fly X.prog X.w X.stack H1 s1 ea C dx H2 s2/\E (.ref C) dx H2
 have hp:BF (CXr X.prog X.w) (Ew X aa xe) E:=by
  rintro pins' σ1 H1 s1 ev s2 I1 ⟨ea,C,dx,H2,rfl,F,q⟩;exact ⟨σ1,H1,s1,ea,C,dx,H2,rfl,I1.untr,F,q⟩
 have ok:=I.ok;refine wpAny_mono (hb aa xe E hp [] s σ H _ I.tr h) (fun fl s1 z=>?_) fun ev s2 z=>?_
 ·cases fl with
  | next =>
   obtain ⟨σ',H',J,q⟩:=z;exact wpAny_execs_nil ⟨σ',H',J.untr,q⟩
  | brk=>obtain ⟨σ',H',J,q⟩:=z; exact ⟨σ',H',J.untr,q⟩
  | cont=>obtain ⟨σ',H',J,q⟩:=z; exact ⟨σ',H',J.untr,q⟩
  | ret u=>obtain ⟨v,σ',H',J,r,q⟩:=z; exact ⟨v,σ',H',J.untr,r,q⟩
 ·obtain ⟨σ1,H1,s1,ea,C,dx,H2,rfl,I1,F,C',eC,q⟩:=z;cases eC;refine SI O I1 F fun s3 oe T oT c I3=>?_
  have I4:Inv X ((ea,oe) :: (T,oT) :: aa) (List.replicate X.N.length none) (del H2 ea) s3:=I3.weak (by rw [List.length_replicate,I3.len]) fun i v z=>by
   rw [List.getElem?_replicate] at z;split at z <;> cases z
  exact hh C dx aa s3 _ _ D ea oe T oT c I4 (q ea F.1.at_)
end
structure EL (K:FG) (C:Addr):Prop where
 ga:W.findIn K (.ref C) "__getattribute__" = some (some (.builtin "BaseException.__getattribute__"))
 gr:W.findIn K (.ref C) "__getattr__" = some none
 mb:W.mroIn K C (.type "BaseException")=some true
section
variable {prog:Program} {x:Addr} {ox:Obj} {od:Option Obj} {name:Str} {g:Array GenState} {d:Drawn} {t:Nat} {os:OsState}
theorem M9 {M:Model} {nameV:Value} {Q:Unit->Shared->Prop} (p:EL K C) (X:K.In h) (I:W.InstAt h x ox C od) (hq:Q () ⟨h,g,d,t,os⟩):wpAny M A (checkBuiltinCall "BaseException.__getattribute__" ⟨[.ref x,nameV],[]⟩) Q E ⟨h,g,d,t,os⟩:=by
 have hk:builtinKind "BaseException.__getattribute__" = some .slot:=by decide +kernel
 have hsplit:splitId "BaseException.__getattribute__" = some ("BaseException", "__getattribute__"):=by decide +kernel
 have ha:=F.args_bexc_ga (.ref x) nameV;have L0:=I.type (M:=M);have L1:=W.looks_mroIn (M:=M) X p.mb;simp only [checkBuiltinCall,hk,hsplit];refine wpAny_bind ?_
 ·unfold isInstance
  repeat (first | with_reducible refine L0.at ?_ | with_reducible refine L1.at ?_ | wp_step)
  exact hq
theorem NA {v:Value} {tk:Tok} {Q:Fin->Shared->Prop} (X:K.In h) (I:W.InstAt h x ox C od) (hf:W.findObj K C od name=some (.value v)) (hq:Q (.done (.ret v)) ⟨h,g,d,t,os⟩) :
  wpAny (model prog w) A (Builtin.«object.__getattribute__» ⟨[.ref x,.str name tk],[]⟩) Q E ⟨h,g,d,t,os⟩:=by
 have L0:=I.type (M:=model prog w);have L1:=W.looks_find (M:=model prog w) X I hf
 repeat (any_goals (first | assumption | with_reducible refine L0.at ?_ | with_reducible refine L1.at ?_ | wp_step))
theorem NB {tk:Tok} {Q:Fin->Shared->Prop} (X:K.In h) (I:W.InstAt h x ox C od) (hf:W.findObj K C od name=some (.bind (.builtin "getset_descriptor.__get__") (.builtin "object.__class__"))) (hm:W.mroIn K C (.type "object")=some true)
  (hq:Q (.done (.ret (.ref C))) ⟨h,g,d,t,os⟩) :
  wpAny (model prog w) A (Builtin.«object.__getattribute__» ⟨[.ref x,.str name tk],[]⟩) Q E ⟨h,g,d,t,os⟩:=by
 have L0:=I.type (M:=model prog w);have L1:=W.looks_find (M:=model prog w) X I hf
 repeat (any_goals (first | assumption | with_reducible refine L0.at ?_ | with_reducible refine L1.at ?_ | wp_step))
 exact W.class_get X I hm (wpAny_pure hq)
theorem Oa {tk:Tok} {v:Value} {R:Result->Shared->Prop} (p:EL K C) (X:K.In h) (I:W.InstAt h x ox C od)
  (hb:∀ (A':Around) (E':VS) (Q:Fin->Shared->Prop),Q (.done (.ret v)) ⟨h,g,d,t,os⟩->wpAny (model prog w) A' (Builtin.«object.__getattribute__» ⟨[.ref x,.str name tk],[]⟩) Q E' ⟨h,g,d,t,os⟩) (hq:R (.ok (.ret v)) ⟨h,g,d,t,os⟩) :
  codeAny (model prog w) A (.call (.builtin "BaseException.__getattribute__") ⟨[.ref x,.str name tk],[]⟩) R ⟨h,g,d,t,os⟩ :=
 codeAny_call_builtin F.excAttr_ValueError.ga.plain F.entry_bexc_ga (M9 p X I (hb _ _ _ hq))
theorem Ob {tk:Tok} {v:Value} {fill expr:Bool} {Q:VS} (p:EL K C) (X:K.In h) (I:W.InstAt h x ox C od) (hh:W.handedIn v=true)
  (hb:∀ (A':Around) (E':VS) (Q:Fin->Shared->Prop),Q (.done (.ret v)) ⟨h,g,d,t,os⟩->wpAny (model prog w) A' (Builtin.«object.__getattribute__» ⟨[.ref x,.str name tk],[]⟩) Q E' ⟨h,g,d,t,os⟩) (hq:Q v ⟨h,g,d,t,os⟩) :
  wpAny (model prog w) A (getAttrBy (.ref x) (.str name tk) fill expr) Q E ⟨h,g,d,t,os⟩:=by
 have L0:=I.type (M:=model prog w);have L1:=W.looks_findIn (M:=model prog w) X p.ga;have L2:=W.looks_findIn (M:=model prog w) X p.gr;have f3:=F.excAttr_ValueError.ga.bind (.ref x);have hx0:(expr && onTheHeap (Value.builtin "BaseException.__getattribute__"))=false:=by cases expr <;> rfl
 have hx2:(Value.builtin "BaseException.__getattribute__" == Value.builtin "object.__getattribute__")=false:=by decide +kernel
 have hx1:(onTheHeap (Value.ref C) && Value.builtin "BaseException.__getattribute__" == Value.builtin "object.__getattribute__")=false:=by rw [hx2]; rfl
 have ho:=W.handedOut_of hh
 repeat (any_goals (first | assumption | with_reducible refine L0.at ?_ | with_reducible refine L1.at ?_ | with_reducible refine L2.at ?_ | wp_step))
 refine Oa p X I hb ?_
 repeat (any_goals (first | assumption | (rw [ho]; exact wpAny_pure hq) | wp_step))
theorem Oc {v:Value} {expr:Bool} {Q:VS} (p:EL K C) (X:K.In h) (I:W.InstAt h x ox C od) (hf:W.findObj K C od name=some (.value v)) (hh:W.handedIn v=true) (hq:Q v ⟨h,g,d,t + 1,os⟩) :
  wpAny (model prog w) A (getAttr (.ref x) name expr) Q E ⟨h,g,d,t,os⟩:=by
 unfold getAttr;refine wpAny_bind (wpAny_mkText ?_);exact Ob p X I hh (fun A' E' Q' z=>NA X I hf z) hq
theorem Jf {Q:Option Value->Shared->Prop} (p:EL K C) (X:K.In h) (I:W.InstAt h x ox C od) (hf:W.findObj K C od "__class__" = some (.bind (.builtin "getset_descriptor.__get__") (.builtin "object.__class__"))) (hm:W.mroIn K C (.type "object")=some true)
  (hq:Q (some (.ref C)) ⟨h,g,d,t + 1,os⟩):wpAny (model prog w) A (getAttr? (.ref x) "__class__") Q E ⟨h,g,d,t,os⟩:=by
 unfold getAttr? getAttrBy?;refine wpAny_bind (wpAny_mkText (wpAny_bind (wpAny_attempt ?_)));exact Ob (v:=.ref C) p X I rfl (fun A' E' Q' z=>NB X I hf hm z) (wpAny_pure hq)
end
theorem HH {name:Str} {od:Option Obj} {a g:Value} (hc:(W.clsIn K C).isSome=true) (ha:W.findIn K (.ref C) name=some (some a)) (hg:W.specialIn K a "__get__" = some (some g)) (ht:W.takesIn K a=some true):W.findObj K C od name=some (.bind g a):=by
 obtain ⟨cd,hc⟩:=Option.isSome_iff_exists.mp hc;unfold W.findObj;rw [hc,Option.bind_some,ha,Option.bind_some];simp [hg,ht]
structure QK (K:FG) (C:Addr):Prop where
 hg:EL K C
 hc:(W.clsIn K C).isSome=true
 ha:W.findIn K (.ref C) "__class__" = some (some (.builtin "object.__class__"))
 hn:W.specialIn K (.builtin "object.__class__") "__get__" = some (some (.builtin "getset_descriptor.__get__"))
 htk:W.takesIn K (.builtin "object.__class__")=some true
 hm:W.mroIn K C (.type "object")=some true
theorem Od {x D:Addr} {ox:Obj} {od:Option Obj} (k:QK K D):W.KitX K (.ref x) (.ref D) (fun h=>W.InstAt h x ox D od) where
 ty:=fun _ _ _ I=>I.type
 it:=fun _ _ X _=>by
  have hcD:=k.hc;unfold W.clsIn at hcD;split at hcD
  ·rename_i c' d' cd' sl' ho;intro A' Q' E' s' k q;unfold isType loadHead;exact wpAny_bind (wpAny_loadPart (k _ _ (X _ _ ho)) (wpAny_pure q))
  ·cases hcD
 ne:=fun h tp dd its n sl X htp=>by
  have hcD:=k.hc;refine Bool.eq_false_iff.mpr fun q=>?_;have e:D=tp:=Value.ref.inj (beq_iff_eq.mp q);subst e;unfold W.clsIn at hcD;split at hcD
  ·rename_i c' d' cd' sl' ho;have z:=(X _ _ ho).symm.trans htp;cases z
  ·cases hcD
 ca:=fun {prog w A E Q s} X I h=>by
  obtain ⟨hh,g,d,t,os⟩:=s;exact Jf k.hg X I (HH k.hc k.ha k.hn k.htk) k.hm h
structure ExcP (X:Cx) (e:Addr) (oe:Obj) (C:Addr):Prop where
 at_:(e,oe) ∈ X.pn
 cls:oe.cls=.ref C
 fld:∃ vs,oe.data=.fields vs
section
variable {e:Addr} {oe:Obj}
theorem ExcP.inst (p:ExcP X e oe C) (I:Inv X aa σ H s) (hd:oe.dict=none\/∃ d u,oe.dict=some d/\H d=some u):∃ od,W.InstAt s.heap e oe C od:=by
 have he:=(I.pin (e,oe) (mem_append_left _ p.at_)).1;obtain ⟨vs,hv⟩:=p.fld;have no:W.notCls oe=true:=by unfold W.notCls; rw [hv]
 rcases hd with z | ⟨d,u,z,hu⟩
 ·exact ⟨none,he,p.cls,no,by rw [z]; trivial⟩
 ·have hlt:=(I.hok d u hu).lt
  have:∃ o,s.heap.get? d=some o:=by
   have q:=(I.hok d u hu);cases u with
   | lst xs=>obtain ⟨_,_,_,_,e⟩:=q; exact ⟨_,e⟩
   | tup xs=>obtain ⟨_,_,_,o,e,_⟩:=q; exact ⟨o,e⟩
   | dK kvs=>obtain ⟨_,_,_,_,o,_,_,e,_⟩:=q; exact ⟨o,e⟩
   | dT kvs=>obtain ⟨_,_,_,_,o,_,_,e,_⟩:=q; exact ⟨o,e⟩
   | set S n=>obtain ⟨o,_,_,_,e,_⟩:=q; exact ⟨o,e⟩
   | ins C dx fs=>obtain ⟨_,_,_,e,_⟩:=q; exact ⟨_,e⟩
   | own y=>exact q
   | xd fs=>obtain ⟨_,⟨o,_,_,e,_⟩,_⟩:=q; exact ⟨o,e⟩
   | rng lo hi=>obtain ⟨_,_,_,e⟩:=q; exact ⟨_,e⟩
   | frz ob u=>exact ⟨_,q.1⟩
   | tbl ps=>exact ⟨_,(show s.heap.get? d=some _ from q)⟩
   | met f y=>exact ⟨_,(show s.heap.get? d=some _ from q)⟩
   | ext φ=>exact q.2.1
  obtain ⟨o,ho⟩:=this;exact ⟨some o,he,p.cls,no,by rw [z]; exact ho⟩
theorem Hu (p:ExcP X e oe C) (k:QK X.K C):CallR X (.builtin "isinstance") (fun xs H Q=>∃ v c b,xs=[.ref e,v]/\((∃ D,v=.ref D/\c=.ref D)\/∃ T,v=.ty T/\c=.type T)/\(oe.dict=none\/∃ d u,oe.dict=some d/\H d=some u)/\W.kitOne X.K (.ref C) c=some b/\Q (.bl b) H):=by
 intro aa s σ H xs us Q I r h;obtain ⟨v,c,b,rfl,hv,hd,hk,q⟩:=h;obtain ⟨u,uT,rfl,ru,ruT⟩:=HU r;cases (show u=Value.ref e from ru);obtain ⟨od,J⟩:=p.inst I hd
 have hc:uT=c:=by
  rcases hv with ⟨D,rfl,rfl⟩ | ⟨T,rfl,rfl⟩
  ·exact ruT
  ·exact ruT
 subst hc;exact W.kia_one (Od k) I.kIn J hk (fun z=>nomatch z) fun tk=>⟨.bl b,H,I.tok tk,rfl,q⟩
end
section
variable {k:Nat} {f e:Addr} {oe:Obj} {fd:FuncData} {ps:List Str} {sp:SpS} {p:Pos} {a:Expr} {es:List Expr} {t:TA}
def Ij (sp:SpS) (e:Addr) (oe:Obj) (t:TA):TE:=fun σ H Q=>t σ H fun vs H1=>sp e oe vs H1 Q
theorem Jg (F:Lu X.prog X.w X.K X.mg X.base k f fd ps sp) (hr:RoomS k X.A) (hh:X.A.handled=some (.ref e)) (at_:(e,oe) ∈ X.pn) (hg:Gl X x) (hm:X.mg x=some (.ref f)) (hk:W.keepIn X.K (.ref f)=true) (hb:Binds X.K fd ps [])
  (ha:PA X (a :: es) t) (hdb:(x == ("__debug__" : Str))=false:=by decide) (he:starEach (a :: es) X.env=(false,eval a X.env) :: starEach es X.env:=by rfl) (hpl:(backTo pos (starEach es X.env)).any (·.1)=false:=by rfl) :
  PE X (.Call (.Name x p) (a :: es) [] pos) (Ij sp e oe t):=by
 intro aa s σ H Q I h;refine wpAny_Call_Name_kw (Bb I hg hm ?_ hdb);refine W.callWith_K (h₀:=X.base) I.ok.mod.kin hk (thn (ha pos aa s σ H _ I h) fun us s1 ⟨vs,H1,I1,r,q⟩=>⟨I1.kIn,?_⟩) he hpl;obtain ⟨e1,e2,e3,e4,e5⟩:=I1.pin (e,oe) (mem_append_left _ at_);have hl:(us++[]).length=ps.length:=by rw [append_nil,← r.length]; exact F.len _ _ _ _ _ q
 have bb:=hb s1 us I1.kIn hl;rw [append_nil] at bb;refine wpAny_call (codeAny_mono (F.run X.A X.stack s1 H1 ⟨us,[]⟩ us vs Q e oe hr I1.env0 hh e1 e2 (fun z=>(mem_cons.mp (I1.stkSub e z)).elim e3 e4) e5 bb r q) fun r s' hq=>?_);cases r with
 | error e=>exact False.elim hq
 | ok fl =>
  cases fl with
  | ret u=>exact I1.after hq
  | next=>exact False.elim hq
  | brk=>exact False.elim hq
  | cont=>exact False.elim hq
end
theorem Oe (a b:Bool):MeetsSeq.EqGives (.bool a) (.bool b) (a == b):=fun prog w A E s Q h=>SeqAt.EqAt.bool_bool a b prog w E Q h
theorem Hv:∀ {bs:List Bool} {us:List Value},Vals (bs.map V.bl) us->us=bs.map Value.bool
 | [],_,.nil=>rfl
 | _ :: _,_,.cons r t=>by rw [map_cons,← Hv t]; cases r; rfl
def QL:V->List V->Hp->VK->Prop:=fun x vs H Q=>∃ (l:Addr) (bs:List Bool) (j:Nat),x=.ref l/\vs=[.bl true]/\H l=some (.lst (bs.map V.bl))/\bs[j]?=some true/\(∀ m,m < j->bs[m]?=some false)/\Q (.int (j:Nat)) H
section
theorem NC:MtM X "list.index" QL:=by
 intro aa s σ H x vs v us Q I rx rv h;obtain ⟨l,bs,j,rfl,rfl,hH,hj,hno,q⟩:=h;cases rx;obtain ⟨u,rfl,ru⟩:=rv.one;obtain rfl:u=Value.bool true:=ru;obtain ⟨z,its,n,r,hl,e⟩:=I.lstM hH;have ei:=Hv r;subst ei;have hjs:j < bs.length:=(List.getElem?_eq_some_iff.mp hj).1
 have hz:(j:Int) < 2 ^ 63 - 1:=by
  have hs:sizeLine < 2 ^ 62:=by decide
  rw [AK] at z;omega
 refine call_meets F.slot_list_index ⟨_,e,rfl⟩ F.entry_list_index (F.args_list_index_2 _ _)
  (MeetsSeq.list_index l (bs.map Value.bool).toArray n (.bool true) (fun y=>match y with | .bool a=>a == true | _=>false) (fun y hy=>?_) j (by simpa using hjs) hz ?_ fun m hm hlt=>?_) ⟨e,?_⟩
 ·obtain ⟨a,_,rfl⟩:=mem_map.mp (List.mem_toArray.mp hy);exact Oe a true
 ·have:=(List.getElem?_eq_some_iff.mp hj).2;simp [this]
 ·have:=(List.getElem?_eq_some_iff.mp (hno m hlt)).2;simp [this]
 ·exact ⟨.int (j:Nat),H,I.tok _,⟨_,rfl⟩,q⟩
end
noncomputable def FnO (f:Addr) (o:Obj):HO:=.ext fun h=>h.get? f=some o
noncomputable def Ex (c:Addr) (qual:Str):HO:=.ext fun h=>h.CodeRec (.ref c) qual
noncomputable def D1 (P:Program) (w:World) (K:FG) (mg:SV) (base:Heap) (N:List Str) (qual:Str) (scope:Scope) (f:Addr) (cd:Value) (cl:List (Str × Addr)) (A:Around) (outer:List Env) (s:Shared) (H:Hp) (E:XK):Cx where
 prog:=P
 w:=w
 K:=K
 mg:=mg
 base:=base
 A:=A.deeper (W.envX qual scope s.heap.objs.size f cd cl)
 N:=N
 s₀:=s
 H₀:=H
 env:=W.envX qual scope s.heap.objs.size f cd cl
 outer:=outer
 stack:=W.envX qual scope s.heap.objs.size f cd cl :: outer
 ex:=[]
 calm:=true
 fn:=fun _=>false
 pn:=[]
 xe:=fun e s'=>wpAny (model P w) (A.deeper (W.envX qual scope s.heap.objs.size f cd cl)) (leaving (W.envX qual scope s.heap.objs.size f cd cl) e) (fun _ s''=>CXr P w outer H s E e s'') (fun e' s''=>CXr P w outer H s E e' s'') s'
structure Gk (N:List Str) (scope:Scope) (cl:List (Str × Addr)) (σ:St) (H:Hp) (h:Heap):Prop where
 inj:∀ x y c,cl.lookup x=some c->cl.lookup y=some c->x=y
 has:∀ x,(scope.names.lookup x=some .cell\/scope.names.lookup x=some .free)->∃ c,cl.lookup x=some c
 cell:∀ x c,cl.lookup x=some c->(∃ v,h.IsCell c v)/\H c=none
 val:∀ (i:Nat) x v,N[i]?=some x->σ[i]?=some (some v)->scope.names.lookup x=some .free/\∃ u c,RelV v u/\cl.lookup x=some c/\h.IsCell c (some u)
 len:σ.length=N.length
section
variable {qual name:Str} {scope:Scope} {f c':Addr} {cd:Value} {cl:List (Str × Addr)} {outer:List Env} {E:XK}
theorem Uc:Kp (D1 P w K mg base N qual scope f cd cl A outer s H E):=⟨rfl,rfl,rfl⟩
theorem RK:BF (CXr P w) (D1 P w K mg base N qual scope f cd cl A outer s H E) E:=by
 rintro aa σ H1 s1 e s2 I ⟨ea,C,dx,H2,rfl,F,q⟩;exact wpAny_mono (Gi (X:=D1 P w K mg base N qual scope f cd cl A outer s H E) Uc I F) (fun _ s3 G=>⟨ea,C,dx,H2,rfl,G,q⟩) fun _ _ z=>z
theorem Kw {h1:Heap} {m0:SV} {tk:Nat} (hk0:scope.kind=.function) (hd:A.handled=none) (e0:Env0 P w K mg base A outer s H) (C:Gk N scope cl σ H s.heap) (hns:h1.Ns s.heap.objs.size m0) (hk:∀ b o,s.heap.get? b=some o->h1.get? b=some o) :
  Inv (D1 P w K mg base N qual scope f cd cl A outer s H E) [] σ H { s with heap:=h1,toks:=tk }:=by
 have noA:∀ b:Addr,b ∉ (D1 P w K mg base N qual scope f cd cl A outer s H E).ex:=fun b z=>absurd (show b ∈ ([]:List Addr) from z) (by simp);have cellK:∀ {c:Addr} {v:Option Value},s.heap.IsCell c v->h1.IsCell c v:=fun {c v} ⟨o,ho,hd⟩=>⟨o,hk _ _ ho,hd⟩
 refine ⟨⟨e0.mod,hk0,rfl,rfl,Nat.le_refl _,C.inj,C.has,fun y c z _=>(by cases (show false=true from z)),fun _=>hd,Around.frames_deeper e0.frames,.inr ⟨rfl,rfl⟩,fun b z=>absurd z (noA b),e0.bs,e0.bsz,fun b _ _=>noA b,fun b z=>absurd z (noA b),e0.funs,e0.frf⟩,
  rfl,e0.bare,Un.kept hk,⟨m0,hns,fun i x v h1 h2 h3=>?_⟩,fun y c h=>?_,e0.hok.fresh (Nat.le_refl _),fun y c h=>(C.cell y c h).2,fun p hp=>absurd (show p ∈ ([]:LO) from hp) (by simp),e0.hok.kept hk,C.len⟩
 ·obtain ⟨k,u,c,r,e,z⟩:=C.val i x v h1 h2;exact ⟨u,r,.inr ⟨.inr k,c,e,cellK z⟩⟩
 ·obtain ⟨⟨v,z⟩,_⟩:=C.cell y c h;exact ⟨v,cellK z⟩
theorem Of {k:Nat} {params:Arguments} {body:Expr} {pm ctv:Value} {Q:VK} {tb:TE} (hr:Room k A) (e0:Env0 P w K mg base A outer s H) (C:Gk N scope cl σ H s.heap)
  (ho:s.heap.get? f=some (W.kla_obj name qual params body scope cl pm c' ctv)) (hcd:s.heap.CodeRec (.ref c') qual) (bq:bindArgs (W.kla_fn name qual params body scope cl pm (.ref c') ctv) ⟨[],[]⟩=pure [])
  (hco:scope.isCoroutine=false) (bw:scope.isGenerator=false) (hk:scope.kind=.function) (bi:∀ x ∈ scope.names,x.2 ≠ .cell)
  (hb:PE (D1 P w K mg base N qual scope f (.ref c') cl A outer s H E) body tb) (h:tb σ H Q):codeAny (model P w) A (.call (.ref f) ⟨[],[]⟩) (CR (CXr P w) outer P w H s Q E) s:=by
 have lim:s.heap.NoLimit:=e0.mod.nolimit.keeps fun b o e=>(e0.bs b o e).1;refine W.kla_callFunE hr.depth ho rfl hco bw rfl hcd ?_;rw [bq];refine wpAny_pure (wpAny_newFunctionEnv bi (fun y hy=>nomatch hy) (fun h₁ hns hsb=>⟨lim.fresh _ hsb,?_⟩) hk);show codeAny _ _ (.expr body (W.envX qual scope s.heap.objs.size f (.ref c') cl)) _ _;have hk₁:∀ b o,s.heap.get? b=some o->h₁.get? b=some o:=fun b o e=>hsb.extBut b o (Nat.ne_of_lt (lt_size e)) (get?_push_of_some _ e);have I:Inv (D1 P w K mg base N qual scope f (.ref c') cl A outer s H E) [] σ H _:=Kw (tk:=s.toks + ([]:List (Str × Value)).length) hk hr.hd e0 C hns hk₁;exact W.kla_codeExpr (wpAny_mono (hb [] _ σ H Q I h) (fun v s' ⟨x,H',J,rv,q⟩=>⟨x,H',J.os,J.bare,J.base,J.hok,rv,q⟩) fun e s' z=>z)
end
section
theorem Inv.cells {scope:Scope} {cl:List (Str × Addr)} {σl:St} (I:Inv X aa σ H s) (C:Gk N scope cl σl X.H₀ X.s₀.heap) (hfs:∀ x c,cl.lookup x=some c->c ∉ X.fs) (hex:X.ex=[]):Gk N scope cl σl H s.heap:=by
 have kp:∀ x c v,cl.lookup x=some c->X.s₀.heap.IsCell c v->s.heap.IsCell c v:=fun x c v e ⟨o,ho,hd⟩=>⟨o,I.base.keep c o ho (C.cell x c e).2 (hfs x c e) (by rw [hex]; simp),hd⟩;refine ⟨C.inj,C.has,fun x c e=>?_,fun i x v h1 h2=>?_,C.len⟩
 ·obtain ⟨⟨v,z⟩,n⟩:=C.cell x c e;obtain ⟨o,ho,_⟩:=id z;exact ⟨⟨v,kp x c v e z⟩,I.base.free c o ho n (by rw [hex]; simp)⟩
 ·obtain ⟨k,u,c,r,e,z⟩:=C.val i x v h1 h2;exact ⟨k,u,c,r,e,kp x c _ e z⟩
def Jh (i:Nat) (f c':Addr) (qual:Str) (o:Obj) (σl:St) (tb:TE):TE:=fun σ H Q=>σ[i]?=some (some (.ref f))/\H f=some (FnO f o)/\H c'=some (Ex c' qual)/\tb σl H Q
theorem Kx {i k:Nat} {name qual:Str} {p:Pos} {Nl:List Str} {scope:Scope} {cl:List (Str × Addr)} {σl:St} {f c':Addr} {params:Arguments} {body:Expr} {pm ctv:Value} {tb:TE} {E:XK}
  (hN:X.N[i]?=some x) (hv:Vis X.env.scope x) (hr:Room k X.A) (C:Gk Nl scope cl σl X.H₀ X.s₀.heap) (hfs:∀ x c,cl.lookup x=some c->c ∉ X.fs) (hex:X.ex=[]) (hx:BF (CXr X.prog X.w) X E)
  (bq:bindArgs (W.kla_fn name qual params body scope cl pm (.ref c') ctv) ⟨[],[]⟩=pure [])
  (hco:scope.isCoroutine=false) (bw:scope.isGenerator=false) (hk:scope.kind=.function) (bi:∀ x ∈ scope.names,x.2 ≠ .cell)
  (hb:∀ s H,PE (D1 X.prog X.w X.K X.mg X.base Nl qual scope f (.ref c') cl X.A X.stack s H E) body tb) (hd:(x == ("__debug__" : Str))=false:=by decide) (hcd:(x == ("__classdict__" : Str))=false:=by decide) :
  PE X (.Call (.Name x p) [] [] pos) (Jh i f c' qual (W.kla_obj name qual params body scope cl pm c' ctv) σl tb):=by
 intro aa s σ H Q I h;obtain ⟨h1,h2,h3,h4⟩:=h;refine wpAny_Call_Name_kw (thn (Nm hN hv hd hcd aa s σ H (fun v H'=>v=.ref f/\H'=H) I ⟨_,h1,rfl,rfl⟩) fun u s1 ⟨v,H1,I1,r,ev,eH⟩=>?_);subst ev eH;obtain rfl:u=Value.ref f:=r;obtain ⟨ho,_,_⟩:=I1.hok _ _ h2;obtain ⟨hc,_,_⟩:=I1.hok _ _ h3;refine callWith_meth0 rfl ho (wpAny_call (codeAny_mono (Of hr I1.env0 (I1.cells C hfs hex) ho hc bq hco bw hk bi (hb s1 H1) h4) fun r s' hq=>?_));cases r with
 | error e=>exact hx aa σ H1 s1 e s' I1 hq
 | ok fl =>
  cases fl with
  | ret u=>exact I1.after hq
  | next=>exact False.elim hq
  | brk=>exact False.elim hq
  | cont=>exact False.elim hq
end
section
variable {CX:CXT}
theorem Fun.at {qual:Str} {st:Stmt} {f:Addr} {fd:FuncData} {ps:List Str} {k:Nat} {outer:List Env} {args:Args} {vs:List V} {Q:VK} {E:XK} (F:Fun K x qual st f fd) (S:AJ N ps (defScope st)) (hl:vs.length=ps.length)
  (hr:Room (k + 1) A) (e0:Env0 P w K mg base A outer s H) (hb:BindsTo s fd args (ps.zip us)) (r:Vals vs us)
  (bg:∀ ad,Room k (A.deeper (envOfC qual (defScope st) s.heap.objs.size f ad))->∃ t,PSs (BG CX P w K mg base N qual (defScope st) f ad A outer s H E) (defBody st) t/\t { nx:=fun _ H'=>Q .non H',rt:=Q } (Bi N vs) H) :
  codeAny (model P w) A (.call (.ref f) args) (CR CX outer P w H s Q E) s:=by
 obtain ⟨oc,od,kV,doc,pm,an,ad,ct,osl,rfl,lk,hcd⟩:=F.ex;have KX:K.In s.heap:=e0.mod.kin.keeps fun b o z=>(e0.bs b o z).1;have lim:s.heap.NoLimit:=e0.mod.nolimit.keeps fun b o z=>(e0.bs b o z).1
 have hk:∀ y ∈ ps.zip us,(defScope st).names.lookup y.1=some .local\/((defScope st).names.lookup y.1=some .cell/\((cellsFrom (s.heap.objs.size + 1) (defScope st).names []).lookup y.1).isSome=true):=fun ⟨n,v⟩ hy=>by
  rcases S.par n (of_mem_zip hy).1 with q | q
  ·exact .inl q
  ·exact .inr ⟨q,W.cellsFrom_some _ _ _ (.inl q)⟩
 refine codeAny_call_function hr.depth (KX _ _ lk) rfl S.co S.gen rfl (W.codeRec_of KX hcd) (hb _ _ _ _ (wpAny_newFunctionEnv_cells S.kind hk fun env ee s1 x=>?_));subst ee;refine ⟨lim.keeps x.toInCall.keep,codeAny_func ?_⟩;obtain ⟨t,ht,hq⟩:=bg ad (hr.deeper _);have I:Inv (BG CX P w K mg base N qual (defScope st) f ad A outer s H E) [] (Bi N vs) H s1:=FQ S hr.hd e0 hl r x;refine wpAny_mono (ht [] s1 (Bi N vs) H _ I hq) (fun fl s' z=>?_) fun _ _ z=>z;cases fl with
 | ret u =>
  obtain ⟨v,σ',H',J,rv,q⟩:=z;exact ⟨v,H',J.os,J.bare,J.base,J.hok,rv,q⟩
 | next =>
  obtain ⟨σ',H',J,q⟩:=z;exact ⟨.non,H',J.os,J.bare,J.base,J.hok,rfl,q⟩
 | brk =>
  obtain ⟨_,_,_,q⟩:=z;exact q.elim
 | cont =>
  obtain ⟨_,_,_,q⟩:=z;exact q.elim
end
theorem Fx {q:Pos} {c:Value} (ax:(q.line == pos.line && q.col == pos.col)=false) (l:List Value) (h:TriplesOk l):codeAmong q (l++[rawInt pos.line,rawInt pos.col,c])=codeAmong q l:=by
 fun_induction TriplesOk l with
 | case1 =>
  have:((pos.line:Int) == (q.line:Int) && (pos.col:Int) == (q.col:Int))=false:=by
   rw [Bool.and_eq_false_iff] at ax ⊢;rcases ax with z | z
   ·left; rw [beq_eq_false_iff_ne] at z ⊢; omega
   ·right; rw [beq_eq_false_iff_ne] at z ⊢; omega
  simp [codeAmong,rawInt,this]
 | case2 a t b u x rest ih =>
  simp only [List.cons_append,codeAmong];split
  ·rfl
  ·exact ih h
 | case3 l h1 h2=>exact h.elim
def TabOk (H:Hp) (P0:Addr) (qual:Str) (ls:List Pos):Prop:=∃ ps,H P0=some (.tbl ps)/\TriplesOk ps.toList/\∀ q ∈ ls,codeAmong q ps.toList=none\/∃ c',codeAmong q ps.toList=some (.ref c')/\H c'=some (Ex c' qual)
def Hw (P0:Addr) (H H':Hp):Prop:=∀ b u,b ≠ P0->H b=some u->H' b=some u
structure Og (X:Cx) (c P0:Addr):Prop where
 code:X.env.code=.ref c
 hd:W.CodeHd X.base c P0
 bu:X.base.BuiltinsAt X.mg P0
section
variable {c P0:Addr} {ls:List Pos} {lpos:Pos}
def Td (P0:Addr) (qual:Str) (ls:List Pos) (o:Addr->Value->Obj):TE:=fun σ H Q=>TabOk H P0 qual ls/\∀ f c' ctv H',H f=none->Hw P0 H H'->TabOk H' P0 qual ls->H' f=some (FnO f (o c' ctv))->H' c'=some (Ex c' qual)->Q (.ref f) H'
theorem QM {c':Addr} {qual:Str} (r:h.CodeRec (.ref c') qual):ObjOk P w H h c' (Ex c' qual):=by
 obtain ⟨c1,oc,vs,t,e,ho,hd,hq⟩:=id r;cases e;exact ⟨r,⟨_,ho⟩,fun h1 h2 ⟨c2,o2,v2,t2,e2,a,b⟩ k=>by cases e2; exact ⟨_,o2,v2,t2,rfl,k _ a,b⟩⟩
theorem RL {f:Addr} {o:Obj} (r:h.get? f=some o):ObjOk P w H h f (FnO f o):=⟨r,⟨_,r⟩,fun h1 h2 a k=>k _ a⟩
theorem SK {params:Arguments} {body:Expr} {scope:Scope} {clos:List (Str × Addr)} (L:Og X c P0) (hm:lpos ∈ ls) (ax:∀ q ∈ ls,q=lpos\/(q.line == lpos.line && q.col == lpos.col)=false)
  (af:closureFor scope X.env=pure clos) (cv:defaultsOf params X.env=([],[])) :
  PE X (.Lambda params body scope lpos) (Td P0 (X.env.qual ++ "<lambda>") ls (fun c' ctv=>W.kla_obj "<lambda>" (X.env.qual ++ "<lambda>") params body scope clos ((X.mg "__name__").getD .none) c' ctv)):=by
 intro aa s σ H Q I h;obtain ⟨⟨ps,hP,ht,hls⟩,k⟩:=h;have bk:∀ b o,X.base.get? b=some o->s.heap.get? b=some o:=fun b o e=>(I.bs b o e).1;have hPg:s.heap.get? P0=some (W.tabObj ps):=I.hok _ _ hP;have hgs:s.heap.Ns mainGlobals X.mg:=I.ok.mod.glob.keeps bk
 have hgP:mainGlobals ≠ P0:=fun q=>by
  obtain ⟨o,es,ep,e,_⟩:=I.ok.mod.glob;have n:=(I.bs _ _ e).2;rw [q,hP] at n;cases n
 have C:=L.hd.keeps bk
 have B:s.heap.BuiltinsAt X.mg P0:=by
  obtain ⟨bm,o,a1,a2,a3,a4,a5,a6⟩:=L.bu;exact ⟨bm,o,a1,a2,a3,a4,bk _ _ a5,a6⟩
 refine W.kla_eval cv ?_;rcases hls lpos hm with hn | ⟨c',hf,hc'⟩
 ·refine W.kla_makeFunction (mg:=X.mg) af I.ok.glob hgs L.code C hPg ht hn hgP B fun c' ctv h' tk hx hge hlt hrec av=>?_;have kp:∀ b o,b ≠ P0->s.heap.get? b=some o->(h'.push (W.kla_obj "<lambda>" (X.env.qual ++ "<lambda>") params body scope clos ((X.mg "__name__").getD .none) c' ctv)).get? b=some o:=fun b o n e=>get?_push_of_some _ (hx b o n e);have lt:∀ b u,H b=some u->b < s.heap.objs.size:=fun b u e=>I.hok.lt e;have hfs:s.heap.objs.size <= h'.objs.size:=Nat.le_trans hge (Nat.le_of_lt hlt);have hPl:P0 < s.heap.objs.size:=lt _ _ hP;have hcP:c' ≠ P0:=fun z=>by rw [z] at hge; exact absurd hPl (Nat.not_lt_of_le hge)
  have hfP:h'.objs.size ≠ P0:=fun z=>by rw [z] at hfs; exact absurd hPl (Nat.not_lt_of_le hfs)
  have hcf:c' ≠ h'.objs.size:=Nat.ne_of_lt hlt;generalize b9:upd (upd (upd H P0 (.tbl (ps++#[rawInt lpos.line,rawInt lpos.col,.ref c']))) c' (Ex c' (X.env.qual ++ "<lambda>"))) h'.objs.size (FnO h'.objs.size (W.kla_obj "<lambda>" (X.env.qual ++ "<lambda>") params body scope clos ((X.mg "__name__").getD .none) c' ctv))=H'
  have oth:∀ b,b < s.heap.objs.size->b ≠ P0->H' b=H b:=fun b hb n=>by
   rw [← b9,AG (Nat.ne_of_lt (Nat.lt_of_lt_of_le hb hfs)),AG (Nat.ne_of_lt (Nat.lt_of_lt_of_le hb hge)),AG n]
  have atP:H' P0=some (.tbl (ps++#[rawInt lpos.line,rawInt lpos.col,.ref c'])):=by rw [← b9,AG (Ne.symm hfP),AG (Ne.symm hcP),AB]
  have atc:H' c'=some (Ex c' (X.env.qual ++ "<lambda>")):=by rw [← b9,AG hcf,AB]
  have atf:H' h'.objs.size=some (FnO h'.objs.size (W.kla_obj "<lambda>" (X.env.qual ++ "<lambda>") params body scope clos ((X.mg "__name__").getD .none) c' ctv)):=by rw [← b9,AB]
  have ntbl:∀ b u,H b=some u->(∀ qs,u ≠ .tbl qs)->b ≠ P0:=fun b u e n z=>by subst z; rw [hP] at e; cases e; exact n _ rfl
  have un:Un X.fs [] H H' s.heap (h'.push (W.kla_obj "<lambda>" (X.env.qual ++ "<lambda>") params body scope clos ((X.mg "__name__").getD .none) c' ctv)):=by
   have nP:∀ b,H b=none->b ≠ P0:=fun b n z=>by subst z; rw [hP] at n; cases n
   refine ⟨fun b o q n _ _=>kp b o (nP b n) q,fun b o q n _ _=>⟨o.slots,kp b o (nP b n) q⟩,fun b o q n _=>by rw [oth b (lt_size q) (nP b n)]; exact n,fun b o q _=>?_,fun b xs e=>?_,fun b o u e=>?_,fun b qs e=>?_⟩
   ·by_cases z:b=P0
    ·subst z; exact ⟨_,get?_push_of_some _ av⟩
    ·exact ⟨o,kp b o z q⟩
   ·rw [oth b (lt _ _ e) (ntbl b _ e fun _ y=>nomatch y)]; exact e
   ·rw [oth b (lt _ _ e) (ntbl b _ e fun _ y=>nomatch y)]; exact e
   ·by_cases z:b=P0
    ·subst z;rw [hP] at e;cases e;exact ⟨_,atP⟩
    ·exact ⟨#[],by rw [oth b (lt _ _ e) z,e]; simp⟩
  have hok:HOk X.prog X.w H' (h'.push (W.kla_obj "<lambda>" (X.env.qual ++ "<lambda>") params body scope clos ((X.mg "__name__").getD .none) c' ctv)):=fun b u e=>by
   by_cases z1:b=h'.objs.size
   ·subst z1;rw [atf] at e;cases e;exact RL (get?_push_size _ rfl)
   by_cases z2:b=c'
   ·subst z2;rw [atc] at e;cases e;obtain ⟨c1,oc,vs,t,ec,ho,hd⟩:=hrec;exact QM ⟨c1,oc,vs,t,ec,get?_push_of_some _ ho,hd⟩
   by_cases z3:b=P0
   ·subst z3;rw [atP] at e;cases e;exact get?_push_of_some _ av
   ·have e':H b=some u:=by rw [← b9,AG z1,AG z2,AG z3] at e; exact e
    refine (I.hok b u e').stay (fun b2 o hb q=>kp b2 o ?_ q) (fun b2 q=>?_) fun b2 xs q=>?_
    ·rcases hb with z | z
     ·rw [z]; exact z3
     ·exact ntbl b2 _ z fun _ y=>nomatch y
    ·rw [oth b2 (lt _ _ q) (ntbl b2 _ q fun _ y=>nomatch y)]; exact q
    ·rw [oth b2 (lt _ _ q) (ntbl b2 _ q fun _ y=>nomatch y)]; exact q
  have I':=I.un (t':=tk) un hok;refine ⟨.ref h'.objs.size,H',I',rfl,k _ c' ctv H' (I.hok.fresh hfs) (fun b u n e=>by rw [oth b (lt _ _ e) n]; exact e) ⟨_,atP,?_,fun q hq=>?_⟩ atf atc⟩
  ·rw [Array.toList_append]; exact TriplesOk_snoc _ _ _ _ ht
  ·rw [Array.toList_append];rcases ax q hq with z | z
   ·subst z;exact .inr ⟨c',codeAmong_snoc _ ht hn,atc⟩
   ·show codeAmong q (ps.toList++[rawInt lpos.line,rawInt lpos.col,.ref c'])=none\/_;rw [Fx z _ ht];rcases hls q hq with y | ⟨c2,y1,y2⟩
    ·exact .inl y
    ·exact .inr ⟨c2,y1,by rw [oth c2 (lt _ _ y2) (ntbl c2 _ y2 fun _ y=>nomatch y)]; exact y2⟩
 ·refine W.kla_makeFunctionHit (mg:=X.mg) af I.ok.glob hgs L.code C hPg ht hf B fun ctv h' tk hk hsz=>?_;have I':=I.laid (t':=tk) (a:=h'.objs.size) (o:=FnO h'.objs.size (W.kla_obj "<lambda>" (X.env.qual ++ "<lambda>") params body scope clos ((X.mg "__name__").getD .none) c' ctv)) (fun b o e=>get?_push_of_some _ (hk b o e)) hsz (RL (get?_push_size _ rfl));have fr:H h'.objs.size=none:=I.hok.fresh hsz
  have sm:∀ b u,H b=some u->upd H h'.objs.size (FnO h'.objs.size (W.kla_obj "<lambda>" (X.env.qual ++ "<lambda>") params body scope clos ((X.mg "__name__").getD .none) c' ctv)) b=some u:=fun b u e=>by
   rw [AG (AI e fr)]; exact e
  refine ⟨.ref h'.objs.size,_,I',rfl,k _ c' ctv _ fr (fun b u _ e=>sm b u e) ⟨ps,sm _ _ hP,ht,fun q hq=>?_⟩ AB (sm _ _ hc')⟩;rcases hls q hq with y | ⟨c2,y1,y2⟩
  ·exact .inl y
  ·exact .inr ⟨c2,y1,sm _ _ y2⟩
end
section
theorem Fun.okX {qual:Str} {st:Stmt} {f:Addr} {fd:FuncData} {ps:List Str} {k:Nat} {sp:Sp} (F:Fun K x qual st f fd) (S:AJ N ps (defScope st)) (len:∀ vs H Q E,sp vs H Q E->vs.length=ps.length)
  (bg:∀ (ad:Value) (A:Around) (outer:List Env) (s:Shared) (H:Hp) (vs:List V) (Q:VK) (E:XK),Room k (A.deeper (envOfC qual (defScope st) s.heap.objs.size f ad))->sp vs H Q E ->
   ∃ t,PSs (BG (CXr P w) P w K mg base N qual (defScope st) f ad A outer s H E) (defBody st) t/\t { nx:=fun _ H'=>Q .non H',rt:=Q } (Bi N vs) H):AX P w K mg base (CXr P w) (k + 1) f fd ps sp:=by
 obtain ⟨oc,od,kV,doc,pm,an,ad,ct,osl,rfl,lk,hcd⟩:=F.ex;exact Lh lk hcd S len fun A outer s H vs Q E hr hsp=>bg ad A outer s H vs Q E hr hsp
structure BdX (P:Program) (w:World) (K:FG) (mg:SV) (base:Heap) (f:Addr) (qual:Str) (st:Stmt) (N ps:List Str) (k:Nat) (vs:List V) (H:Hp) (Q:VK) (E:XK):Prop where
 len:vs.length=ps.length
 ok:∀ (ad:Value) (A:Around) (outer:List Env) (s:Shared),Room k (A.deeper (envOfC qual (defScope st) s.heap.objs.size f ad)) ->
  ∃ t,PSs (BG (CXr P w) P w K mg base N qual (defScope st) f ad A outer s H E) (defBody st) t/\t { nx:=fun _ H'=>Q .non H',rt:=Q } (Bi N vs) H
theorem Fun.n {qual:Str} {st:Stmt} {f:Addr} {fd:FuncData} {ps:List Str} {k:Nat} {sp:Sp} (F:Fun K x qual st f fd) (S:AJ N ps (defScope st)) (h:∀ vs H Q E,sp vs H Q E->BdX P w K mg base f qual st N ps k vs H Q E) :
  AX P w K mg base (CXr P w) (k + 1) f fd ps sp:=F.okX S (fun vs H Q E q=>(h vs H Q E q).len) fun c A o s H vs Q E r q=>(h vs H Q E q).ok c A o s r
structure FunD (K:FG) (x qual:Str) (st:Stmt) (f:Addr) (fd:FuncData):Prop where
 ex:∃ (oc:Value) (od:Option Addr) (dV kV doc pm:Value) (an:Option Addr) (ad ct:Value) (osl:Array (Option Value)),
  fd=W.fnOf x qual (defArgs st) (defBody st) (defScope st) dV kV doc pm an ad ct/\K.lookup f=some ⟨oc,od,.func fd,osl⟩/\W.codeIn K ad qual=true
theorem FunD.ok {qual:Str} {st:Stmt} {f:Addr} {fd:FuncData} {ps:List Str} {k:Nat} {sp:Sp} (F:FunD K x qual st f fd) (S:AJ N ps (defScope st)) (len:∀ vs H Q E,sp vs H Q E->vs.length=ps.length)
  (bg:∀ (ad:Value) (A:Around) (outer:List Env) (s:Shared) (H:Hp) (vs:List V) (Q:VK) (E:XK),Room k (A.deeper (envOfC qual (defScope st) s.heap.objs.size f ad))->sp vs H Q E ->
   ∃ t,PSs (BG CX0 P w K mg base N qual (defScope st) f ad A outer s H E).nox (defBody st) t/\t { nx:=fun _ H'=>Q .non H',rt:=Q } (Bi N vs) H):AX P w K mg base CX0 (k + 1) f fd ps sp:=by
 obtain ⟨oc,od,dV,kV,doc,pm,an,ad,ct,osl,rfl,lk,hcd⟩:=F.ex;refine Lh lk hcd S len fun A outer s H vs Q E hr hsp=>?_;obtain ⟨t,h,q⟩:=bg ad A outer s H vs Q E hr hsp;exact ⟨t,h.nox,q⟩
end
end L2
end
section
namespace L2
open PySem PySem.Spec PyProof.Rows Builtin Builtin.ObjectAttr
noncomputable def EM (C M:Addr):List Value:=[.ref C,.ref M,.type "ValueError", .type "Exception", .type "BaseException", .type "object"]
section
variable {prog:Program} {x M:Addr} {ox:Obj} {vs:Array Value} {name:Str} {v:Value} {cd:ClassData}
theorem QN {R:Result->Shared->Prop} {tk:Tok} (X:K.In s.heap) (hx:s.heap.get? x=some ox) (af:ox.cls=.ref C) (hdn:ox.dict=none) (hf:ox.data=.fields vs) (hc:W.clsIn K C=some cd) (cb:cd.mro=EM C M) (bc:cd.hasDict=true) (hn:W.findIn K (.ref C) name=some none)
  (h:∀ (h':Heap) (tk':Nat),h'.get? x=some { ox with dict:=some s.heap.objs.size }->h'.Ns1 s.heap.objs.size (fun y=>if y=name then some v else none)->(∀ b o,b ≠ x->s.heap.get? b=some o->h'.get? b=some o)->R (.ok (.ret .none)) { s with heap:=h',toks:=tk' }) :
  codeAny (model prog w) A (.call (.builtin "object.__setattr__") ⟨[.ref x,.str name tk,v],[]⟩) R s:=by
 have SF:=PySem.F.store_object;have I:W.InstAt s.heap x ox C none:=⟨hx,af,by unfold W.notCls; rw [hf],by rw [hdn]; trivial⟩;have ne:cd.mro.isEmpty=false:=by rw [cb]; rfl
 have sub:W.Looks (model prog w) s.heap (isInstance (.ref x) (.type "object")) true:=I.type.andThen (W.looks_mroIn X (by unfold W.mroIn; rw [hc,Option.bind_some,if_neg (by rw [ne]; decide),cb]; simp [EM]));refine codeAny_call_builtin SF.slot.plain SF.entry (@W.check_slot (model prog w) _ _ s "object.__setattr__" "object" "__setattr__" (.ref x) [.str name tk,v] [] _ SF.kind SF.split sub (SF.args (.ref x) (.str name tk) v) ?_);have hm:W.Looks (model prog w) s.heap (mroOf (.ref C)) cd.mro:=(W.looks_clsIn X hc).andThen .now;have L3:W.Looks (model prog w) s.heap (storeTaker? none) none:=.now;rw [W.osa_eq,refuse_eq];refine wpAny_bind (wpAny_bind (I.type.here (wpAny_bind (hm.here ?_))));rw [cb];unfold EM;rw [refuseLoop_ref,refuseLoop_ref,PySem.F.store_ValueError.passes];refine wpAny_pure (wpAny_bind (I.type.here (wpAny_bind ((W.looks_findIn X hn).here (wpAny_bind (L3.here ?_))))));obtain ⟨oc,odi,oda,osl⟩:=ox
 dsimp only at af hdn hf
 subst af hdn hf;refine wpAny_bind (wpAny_pure (wpAny_bind (wpAny_bind (wpAny_loadPart hx (wpAny_bind ((W.looks_clsIn X hc).here ?_))))));rw [bc];have hx₁:(s.heap.push { cls:=.type "dict", data:=.dict #[] }).get? x=some _:=get?_push_of_some _ hx;have hxs:x ≠ s.heap.objs.size:=Nat.ne_of_lt (lt_size hx);obtain ⟨hp,g,d,t,os⟩:=s
 dsimp only at hx hx₁ hxs h ⊢
 rw [if_neg (by decide),if_neg (by simp [typeHasDict])];refine wpAny_bind (wpAny_alloc' ?_);refine wpAny_bind (wpAny_update' hx₁ ?_);refine wpAny_pure ?_
 have hgd:((hp.push { cls:=.type "dict", data:=.dict #[] }).update x fun o=>{ cls:=o.cls,dict:=some hp.objs.size,data:=o.data,slots:=o.slots }).get? hp.objs.size=some { cls:=.type "dict", data:=.dict #[] } :=
  (Heap.get?_update_ne _ _ _ _ hxs.symm).trans (Heap.get?_push_at rfl rfl)
 have hnd:((hp.push { cls:=.type "dict", data:=.dict #[] }).update x fun o=>{ cls:=o.cls,dict:=some hp.objs.size,data:=o.data,slots:=o.slots }).Ns hp.objs.size (fun _=>none) :=
  ⟨_,#[],_,hgd,rfl,fun e he=>absurd he (by simp),fun _=>rfl⟩
 show wpAny _ _ (storeInDict hp.objs.size (.str name tk) name v) _ _ _;unfold storeInDict newKeyGuard;refine wpAny_bind (wpAny_pure (wpAny_bind (wpAny_nsSet1 (Heap.Ns1.of_empty hnd) fun h' hn' hs=>?_)));obtain ⟨oD,esD,epD,hoD,hdD,hcD⟩:=hn'.count (Within.cons name v Within.nil);refine wpAny_bind (wpAny_lookBehind hoD (by rw [hdD]; exact pastItsLine_dict (Nat.le_trans hcD (by rw [length_cons,length_nil,sizeLine_eq]; omega))) ?_)
 wp_walk
 have hx':h'.get? x=some { cls:=.ref C,dict:=some hp.objs.size,data:=.fields vs,slots:=osl }:=(hs.2 x hxs).trans (get?_update_self _ hx₁ rfl);exact h h' _ hx' hn' fun b ob hbx hb=>(hs.2 b (Nat.ne_of_lt (lt_size hb))).trans ((Heap.get?_update_ne _ _ _ _ hbx).trans (get?_push_of_some _ hb))
theorem QO {Q:Unit->Shared->Prop} (X:K.In s.heap) (hx:s.heap.get? x=some ox) (af:ox.cls=.ref C) (hdn:ox.dict=none) (hf:ox.data=.fields vs) (hc:W.clsIn K C=some cd) (cb:cd.mro=EM C M) (bc:cd.hasDict=true) (hn:W.findIn K (.ref C) name=some none)
  (hs:W.findIn K (.ref C) "__setattr__" = some (some (.builtin "object.__setattr__")))
  (h:∀ (h':Heap) (tk':Nat),h'.get? x=some { ox with dict:=some s.heap.objs.size }->h'.Ns1 s.heap.objs.size (fun y=>if y=name then some v else none)->(∀ b o,b ≠ x->s.heap.get? b=some o->h'.get? b=some o)->Q () { s with heap:=h',toks:=tk' }) :
  wpAny (model prog w) A (setAttr (.ref x) name v) Q E s:=by
 have I:W.InstAt s.heap x ox C none:=⟨hx,af,by unfold W.notCls; rw [hf],by rw [hdn]; trivial⟩;exact W.set_plain X I hs (QN (s:={ s with toks:=s.toks + 1 }) X hx af hdn hf hc cb bc hn fun h' tk' a b c=>h h' tk' a b c)
end
end L2
end
section
namespace L2
open PySem PySem.Spec PyProof.Rows
structure Oh (K:FG) (C M:Addr) (f:Str):Prop where
 cls:∃ cd,W.clsIn K C=some cd/\cd.mro=EM C M/\cd.hasDict=true
 nf:W.findIn K (.ref C) f=some none
 sa:W.findIn K (.ref C) "__setattr__" = some (some (.builtin "object.__setattr__"))
section
variable {o value:Expr} {ta tv:TE} {f:Str} {pos':Pos} {M:Addr}
def Te (K:FG) (M:Addr) (ta tv:TE) (f:Str):TS:=fun D σ H=>tv σ H fun y H1=>ta σ H1 fun x H2=>∃ e C,x=.ref e/\H2 e=some (Eu e C none)/\Oh K C M f /\
 ∀ d,H2 d=none->d ≠ e->D.nx σ (upd (upd H2 e (Eu e C (some d))) d (.xd [(f,y)]))
theorem QP (ha:PE X o ta) (hv:PE X value tv) (hs:swapsWith value (some (.Attribute o f pos')) pos.line X.env=pure false):PS X (.Assign [.Attribute o f pos'] value pos) (Te X.K M ta tv f):=by
 intro aa s σ H D I h;refine plainObj_wpAny_Assign_Attribute (thn (hv aa s σ H _ I h) fun u s1 ⟨y,H1,I1,ry,q⟩=>thn (ha aa s1 σ H1 _ I1 q) fun ov s2 ⟨x,H2,I2,rx,e,C,ex,ea,S,q2⟩=>?_) hs;subst ex;obtain rfl:ov=Value.ref e:=rx;obtain ⟨⟨oe,vs,a1,a2,a3,a4,a5,a6,a7⟩,_,_⟩:=I2.hok _ _ ea;obtain ⟨cd,hc,hm,hd⟩:=S.cls;refine QO I2.kIn a1 a2 a3 a4 hc hm hd S.nf S.sa fun h' tk' hx hn hk=>?_;have hde:s2.heap.objs.size ≠ e:=Nat.ne_of_gt (lt_size a1);have hdn:H2 s2.heap.objs.size=none:=I2.hok.fresh (Nat.le_refl _);generalize hH':upd (upd H2 e (Eu e C (some s2.heap.objs.size))) s2.heap.objs.size (.xd [(f,y)])=H';have lt:∀ b u,H2 b=some u->b < s2.heap.objs.size:=fun b u z=>I2.hok.lt z;have oth:∀ b,b < s2.heap.objs.size->b ≠ e->H' b=H2 b:=fun b hb n=>by rw [← hH',AG (Nat.ne_of_lt hb),AG n]
 have ate:H' e=some (Eu e C (some s2.heap.objs.size)):=by rw [← hH',AG (Ne.symm hde),AB]
 have atd:H' s2.heap.objs.size=some (.xd [(f,y)]):=by rw [← hH',AB]
 have next:∀ b u,H2 b=some u->(∀ φ,u ≠ .ext φ)->b ≠ e:=fun b u z n w=>by subst w; rw [ea] at z; cases z; exact n _ rfl
 have nn:∀ b,H2 b=none->b ≠ e:=fun b z w=>by subst w; rw [ea] at z; cases z
 have un:Un X.fs [] H2 H' s2.heap h':=by
  refine ⟨fun b ob z n _ _=>hk b ob (nn b n) z,fun b ob z n _ _=>⟨ob.slots,hk b ob (nn b n) z⟩,fun b ob z n _=>by rw [oth b (lt_size z) (nn b n)]; exact n,fun b ob z _=>?_,fun b xs z=>?_,fun b ob w z=>?_,fun b ps z=>⟨#[],?_⟩⟩
  ·by_cases w:b=e
   ·subst w; exact ⟨_,hx⟩
   ·exact ⟨ob,hk b ob w z⟩
  ·rw [oth b (lt _ _ z) (next b _ z fun _ w=>nomatch w)]; exact z
  ·rw [oth b (lt _ _ z) (next b _ z fun _ w=>nomatch w)]; exact z
  ·rw [oth b (lt _ _ z) (next b _ z fun _ w=>nomatch w),z]; simp
 have hok:HOk X.prog X.w H' h':=fun b w z=>by
  by_cases hb:b=s2.heap.objs.size
  ·subst hb;rw [atd] at z;cases z;refine ⟨_,hn,fun g=>?_⟩;by_cases hg:g=f
   ·subst hg;simp only [if_pos rfl,lookup_cons,beq_self_eq_true];exact ry
   ·have e1:(g == f)=false:=beq_eq_false_iff_ne.mpr hg;simp only [if_neg hg,lookup_cons,e1,List.lookup_nil];trivial
  by_cases hb2:b=e
  ·subst hb2;rw [ate] at z;cases z;exact ⟨⟨_,vs,hx,a2,rfl,a4,a5,a6,a7⟩,⟨_,hx⟩,fun h1 h2 ⟨oe,vs,a,r⟩ k=>⟨oe,vs,k _ a,r⟩⟩
  ·have z':H2 b=some w:=by rw [← hH',AG hb,AG hb2] at z; exact z
   refine (I2.hok b w z').stay (fun b2 ob hc2 q=>hk b2 ob ?_ q) (fun b2 q=>?_) fun b2 xs q=>?_
   ·rcases hc2 with w2 | w2
    ·rw [w2]; exact hb2
    ·exact next b2 _ w2 fun _ y=>nomatch y
   ·rw [oth b2 (lt _ _ q) (next b2 _ q fun _ y=>nomatch y)]; exact q
   ·rw [oth b2 (lt _ _ q) (next b2 _ q fun _ y=>nomatch y)]; exact q
 have I3:=I2.un (t':=tk') un hok;have q3:=q2 s2.heap.objs.size hdn hde;rw [hH'] at q3;exact ⟨σ,H',I3,q3⟩
end
section
variable {CX:CXT} {k:Nat} {f:Addr} {fd:FuncData} {ps:List Str} {sp:Sp} {dvs:List V} {ds:List Value} {E:XK} {name:Str} {np apos:Pos} {es:List Expr} {t:TA} {mc:Value}
theorem Ky {pl:Sem Bool} (hg:Gl X x) (hm:X.mg x=some (.ref C)) (ga:W.specialIn X.K (.ref C) "__getattribute__" = some (some (.builtin "type.__getattribute__"))) (hr0:W.readsIn X.K C mc=true) (hf:W.findCls X.K (.ref C) mc name=some (.val (.ref f)))
  (F:AX X.prog X.w X.K X.mg X.base CX k f fd ps sp) (hr:Room k X.A) (hk:W.keepIn X.K (.ref f)=true) (hb:Binds X.K fd ps ds) (hd:Vals dvs ds) (hx:BF CX X E) (ha:PA X (e :: es) t) (hdb:(x == ("__debug__" : Str))=false:=by decide)
  (he:starEach (e :: es) X.env=(false,eval e X.env) :: starEach es X.env:=by rfl) (hpl:(backTo pos (starEach es X.env)).any (·.1)=false:=by rfl)
  (ht:eval (.Call (.Attribute (.Name x np) name apos) (e :: es) [] pos) X.env=(do
   let ov ← eval (.Name x np) X.env
   standAt apos.atName
   let (f,first) ← holding [ov] (getMethod ov name pl)
   callWith pos f first (backTo pos (starEach (e :: es) X.env)) (backToKw pos (keywordEach [] X.env))):=by rfl) :
  PE X (.Call (.Attribute (.Name x np) name apos) (e :: es) [] pos) (JJ sp dvs E t):=by
 intro aa s σ H Q I h;refine W.methodCall_KW (pl:=pl) ?_ ht;refine Bb I hg hm ?_ hdb;refine W.method_cls I.kIn ga (W.cls_value I.kIn hr0 hf rfl ?_);refine W.callWith_K (h₀:=X.base) I.ok.mod.kin hk (thn (ha pos aa _ σ H _ (I.tok _) h) fun us s1 ⟨vs,H1,I1,r,q⟩=>⟨I1.kIn,?_⟩) he hpl;exact IQ F hr hb hd hx I1 r q
end
section
variable {c:Str} {cp fp:Pos} {ck:Nat}
def Tf (c:Str) (te:TE):TE:=fun σ H Q=>te σ H fun x H1=>((∃ i,x=.int i/\i.natAbs.log2 < 1920)\/(∃ z,x=.str z/\z.length <= 1000)\/x=.non)/\∀ z,Q (.str z) H1
theorem Ay (a b:Str):(a++b).length=a.length + b.length:=strLen_append a b
theorem QQ (hc:c.length <= 1000) (he:PE X e te):PE X (.JoinedStr [.Constant (.str c) ck cp,.FormattedValue e (-1) none fp] pos) (Tf c te):=by
 intro aa s σ H Q I h;refine JoinedStr_many (joinParts_cons (Calls.Constant_str ?_));have l0:(Str.empty++c).length <= 1000:=by rw [Ay]; show 0 + c.length <= 1000; omega
 have sz:(3000:Nat) <= sizeLine:=by decide
 refine ⟨Nat.le_trans l0 (Nat.le_trans (by decide) sz),joinParts_cons ?_⟩;refine wpAny_FormattedValue_plain (thn (he aa _ σ H _ (I.tok _) h) fun u s1 ⟨x,H1,I1,r,q,k⟩=>?_);rcases q with ⟨i,rfl,hi⟩ | ⟨z,rfl,hz⟩ | rfl
 ·obtain ⟨t,rfl⟩:=r;refine PySem.wpAny_formatField_int hi ?_;have l1:(Str.ofString (toString i)).length <= 1921:=by rw [PySem.ofString_length]; exact int_text_length_le (k:=1920) (by decide) hi
  have l2:((Str.empty++c)++Str.ofString (toString i)).length <= sizeLine:=by
   rw [Ay];omega
  exact ⟨l2,joinParts_nil ⟨.str _,H1,(I1.tok _).tok _,⟨_,rfl⟩,k _⟩ l2⟩
 ·obtain ⟨t,rfl⟩:=r
  have l2:((Str.empty++c)++z).length <= sizeLine:=by
   rw [Ay];omega
  have hz2:z.length <= sizeLine:=by omega
  exact PySem.wpAny_formatField_str ⟨l2,joinParts_nil ⟨.str _,H1,I1.tok _,⟨_,rfl⟩,k _⟩ l2⟩ ⟨l2,joinParts_nil ⟨.str _,H1,(I1.tok _).tok _,⟨_,rfl⟩,k _⟩ l2⟩ hz2
 ·obtain rfl:u=Value.none:=r
  have l2:((Str.empty++c)++("None" : Str)).length <= sizeLine:=by
   have:("None" : Str).length=4:=by decide +kernel
   rw [Ay];omega
  exact PySem.wpAny_formatField_none ⟨l2,joinParts_nil ⟨.str _,H1,(I1.tok _).tok _,⟨_,rfl⟩,k _⟩ l2⟩
end
structure Tg (K:FG) (C:Addr) (f:Str):Prop where
 hg:EL K C
 hh:W.hasDictIn K C=true
 ha:W.findIn K (.ref C) f=some none
section
variable {e:Addr} {oe:Obj} {o:Expr} {f:Str} {ta:TE}
def Oi (e:Addr) (oe:Obj) (f:Str) (ta:TE):TE:=fun σ H Q=>ta σ H fun x H1=>∃ d fs v,x=.ref e/\oe.dict=some d/\H1 d=some (.xd fs)/\fs.lookup f=some v/\Q v H1
theorem QR (p:ExcP X e oe C) (g:Tg X.K C f) (he:PE X o ta) (hb:attributeBase o f X.env (eval o X.env)=eval o X.env):PE X (.Attribute o f pos) (Oi e oe f ta):=by
 intro aa s σ H Q I h;refine Lg hb (thn (he aa s σ H _ I h) fun u s1 ⟨x,H1,I1,rx,d,fs,v,ex,hd,hH,l,q⟩=>?_);subst ex;obtain rfl:u=Value.ref e:=rx;obtain ⟨mA,hn,r⟩:=I1.hok _ _ hH;obtain ⟨od,ho,hl⟩:=HW hn;obtain ⟨w,hw,rw'⟩:=RelO.some_of (v:=v) (o:=mA f) (by rw [← l]; exact r f);have hp:=(I1.pin (e,oe) (mem_append_left _ p.at_)).1;obtain ⟨vs,hv⟩:=p.fld;have J:W.InstAt s1.heap e oe C (some od):=⟨hp,p.cls,by unfold W.notCls; rw [hv],by rw [hd]; exact ho⟩;exact Oc g.hg I1.kIn J (W.findObj_own g.hh g.ha rfl (by rw [hl,hw])) (HX rw') ⟨v,H1,I1.tok _,rw',q⟩
end
structure PEw (X:Cx) (e:Expr) (t:TE):Prop where
 h:PE X e t
structure PAw (X:Cx) (es:List Expr) (t:TA):Prop where
 h:PA X es t
section
variable {es:List Expr} {t:TA}
theorem B3:PAw X [] Cr:=⟨AC⟩
end
structure PSw (X:Cx) (st:Stmt) (t:TS):Prop where
 h:PS X st t
structure PSsw (X:Cx) (st:List Stmt) (t:TS):Prop where
 h:PSs X st t
structure PIw (X:Cx) (tg e:Expr) (t:TI):Prop where
 h:PI X tg e t
section
variable {st:Stmt} {rest:List Stmt} {t u:TS} {tg l iter:Expr} {tl:TE}
theorem C3:PSsw X [] RB:=⟨AV⟩
theorem CO (a:PSw X st t) (b:PSsw X rest u):PSsw X (st :: rest) (TB t u):=⟨AE a.h b.h⟩
theorem B4 (a:PSw X st t):PSsw X [st] t:=⟨AD a.h⟩
theorem Oj (h:PEw X l tl):PIw X tg l (Nq X.K tl):=⟨Bx h.h⟩
theorem Ol {body:List Stmt} {wi:TI} {g:TG} {tb:TS} (hp:PassesOwn (model X.prog X.w) X.A X.env X.xe) (hc:X.calm=true) (hi:PIw X tg iter wi) (hg:PG X tg g) (hb:PSsw X body tb)
  (hs:∀ x,foldedSetIterable iter X.env x=pure x:=by intro _; rfl):PSw X (.For tg iter body [] pos) (TJ wi g tb):=⟨DS hp hc hi.h hg hb.h hs⟩
end
section
def Ti (i j k:Nat) (ta:TA):TS:=fun D σ H=>ta σ H fun vs H1=>∃ v w z,vs=[v,w,z]/\D.nx (((σ.set k (some z)).set j (some w)).set i (some v)) H1
theorem QS {i j k:Nat} {y z:Str} {a b c:Expr} {ta:TA} {px py pz pt:Pos} {kt k2 pt2} (hc:X.calm=true) (hN:X.N.Nodup) (hi:X.N[i]?=some x) (hj:X.N[j]?=some y) (hk:X.N[k]?=some z)
  (hx:X.env.scope.names.lookup x=some .local) (hy:X.env.scope.names.lookup y=some .local) (hz:X.env.scope.names.lookup z=some .local) (ha:PA X [a,b,c] ta)
  (hw:swappedStores [.Tuple [.Name x px,.Name y py,.Name z pz] kt pt] (.Tuple [a,b,c] k2 pt2) X.env=pure (some [x,y,z]))
  (hs:swapsWithSole [.Tuple [.Name x px,.Name y py,.Name z pz] kt pt] (.Tuple [a,b,c] k2 pt2) pos.line X.env=pure false:=by rfl) :
  PS X (.Assign [.Tuple [.Name x px,.Name y py,.Name z pz] kt pt] (.Tuple [a,b,c] k2 pt2) pos) (Ti i j k ta):=by
 intro aa s σ H D I h;rw [exec_Assign_arm];refine wpAny_bind (wpAny_standAt ?_);rw [hs];refine wpAny_bind (wpAny_pure ?_);rw [if_neg (by decide)];refine wpAny_bind (Tuple_ (thn (ha _ aa s σ H _ I h) fun us s1 ⟨vs,H1,I1,r1,q1⟩=>?_));obtain ⟨v,w,t,e1,q1⟩:=q1;subst e1
 obtain ⟨u1,u2,u3,rfl,rv,rw',rt⟩:∃ u1 u2 u3,us=[u1,u2,u3]/\RelV v u1/\RelV w u2/\RelV t u3:=by
  cases r1 with
  | cons p q =>
   cases q with
   | cons p' q' =>
    cases q' with
    | cons p'' q'' =>
     cases q'';exact ⟨_,_,_,rfl,p,p',p''⟩
 refine wpAny_newObj_type ?_ sl3;have I2:Inv X aa σ H1 { s1 with heap:=s1.heap.push { cls:=.type "tuple", data:=.seq [u1,u2,u3].toArray } }:=I1.kept (t':=s1.toks) fun b o e=>get?_push_of_some _ e;rw [hw];refine wpAny_bind (wpAny_pure ?_);show wpAny (model X.prog X.w) X.A (do rule "assign.swapped-stores"; let items ← unpackItems (.ref s1.heap.objs.size) 3 none; assignInOrder [fun v=>bindName X.env z v,fun v=>bindName X.env y v,fun v=>bindName X.env x v] items.reverse; pure Flow.next) _ _ _;refine wpAny_bind (wpAny_rule (wpAny_bind (unpackItems_tuple (items:=#[u1,u2,u3]) (I.ok.hd hc) (IsTup.new s1.heap _) fun h' hx'=>?_)));have I3:=I2.kept (h':=h') (t':=s1.toks) fun b o e=>hx' b o (Nat.ne_of_lt (lt_size e)) e;show wpAny _ _ (assignInOrder [fun v=>bindName X.env z v,fun v=>bindName X.env y v,fun v=>bindName X.env x v] [u3,u2,u1] >>= fun _=>pure Flow.next) _ _ _;refine wpAny_bind (assignInOrder_cons (wpAny_bindName (CM I3 hN hk (.inl hz) rt (fun s2 I4=>?_) (.inr hz))));refine assignInOrder_cons (wpAny_bindName (CM I4 hN hj (.inl hy) rw' (fun s3 I5=>?_) (.inr hy)));refine assignInOrder_cons (wpAny_bindName (CM I5 hN hi (.inl hx) rv (fun s4 I6=>assignInOrder_nil (wpAny_pure ?_)) (.inr hx)));exact ⟨_,H1,I6,q1⟩
end
def Ud:V->Option Int->Option Int->Hp->VK->Prop:=fun x lo hi H Q=>∃ z,x=.str z/\z.length <= sizeLine/\Q (.str (Txt.slice z lo hi)) H
theorem Lx {v:Value} {o:Option Int} (h:IsPart v o):∃ l:Option (Int × Tok),v=partValue l/\o=l.map (·.1):=by
 cases h with
 | none=>exact ⟨none,rfl,rfl⟩
 | int i t=>exact ⟨some (i,t),rfl,rfl⟩
theorem Om:SlR X Ud:=by
 intro aa s σ H x v vl vu lo hi sl Q I rx hs pl pu h;obtain ⟨z,rfl,hz,q⟩:=h;obtain ⟨t,rfl⟩:=rx;obtain ⟨l,rfl,rfl⟩:=Lx pl;obtain ⟨u,rfl,rfl⟩:=Lx pu;refine ⟨"str", _,F.slot_str_getitem.lookup,typeIs_str s z t,?_⟩;exact wpAny_getItem_str_slice (l:=l) (u:=u) (st:=none) hs rfl (post_val_or_str ⟨Nat.le_trans (Txt.slice_le z _ _) hz,fun t' k=>⟨.str (Txt.slice z _ _),H,I.tok k,⟨t',rfl⟩,q⟩⟩)
theorem D3:CallR X (.type "int") (fun xs H Q=>∃ x n,xs=[.str x]/\x.length <= 640/\intText? x=some n/\Q (.int n) H):=by
 intro aa s σ H xs us Q I r h;obtain ⟨x,n,rfl,hl,hn,q⟩:=h;obtain ⟨u,rfl,t,rfl⟩:=Bs r;exact W.KIN.call_text hn hl ⟨.int n,H,I.tok _,⟨_,rfl⟩,q⟩
section
theorem QT:OpR X (binaryOp .Mult) (fun x y H Q=>∃ (i:Str) (n:Int),x=.str i/\y=.int n/\((n=0/\Q (.str "") H)\/(n=1/\Q (.str i) H))):=by
 intro aa s σ H x y v u Q I rx ry h;obtain ⟨i,n,rfl,rfl,h⟩:=h;obtain ⟨t,rfl⟩:=rx;obtain ⟨t',rfl⟩:=ry;rcases h with ⟨rfl,q⟩ | ⟨rfl,q⟩
 ·refine PySem.P.mul_str rfl (fun z _=>absurd (by decide) z) (fun z _=>absurd (by decide) z) ?_;rw [if_pos (by decide)];exact ⟨(by decide),.str "", H,I.tok _,⟨_,rfl⟩,q⟩
 ·refine PySem.P.mul_str rfl (fun _ z=>by simp at z) (fun _ z=>by simp at z) ?_;rw [if_neg (by decide),if_pos (by simp)];exact ⟨.str i,H,I,⟨_,rfl⟩,q⟩
theorem Ik:CallR X (.type "str") (fun xs H Q=>∃ x,xs=[.str x]/\Q (.str x) H):=by
 intro aa s σ H xs us Q I r h;obtain ⟨x,rfl,q⟩:=h;obtain ⟨u,rfl,t,rfl⟩:=Bs r;exact PySem.P.str_of_str ⟨.str x,H,I,⟨_,rfl⟩,q⟩
end
structure PTw (X:Cx) (e:Expr) (t:TT):Prop where
 h:PT X e t
section
variable {a b c:Expr} {ta tb:TE} {tc:TT} {st:Stmt} {s1 s2 rest:List Stmt} {t u:TS} {es:List Expr} {ts:TA}
theorem Ey {i:Nat} {pos':Pos} (hN:X.N.Nodup) (hi:X.N[i]?=some x) (hx:Loc X.env.scope x) (he:PEw X e te) (hs:swapsWith e (some (.Name x pos')) pos.line X.env=pure false:=by rfl) (hf:X.fn x=true\/X.env.scope.names.lookup x=some .local:=by first | exact .inl rfl | exact .inr rfl) :
  PSw X (.Assign [.Name x pos'] e pos) (Rp te (CW i)):=⟨Ac hN hi hx he.h hs hf⟩
theorem Dd {op:Operator} {r:R2} (ho:OpR X (binaryOp op) r) (ha:PEw X a ta) (hb:PEw X b tb):PEw X (.BinOp a op b pos) (tOp r ta tb):=⟨AZ ho ha.h hb.h⟩
theorem DL {r:R2} (hr:IxR X r) (ha:PEw X a ta) (hb:PEw X b tb) (hs:Lk b):PEw X (.Subscript a b pos) (tOp r ta tb):=⟨BI hr ha.h hb.h hs⟩
theorem HI (hc:PTw X c tc) (ha:PSsw X s1 t) (hb:PSsw X s2 u):PSw X (.If c s1 s2 pos) (TD tc t u):=⟨Ag hc.h ha.h hb.h⟩
theorem RM (hc:PTw X c tc) (ha:PEw X a ta) (hb:PEw X b tb):PEw X (.IfExp c a b pos) (tIf tc ta tb):=⟨BX hc.h ha.h hb.h⟩
theorem Aq (he:PEw X e te) (h:PAw X es ts) (hs:starEach (e :: es) X.env=(false,eval e X.env) :: starEach es X.env:=by rfl):PAw X (e :: es) (Ao te ts):=⟨AA he.h h.h hs⟩
theorem BP {CX:CXT} {k:Nat} {f:Addr} {fd:FuncData} {ps:List Str} {sp:Sp} {ds:List Value} {dvs:List V} {E:XK} {p:Pos} (F:AX X.prog X.w X.K X.mg X.base CX k f fd ps sp) (hr:Room k X.A) (hg:Gl X x) (hm:X.mg x=some (.ref f)) (hk:W.keepIn X.K (.ref f)=true) (hb:Binds X.K fd ps ds) (hd:Vals dvs ds) (hx:BF CX X E)
  (ha:PAw X (e :: es) ts) (hdb:(x == ("__debug__" : Str))=false:=by decide) (he:starEach (e :: es) X.env=(false,eval e X.env) :: starEach es X.env:=by rfl) (hpl:(backTo pos (starEach es X.env)).any (·.1)=false:=by rfl) :
  PEw X (.Call (.Name x p) (e :: es) [] pos) (JJ sp dvs E ts):=⟨AS F hr hg hm hk hb hd hx ha.h hdb he hpl⟩
end
abbrev DcE:=Str × Tok × Int × Tok
def RP (P:Params) (e:DcE):DictEntry:=⟨PyData.keyHash P e.1,.str e.1 e.2.1,.int e.2.2.1 e.2.2.2⟩
noncomputable def dcObj (P:Params) (l:List DcE) (ep:Nat):Obj:=⟨.type "dict", none,.dict (l.map (RP P)).toArray ep,#[]⟩
noncomputable def dcK (l:List DcE):LK:=l.map fun e=>(Sum.inr e.1,.int e.2.2.1)
theorem Tj {bd:Addr} {l:List DcE} {ep:Nat} (e:h.get? bd=some (dcObj w.params l ep)) (nd:(l.map (·.1)).Nodup):∃ vs,KV (dcK l) vs/\h.DictOf (Ai P w) bd vs:=by
 refine ⟨l.map fun e=>(Sum.inr e.1,.int e.2.2.1 e.2.2.2),?_,_,_,_,e,⟨rfl,rfl,rfl⟩,rfl,fun x hx=>?_,?_,?_⟩
 ·unfold dcK;clear e nd;induction l with
  | nil=>exact .nil
  | cons a r ih=>exact .cons ⟨rfl,_,rfl⟩ ih
 ·obtain ⟨a,_,rfl⟩:=mem_map.mp (List.mem_toArray.mp hx);exact ⟨Sum.inr a.1,DQ P w _ _,rfl⟩
 ·show Pairs _ (l.map (RP w.params)).toArray.toList _;rw [List.toList_toArray];clear e nd;induction l with
  | nil=>exact .nil
  | cons a r ih=>exact .cons (DQ P w _ _) rfl ih
 ·rw [map_map];have:(l.map ((fun x:Key × Value=>x.1) ∘ fun e:DcE=>((Sum.inr e.1:Key),Value.int e.2.2.1 e.2.2.2)))=(l.map (·.1)).map (fun x=>(Sum.inr x:Key)):=by rw [map_map]; rfl
  rw [this];exact List.Pairwise.map _ (fun a b hab z=>hab (Sum.inr.inj z)) nd
theorem Kz {mb:SV} {CX:CXT} {k:Nat} {fa c P0 bd:Addr} {l:List DcE} {ep:Nat} {fd:FuncData} {sp:Sp} {s₁:Shared} {vs:List Value} {ns:List Int}
  (KX:K.In s₁.heap) (hns:s₁.heap.Ns mainGlobals mg) (hb:s₁.heap.Ns builtinsNs mb) (hbb:∀ x:Str,x ≠ "__name__" -> mb x=bootBuiltins x) (hlim:s₁.heap.NoLimit) (hg:s₁.gens=#[])
  (ha:s₁.heap.get? a=some { cls:=.type "list", data:=.seq vs.toArray }) (hi:IntsAre vs ns) (hl:ns.length <= sizeLine) (hr:Room k callerA)
  (hP:s₁.heap.get? P0=some (W.tabObj #[])) (hKP:K.lookup P0=none) (hC:W.CodeHd s₁.heap c P0) (hB:s₁.heap.BuiltinsAt mg P0)
  (hD:s₁.heap.get? bd=some (dcObj w.params l ep)) (hKD:K.lookup bd=none) (hb5:5 <= bd) (hdl:l.length <= 1000) (hdn:(l.map (·.1)).Nodup)
  (F:∀ base:Heap,K.In base->base.Ns mainGlobals mg->W.CodeHd base c P0->base.BuiltinsAt mg P0->AX P w K mg base CX k fa fd [x] sp) (bq:∀ (s:Shared) (u:Value),BindsTo s fd ⟨[u],[]⟩ [(x,u)])
  (hsp:∀ H:Hp,H P0=some (.tbl #[])->Rd H bd (.dK (dcK l))->SqL K H a (ns.map V.int)->sp [.ref a] H (fun v _=>v=.bl true) fun _ _ _=>False)
  (hCX:∀ H e s',CX [] H s₁ (fun _ _ _=>False) e s'->False) :
  codeAny (model P w) callerA (.call (.ref fa) ⟨[.ref a],[]⟩) (fun r s'=>r=.ok (.ret (.bool true))/\OldK s₁.heap s'.heap/\s'.os=s₁.os/\AllBare s'.gens) s₁:=by
 have rv:=Dr hi;have lenV:=hi.length;have haP:a ≠ P0:=fun z=>by subst z; rw [ha] at hP; cases hP
 have hab:a ≠ bd:=fun z=>by subst z; rw [ha] at hD; cases congrArg Obj.data (Option.some.inj hD)
 have hPb:P0 ≠ bd:=fun z=>by subst z; rw [hP] at hD; cases congrArg Obj.data (Option.some.inj hD)
 have okD:∀ H:Hp,ObjOk P w H s₁.heap bd (.frz (dcObj w.params l ep) (.dK (dcK l))):=fun H=>⟨hD,by unfold dcK; rw [AK]; exact Nat.le_of_lt (AO hdl),by
  cases q:(bd == sysModules) with
  | false=>rfl
  | true =>
   rw [beq_iff_eq.mp q] at hb5
   exact absurd hb5 (by decide),Tj hD hdn⟩
 have core:∀ H:Hp,(∀ b,H b=none\/(∃ o u,H b=some (.frz o u))\/b=P0)->H P0=some (.tbl #[])->H bd=some (.frz (dcObj w.params l ep) (.dK (dcK l)))->SqL K H a (ns.map V.int)->HOk P w H s₁.heap->(∀ b,H b ≠ none->b=a\/b=P0\/b=bd)->(H a ≠ none->K.lookup a=none)->(∀ b o u,H b=some (.frz o u)->s₁.heap.get? b=some o) ->
   (∀ (H':Hp) (s':Shared) (b:Addr) (o:Obj) (u:HO),H b=some (.frz o u)->HOk P w H' s'.heap->H' b=some (.frz o u)->s'.heap.get? b=some o) ->
   codeAny (model P w) callerA (.call (.ref fa) ⟨[.ref a],[]⟩) (fun r s'=>r=.ok (.ret (.bool true))/\OldK s₁.heap s'.heap/\s'.os=s₁.os/\AllBare s'.gens) s₁:=by
  intro H hO hHP hHD hS hok hA hK hfz hfz';have base_of:∀ {b:Addr} {o:Obj},s₁.heap.get? b=some o->H b=none->(F6 s₁.heap H).get? b=some o:=fun e n=>Nk e n
  have noS:∀ {b:Addr} {o:Obj},s₁.heap.get? b=some o->(∀ xs n,o.data ≠ .seq xs n)->(∀ es n,o.data ≠ .dict es n)->o.cls ≠ .none->H b=none:=fun {b o} e d1 d3 d2=>by
   cases q:H b with
   | none=>rfl
   | some u =>
    rcases hA b (by rw [q]; simp) with e' | e' | e'
    ·subst e';rw [ha] at e; cases e;exact absurd rfl (d1 _ _)
    ·subst e';rw [hP] at e; cases e;exact absurd rfl d2
    ·subst e';rw [hD] at e; cases e;exact absurd rfl (d3 _ _)
  have noA:∀ {b:Addr} {o:Obj} {es:Array DictEntry} {ep:Nat},b < 5->s₁.heap.get? b=some o->o.data=.dict es ep->H b=none:=fun {b o es ep} hb e d=>by
   cases q:H b with
   | none=>rfl
   | some u =>
    rcases hA b (by rw [q]; simp) with e' | e' | e'
    ·subst e';rw [ha] at e; cases e;cases (show Data.seq vs.toArray _=Data.dict es ep from d)
    ·subst e';rw [hP] at e; cases e;cases (show Data.fields #[]=Data.dict es ep from d)
    ·subst e';exact absurd hb (Nat.not_lt.mpr hb5)
  have nsK:∀ {b:Addr} {m:SV},b < 5->s₁.heap.Ns b m->(F6 s₁.heap H).Ns b m:=fun {b m} hb ⟨o,es,ep,e,d,r⟩=>⟨o,es,ep,base_of e (noA hb e d),d,r⟩
  have hKb:K.In (F6 s₁.heap H):=fun b o e=>base_of (KX b o e) (by
   cases q:H b with
   | none=>rfl
   | some u =>
    rcases hA b (by rw [q]; simp) with e' | e' | e'
    ·subst e';rw [hK (by rw [q]; simp)] at e; cases e
    ·subst e';rw [hKP] at e; cases e
    ·subst e'
     rw [hKD] at e; cases e)
  have hM:Mod K mg (F6 s₁.heap H):=⟨hKb,nsK (by decide) hns,⟨mb,nsK (by decide) hb,hbb⟩,let ⟨mc,h1,h2⟩:=hlim; ⟨mc,nsK (by decide) h1,h2⟩⟩
  have hCb:W.CodeHd (F6 s₁.heap H) c P0:=by
   obtain ⟨o,vs',file,tf,flags,tg,inF,text,tt,e,af,hda,r⟩:=id hC;exact ⟨o,vs',file,tf,flags,tg,inF,text,tt,base_of e (noS e (fun xs n z=>by rw [hda] at z; cases z) (fun xs n z=>by rw [hda] at z; cases z) (by rw [af]; exact fun z=>nomatch z)),af,hda,r⟩
  have hBb:(F6 s₁.heap H).BuiltinsAt mg P0:=by
   obtain ⟨bm,o,a1,a2,a3,a4,a5,a6,a7,a8⟩:=id hB;exact ⟨bm,o,a1,a2,a3,a4,base_of a5 (noS a5 (fun xs n z=>by rw [a8] at z; cases z) (fun xs n z=>by rw [a8] at z; cases z) (by rw [a6]; exact fun z=>nomatch z)),a6,a7,a8⟩
  have e0:Env0 P w K mg (F6 s₁.heap H) callerA [] s₁ H:=⟨rfl,hM,fun b o e=>Pr e,Nat.le_of_eq (Mh _ _),trivial,fun b hb=>absurd (show b ∈ ([]:List Addr) from hb) (by simp),hok,.of_eq hg⟩;refine codeAny_mono ((F _ hKb (nsK (by decide) hns) hCb hBb).run callerA [] s₁ H ⟨[.ref a],[]⟩ [.ref a] [.ref a] _ _ hr e0 (bq s₁ (.ref a)) (.cons rfl .nil) (hsp H hHP (.inr ⟨_,hHD⟩) hS)) fun r s' h=>?_;cases r with
  | error e=>exact (hCX H e s' h).elim
  | ok fl =>
   cases fl with
   | next=>exact False.elim h
   | brk=>exact False.elim h
   | cont=>exact False.elim h
   | ret u =>
    obtain ⟨v,H',os,bare,un,hok',r',q⟩:=h;have q':v=.bl true:=q;subst q';obtain rfl:u=Value.bool true:=r'
    have tabNow:∃ more,s'.heap.get? P0=some (W.tabObj (#[]++more)):=by
     obtain ⟨more,e⟩:=un.tbls P0 #[] hHP;exact ⟨more,hok' _ _ e⟩
    have rest:∀ b o,b ≠ P0->s₁.heap.get? b=some o->s'.heap.get? b=some o:=fun b o hb e=>by
     cases q:H b with
     | none=>exact un.keep b o e q (by intro z; exact absurd (show b ∈ ([]:List Addr) from z) (by simp)) (by simp)
     | some u =>
      rcases hO b with z | ⟨ob,xs,z⟩ | z
      ·rw [q] at z; cases z
      ·have z2:=un.frzs b ob _ z;have e1:=hfz b ob _ z;rw [e] at e1; cases e1;exact hfz' H' s' b o xs z hok' z2
      ·exact absurd z hb
    refine ⟨rfl,⟨fun b o e=>?_,fun b o e=>?_⟩,os,bare⟩
    ·by_cases hb:b=P0
     ·subst hb;rw [hP] at e;cases e;obtain ⟨more,e2⟩:=tabNow;exact .inr (.inl ⟨(hC.tab hP).isCodeTable,rfl,#[],more,rfl,e2⟩)
     ·exact .inl (rest b o hb e)
    ·by_cases hb:b=P0
     ·subst hb;obtain ⟨more,e2⟩:=tabNow;exact ⟨_,e2⟩
     ·exact ⟨o,rest b o hb e⟩
 have fzD:∀ (H':Hp) (s':Shared),HOk P w H' s'.heap->H' bd=some (.frz (dcObj w.params l ep) (.dK (dcK l)))->s'.heap.get? bd=some (dcObj w.params l ep):=fun H' s' hok' z=>by
  obtain ⟨e1,_⟩:=hok' bd _ z;exact e1
 have fzL:∀ (H':Hp) (s':Shared),HOk P w H' s'.heap->H' a=some (.frz { cls:=.type "list", data:=.seq vs.toArray } (.lst (ns.map V.int)))->s'.heap.get? a=some { cls:=.type "list", data:=.seq vs.toArray }:=fun H' s' hok' z=>by
  obtain ⟨e1,_⟩:=hok' a _ z;exact e1
 cases hk:K.lookup a with
 | some o =>
  have e:=KX a o hk;rw [ha] at e;cases e
  have cs:∀ b u,(if b=P0 then some (HO.tbl #[]) else if b=bd then some (.frz (dcObj w.params l ep) (.dK (dcK l))) else none)=some u->(b=P0/\u=.tbl #[])\/(b=bd/\u=.frz (dcObj w.params l ep) (.dK (dcK l))):=fun b u z=>by
   by_cases h1:b=P0
   ·rw [if_pos h1] at z; exact .inl ⟨h1,(Option.some.inj z).symm⟩
   ·rw [if_neg h1] at z;by_cases h2:b=bd
    ·rw [if_pos h2] at z; exact .inr ⟨h2,(Option.some.inj z).symm⟩
    ·rw [if_neg h2] at z; cases z
  refine core (fun b=>if b=P0 then some (.tbl #[]) else if b=bd then some (.frz (dcObj w.params l ep) (.dK (dcK l))) else none) (fun b=>?_) (if_pos rfl) ((if_neg (Ne.symm hPb)).trans (if_pos rfl)) (.inr ⟨_,vs.toArray,_,hk,rfl,rfl,rfl,by rw [size_toArray,lenV]; exact hl,by simpa using rv⟩) (fun b u z=>?_) (fun b z=>?_) (fun z=>absurd ((if_neg haP).trans (if_neg hab)) z) (fun b o u z=>?_) (fun H' s' b o u z hok' z'=>?_)
  ·by_cases h1:b=P0
   ·exact .inr (.inr h1)
   ·by_cases h2:b=bd
    ·exact .inr (.inl ⟨_,_,(if_neg h1).trans (if_pos h2)⟩)
    ·exact .inl ((if_neg h1).trans (if_neg h2))
  ·rcases cs b u z with ⟨rfl,rfl⟩ | ⟨rfl,rfl⟩
   ·exact hP
   ·exact okD _
  ·cases q:(if b=P0 then some (HO.tbl #[]) else if b=bd then some (.frz (dcObj w.params l ep) (.dK (dcK l))) else none) with
   | none=>exact absurd q z
   | some u =>
    rcases cs b u q with ⟨h,_⟩ | ⟨h,_⟩
    ·exact .inr (.inl h)
    ·exact .inr (.inr h)
  ·rcases cs b _ z with ⟨rfl,h⟩ | ⟨rfl,h⟩
   ·cases h
   ·cases h; exact hD
  ·rcases cs b _ z with ⟨rfl,h⟩ | ⟨rfl,h⟩
   ·cases h
   ·cases h; exact fzD H' s' hok' z'
 | none =>
  have cs:∀ b u,(if b=P0 then some (HO.tbl #[]) else if b=bd then some (.frz (dcObj w.params l ep) (.dK (dcK l))) else if b=a then some (.frz { cls:=.type "list", data:=.seq vs.toArray } (.lst (ns.map V.int))) else none)=some u->(b=P0/\u=.tbl #[])\/(b=bd/\u=.frz (dcObj w.params l ep) (.dK (dcK l)))\/(b=a/\u=.frz { cls:=.type "list", data:=.seq vs.toArray } (.lst (ns.map V.int))):=fun b u z=>by
   by_cases h1:b=P0
   ·rw [if_pos h1] at z; exact .inl ⟨h1,(Option.some.inj z).symm⟩
   ·rw [if_neg h1] at z;by_cases h2:b=bd
    ·rw [if_pos h2] at z; exact .inr (.inl ⟨h2,(Option.some.inj z).symm⟩)
    ·rw [if_neg h2] at z;by_cases h3:b=a
     ·rw [if_pos h3] at z; exact .inr (.inr ⟨h3,(Option.some.inj z).symm⟩)
     ·rw [if_neg h3] at z; cases z
  refine core (fun b=>if b=P0 then some (.tbl #[]) else if b=bd then some (.frz (dcObj w.params l ep) (.dK (dcK l))) else if b=a then some (.frz { cls:=.type "list", data:=.seq vs.toArray } (.lst (ns.map V.int))) else none) (fun b=>?_) (if_pos rfl) ((if_neg (Ne.symm hPb)).trans (if_pos rfl)) (.inl (.inr ⟨{ cls:=.type "list", data:=.seq vs.toArray },(if_neg haP).trans ((if_neg hab).trans (if_pos rfl))⟩)) (fun b u z=>?_) (fun b z=>?_) (fun _=>hk) (fun b o u z=>?_) (fun H' s' b o u z hok' z'=>?_)
  ·by_cases h1:b=P0
   ·exact .inr (.inr h1)
   ·by_cases h2:b=bd
    ·exact .inr (.inl ⟨_,_,(if_neg h1).trans (if_pos h2)⟩)
    ·by_cases h3:b=a
     ·exact .inr (.inl ⟨_,_,(if_neg h1).trans ((if_neg h2).trans (if_pos h3))⟩)
     ·exact .inl ((if_neg h1).trans ((if_neg h2).trans (if_neg h3)))
  ·rcases cs b u z with ⟨rfl,rfl⟩ | ⟨rfl,rfl⟩ | ⟨rfl,rfl⟩
   ·exact hP
   ·exact okD _
   ·exact ⟨ha,by rw [AK]; exact hl,vs,_,rv,ha⟩
  ·cases q:(if b=P0 then some (HO.tbl #[]) else if b=bd then some (.frz (dcObj w.params l ep) (.dK (dcK l))) else if b=a then some (.frz { cls:=.type "list", data:=.seq vs.toArray } (.lst (ns.map V.int))) else none) with
   | none=>exact absurd q z
   | some u =>
    rcases cs b u q with ⟨h,_⟩ | ⟨h,_⟩ | ⟨h,_⟩
    ·exact .inr (.inl h)
    ·exact .inr (.inr h)
    ·exact .inl h
  ·rcases cs b _ z with ⟨rfl,h⟩ | ⟨rfl,h⟩ | ⟨rfl,h⟩
   ·cases h
   ·cases h; exact hD
   ·cases h; exact ha
  ·rcases cs b _ z with ⟨rfl,h⟩ | ⟨rfl,h⟩ | ⟨rfl,h⟩
   ·cases h
   ·cases h; exact fzD H' s' hok' z'
   ·cases h; exact fzL H' s' hok' z'
theorem ND {l:W.OpenLaw} {n k:Nat} {q:Program} {loose:List Str} {XP:(Str->Option Value)->Heap->Prop} {YP:World->Heap->Prop} {d:DefRec} {K:Params->FG} {CX:World->CXT} {sp:World->Sp} {c P0 bd:Addr} {dl:List DcE} {ep:Nat}
  (hn:l.most=some n) (hn2:n <= sizeLine) (hdf:d.params.defaults=[]) (hr:Room k callerA) (hb5:5 <= bd) (hdl:dl.length <= 1000) (hdn:(dl.map (·.1)).Nodup)
  (hY:∀ (w:World) (h:Heap),YP w h->(K w.params).In h/\h.get? P0=some (W.tabObj #[])/\(K w.params).lookup P0=none/\W.CodeHd h c P0/\h.get? bd=some (dcObj w.params dl ep)/\(K w.params).lookup bd=none)
  (F:∀ (w:World) (mg:SV) (fa:Addr) (h:Heap),(K w.params).In h->h.Ns mainGlobals mg->mg d.name=some (.ref fa) ->
   ∃ fd:FuncData,(∀ (s:Shared) (u:Value),BindsTo s fd ⟨[u],[]⟩ [(x,u)]) /\
    ∀ base:Heap,(K w.params).In base->base.Ns mainGlobals mg->W.CodeHd base c P0->base.BuiltinsAt mg P0->AX l.prog w (K w.params) mg base (CX w) k fa fd [x] (sp w))
  (hsp:∀ (w:World) (H:Hp) (a:Addr) (ns:List Int),ns.length <= n->H P0=some (.tbl #[])->Rd H bd (.dK (dcK dl))->SqL (K w.params) H a (ns.map V.int)->sp w [.ref a] H (fun v _=>v=.bl true) fun _ _ _=>False)
  (hCX:∀ (w:World) (H:Hp) (s:Shared) (e:Value) (s':Shared),CX w [] H s (fun _ _ _=>False) e s'->False) :
  W.WalkO q loose XP YP l.row.toRowW d [] (fun f vs=>PySem.call f vs):=by
 refine Att.attach_call hn hdf fun w s₀ s₁ mg mb fa o pm cd doc a vs ns G Y ho hd hcd hmg cr bt ba hg=>?_;obtain ⟨KX,hP,hKP,hC,hD,hKD⟩:=hY w _ Y;obtain ⟨fd,hb,hF⟩:=F w mg fa _ KX G.T.g hmg
 have hB:s₁.heap.BuiltinsAt mg P0:=by
  obtain ⟨bm,ob,b1,b2,b3,b4,b5,b6⟩:=G.T.bmain;refine ⟨bm,ob,b1,b2,fun z=>?_,fun z=>?_,b3,b4,b5,b6⟩
  ·obtain ⟨o',es,ep,e,hd',_⟩:=G.T.g;rw [z,e] at b3; cases b3; rw [hd'] at b6; cases b6
  ·rw [z,hP] at b3; cases b3; cases b4
 exact Kz KX G.T.g G.T.b G.T.builtins G.T.nolimit hg cr bt (Nat.le_trans ba hn2) hr hP hKP hC hB hD hKD hb5 hdl hdn hF hb (fun H hH hR hS=>hsp w H a ns ba hH hR hS) fun H e s'=>hCX w H s₁ e s'
end L2
end
section
namespace MK
open PySem
theorem Bf (a b:Nat):Builtin.bitAnd (a:Int) (b:Int)=((a &&& b:Nat):Int):=by
 rw [PyProof.Rows.bitAnd_pp (Int.natCast_nonneg _) (Int.natCast_nonneg _)]; simp
theorem C4 (a b:Nat):Builtin.bitOr (a:Int) (b:Int)=((a ||| b:Nat):Int):=by
 have ha:¬ (0:Int) <= Builtin.bitNot (a:Int):=by unfold Builtin.bitNot; omega
 have hb:¬ (0:Int) <= Builtin.bitNot (b:Int):=by unfold Builtin.bitNot; omega
 unfold Builtin.bitOr;rw [PyProof.Rows.bitAnd_nn ha hb];have e:∀ n:Nat,(Builtin.bitNot (Builtin.bitNot (n:Int))).toNat=n:=fun n=>by unfold Builtin.bitNot; omega
 rw [e a,e b];unfold Builtin.bitNot; omega
theorem C5 (a b:Nat):Builtin.bitAnd (a:Int) (Builtin.bitNot (b:Int))=((a - (a &&& b):Nat):Int):=by
 rw [PyProof.Rows.bitAnd_not,Bf];have:a &&& b <= a:=Nat.and_le_left;omega
noncomputable def Ak (l:List Nat):Nat:=l.foldl (· ||| ·) 0
theorem Ez (k:Nat):∀ (l:List Nat) (a:Nat),(l.foldl (· ||| ·) a).testBit k=(a.testBit k || l.any (·.testBit k))
 | [],a=>by simp
 | x :: r,a=>by rw [foldl_cons,Ez k r,Nat.testBit_or,any_cons,Bool.or_assoc]
theorem Ds (l:List Nat) (k:Nat):(Ak l).testBit k=l.any (·.testBit k):=by
 unfold Ak; rw [Ez]; simp
theorem Gm {l:List Nat} {m:Nat} (h:∀ n ∈ l,n < 2 ^ m):Ak l < 2 ^ m:=by
 have:∀ (l:List Nat) (a:Nat),a < 2 ^ m->(∀ n ∈ l,n < 2 ^ m)->l.foldl (· ||| ·) a < 2 ^ m:=by
  intro l;induction l with
  | nil=>intro a ha _; exact ha
  | cons x r ih=>intro a ha hl; exact ih _ (Nat.or_lt_two_pow ha (hl x mem_cons_self)) fun n hn=>hl n (mem_cons_of_mem _ hn)
 exact this l 0 (Nat.two_pow_pos m) h
theorem EN (l:List Nat) (n:Nat):Ak (l++[n])=Ak l ||| n:=by unfold Ak; rw [foldl_append]; rfl
noncomputable def A4 (n:Nat):Bool:=decide (0 < n) && decide (n &&& (n - 1)=0)
theorem K0 (k:Nat):A4 (2 ^ k)=true:=by
 unfold A4;have h0:0 < 2 ^ k:=Nat.two_pow_pos k
 have h1:2 ^ k &&& (2 ^ k - 1)=0:=by
  apply Nat.eq_of_testBit_eq;intro i;rw [Nat.testBit_and,Nat.testBit_two_pow,Nat.testBit_two_pow_sub_one,Nat.zero_testBit];by_cases e:k=i
  ·subst e; simp
  ·simp [e]
 simp [h0,h1]
theorem Cm {n:Nat} (h:A4 n=true):∃ k,n=2 ^ k:=by
 unfold A4 at h;simp only [Bool.and_eq_true,decide_eq_true_eq] at h;obtain ⟨h0,h1⟩:=h;refine ⟨n.log2,?_⟩;have hlo:2 ^ n.log2 <= n:=Nat.log2_self_le (by omega);have hhi:n < 2 ^ (n.log2 + 1):=Nat.lt_log2_self;rcases Nat.eq_or_lt_of_le hlo with e | hlt
 ·exact e.symm
 ·exfalso
  have b1:n.testBit n.log2=true:=by
   rw [Nat.testBit_eq_decide_div_mod_eq];simp
   have:n / 2 ^ n.log2=1:=by
    apply Nat.div_eq_of_lt_le <;> (try rw [Nat.pow_succ] at hhi) <;> omega
   rw [this]
  have b2:(n - 1).testBit n.log2=true:=by
   rw [Nat.testBit_eq_decide_div_mod_eq];simp
   have:(n - 1) / 2 ^ n.log2=1:=by
    apply Nat.div_eq_of_lt_le <;> (try rw [Nat.pow_succ] at hhi) <;> omega
   rw [this]
  have:(n &&& (n - 1)).testBit n.log2=true:=by rw [Nat.testBit_and,b1,b2]; rfl
  rw [h1,Nat.zero_testBit] at this;cases this
noncomputable def C6 (n:Nat):List Nat:=(List.range 42).filter fun k=>n.testBit k
theorem Gn {α:Type} [DecidableEq α] {p:α->Bool}:∀ {l:List α} {a:α},l.Nodup->a ∈ l->(∀ b ∈ l,p b=true ↔ b=a)->l.filter p=[a]
 | [],_,_,h,_=>by cases h
 | b :: r,a,hn,ha,hp=>by
  obtain ⟨n1,n2⟩:=nodup_cons.mp hn;by_cases e:b=a
  ·subst e;have hb:p b=true:=(hp b mem_cons_self).mpr rfl;rw [filter_cons,if_pos hb];congr 1;apply List.filter_eq_nil_iff.mpr;intro c hc hpc;have:=(hp c (mem_cons_of_mem _ hc)).mp hpc;exact n1 (this ▸ hc)
  ·have hb:¬ p b=true:=fun z=>e ((hp b mem_cons_self).mp z);rw [filter_cons,if_neg hb];rcases mem_cons.mp ha with z | z
   ·exact absurd z.symm e
   ·exact Gn n2 z fun c hc=>hp c (mem_cons_of_mem _ hc)
theorem HJ {n:Nat} (hn:n < 2 ^ 42):decide ((C6 n).length=1)=A4 n:=by
 rw [Bool.eq_iff_iff,decide_eq_true_eq];constructor
 ·intro h;obtain ⟨k,hk⟩:∃ k,C6 n=[k]:=List.length_eq_one_iff.mp h
  have mem:∀ i,i < 42->(n.testBit i=true ↔ i=k):=fun i hi=>by
   have:i ∈ C6 n ↔ i=k:=by rw [hk]; simp
   unfold C6 at this;rw [mem_filter] at this;constructor
   ·intro hb; exact this.mp ⟨mem_range.mpr hi,hb⟩
   ·intro e; exact (this.mpr e).2
  have hk42:k < 42:=by
   have:k ∈ C6 n:=by rw [hk]; simp
   unfold C6 at this;exact mem_range.mp (mem_filter.mp this).1
  have e:n=2 ^ k:=by
   apply Nat.eq_of_testBit_eq;intro i;rw [Nat.testBit_two_pow];by_cases hi:i < 42
   ·rw [Bool.eq_iff_iff,mem i hi,decide_eq_true_eq]; exact eq_comm
   ·have h1:n.testBit i=false:=Nat.testBit_lt_two_pow (Nat.lt_of_lt_of_le hn (Nat.pow_le_pow_right (by decide) (by omega)));rw [h1]; symm; rw [decide_eq_false_iff_not]; omega
  rw [e]; exact K0 k
 ·intro h;obtain ⟨k,rfl⟩:=Cm h;have hk:k < 42:=(Nat.pow_lt_pow_iff_right (by decide)).mp hn
  have:C6 (2 ^ k)=[k]:=by
   unfold C6;refine Gn List.nodup_range (mem_range.mpr hk) fun b _=>?_;rw [Nat.testBit_two_pow,decide_eq_true_eq]; exact eq_comm
  rw [this]; rfl
noncomputable def BQ (m:Nat):Nat:=2 ^ (Builtin.Int.intBits (m:Int))
theorem De {m:Nat} (h:0 < m):Builtin.Int.intBits (m:Int)=m.log2 + 1:=by
 unfold Builtin.Int.intBits;have:((m:Int) == 0)=false:=by rw [beq_eq_false_iff_ne]; omega
 rw [this]; simp
theorem Ji {m k:Nat} (h1:m < 2 ^ k) (h2:k=0\/2 ^ (k - 1) <= m):2 ^ k=BQ m:=by
 unfold BQ;congr 1;rcases Nat.eq_zero_or_pos m with e | hm
 ·subst e
  have:k=0:=by
   rcases h2 with z | z
   ·exact z
   ·have:=Nat.two_pow_pos (k - 1); omega
  rw [this]; rfl
 ·rw [De hm];rcases h2 with z | z
  ·subst z; simp at h1; omega
  ·have hk:0 < k:=by rcases Nat.eq_zero_or_pos k with e | e
                     ·subst e; simp at h1; omega
                     ·exact e
   have e:m.log2=k - 1:=by
    apply Nat.le_antisymm
    ·have:m.log2 < k:=(Nat.log2_lt (by omega)).mpr h1;omega
    ·exact (Nat.le_log2 (by omega)).mpr z
   omega
theorem On:∀ {l:List Nat} {a:Nat},(∀ n ∈ l,A4 n=true)->l.Pairwise (· < ·)->(∀ n ∈ l,a &&& n=0)->a + l.sum=l.foldl (· ||| ·) a
 | [],a,_,_,_=>by simp
 | n :: r,a,hm,hp,ha=>by
  obtain ⟨p1,p2⟩:=List.pairwise_cons.mp hp;have han:=ha n mem_cons_self
  have e:a ||| n=a + n:=by
   have h:=PyProof.Rows.bitOr_and (a:Int) (n:Int);rw [C4,Bf,han] at h;omega
  rw [sum_cons,foldl_cons,← On (a:=a ||| n) (fun m hm'=>hm m (mem_cons_of_mem _ hm')) p2 (fun m hm'=>?_),e]
  ·omega
  ·obtain ⟨i,rfl⟩:=Cm (hm n mem_cons_self);obtain ⟨j,rfl⟩:=Cm (hm m (mem_cons_of_mem _ hm'));have hlt:=p1 _ hm';have haj:=ha _ (mem_cons_of_mem _ hm');apply Nat.eq_of_testBit_eq;intro t;rw [Nat.testBit_and,Nat.testBit_or,Nat.zero_testBit];have h1:(a &&& 2 ^ j).testBit t=false:=by rw [haj]; exact Nat.zero_testBit t
   rw [Nat.testBit_and] at h1;rw [Bool.and_or_distrib_right,h1,Nat.testBit_two_pow,Nat.testBit_two_pow];have:i ≠ j:=fun e=>by subst e; omega
   by_cases e1:i=t
   ·have:¬ j=t:=by omega
    simp [this]
   ·simp [e1]
theorem NE {l:List Nat} (hm:∀ n ∈ l,A4 n=true) (hp:l.Pairwise (· < ·)):l.sum=Ak l:=by
 have:=On (a:=0) hm hp (fun n _=>by simp);unfold Ak;omega
end MK
end
end
variable {P:PySem.Program} {w:PySem.World} {K:FG} {mg:SV} {base:PySem.Heap} {fd:PySem.FuncData} {H:L2.Hp} {H':L2.Hp} {due:Aa} {ac:Aa} {C:PySem.Addr} {VC:PySem.Addr} {EC:PySem.Addr}
section
namespace Mk
open PySem L2 MK
noncomputable def top (i:Nat):Stmt:=PySem.Challenge.pw_markworks_k31_whole_formulas_read.main.body.getD i (.Pass ⟨0,0,0,0⟩)
noncomputable abbrev A7:Stmt:=inClass (top 1) 0
noncomputable abbrev C7:Stmt:=inClass (top 6) 0
noncomputable abbrev Go:Stmt:=top 18
noncomputable abbrev Il:Stmt:=top 19
noncomputable abbrev Im:Stmt:=top 20
noncomputable abbrev Gp:Stmt:=top 21
noncomputable abbrev Gq:Stmt:=top 22
noncomputable abbrev FS:Stmt:=top 24
noncomputable abbrev EO:Stmt:=top 25
noncomputable abbrev C8:Stmt:=top 26
noncomputable abbrev EQ:Stmt:=top 27
noncomputable abbrev FU:Stmt:=top 28
noncomputable abbrev Df:Stmt:=top 29
noncomputable abbrev BM:Stmt:=inClass (top 30) 0
noncomputable abbrev FV:Stmt:=inClass (top 30) 1
noncomputable abbrev Dg:Stmt:=inClass (top 30) 2
noncomputable abbrev ER:Stmt:=inClass (top 30) 5
noncomputable abbrev ES:Stmt:=inClass (top 30) 6
noncomputable abbrev FW:Stmt:=inClass (top 30) 7
noncomputable abbrev Io:Stmt:=inClass (top 30) 8
noncomputable abbrev FX:Stmt:=top 33
noncomputable abbrev Ip:Stmt:=top 34
noncomputable abbrev ET:Stmt:=inClass (top 35) 0
noncomputable abbrev C9:Stmt:=inClass (top 35) 1
noncomputable abbrev EU:Stmt:=inClass (top 35) 2
noncomputable abbrev Gr:Stmt:=inClass (top 35) 5
noncomputable abbrev Ly:Stmt:=top 36
noncomputable abbrev Iq:Stmt:=top 37
noncomputable abbrev FY:Stmt:=top 42
noncomputable abbrev EW:Stmt:=top 43
noncomputable abbrev Ir:Stmt:=top 44
noncomputable abbrev Gs:Stmt:=top 45
noncomputable abbrev DA:Stmt:=inClass (top 46) 0
noncomputable abbrev Bu:Stmt:=inClass (top 46) 1
noncomputable abbrev Bv:Stmt:=inClass (top 46) 2
noncomputable abbrev Bn:Stmt:=inClass (top 46) 3
noncomputable abbrev BW:Stmt:=inClass (top 46) 4
noncomputable abbrev Bo:Stmt:=inClass (top 46) 5
noncomputable abbrev CP:Stmt:=inClass (top 46) 6
noncomputable abbrev DB:Stmt:=inClass (top 46) 7
noncomputable abbrev CQ:Stmt:=top 47
noncomputable abbrev Iu:Stmt:=top 48
noncomputable abbrev Dh:Stmt:=top 49
noncomputable abbrev FZ:Stmt:=top 50
noncomputable abbrev Lz:Stmt:=top 52
noncomputable abbrev Gu:Stmt:=top 54
noncomputable abbrev Fa:Stmt:=top 55
noncomputable abbrev Gv:Stmt:=top 56
noncomputable abbrev EY:Stmt:=top 57
noncomputable abbrev Di:Stmt:=top 58
noncomputable abbrev Am:Stmt:=top 59
noncomputable abbrev EZ:Stmt:=top 60
noncomputable abbrev Ea:Stmt:=top 61
noncomputable abbrev Bw:Stmt:=top 62
noncomputable abbrev Dj:Stmt:=top 63
noncomputable abbrev Gw:Stmt:=top 64
noncomputable abbrev Fb:Stmt:=top 65
noncomputable abbrev E1:Stmt:=top 66
noncomputable abbrev Cc:Stmt:=top 67
noncomputable abbrev E2:Stmt:=top 68
noncomputable abbrev Dk:Stmt:=top 69
noncomputable abbrev DN:Stmt:=top 70
structure Fn (P:Program) (w:World) (K:FG) (mg:SV) (base:Heap) (x:Str) (k:Nat) (ps:List Str) (sp:Sp):Prop where
 ex:∃ f fd,AX P w K mg base CX0 k f fd ps sp/\mg x=some (.ref f)/\W.keepIn K (.ref f)=true/\Binds K fd ps []
structure Bl (mg:SV):Prop where
 len:mg "len" = none
 isi:mg "isinstance" = none
 max:mg "max" = none
 min:mg "min" = none
 range:mg "range" = none
 list:mg "list" = none
 tuple:mg "tuple" = none
 sorted:mg "sorted" = none
 sum:mg "sum" = none
 all:mg "all" = none
 enum:mg "enumerate" = none
 int:mg "int" = none
 bool:mg "bool" = none
 str:mg "str" = none
noncomputable def Av (ns:List Nat):List V:=ns.map fun (n:Nat)=>V.int (n:Int)
section
inductive spIsMark (vs:List V) (H:Hp) (Q:VK) (_E:XK):Prop where
 | mk (n:Nat) (z_0:vs=[.int (n:Int)]) (z_1:Q (.bl (A4 n)) H)
theorem Oo:AJ ["number"] ["number"] (defScope Im):=fsc
theorem K1 (n:Nat):(decide (0 < (n:Int)) && decide (V.int (Builtin.bitAnd (n:Int) ((n:Int) - 1))=V.int 0))=A4 n:=by
 unfold A4;rcases Nat.eq_zero_or_pos n with e | h
 ·subst e; rfl
 ·have e1:((n:Int) - 1)=((n - 1:Nat):Int):=by omega
  rw [e1,Bf];have e2:decide (0 < (n:Int))=true:=decide_eq_true (by omega);have e3:decide (0 < n)=true:=decide_eq_true h;rw [e2,e3];congr 1;rw [Bool.eq_iff_iff,decide_eq_true_eq,decide_eq_true_eq];constructor
  ·intro z; injection z with z; omega
  ·intro z; rw [z]; rfl
theorem NF {f:Addr} (F:Fun K "is_mark" "is_mark" Im f fd):AX P w K mg base CX0 1 f fd ["number"] spIsMark:=by
 refine F.m Oo fun vs H Q E h=>?_;obtain ⟨n,rfl,k⟩:=h;refine ⟨rfl,fun ad A outer s hr=>?_⟩;refine ⟨_,AD (AL (Bj (Be Ek (pv 0) AF (AR _)) (B7 (Be Aw (AZ CA (pv 0) (AZ B9 (pv 0) AF)) AF (AR _))))),?_⟩;rw [← K1] at k;refine ⟨_,rfl,_,_,rfl,rfl,_,rfl,?_⟩;refine BY (fun h=>?_) (fun h=>?_)
 ·rw [h,Bool.true_and] at k;exact ⟨_,rfl,_,rfl,_,_,rfl,rfl,_,_,rfl,rfl,rfl,k⟩
 ·rw [Bool.eq_false_iff.mpr h,Bool.false_and] at k;exact k
inductive spUnionOf (K:FG) (vs:List V) (H:Hp) (Q:VK) (_E:XK):Prop where
 | mk (a:Addr) (ns:List Nat) (z_0:vs=[.ref a]) (z_1:SqL K H a (Av ns)) (z_2:Q (.int (Ak ns:Nat)) H)
theorem scUnionOf:AJ ["numbers", "bits", "number"] ["numbers"] (defScope Gp):=fsc
theorem Iv {ns:List Nat} {i:Nat} {x:V} (h:(Av ns)[i]?=some x):∃ n,ns[i]?=some n/\x=V.int (n:Int):=by
 unfold Av at h;rw [getElem?_map] at h;cases e:ns[i]? with
 | none=>rw [e] at h; cases h
 | some n=>rw [e] at h; exact ⟨n,rfl,(Option.some.inj h).symm⟩
theorem K2 {f:Addr} (F:Fun K "union_of" "union_of" Gp f fd):AX P w K mg base CX0 1 f fd ["numbers"] (spUnionOf K):=by
 refine F.m scUnionOf fun vs H Q E h=>?_;obtain ⟨a,ns,rfl,hS,k⟩:=h;refine ⟨rfl,fun ad A outer s hr=>?_⟩
 refine ⟨_,AE (Ac (i:=1) scUnionOf.nd rfl (Or.inl rfl) AF)
  (AE (DS PassesOwn.never rfl (Bx (pv 0)) (Ae (i:=2) scUnionOf.nd rfl (Or.inl rfl))
   (AD (KH (i:=1) scUnionOf.nd rfl (Or.inl rfl) (pv 2) (Rt:OpR _ _ _))))
  (AD (AL (pv 1)))),?_⟩
 refine ⟨_,rfl,a,rfl,⟨_,hS⟩,Cq (K:=K) (a:=a) (xs:=Av ns) (fun i σ H2=>∃ v:Option V,σ=[some (.ref a),some (.int (Ak (ns.take i):Nat)),v]/\H2=H) ⟨none,rfl,rfl⟩ (fun i σ H2 _ ⟨_,_,e⟩=>e ▸ hS) ?_ ?_⟩
 ·rintro i x σ H2 hi ⟨v,rfl,rfl⟩;obtain ⟨n,hn,rfl⟩:=Iv hi;refine ⟨_,rfl,_,rfl,_,_,rfl,rfl,?_⟩;refine ⟨some (V.int (n:Int)),?_,rfl⟩;rw [take_add_one,hn,Option.toList_some,EN];show [some (V.ref a),some (V.int (Builtin.bitOr (Ak (ns.take i):Nat) (n:Nat))),some (V.int (n:Int))]=_;rw [C4]
 ·rintro σ H2 ⟨v,rfl,rfl⟩;refine ⟨_,rfl,?_⟩;have e:(Av ns).length=ns.length:=by unfold Av; rw [AK]
  rw [e,take_length];exact k
end
end Mk
end
section
namespace L2
open PySem
theorem Jj {x:Str} {g:TG} {tt:TT} {te:TE} {ix:List (Option Nat)} {R:List V->Hp->Prop} {σ:St} {H1:Hp} (Pv:Nat->List V->Hp->Prop) (h0:Pv 0 [] H1) (hz:∀ i ys H,Pv i ys H->ys.length <= 1000)
  (hs:∀ (i c:Nat) ys H,x.cps[i]?=some c->Pv i ys H->g (.str ⟨#[c]⟩) (Cl ix σ) H fun σ2 H2=>tt σ2 H2 fun b H3=>if b=true then te σ2 H3 fun y H4=>Pv (i + 1) (ys++[y]) H4 else Pv (i + 1) ys H3) (hd:∀ ys H,Pv x.cps.size ys H->R ys H) :
  ∃ W:Nat->Nat->List V->Hp->Prop,(∃ m,W 0 m [] H1)/\∀ i m ys H,W i m ys H ->
   ((Its x).stop i H/\ys.length <= sizeLine/\R ys H) \/
   ((Its x).go i H/\∃ N:List V->Hp->Prop,(∀ ys' H',N ys' H'->ys'.length <= sizeLine/\∃ m',m' < m/\W (i + 1) m' ys' H') /\
    ∀ v H',(Its x).yld i H v H'->g v (Cl ix σ) H' fun σ2 H2=>tt σ2 H2 fun b H3=>if b=true then te σ2 H3 fun y H4=>N (ys++[y]) H4 else N ys H3):=by
 refine ⟨fun i m ys H=>m=x.cps.size - i/\i <= x.cps.size/\Pv i ys H,⟨_,rfl,Nat.zero_le _,h0⟩,?_⟩;rintro i m ys H ⟨rfl,hi,hp⟩;by_cases hlt:i < x.cps.size
 ·refine .inr ⟨hlt,Pv (i + 1),fun ys' H' q=>⟨Nat.le_of_lt (AO (hz _ ys' H' q)),x.cps.size - (i + 1),by omega,rfl,hlt,q⟩,?_⟩;rintro v H' ⟨rfl,c,hc,rfl⟩;exact hs i c ys H' hc hp
 ·have e:i=x.cps.size:=by omega
  subst e;exact .inl ⟨Nat.le_refl _,Nat.le_of_lt (AO (hz _ ys H hp)),hd ys H hp⟩
end L2
namespace Mk
open PySem L2 MK
theorem K3:bootBuiltins "all" = some (.builtin "all"):=by decide +kernel
theorem Eb:bootBuiltins "isinstance" = some (.builtin "isinstance"):=by decide +kernel
theorem Hx:bootBuiltins "sorted" = some (.builtin "sorted"):=by decide +kernel
theorem Op:bootBuiltins "sum" = some (.builtin "sum"):=by decide +kernel
theorem SL:bootBuiltins "min" = some (.builtin "min"):=by decide +kernel
theorem SM:bootBuiltins "max" = some (.builtin "max"):=by decide +kernel
theorem Fc:bootBuiltins "str" = some (.type "str"):=by decide +kernel
theorem Gx:bootBuiltins "int" = some (.type "int"):=by decide +kernel
theorem QU:bootBuiltins "bool" = some (.type "bool"):=by decide +kernel
theorem E3:bootBuiltins "tuple" = some (.type "tuple"):=by decide +kernel
theorem F4:bootBuiltins "list" = some (.type "list"):=by decide +kernel
theorem AH {H1:Hp} {p:Addr} {o:HO} (s:Same H H1) (hp:H1 p=none):Same H (upd H1 p o):=fun b u e=>by
 have e':=s b u e;rw [AG (AI e' hp)];exact e'
noncomputable def CS (c:Nat):Bool:=decide (65 <= c) && decide (c <= 90)
noncomputable def CD (x:Str):Bool:=(decide (1 <= x.length) && decide (x.length <= 6)) && x.cps.toList.all CS
section
theorem Bp {X:Cx} {e:Expr} {te:TE} {T:String} {x:Str} {p p2 pos:Pos} (K:FG) (hK:X.K=K) (hg:Gl X "isinstance") (hm:X.mg "isinstance" = none) (hgT:Gl X x) (hmT:X.mg x=none) (hvT:bootBuiltins x=some (.type T)) (he:PE X e te)
  (hn:x ≠ "__name__" := by decide) (hdb:(x == ("__debug__" : Str))=false:=by decide)
  (hs:starEach [e,.Name x p2] X.env=(false,eval e X.env) :: starEach [.Name x p2] X.env:=by rfl) (hpl:(backTo pos (starEach [.Name x p2] X.env)).any (·.1)=false:=by rfl) (hs2:starEach [.Name x p2] X.env=(false,eval (.Name x p2) X.env) :: starEach [] X.env:=by rfl) :
  PE X (.Call (.Name "isinstance" p) [e,.Name x p2] [] pos) (tCB (fun xs H Q=>∃ v T t b,xs=[v,.ty T]/\TyOf K H v t/\W.kitOne K t (.type T)=some b/\Q (.bl b) H) (Ao te (Ao (tC (.ty T)) Cr))):=by
 subst hK;exact AY OK hg hm Eb (AA he (AA (LZ hgT hmT hvT rfl hn hdb) AC hs2) hs) (by decide) (by decide) hs hpl
theorem Ar {X:Cx} (K:FG) (hK:X.K=K):IxR X (TQ K):=hK ▸ P1
theorem Az {X:Cx} (K:FG) (hK:X.K=K):IxR X (TR K):=hK ▸ Rw
theorem BH {X:Cx} (K:FG) (hK:X.K=K):CallR X (.builtin "len") (fun xs H Q=>∃ p ys,xs=[.ref p]/\(SqL K H p ys\/SqT K H p ys)/\Q (.int ys.length) H):=hK ▸ Er
theorem QV {X:Cx} {e:Expr} {f:Str} {pos:Pos} {ta:TE} (K:FG) (hK:X.K=K) (he:PE X e ta) (hb:attributeBase e f X.env (eval e X.env)=eval e X.env):PE X (.Attribute e f pos) (TL K ta f):=hK ▸ As he hb
inductive spIsName (vs:List V) (H:Hp) (Q:VK) (_E:XK):Prop where
 | mk (x:Str) (z_0:vs=[.str x]) (z_1:x.cps.all (· < 128)=true) (z_2:x.length <= 1000) (z_3:∀ H',Same H H'->Q (.bl (CD x)) H')
theorem Oq:AJ ["thing"] ["thing"] (defScope Il):=fsc
theorem Os (c:Nat):(if (!decide ((⟨#[c]⟩:Str).cps.toList < ("A" : Str).cps.toList))=true then (!decide (("Z" : Str).cps.toList < (⟨#[c]⟩:Str).cps.toList)) else false)=CS c:=by
 have hA:("A" : Str).cps.toList=[65]:=by decide +kernel
 have hZ:("Z" : Str).cps.toList=[90]:=by decide +kernel
 rw [hA,hZ];show (if (!decide ([c] < [65]))=true then !decide ([90] < [c]) else false)=CS c;unfold CS
 have e1:decide ([c] < [65])=decide (c < 65):=by
  rw [Bool.eq_iff_iff,decide_eq_true_eq,decide_eq_true_eq,cons_lt_cons_iff];simp
 have e2:decide ([90] < [c])=decide (90 < c):=by
  rw [Bool.eq_iff_iff,decide_eq_true_eq,decide_eq_true_eq,cons_lt_cons_iff];simp
 rw [e1,e2];by_cases h1:c < 65 <;> by_cases h2:90 < c <;> simp [h1,h2] <;> omega
theorem NG {f:Addr} {t6:Tok} (F:Fun K "is_name" "is_name" Il f fd) (B:Bl mg) (hL:mg "LONGEST_NAME" = some (.int 6 t6)):AX P w K mg base CX0 1 f fd ["thing"] spIsName:=by
 refine F.m Oq fun vs H Q E h=>?_;obtain ⟨x,rfl,ha,hz,k⟩:=h;refine ⟨rfl,fun ad A outer s hr=>?_⟩
 refine ⟨_,AE (Ag (PW.pt (DR (BV (A2 (Bp K rfl rfl B.isi rfl B.str Fc (pv 0)))) (CN (BV (Em Ej Ej AF (AY BS rfl B.len PySem.boot_len (AA (pv 0) AC)) (A8 (v:=.int 6) rfl hL ⟨t6,rfl⟩))))))
   (AD (AL DH)) AV)
  (AD (AL (AY (Gg rfl) rfl B.all K3 (AA (B2 [] [] (by kernel_rfl) (by decide +kernel) (by kernel_rfl) rfl (OD (pv 0)) (fun _ _ _ _ _ _=>By) (fun _ _ _ _ _ _=>El CJ CJ AN (pv 0) AN)) AC)))),?_⟩
 refine ⟨_,rfl,_,_,_,true,rfl,.str x,rfl,_,rfl,?_⟩;refine AW ?_;refine ⟨_,rfl,x,rfl,Nat.le_of_lt (AO hz),_,_,rfl,rfl,_,rfl,?_⟩;refine BY (fun h1=>?_) (fun h1=>?_)
 ·have h1':1 <= x.length:=by have:=of_decide_eq_true h1; omega
  refine ⟨_,_,rfl,rfl,_,rfl,?_⟩;refine BY (fun h2=>?_) (fun h2=>?_)
  ·have h2':¬ x.length <= 6:=by
    intro z;rw [decide_eq_true (show (x.length:Int) <= 6 by omega)] at h2;cases h2
   have e:CD x=false:=by unfold CD; simp [h2']
   have:=k H (Same.refl H);rw [e] at this;exact this
  ·have h2':x.length <= 6:=Decidable.byContradiction fun z=>h2 (by rw [decide_eq_false (show ¬ (x.length:Int) <= 6 by omega)]; rfl);refine ⟨_,rfl,x,rfl,ha,Jj (x:=x) (fun i ys H2=>H2=H/\ys=(x.cps.toList.take i).map fun c=>V.bl (CS c)) ⟨rfl,rfl⟩ (fun i ys H2 ⟨_,e⟩=>?_) ?_ ?_⟩
   ·rw [e,AK,length_take];have:x.cps.toList.length=x.length:=by rw [Array.length_toList]; rfl
    omega
   ·rintro i c ys H2 hc ⟨rfl,rfl⟩;refine ⟨_,rfl,_,_,rfl,rfl,_,rfl,?_⟩
    have fin:∀ b,b=CS c->(H2=H2/\(x.cps.toList.take i).map (fun c=>V.bl (CS c))++[V.bl b]=(x.cps.toList.take (i + 1)).map fun c=>V.bl (CS c)):=fun b hb=>by
     refine ⟨rfl,?_⟩;have hc':x.cps.toList[i]?=some c:=by rw [Array.getElem?_toList]; exact hc
     rw [take_add_one,hc',map_append,hb];rfl
    have hu:=Os c;refine BY (fun h3=>?_) (fun h3=>?_)
    ·rw [if_pos h3] at hu;exact ⟨_,_,rfl,rfl,fin _ hu⟩
    ·rw [if_neg h3] at hu;exact fin _ hu
   ·rintro ys H2 ⟨rfl,rfl⟩ p hp;have el:x.cps.toList.take x.cps.size=x.cps.toList:=List.take_of_length_le (by rw [Array.length_toList]; exact Nat.le_refl _);refine ⟨p,x.cps.toList.map CS,rfl,SqL.of (by rw [AB,el,map_map]; rfl),?_⟩
    have e:CD x=((x.cps.toList.map CS).all id):=by
     unfold CD;rw [decide_eq_true h1',decide_eq_true h2',all_map];rfl
    rw [← e];exact k _ (AH (Same.refl _) hp)
 ·have h1':¬ 1 <= x.length:=fun z=>h1 (decide_eq_true (by omega));refine ⟨_,rfl,?_⟩;refine Aj ?_;have e:CD x=false:=by unfold CD; simp [h1']
  have:=k H (Same.refl H);rw [e] at this;exact this
end
inductive Th where
 | non | num (n:Nat) | nms (ns:List Str)
def ThAt (H:Hp) (v:V):Th->Prop
 | .non=>v=.non
 | .num n=>v=.int (n:Int)
 | .nms ns=>∃ a,v=.ref a/\H a=some (.tup (ns.map V.str))
noncomputable def DK (ns:List Nat):Nat:=ns.foldl max 0
noncomputable def look (due:Aa) (x:Str):Nat:=((due.find? fun p=>decide (p.1=x)).map (·.2)).getD 0
noncomputable def Ax (due:Aa):LK:=due.map fun p=>(Sum.inr p.1,V.int (p.2:Int))
noncomputable def Cd (due:Aa):Th->Nat
 | .non=>BQ (DK (due.map (·.2)))
 | .num n=>n
 | .nms ns=>Ak (ns.map (look due))
theorem Ec (x:Str):∀ due:Aa,BN (Ax due) (Sum.inr x)=(due.find? fun p=>decide (p.1=x)).map fun p=>V.int (p.2:Int)
 | []=>rfl
 | p :: r=>by
  show BN ((Sum.inr p.1,V.int (p.2:Int)) :: Ax r) (Sum.inr x)=_;by_cases e:p.1=x
  ·rw [DW (p:=(Sum.inr p.1,V.int (p.2:Int))) (by rw [← e]),List.find?_cons_of_pos (by simpa using e)]; rfl
  ·rw [DX (p:=(Sum.inr p.1,V.int (p.2:Int))) (fun z=>e (Sum.inr.inj z)),List.find?_cons_of_neg (by simpa using e)]; exact Ec x r
theorem NH {x:Str} (h:x ∈ due.map (·.1)):(due.find? fun p=>decide (p.1=x)).isSome=true:=by
 obtain ⟨p,hp,e⟩:=mem_map.mp h;rw [List.find?_isSome];exact ⟨p,hp,by simpa using e⟩
theorem B5 {x:Str} (h:x ∈ due.map (·.1)):BN (Ax due) (Sum.inr x)=some (V.int (look due x:Int)):=by
 rw [Ec];unfold look;obtain ⟨p,hp⟩:=Option.isSome_iff_exists.mp (NH h);rw [hp]; rfl
theorem E4 {x:Str} (h:x ∉ due.map (·.1)):BN (Ax due) (Sum.inr x)=none:=by
 rw [Ec]
 have:(due.find? fun p=>decide (p.1=x))=none:=by
  rw [List.find?_eq_none];intro p hp e;exact h (mem_map.mpr ⟨p,hp,by simpa using e⟩)
 rw [this]; rfl
theorem E5 {m:Nat}:∀ (l:List Nat) (a:Nat),a < m->(∀ n ∈ l,n < m)->l.foldl max a < m
 | [],a,h,_=>h
 | x :: r,a,h,k=>E5 r (max a x) (by have:=k x mem_cons_self; omega) fun n hn=>k n (mem_cons_of_mem _ hn)
theorem Jk {ns:List Nat} {m:Nat} (h0:0 < m) (h:∀ n ∈ ns,n < m):DK ns < m:=E5 ns 0 h0 h
theorem Ot (a b:Nat):max (a:Int) (b:Int)=((max a b:Nat):Int):=by omega
theorem Gy:∀ (r:List Nat) (a:Nat),(r.map fun n:Nat=>(n:Int)).foldl max (a:Int)=((r.foldl max a:Nat):Int)
 | [],_=>rfl
 | x :: r,a=>by rw [map_cons,foldl_cons,Ot,Gy r]; rfl
theorem Jl {ns:List Nat} (h:ns ≠ []):JU 0 (ns.map fun n:Nat=>(n:Int))=(DK ns:Nat):=by
 cases ns with
 | nil=>exact absurd rfl h
 | cons a r =>
  show (r.map fun n:Nat=>(n:Int)).foldl max (a:Int)=_;rw [Gy];unfold DK;rw [foldl_cons];have:max 0 a=a:=by omega
  rw [this]
theorem K4 {m:Nat} (h:m < 2 ^ 20):Builtin.Int.intBits (m:Int) <= 20:=by
 rcases Nat.eq_zero_or_pos m with e | hm
 ·subst e; decide
 ·rw [De hm];have:m.log2 < 20:=(Nat.log2_lt (by omega)).mpr h;omega
section
inductive spNextMark (K:FG) (vs:List V) (H:Hp) (Q:VK) (_E:XK):Prop where
 | mk (a:Addr) (ns:List Nat) (z_0:vs=[.ref a]) (z_1:SqL K H a (Av ns)) (z_2:(∀ n ∈ ns,n < 2 ^ 20)) (z_3:Q (.int (BQ (DK ns):Nat)) H)
theorem K5:AJ ["numbers"] ["numbers"] (defScope FS):=fsc
theorem E6 (ns:List Nat):Av ns=(ns.map fun n:Nat=>(n:Int)).map V.int:=by unfold Av; rw [map_map]; rfl
theorem Jm {f:Addr} (F:Fun K "next_mark" "next_mark" FS f fd) (B:Bl mg):AX P w K mg base CX0 1 f fd ["numbers"] (spNextMark K):=by
 refine F.m K5 fun vs H Q E h=>?_;obtain ⟨a,ns,rfl,hS,hlt,k⟩:=h;refine ⟨rfl,fun ad A outer s hr=>?_⟩;refine ⟨_,AD (AL (AZ IM AF (GH PySem.F.plainAttrs_int PySem.F.slot_int_bit_length PySem.F.type_int_bit_length Ie (Lp rfl rfl B.max (pv 0) AF)))),?_⟩;have hm:=Jk (m:=2 ^ 20) (by decide) hlt
 have fin:∀ m:Int,m=(DK ns:Nat)->tyV K "int" (.int m) H/\∃ i,V.int m=.int i/\([]:List V)=[]/\rI Rr (fun i j=>V.int (i * 2 ^ j.toNat)) (V.int 1) (V.int (Builtin.Int.intBits i:Nat)) H Q:=fun m e=>by
  subst e;refine ⟨rfl,_,rfl,rfl,1,_,rfl,rfl,⟨Int.natCast_nonneg _,?_,by decide⟩,?_⟩
  ·have:=K4 hm; omega
  ·have e:(1:Int) * 2 ^ ((Builtin.Int.intBits (DK ns:Nat):Nat):Int).toNat=((BQ (DK ns):Nat):Int):=by
    unfold BQ;rw [Int.one_mul,Int.toNat_natCast];simp
   show Q (V.int (1 * 2 ^ ((Builtin.Int.intBits (DK ns:Nat):Nat):Int).toNat)) H;rw [e];exact k
 refine ⟨_,rfl,a,ns.map (fun n:Nat=>(n:Int)),0,rfl,rfl,by rw [← E6]; exact hS,fun e=>?_,fun e=>?_⟩
 ·have e':ns=[]:=List.map_eq_nil_iff.mp e;exact fin 0 (by rw [e']; rfl)
 ·have e':ns ≠ []:=fun z=>e (by rw [z]; rfl);exact fin _ (Jl e')
def Cu (K:FG):Sp:=fun vs H Q _=>(∃ (x:Str) (d:Addr) (kvs:LK),vs=[.str x,.ref d]/\Rd H d (.dK kvs)/\Q (.bl (BN kvs (Sum.inr x:Key)).isSome) H) \/
 (∃ (x:Str) (t:Addr) (xs:List Str),vs=[.str x,.ref t]/\SqT K H t (xs.map V.str)/\Q (.bl (inV (.str x) (xs.map V.str))) H)
theorem NI:AJ ["thing", "names"] ["thing", "names"] (defScope Gq):=fsc
theorem Hy:∀ xs:List Str,(xs.map V.str).all Eo=true
 | []=>rfl
 | _ :: r=>Hy r
theorem K6 {f:Addr} (F:Fun K "is_one_of" "is_one_of" Gq f fd) (B:Bl mg):AX P w K mg base CX0 1 f fd ["thing", "names"] (Cu K):=by
 refine F.ok NI (fun vs H Q E h=>?_) (fun ad A outer s H vs Q E hr h=>?_)
 ·rcases h with ⟨x,d,kvs,rfl,_⟩ | ⟨x,t,xs,rfl,_⟩ <;> rfl
 ·have hu:=Cb hr;rcases h with ⟨x,d,kvs,rfl,hd,k⟩ | ⟨x,t,xs,rfl,ht,k⟩
  ·refine ⟨_,AD (AL (Bj (Bp K rfl rfl B.isi rfl B.str Fc (pv 0)) (B7 (Rk (N4 hu (pv 0) (pv 1)))))),?_⟩;refine ⟨_,rfl,_,_,_,true,rfl,.str x,rfl,_,rfl,?_⟩;exact ⟨_,rfl,_,rfl,d,_,rfl,.inl ⟨kvs,Sum.inr x,hd,rfl,rfl⟩,k⟩
  ·refine ⟨_,AD (AL (Bj (Bp K rfl rfl B.isi rfl B.str Fc (pv 0)) (B7 (Be Dq (pv 0) (pv 1) (by with_unfolding_all rfl))))),?_⟩;refine ⟨_,rfl,_,_,_,true,rfl,.str x,rfl,_,rfl,?_⟩;exact ⟨_,rfl,_,rfl,t,_,rfl,.inr ht,rfl,Hy xs,k⟩
inductive spIsNamesOf (vs:List V) (H:Hp) (Q:VK) (_E:XK):Prop where
 | mk (a d:Addr) (ns:List Str) (kvs:LK) (z_0:vs=[.ref a,.ref d]) (z_1:H a=some (.tup (ns.map V.str))) (z_2:ns.length <= 1000) (z_3:Rd H d (.dK kvs)) (z_4:∀ H',Same H H'->Q (.bl (decide (0 < ns.length) && ns.all fun x=>(BN kvs (Sum.inr x:Key)).isSome)) H')
theorem Jn:AJ ["parts", "ahead"] ["parts", "ahead"] (defScope EO):=fsc
theorem Same.rd {a:Addr} {u:HO} (s:Same H H') (h:Rd H a u):Rd H' a u:=by
 rcases h with h | ⟨o,h⟩
 ·exact .inl (s _ _ h)
 ·exact .inr ⟨o,s _ _ h⟩
theorem Ix {f:Addr} (F:Fun K "is_names_of" "is_names_of" EO f fd) (B:Bl mg) (GO:Fn P w K mg base "is_one_of" 1 ["thing", "names"] (Cu K)):AX P w K mg base CX0 2 f fd ["parts", "ahead"] spIsNamesOf:=by
 obtain ⟨fO,dO,GO,mO,kO,bO⟩:=GO.ex;refine F.m Jn fun vs H Q E h=>?_;obtain ⟨a,d,ns,kvs,rfl,ha,hz,hd,k⟩:=h;refine ⟨rfl,fun ad A outer s hr=>?_⟩;have hu:=Cb hr
 refine ⟨_,AD (AL (Bj (Be Ek (AY Er rfl B.len PySem.boot_len (AA (pv 0) AC)) AF (AR _))
  (B7 (AY (Gg rfl) rfl B.all K3 (AA (B2 ["ahead"] [some 1] (by kernel_rfl) (by decide +kernel) (by kernel_rfl) rfl (Nr (pv 0)) (fun _ _ _ _ _ _=>By)
   (fun _ _ _ _ _ _=>AS GO hr rfl mO kO bO .nil AQ (AA (pv 0) (AA (pv 1) AC)))) AC))))),?_⟩
 have hl:(ns.map V.str).length=ns.length:=AK _;refine ⟨_,rfl,a,_,rfl,.inr (SqT.of ha),_,_,rfl,rfl,_,rfl,?_⟩;refine BY (fun h1=>?_) (fun h1=>?_)
 ·have h1':0 < ns.length:=by have:=of_decide_eq_true h1; rw [hl] at this; omega
  refine ⟨_,rfl,a,rfl,⟨_,SqT.of ha⟩,JT (K:=K) (a:=a) (xs:=ns.map V.str) (fun i ys H2=>H2=H/\ys=(ns.take i).map fun x=>V.bl (BN kvs (Sum.inr x:Key)).isSome) ⟨rfl,rfl⟩ (fun i ys H2 _ ⟨e,_⟩=>e ▸ SqT.of ha) (fun i ys H2 ⟨_,e⟩=>?_) ?_ ?_⟩
  ·rw [e,AK,length_take]; omega
  ·rintro i v ys H2 hi ⟨rfl,rfl⟩;rw [getElem?_map] at hi
   obtain ⟨x,hx,rfl⟩:∃ x,ns[i]?=some x/\v=V.str x:=by
    cases e:ns[i]? with
    | none=>rw [e] at hi; cases hi
    | some x=>rw [e] at hi; exact ⟨x,rfl,(Option.some.inj hi).symm⟩
   refine ⟨_,rfl,_,rfl,.inl ⟨x,d,kvs,rfl,hd,rfl,?_⟩⟩;rw [take_add_one,hx,map_append];rfl
  ·rintro ys H2 ⟨rfl,rfl⟩ p hp;have el:ns.take (ns.map V.str).length=ns:=by rw [hl]; exact take_length
   refine ⟨p,ns.map fun x=>(BN kvs (Sum.inr x:Key)).isSome,rfl,SqL.of (by rw [AB,el,map_map]; rfl),?_⟩
   have e:(decide (0 < ns.length) && ns.all fun x=>(BN kvs (Sum.inr x:Key)).isSome)=(ns.map fun x=>(BN kvs (Sum.inr x:Key)).isSome).all id:=by
    rw [decide_eq_true h1',Bool.true_and,all_map];rfl
   rw [← e];exact k _ (AH (Same.refl _) hp)
 ·have h1':¬ 0 < ns.length:=fun z=>h1 (decide_eq_true (by rw [hl]; omega));have:=k H (Same.refl H);rw [decide_eq_false h1',Bool.false_and] at this;exact this
inductive spIsWhole (vs:List V) (H:Hp) (Q:VK) (_E:XK):Prop where
 | mk (n:Int) (z_0:vs=[.int n]) (z_1:Q (.bl true) H)
theorem NJ:AJ ["thing"] ["thing"] (defScope Go):=fsc
theorem K7 {f:Addr} (F:Fun K "is_whole" "is_whole" Go f fd) (B:Bl mg):AX P w K mg base CX0 1 f fd ["thing"] spIsWhole:=by
 refine F.m NJ fun vs H Q E h=>?_;obtain ⟨n,rfl,k⟩:=h;refine ⟨rfl,fun ad A outer s hr=>?_⟩;refine ⟨_,AD (AL (Bj (Bp K rfl rfl B.isi rfl B.int Gx (pv 0)) (B7 (Nn (Bp K rfl rfl B.isi rfl B.bool QU (pv 0)))))),?_⟩;refine ⟨_,rfl,_,_,_,true,rfl,.int n,rfl,_,rfl,?_⟩;exact ⟨_,rfl,_,_,_,false,rfl,.int n,(by kernel_rfl),_,rfl,k⟩
structure D4 (due:Aa):Prop where
 len:due.length <= 10
 lt:∀ p ∈ due,p.2 < 2 ^ 20
 nd:(due.map (·.1)).Nodup
 nm:∀ p ∈ due,CD p.1=true/\p.1.cps.all (· < 128)=true/\p.1.length <= 1000
def QW (due:Aa):Th->Prop
 | .non=>True
 | .num _=>True
 | .nms ns=>ns ≠ []/\ns.length <= 10/\∀ x ∈ ns,x ∈ due.map (·.1)
inductive spThing (vs:List V) (H:Hp) (Q:VK) (_E:XK):Prop where
 | mk (tv:V) (th:Th) (d:Addr) (due:Aa) (z_0:vs=[tv,.ref d]) (z_1:ThAt H tv th) (z_2:Rd H d (.dK (Ax due))) (z_3:D4 due) (z_4:QW due th) (z_5:∀ H',Same H H'->Q (.int (Cd due th:Nat)) H')
theorem QX:AJ ["thing", "ahead"] ["thing", "ahead"] (defScope C8):=fsc
theorem Ou (due:Aa):(Ax due).map (·.2)=Av (due.map (·.2)):=by unfold Ax Av; rw [map_map,map_map]; rfl
theorem Ov {f:Addr} (F:Fun K "thing_number" "thing_number" C8 f fd) (B:Bl mg) (GN:Fn P w K mg base "next_mark" 1 ["numbers"] (spNextMark K)) (GI:Fn P w K mg base "is_names_of" 2 ["parts", "ahead"] spIsNamesOf)
  (GU:Fn P w K mg base "union_of" 1 ["numbers"] (spUnionOf K)) (GW:Fn P w K mg base "is_whole" 1 ["thing"] spIsWhole):AX P w K mg base CX0 3 f fd ["thing", "ahead"] spThing:=by
 obtain ⟨fN,dN,GN,mN,kN,bN⟩:=GN.ex;obtain ⟨fI,dI,GI,mI,kI,bI⟩:=GI.ex;obtain ⟨fU,dU,GU,mU,kU,bU⟩:=GU.ex;obtain ⟨fW,dW,GW,mW,kW,bW⟩:=GW.ex;refine F.m QX fun vs H Q E h=>?_;obtain ⟨tv,th,d,due,rfl,hT,hd,DO,TO,k⟩:=h;refine ⟨rfl,fun ad A outer s hr=>?_⟩;have hu:=Cb hr;have hr1:Room 1 _:=hr.mono (by decide)
 refine ⟨_,AE (Ag (F7 (KG (pv 0))) (AD (AL (AS GN hr1 rfl mN kN bN .nil AQ (AA (BR (Kl rfl) rfl B.list F4 (AA (OH PySem.F.slot_dict_values PySem.F.type_dict_values Mv (pv 1)) AC)) AC)))) AV)
  (AE (Ag (PW.pt (B6 (A2 (Bp K rfl rfl B.isi rfl B.tuple E3 (pv 0))) (Bc (A2 (AS GI hr rfl mI kI bI .nil AQ (AA (pv 0) (AA (pv 1) AC)))))))
   (AD (AL (AS GU hr1 rfl mU kU bU .nil AQ (AA (B2 ["ahead"] [some 1] (by kernel_rfl) (by decide +kernel) (by kernel_rfl) rfl (Nr (pv 0)) (fun _ _ _ _ _ _=>By) (fun _ _ _ _ _ _=>BU hu (pv 1) (pv 0) (fun _ _=>rfl))) AC)))) AV)
  (AE (Ag (A2 (AS GW hr1 rfl mW kW bW .nil AQ (AA (pv 0) AC))) (AD (AL (pv 0))) AV)
  (AD Ah))),?_⟩
 refine ⟨_,rfl,_,rfl,?_⟩;cases th with
 | non =>
  have e:tv=.non:=hT;subst e;refine BY (fun _=>?_) (fun z=>absurd rfl z);refine ⟨_,rfl,d,rfl,.inl ⟨_,hd⟩,d,_,rfl,rfl,hd,fun p hp=>?_⟩;refine ⟨p,d,_,rfl,AB,Same.rd (AH (Same.refl _) hp) hd,fun l hl=>?_⟩;refine ⟨l,due.map (·.2),rfl,SqL.of (by rw [AB,Ou]),fun n hn=>?_,?_⟩
  ·obtain ⟨q,hq,rfl⟩:=mem_map.mp hn;exact DO.lt q hq
  ·exact k _ (AH (AH (Same.refl _) hp) hl)
 | num n =>
  have e:tv=.int (n:Int):=hT;subst e;refine BY (fun z=>absurd (of_decide_eq_true z) (by intro q; cases q)) (fun _=>?_);refine ⟨_,rfl,_,_,_,false,rfl,.int _,(by kernel_rfl),_,rfl,?_⟩;refine AW ?_;refine ⟨_,rfl,n,rfl,_,rfl,?_⟩;refine Aj ?_;exact ⟨_,rfl,k H (Same.refl H)⟩
 | nms ns =>
  obtain ⟨a,rfl,ha⟩:=hT;obtain ⟨ax,hln,hin⟩:=TO;refine BY (fun z=>absurd (of_decide_eq_true z) (by intro q; cases q)) (fun _=>?_);refine ⟨_,rfl,_,_,_,true,rfl,.tup ha,rfl,_,rfl,?_⟩;have hl:(ns.map V.str).length=ns.length:=AK _;refine ⟨_,rfl,_,rfl,a,d,ns,Ax due,rfl,ha,by omega,hd,fun H1 s1=>⟨_,rfl,?_⟩⟩
  have e1:(decide (0 < ns.length) && ns.all fun x=>(BN (Ax due) (Sum.inr x:Key)).isSome)=true:=by
   rw [Bool.and_eq_true,decide_eq_true_eq,List.all_eq_true];refine ⟨List.length_pos_iff.mpr ax,fun x hx=>?_⟩;rw [B5 (hin x hx)];rfl
  rw [e1];refine Aj ?_;refine ⟨_,rfl,a,rfl,⟨_,SqT.of (s1 _ _ ha)⟩,JT (K:=K) (a:=a) (xs:=ns.map V.str) (fun i ys H2=>H2=H1/\ys=Av ((ns.take i).map (look due))) ⟨rfl,rfl⟩ (fun i ys H2 _ ⟨e,_⟩=>e ▸ SqT.of (s1 _ _ ha)) (fun i ys H2 ⟨_,e⟩=>?_) ?_ ?_⟩
  ·rw [e];unfold Av;rw [AK,AK,length_take];omega
  ·rintro i v ys H2 hi ⟨rfl,rfl⟩;rw [getElem?_map] at hi
   obtain ⟨x,hx,rfl⟩:∃ x,ns[i]?=some x/\v=V.str x:=by
    cases e:ns[i]? with
    | none=>rw [e] at hi; cases hi
    | some x=>rw [e] at hi; exact ⟨x,rfl,(Option.some.inj hi).symm⟩
   refine ⟨_,rfl,_,rfl,d,_,rfl,.inl ⟨Ax due,Sum.inr x,Same.rd s1 hd,rfl,(B5 (hin x (mem_of_getElem? hx))).symm⟩,rfl,?_⟩;rw [take_add_one,hx,map_append];unfold Av;rw [map_append];rfl
  ·rintro ys H2 ⟨rfl,rfl⟩ p hp;have el:ns.take (ns.map V.str).length=ns:=by rw [hl]; exact take_length
   refine ⟨p,ns.map (look due),rfl,SqL.of (by rw [AB,el]),?_⟩;exact k _ (AH s1 hp)
end
end Mk
end
section
namespace L2
open PySem
theorem Ow {a:Addr} {xs:List V} {g:TG} {tb:TS} {D:D7} {σ:St} (Pv:Nat->St->Hp->Prop) (h0:Pv 0 σ H) (hl:∀ i σ H,i <= xs.length->Pv i σ H->SqL K H a xs)
  (hs:∀ i x σ H p,xs[i]?=some x->Pv i σ H->H p=none->g (.ref p) σ (upd H p (.tup [.int i,x])) fun σ2 H2=>tb { D with nx:=Pv (i + 1),ct:=Pv (i + 1),bk:=D.nx } σ2 H2) (hd:∀ σ H,Pv xs.length σ H->D.nx σ H) :
  ∃ W:Nat->Nat->St->Hp->Prop,(∃ m,W 0 m σ H)/\∀ i m σ H,W i m σ H ->
   ((Ite K a).stop i H/\D.nx σ H)\/((Ite K a).go i H/\∃ N:St->Hp->Prop,(∀ σ' H',N σ' H'->∃ m',m' < m/\W (i + 1) m' σ' H')/\∀ x H',(Ite K a).yld i H x H'->g x σ H' fun σ2 H2=>tb { D with nx:=N,ct:=N,bk:=D.nx } σ2 H2):=by
 refine ⟨fun i m σ H=>m=xs.length - i/\i <= xs.length/\Pv i σ H,⟨_,rfl,Nat.zero_le _,h0⟩,?_⟩;rintro i m σ H ⟨rfl,hi,hp⟩;by_cases hlt:i < xs.length
 ·have hx:xs[i]?=some xs[i]:=List.getElem?_eq_getElem hlt;refine .inr ⟨⟨xs,xs[i],hl i σ H hi hp,hx⟩,Pv (i + 1),fun σ' H' q=>⟨xs.length - (i + 1),by omega,rfl,hlt,q⟩,?_⟩;rintro x H' ⟨p,y,hn,rfl,hy,rfl⟩
  have ex:y=xs[i]:=by
   have:=hy xs (hl i σ H hi hp);rw [hx] at this;exact (Option.some.inj this).symm
  subst ex;exact hs i xs[i] σ H p hx hp hn
 ·have e:i=xs.length:=by omega
  subst e;exact .inl ⟨⟨xs,hl _ σ H hi hp,Nat.le_refl _⟩,hd σ H hp⟩
theorem NK {a:Addr} {o:Obj} {kvs:LK} {g:TG} {tb:TS} {D:D7} {σ:St} (Pv:Nat->St->Hp->Prop) (h0:Pv 0 σ H) (hl:∀ i σ H,Pv i σ H->H a=some (.frz o (.dK kvs)))
  (hs:∀ i kv σ H p,kvs[i]?=some kv->Pv i σ H->H p=none->g (.ref p) σ (upd H p (.tup [kV kv.1,kv.2])) fun σ2 H2=>tb { D with nx:=Pv (i + 1),ct:=Pv (i + 1),bk:=D.nx } σ2 H2) (hd:∀ σ H,Pv kvs.length σ H->D.nx σ H) :
  ∃ W:Nat->Nat->St->Hp->Prop,(∃ m,W 0 m σ H)/\∀ i m σ H,W i m σ H ->
   ((Iti a o kvs).stop i H/\D.nx σ H)\/((Iti a o kvs).go i H/\∃ N:St->Hp->Prop,(∀ σ' H',N σ' H'->∃ m',m' < m/\W (i + 1) m' σ' H')/\∀ x H',(Iti a o kvs).yld i H x H'->g x σ H' fun σ2 H2=>tb { D with nx:=N,ct:=N,bk:=D.nx } σ2 H2):=by
 refine ⟨fun i m σ H=>m=kvs.length - i/\i <= kvs.length/\Pv i σ H,⟨_,rfl,Nat.zero_le _,h0⟩,?_⟩;rintro i m σ H ⟨rfl,hi,hp⟩;by_cases hlt:i < kvs.length
 ·refine .inr ⟨⟨hl i σ H hp,hlt⟩,Pv (i + 1),fun σ' H' q=>⟨kvs.length - (i + 1),by omega,rfl,hlt,q⟩,?_⟩;rintro x H' ⟨p,kv,hn,rfl,hkv,rfl⟩;exact hs i kv σ H p hkv hp hn
 ·have e:i=kvs.length:=by omega
  subst e;exact .inl ⟨⟨hl _ σ H hp,Nat.le_refl _⟩,hd σ H hp⟩
end L2
namespace Mk
open PySem L2 MK
def Tk (x:Str):Prop:=CD x=true/\x.cps.all (· < 128)=true/\x.length <= 1000
structure MA (due:Aa) (r:Str × Th):Prop where
 ahead:D4 due
 few:due.length < 10
 nm:Tk r.1
 new:r.1 ∉ due.map (·.1)
 th:QW due r.2
 lt:Cd due r.2 < 2 ^ 20
noncomputable def Al (rows:List (Str × Th)):Aa:=rows.foldl (fun due r=>due++[(r.1,Cd due r.2)]) []
theorem Fe (rows:List (Str × Th)) (r:Str × Th):Al (rows++[r])=Al rows++[(r.1,Cd (Al rows) r.2)]:=by unfold Al; rw [foldl_append]; rfl
def Ed (rows:List (Str × Th)):Prop:=∀ (i:Nat) r,rows[i]?=some r->MA (Al (rows.take i)) r
inductive RowAt (H:Hp) (b:Addr) (r:Str × Th):Prop where
 | mk (tv:_) (z_0:H b=some (.tup [.str r.1,tv])) (z_1:ThAt H tv r.2)
inductive RowsAt (H:Hp) (l:Addr) (rows:List (Str × Th)):Prop where
 | mk (as:List Addr) (z_0:H l=some (.lst (as.map V.ref))) (z_1:Paired (RowAt H) as rows)
theorem ThAt.same {v:V} {th:Th} (s:Same H H') (h:ThAt H v th):ThAt H' v th:=by
 cases th with
 | non=>exact h
 | num n=>exact h
 | nms ns=>obtain ⟨a,e,h⟩:=h; exact ⟨a,e,s _ _ h⟩
theorem RowAt.same {b:Addr} {r:Str × Th} (s:Same H H') (h:RowAt H b r):RowAt H' b r:=by
 obtain ⟨tv,e,t⟩:=h;exact ⟨tv,s _ _ e,t.same s⟩
theorem Ee {α β:Type} {F:α->β->Prop}:∀ {xs:List α} {ys:List β} {i:Nat} {x:α},Paired F xs ys->xs[i]?=some x->∃ y,ys[i]?=some y/\F x y
 | _,_,_,_,.nil,e=>by simp at e
 | _,_,0,_,.cons r _,e=>by simp at e; subst e; exact ⟨_,rfl,r⟩
 | _,_,i + 1,x,.cons _ t,e=>by
  obtain ⟨u,h1,h2⟩:=Ee (i:=i) (x:=x) t (by simpa using e);exact ⟨u,by simpa using h1,h2⟩
theorem Gz {H1:Hp} {d:Addr} {o:HO} (s:Same H H1) (hd:H d=none):Same H (upd H1 d o):=fun b u e=>by
 rw [AG (AI e hd)];exact s b u e
section
inductive spRow (vs:List V) (H:Hp) (Q:VK) (_E:XK):Prop where
 | mk (b d:Addr) (r:Str × Th) (due:Aa) (z_0:vs=[.ref b,.ref d]) (z_1:RowAt H b r) (z_2:Rd H d (.dK (Ax due))) (z_3:MA due r) (z_4:∀ H',Same H H'->Q (.int (Cd due r.2:Nat)) H')
theorem scRow:AJ ["row", "ahead", "name", "thing", "number"] ["row", "ahead"] (defScope EQ):=fsc
theorem SN {f:Addr} {tg:Tok} (F:Fun K "row_number" "row_number" EQ f fd) (B:Bl mg) (hG:mg "GREATEST" = some (.int 1048575 tg)) (GN:Fn P w K mg base "is_name" 1 ["thing"] spIsName) (GT:Fn P w K mg base "thing_number" 3 ["thing", "ahead"] spThing) :
  AX P w K mg base CX0 4 f fd ["row", "ahead"] spRow:=by
 obtain ⟨fN,dN,GN,mN,kN,bN⟩:=GN.ex;obtain ⟨fT,dT,GT,mT,kT,bT⟩:=GT.ex;refine F.m scRow fun vs H Q E h=>?_;obtain ⟨b,d,r,due,rfl,⟨tv,hb,hT⟩,hd,RO,k⟩:=h;refine ⟨rfl,fun ad A outer s hr=>?_⟩;have hu:=Cb hr;have hr1:Room 1 _:=hr.mono (by decide)
 refine ⟨_,AE (Ag (PW.pt (DR (BV (A2 (Bp K rfl rfl B.isi rfl B.tuple E3 (pv 0)))) (CN (AM Dy (AY (BH K rfl) rfl B.len PySem.boot_len (AA (pv 0) AC)) AF (AR _))))) (AD Ah) AV)
  (AE (Ch (pv 0) (B8 rfl (Af (Ae (i:=2) scRow.nd rfl (Or.inl rfl)) (Af (Ae (i:=3) scRow.nd rfl (Or.inl rfl)) Bd))))
  (AE (Ag (PW.pt (DR (BV (A2 (AS GN hr1 rfl mN kN bN .nil AQ (AA (pv 2) AC)))) (CN (F7 (N4 hu (pv 2) (pv 1)))))) (AD Ah) AV)
  (AE (Ac (i:=4) scRow.nd rfl (Or.inl rfl) (AS GT hr rfl mT kT bT .nil AQ (AA (pv 3) (AA (pv 1) AC))))
  (AE (Ag (PW.pt (DR (F7 (KG (pv 4))) (CN (BV (Em Ej Ej AF (pv 4) (A8 (v:=.int 1048575) rfl hG ⟨tg,rfl⟩)))))) (AD Ah) AV)
  (AD (AL (pv 4))))))),?_⟩
 refine ⟨_,rfl,_,_,_,true,rfl,.tup hb,rfl,_,rfl,?_⟩;refine AW ?_;refine ⟨_,rfl,b,_,rfl,.inr (SqT.of hb),rfl,_,rfl,?_⟩;refine N6 rfl ?_;refine ⟨_,rfl,b,_,rfl,SqT.of hb,rfl,_,_,rfl,_,_,rfl,rfl,?_⟩;refine ⟨_,rfl,r.1,rfl,RO.nm.2.1,RO.nm.2.2,fun H1 s1=>⟨_,rfl,?_⟩⟩;rw [RO.nm.1];refine AW ?_;refine ⟨_,rfl,_,rfl,d,_,rfl,.inl ⟨Ax due,Sum.inr r.1,Same.rd s1 hd,rfl,(E4 RO.new).symm⟩,_,rfl,?_⟩;refine AW ?_;refine ⟨_,rfl,_,rfl,tv,r.2,d,due,rfl,hT.same s1,Same.rd s1 hd,RO.ahead,RO.th,fun H2 s2=>?_⟩;refine ⟨_,rfl,_,rfl,?_⟩;refine BY (fun z=>absurd (of_decide_eq_true z) (by intro q; cases q)) (fun _=>?_);refine ⟨_,rfl,_,_,rfl,rfl,_,rfl,?_⟩;refine BY (fun _=>?_) (fun z=>absurd (decide_eq_true (Int.natCast_nonneg _)) z);refine ⟨_,_,rfl,rfl,_,rfl,?_⟩;have hlt:=RO.lt;refine N6 (show ((Cd due r.2:Nat):Int) <= 1048575 by omega) ?_;exact ⟨_,rfl,k _ (s1.trans s2)⟩
inductive spNumbered (vs:List V) (H:Hp) (Q:VK) (_E:XK):Prop where
 | mk (l:Addr) (rows:List (Str × Th)) (z_0:vs=[.ref l]) (z_1:RowsAt H l rows) (z_2:0 < rows.length) (z_3:rows.length <= 10) (z_4:Ed rows) (z_5:∀ d H',Same H H'->H d=none->H' d=some (.dK (Ax (Al rows)))->Q (.ref d) H')
theorem scNumbered:AJ ["rows", "numbers", "at", "row", "number"] ["rows"] (defScope FU):=fsc
theorem MB {x:Str} {n:Nat} (h:x ∉ due.map (·.1)):Ck (Ax due) (Sum.inr x:Key) (V.int (n:Int))=Ax (due++[(x,n)]):=by
 rw [JN _ (E4 h)];unfold Ax;rw [map_append];rfl
theorem Hz (due:Aa):(Ax due).length=due.length:=AK _
theorem Ba:∀ rows:List (Str × Th),(Al rows).length=rows.length:=fun rows=>by
 have:∀ (l:List (Str × Th)) (a:Aa),(l.foldl (fun due r=>due++[(r.1,Cd due r.2)]) a).length=a.length + l.length:=by
  intro l;induction l with
  | nil=>intro a; rfl
  | cons x r ih=>intro a; rw [foldl_cons,ih,length_append,length_cons,length_cons,length_nil]; omega
 have e:=this rows [];rw [length_nil] at e;unfold Al;omega
theorem Jo {f:Addr} {tm:Tok} (F:Fun K "numbered" "numbered" FU f fd) (B:Bl mg) (hM:mg "MOST_ROWS" = some (.int 10 tm)) (GR:Fn P w K mg base "row_number" 4 ["row", "ahead"] spRow):AX P w K mg base CX0 5 f fd ["rows"] spNumbered:=by
 obtain ⟨fR,dR,GR,mR,kR,bR⟩:=GR.ex;refine F.m scNumbered fun vs H Q E h=>?_;obtain ⟨l,rows,rfl,⟨as,hl,hP⟩,h0,h10,RO,k⟩:=h;refine ⟨rfl,fun ad A outer s hr=>?_⟩;have hu:=Cb hr;have ba:as.length=rows.length:=hP.length
 refine ⟨_,AE (Ag (PW.pt (DR (BV (A2 (Bp K rfl rfl B.isi rfl B.list F4 (pv 0)))) (CN (BV (Em Ej Ej AF (AY (BH K rfl) rfl B.len PySem.boot_len (AA (pv 0) AC)) (A8 (v:=.int 10) rfl hM ⟨tm,rfl⟩)))))) (AD Ah) AV)
  (AE (Ac (i:=1) scNumbered.nd rfl (Or.inl rfl) Ct)
  (AE (DS PassesOwn.never rfl (QA rfl B.enum (AA (pv 0) AC)) (B8 rfl (Af (Ae (i:=2) scNumbered.nd rfl (Or.inl rfl)) (Af (Ae (i:=3) scNumbered.nd rfl (Or.inl rfl)) Bd)))
   (AE (Ac (i:=4) scNumbered.nd rfl (Or.inl rfl) (AS GR hr rfl mR kR bR .nil AQ (AA (pv 3) (AA (pv 1) AC))))
   (AE (Ag (F7 (KG (pv 4))) (AD Ah) AV)
   (AD (IW hu (pv 1) (BI (Az K rfl) (pv 3) AF (fun _ _=>rfl)) (pv 4) rfl)))))
  (AD (AL (pv 1))))),?_⟩
 refine ⟨_,rfl,_,_,_,true,rfl,.lst hl,rfl,_,rfl,?_⟩;refine AW ?_;have hll:(as.map V.ref).length=rows.length:=by rw [AK,ba]
 refine ⟨_,rfl,l,_,rfl,.inl (SqL.of hl),_,_,rfl,rfl,_,rfl,?_⟩;refine BY (fun _=>?_) (fun z=>absurd (decide_eq_true (by rw [hll]; omega)) z);refine ⟨_,_,rfl,rfl,_,rfl,?_⟩;refine N6 (show (((as.map V.ref).length:Nat):Int) <= 10 by rw [hll]; omega) ?_;intro d hdn
 refine ⟨_,rfl,l,rfl,⟨_,SqL.of (AH (Same.refl _) hdn _ _ hl)⟩,Ow (K:=K) (a:=l) (xs:=as.map V.ref) (fun i σ H2=>∃ v1 v2 v3:Option V,σ=[some (.ref l),some (.ref d),v1,v2,v3]/\Same H H2/\H2 d=some (.dK (Ax (Al (rows.take i)))))
  ⟨none,none,none,rfl,AH (Same.refl _) hdn,AB⟩ (fun i σ H2 _ ⟨_,_,_,_,s2,_⟩=>SqL.of (s2 _ _ hl)) ?_ ?_⟩
 ·rintro i y σ H2 p hi ⟨v1,v2,v3,rfl,s2,hd2⟩ hp;rw [getElem?_map] at hi
  obtain ⟨b,hb,rfl⟩:∃ b,as[i]?=some b/\y=V.ref b:=by
   cases e:as[i]? with
   | none=>rw [e] at hi; cases hi
   | some x=>rw [e] at hi; exact ⟨x,rfl,(Option.some.inj hi).symm⟩
  obtain ⟨r,hr',hra⟩:=Ee hP hb;have R1:=RO i r hr';have s3:Same H (upd H2 p (.tup [.int i,.ref b])):=AH s2 hp;have hd3:(upd H2 p (.tup [.int i,.ref b])) d=some (.dK (Ax (Al (rows.take i)))):=by rw [AG (AI hd2 hp)]; exact hd2
  refine ⟨p,_,rfl,SqT.of AB,rfl,_,_,rfl,_,_,rfl,rfl,?_⟩;refine ⟨_,rfl,_,rfl,b,d,r,Al (rows.take i),rfl,hra.same s3,.inl hd3,R1,fun H4 s4=>?_⟩;refine ⟨_,rfl,_,rfl,?_⟩;refine BY (fun z=>absurd (of_decide_eq_true z) (by intro q; cases q)) (fun _=>?_);obtain ⟨tv,aj,_⟩:=hra.same (s3.trans s4);refine ⟨_,rfl,_,rfl,_,rfl,b,_,0,.str r.1,rfl,rfl,SqT.of aj,rfl,d,_,rfl,DPut.k (k:=Sum.inr r.1) (s4 _ _ hd3) (AO (by rw [Hz,Ba,length_take]; omega)),?_⟩;refine ⟨_,_,_,rfl,Gz (s3.trans s4) hdn,?_⟩;rw [AB,MB R1.new,take_add_one,hr',Option.toList_some,Fe]
 ·rintro σ H2 ⟨v1,v2,v3,rfl,s2,hd2⟩;rw [hll,take_length] at hd2;exact ⟨_,rfl,k d H2 s2 hdn hd2⟩
end
noncomputable def Ab (due:Aa):List (Nat × Str):=due.foldl (fun fs p=>if (fs.map (·.1)).contains p.2 then fs else fs++[(p.2,p.1)]) []
noncomputable def Br (fs:List (Nat × Str)):LK:=fs.map fun q=>(Sum.inl (q.1:Int),V.str q.2)
noncomputable def IA (fs:List (Nat × Str)) (n:Nat):Str:=((fs.find? fun q=>decide (q.1=n)).map (·.2)).getD (Str.ofString "")
theorem Ce (due:Aa) (p:Str × Nat):Ab (due++[p])=if ((Ab due).map (·.1)).contains p.2 then Ab due else Ab due++[(p.2,p.1)]:=by unfold Ab; rw [foldl_append]; rfl
theorem Ff (n:Nat):∀ fs:List (Nat × Str),BN (Br fs) (Sum.inl (n:Int):Key)=(fs.find? fun q=>decide (q.1=n)).map fun q=>V.str q.2
 | []=>rfl
 | q :: r=>by
  show BN ((Sum.inl (q.1:Int),V.str q.2) :: Br r) (Sum.inl (n:Int))=_;by_cases e:q.1=n
  ·rw [DW (p:=(Sum.inl (q.1:Int),V.str q.2)) (by rw [← e]),List.find?_cons_of_pos (by simpa using e)]; rfl
  ·rw [DX (p:=(Sum.inl (q.1:Int),V.str q.2)) (fun z=>e (by have:=Sum.inl.inj z; omega)),List.find?_cons_of_neg (by simpa using e)]; exact Ff n r
theorem K8 {fs:List (Nat × Str)} {n:Nat} (h:n ∈ fs.map (·.1)):(fs.find? fun q=>decide (q.1=n)).isSome=true:=by
 obtain ⟨q,hq,e⟩:=mem_map.mp h;rw [List.find?_isSome];exact ⟨q,hq,by simpa using e⟩
theorem E7 {fs:List (Nat × Str)} {n:Nat} (h:n ∈ fs.map (·.1)):BN (Br fs) (Sum.inl (n:Int):Key)=some (V.str (IA fs n)):=by
 rw [Ff];unfold IA;obtain ⟨q,hq⟩:=Option.isSome_iff_exists.mp (K8 h);rw [hq]; rfl
theorem Fg {fs:List (Nat × Str)} {n:Nat} (h:n ∉ fs.map (·.1)):BN (Br fs) (Sum.inl (n:Int):Key)=none:=by
 rw [Ff]
 have:(fs.find? fun q=>decide (q.1=n))=none:=by
  rw [List.find?_eq_none];intro q hq e;exact h (mem_map.mpr ⟨q,hq,by simpa using e⟩)
 rw [this]; rfl
theorem Jp {fs:List (Nat × Str)} {n:Nat} {x:Str} (h:n ∉ fs.map (·.1)):Ck (Br fs) (Sum.inl (n:Int):Key) (V.str x)=Br (fs++[(n,x)]):=by
 rw [JN _ (Fg h)];unfold Br;rw [map_append];rfl
theorem CT (due:Aa):(Ab due).length <= due.length:=by
 have:∀ (l:Aa) (a:List (Nat × Str)),(l.foldl (fun fs p=>if (fs.map (·.1)).contains p.2 then fs else fs++[(p.2,p.1)]) a).length <= a.length + l.length:=by
  intro l;induction l with
  | nil=>intro a; exact Nat.le_refl _
  | cons x r ih =>
   intro a;rw [foldl_cons];refine Nat.le_trans (ih _) ?_;split
   ·rw [length_cons]; omega
   ·rw [length_append,length_cons,length_cons,length_nil]; omega
 have e:=this due [];rw [length_nil] at e;unfold Ab;omega
theorem Dl (due:Aa):∀ (a:List (Nat × Str)),(a.map (·.1)).Nodup->(∀ n ∈ a.map (·.1),n ∈ (due.foldl (fun fs p=>if (fs.map (·.1)).contains p.2 then fs else fs++[(p.2,p.1)]) a).map (·.1)) /\
  ((due.foldl (fun fs p=>if (fs.map (·.1)).contains p.2 then fs else fs++[(p.2,p.1)]) a).map (·.1)).Nodup/\(∀ p ∈ due,p.2 ∈ (due.foldl (fun fs p=>if (fs.map (·.1)).contains p.2 then fs else fs++[(p.2,p.1)]) a).map (·.1)) /\
  (∀ q ∈ due.foldl (fun fs p=>if (fs.map (·.1)).contains p.2 then fs else fs++[(p.2,p.1)]) a,q ∈ a\/(q.2,q.1) ∈ due):=by
 induction due with
 | nil=>intro a ha; exact ⟨fun n hn=>hn,ha,fun p hp=>(nomatch hp),fun q hq=>.inl hq⟩
 | cons p r ih =>
  intro a ha;rw [foldl_cons];by_cases hc:(a.map (·.1)).contains p.2=true
  ·rw [if_pos hc];obtain ⟨i1,i2,i3,i4⟩:=ih a ha;refine ⟨i1,i2,fun q hq=>?_,fun q hq=>?_⟩
   ·rcases mem_cons.mp hq with rfl | hq
    ·exact i1 _ (by simpa using hc)
    ·exact i3 q hq
   ·rcases i4 q hq with z | z
    ·exact .inl z
    ·exact .inr (mem_cons_of_mem _ z)
  ·rw [if_neg hc];have hnot:p.2 ∉ a.map (·.1):=fun z=>hc (by simpa using z);obtain ⟨i1,i2,i3,i4⟩:=ih (a++[(p.2,p.1)]) (by rw [map_append]; exact Ln ha hnot);refine ⟨fun n hn=>i1 n (by rw [map_append]; exact mem_append_left _ hn),i2,fun q hq=>?_,fun q hq=>?_⟩
   ·rcases mem_cons.mp hq with rfl | hq
    ·exact i1 _ (by rw [map_append]; exact mem_append_right _ (by simp))
    ·exact i3 q hq
   ·rcases i4 q hq with z | z
    ·rcases mem_append.mp z with z | z
     ·exact .inl z
     ·have:q=(p.2,p.1):=by simpa using z
      subst this;exact .inr mem_cons_self
    ·exact .inr (mem_cons_of_mem _ z)
theorem NL (due:Aa):((Ab due).map (·.1)).Nodup:=(Dl due [] nodup_nil).2.1
theorem NM {p:Str × Nat} (h:p ∈ due):p.2 ∈ (Ab due).map (·.1):=(Dl due [] nodup_nil).2.2.1 p h
theorem IB {q:Nat × Str} (h:q ∈ Ab due):(q.2,q.1) ∈ due:=by
 rcases (Dl due [] nodup_nil).2.2.2 q h with z | z
 ·cases z
 ·exact z
section
inductive spFirsts (vs:List V) (H:Hp) (Q:VK) (_E:XK):Prop where
 | mk (d:Addr) (o:Obj) (due:Aa) (z_0:vs=[.ref d]) (z_1:H d=some (.frz o (.dK (Ax due)))) (z_2:due.length <= 100) (z_3:∀ e H',Same H H'->H e=none->H' e=some (.dK (Br (Ab due)))->Q (.ref e) H')
theorem scFirsts:AJ ["numbers", "firsts", "name", "number"] ["numbers"] (defScope Df):=fsc
theorem Ox {i:Nat} {kv:Key × V} (h:(Ax due)[i]?=some kv):∃ p,due[i]?=some p/\kv=(Sum.inr p.1,V.int (p.2:Int)):=by
 unfold Ax at h;rw [getElem?_map] at h;cases e:due[i]? with
 | none=>rw [e] at h; cases h
 | some p=>rw [e] at h; exact ⟨p,rfl,(Option.some.inj h).symm⟩
theorem NN {f:Addr} (F:Fun K "first_names" "first_names" Df f fd):AX P w K mg base CX0 1 f fd ["numbers"] spFirsts:=by
 refine F.m scFirsts fun vs H Q E h=>?_;obtain ⟨d,o,due,rfl,hd,hz,k⟩:=h;refine ⟨rfl,fun ad A outer s hr=>?_⟩
 refine ⟨_,AE (Ac (i:=1) scFirsts.nd rfl (Or.inl rfl) Ct)
  (AE (DS PassesOwn.never rfl (OB (pv 0)) (B8 rfl (Af (Ae (i:=2) scFirsts.nd rfl (Or.inl rfl)) (Af (Ae (i:=3) scFirsts.nd rfl (Or.inl rfl)) Bd)))
   (AD (BJ (Es PySem.F.plainAttrs_dict PySem.F.slot_dict_setdefault PySem.F.type_dict_setdefault HG (pv 1) (AA (pv 3) (AA (pv 2) AC))))))
  (AD (AL (pv 1)))),?_⟩
 intro e he
 refine ⟨_,rfl,d,o,Ax due,rfl,AH (Same.refl _) he _ _ hd,NK (a:=d) (o:=o) (kvs:=Ax due) (fun i σ H2=>∃ v1 v2:Option V,σ=[some (.ref d),some (.ref e),v1,v2]/\Same H H2/\H2 e=some (.dK (Br (Ab (due.take i)))))
  ⟨none,none,rfl,AH (Same.refl _) he,AB⟩ (fun i σ H2 ⟨_,_,_,s2,_⟩=>s2 _ _ hd) ?_ ?_⟩
 ·rintro i kv σ H2 p hkv ⟨v1,v2,rfl,s2,he2⟩ hp;obtain ⟨pr,hpr,rfl⟩:=Ox hkv;have s3:Same H (upd H2 p (.tup [.str pr.1,.int (pr.2:Int)])):=AH s2 hp;have he3:(upd H2 p (.tup [.str pr.1,.int (pr.2:Int)])) e=some (.dK (Br (Ab (due.take i)))):=by rw [AG (AI he2 hp)]; exact he2
  have et:due.take (i + 1)=due.take i++[pr]:=by rw [take_add_one,hpr]; rfl
  have hle:(Br (Ab (due.take i))).length <= 100:=by
   unfold Br;rw [AK];have:=CT (due.take i);rw [length_take] at this;omega
  refine ⟨p,_,rfl,SqT.of AB,rfl,_,_,rfl,_,_,rfl,rfl,?_⟩;refine ⟨_,rfl,.inr (.inr (.inl ⟨rfl,.inl ⟨_,he3⟩⟩)),_,rfl,_,rfl,e,_,Sum.inl (pr.2:Int),.str pr.1,rfl,rfl,he3,AO (by omega),fun w' hw=>?_,fun hn=>?_⟩
  ·refine ⟨_,_,rfl,s3,?_⟩;have z:pr.2 ∈ (Ab (due.take i)).map (·.1):=Decidable.byContradiction fun z=>by rw [Fg z] at hw; cases hw
   rw [et,Ce,if_pos (by simpa using z)];exact he3
  ·have z:pr.2 ∉ (Ab (due.take i)).map (·.1):=fun z=>by rw [E7 z] at hn; cases hn
   refine ⟨_,_,rfl,Gz s3 he,?_⟩;rw [AB,et,Ce,if_neg (by simpa using z),Jp z]
 ·rintro σ H2 ⟨v1,v2,rfl,s2,he2⟩;rw [Hz,take_length] at he2;exact ⟨_,rfl,k e H2 s2 he he2⟩
end
theorem n12:¬ (("numbers" : Str) = "firsts"):=by decide +kernel
theorem n13:¬ (("numbers" : Str) = "rule"):=by decide +kernel
theorem n23:¬ (("firsts" : Str) = "rule"):=by decide +kernel
noncomputable def Fy (d1 d2:Addr) (r:Str):List (Str × V):=BL "rule" (.str r) (BL "firsts" (.ref d2) (BL "numbers" (.ref d1) []))
theorem G3 (d1 d2:Addr) (r:Str):(Fy d1 d2 r).lookup ("numbers" : Str)=some (.ref d1):=by
 unfold Fy;rw [AU,if_neg n13,AU,if_neg n12,AU,if_pos rfl]
theorem G4 (d1 d2:Addr) (r:Str):(Fy d1 d2 r).lookup ("firsts" : Str)=some (.ref d2):=by
 unfold Fy;rw [AU,if_neg n23,AU,if_pos rfl]
theorem Fh (d1 d2:Addr) (r:Str):(Fy d1 d2 r).lookup ("rule" : Str)=some (.str r):=by
 unfold Fy;rw [AU,if_pos rfl]
theorem CG (d1 d2:Addr) (r:Str) {m:Str} (h1:¬ m = "rule" := by decide +kernel) (h2:¬ m = "firsts" := by decide +kernel) (h3:¬ m = "numbers" := by decide +kernel):(Fy d1 d2 r).lookup m=none:=by
 unfold Fy;rw [AU,if_neg h1,AU,if_neg h2,AU,if_neg h3];rfl
theorem QY (d1:Addr):(BL "numbers" (V.ref d1) []).lookup ("numbers" : Str)=some (.ref d1):=by rw [AU,if_pos rfl]
structure KindAt (C:Addr) (H:Hp) (p:Addr) (due:Aa) (r:Str):Prop where
 ex:∃ dx d1 o1 d2 o2,H p=some (.ins C dx (Fy d1 d2 r))/\H d1=some (.frz o1 (.dK (Ax due)))/\H d2=some (.frz o2 (.dK (Br (Ab due))))
theorem KindAt.same {p:Addr} {r:Str} (s:Same H H') (h:KindAt C H p due r):KindAt C H' p due r:=by
 obtain ⟨dx,d1,o1,d2,o2,a,b,c⟩:=h.ex;exact ⟨⟨dx,d1,o1,d2,o2,s _ _ a,s _ _ b,s _ _ c⟩⟩
structure Dx (K:FG) (C:Addr):Prop where
 cl:Cls K C
 nN:NoAttr K C "numbers"
 nF:NoAttr K C "firsts"
 nR:NoAttr K C "rule"
noncomputable def ruleNames:List Str:=["bar", "drop", "keep", "leave"]
section
inductive spInit (C:Addr) (vs:List V) (H:Hp) (Q:VK) (_E:XK):Prop where
 | mk (p dx l:Addr) (rows:List (Str × Th)) (r:Str) (z_0:vs=[.ref p,.ref l,.str r]) (z_1:H p=some (.ins C dx [])) (z_2:RowsAt H l rows) (z_3:0 < rows.length) (z_4:rows.length <= 10) (z_5:Ed rows) (z_6:r ∈ ruleNames) (z_7:∀ H',(∀ b o,H b=some o->b ≠ p->H' b=some o)->KindAt C H' p (Al rows) r->Q .non H')
theorem SQ:AJ ["self", "rows", "rest"] ["self", "rows", "rest"] (defScope BM):=fsc
theorem Oy {r:Str} (h:r ∈ ruleNames):inV (.str r) (ruleNames.map V.str)=true:=by
 unfold inV;rw [any_map,any_eq_true];exact ⟨r,h,by show (r == r)=true; simp⟩
theorem QZ {f aR:Addr} (F:Fun K "__init__" "Kind.__init__" BM f fd) (B:Bl mg) (T:Dx K C) (hR:mg "RULES" = some (.ref aR)) (hRT:∀ H:Hp,SqT K H aR (ruleNames.map V.str))
  (GN:Fn P w K mg base "numbered" 5 ["rows"] spNumbered) (GF:Fn P w K mg base "first_names" 1 ["numbers"] spFirsts) (GO:Fn P w K mg base "is_one_of" 1 ["thing", "names"] (Cu K)):AX P w K mg base CX0 6 f fd ["self", "rows", "rest"] (spInit C):=by
 obtain ⟨fN,dN,GN,mN,kN,bN⟩:=GN.ex;obtain ⟨fF,dF,GF,mF,kF,bF⟩:=GF.ex;obtain ⟨fO,dO,GO,mO,kO,bO⟩:=GO.ex;refine F.m SQ fun vs H Q E h=>?_;obtain ⟨p,dx,l,rows,r,rfl,hp,RA,h0,h10,RO,ap,k⟩:=h;refine ⟨rfl,fun ad A outer s hr=>?_⟩;have hr1:Room 1 _:=hr.mono (by decide)
 refine ⟨_,AE (Cj (pv 0) (AS GN hr rfl mN kN bN .nil AQ (AA (pv 1) AC)) rfl)
  (Ge (AE (Ag (BV (A2 (AS GO hr1 rfl mO kO bO .nil AQ (AA (pv 2) (AA (A8 (v:=.ref aR) rfl hR rfl) AC))))) (AD Ah) AV)
  (AE (Cj (pv 0) (AS GF hr1 rfl mF kF bF .nil AQ (AA (As (pv 0) rfl) AC)) rfl)
  (Ge (AD (Cj (pv 0) (pv 2) rfl)))))),?_⟩
 refine ⟨_,rfl,l,rows,rfl,RA,h0,h10,RO,fun d1 H1 s1 hd1n hd1=>?_⟩;have npd:p ≠ d1:=AI hp hd1n;refine ⟨_,rfl,p,C,dx,[],rfl,s1 _ _ hp,T.cl,T.nN,(by show 0 < 1000; decide),?_⟩;refine ⟨d1,Ax (Al rows),by rw [AG (Ne.symm npd)]; exact hd1,fun o1=>?_⟩;refine ⟨_,rfl,.inr ⟨r,aR,ruleNames,rfl,hRT _,_,rfl,?_⟩⟩;rw [Oy ap];refine AW ?_;have al:∀ o,(upd (upd H1 p (.ins C dx (BL "numbers" (.ref d1) []))) d1 o) p=some (.ins C dx (BL "numbers" (.ref d1) [])):=fun o=>by rw [AG npd,AB]
 refine ⟨_,rfl,p,C,dx,_,_,rfl,al _,T.cl,T.nN,QY d1,d1,o1,Al rows,rfl,AB,by rw [Ba]; omega,fun d2 H2 s2 hd2n hd2=>?_⟩;have npd2:p ≠ d2:=AI (al _) hd2n;have hp3:=s2 _ _ (al _);refine ⟨_,rfl,p,C,dx,_,rfl,hp3,T.cl,T.nF,(by show 1 < 1000; decide),?_⟩;refine ⟨d2,Br (Ab (Al rows)),by rw [AG (Ne.symm npd2)]; exact hd2,fun o2=>?_⟩;have hp4:∀ o,(upd (upd H2 p (.ins C dx (BL "firsts" (.ref d2) (BL "numbers" (.ref d1) [])))) d2 o) p=some (.ins C dx (BL "firsts" (.ref d2) (BL "numbers" (.ref d1) []))):=fun o=>by rw [AG npd2,AB]
 refine ⟨_,rfl,_,rfl,p,C,dx,_,rfl,hp4 _,T.cl,T.nR,Nat.lt_of_le_of_lt (A6 _ _ _) (by show 2 < 1000; decide),?_⟩;have nd12:d1 ≠ d2:=AI (AB (H:=upd H1 p (.ins C dx (BL "numbers" (.ref d1) []))) (o:=.frz o1 (.dK (Ax (Al rows))))) hd2n;refine k _ (fun b o e hb=>?_) ⟨⟨dx,d1,o1,d2,o2,AB,?_,?_⟩⟩
 ·rw [AG hb,AG,AG hb]
  ·refine s2 _ _ ?_;rw [AG (AI e hd1n),AG hb];exact s1 _ _ e
  ·intro z;subst z
   have:(upd (upd H1 p (.ins C dx (BL "numbers" (.ref d1) []))) d1 (.frz o1 (.dK (Ax (Al rows))))) b=some o:=by
    rw [AG (AI e hd1n),AG hb];exact s1 _ _ e
   rw [hd2n] at this;cases this
 ·rw [AG (Ne.symm npd),AG nd12,AG (Ne.symm npd)];exact s2 _ _ AB
 ·rw [AG (Ne.symm npd2),AB]
end
structure Mt (P:Program) (w:World) (K:FG) (mg:SV) (base:Heap) (C:Addr) (m:Str) (k:Nat) (ps:List Str) (sp:Sp):Prop where
 ex:∃ f fd,AX P w K mg base CX0 k f fd ps sp/\KQ K C m f/\Binds K fd ps []
noncomputable def DP (due:Aa):List (V × V):=due.map fun p=>(V.str p.1,V.int (p.2:Int))
noncomputable def At (due:Aa):List Nat:=((Ab due).map (·.1)).mergeSort fun a b=>decide (a <= b)
noncomputable def BC (due:Aa):List Nat:=(At due).filter A4
noncomputable def Jq (due:Aa):List (V × V):=(BC due).map fun n=>(V.str (IA (Ab due) n),V.int (n:Int))
theorem DD (due:Aa):(At due).Perm ((Ab due).map (·.1)):=List.mergeSort_perm _ _
theorem E8 (due:Aa):(At due).Pairwise (· <= ·):=by
 have:=List.pairwise_mergeSort (le:=fun a b:Nat=>decide (a <= b)) (fun a b c h1 h2=>by simp at h1 h2 ⊢; omega) (fun a b=>by simp; omega) ((Ab due).map (·.1));exact this.imp fun h=>by simpa using h
theorem Jr {ns:List Int} (hp:ns.Perm ((Br (Ab due)).map fun kv=>match kv.1 with | Sum.inl i=>i | Sum.inr _=>0)) (hs:ns.Pairwise (· <= ·)):ns=(At due).map fun n:Nat=>(n:Int):=by
 refine List.Perm.eq_of_pairwise (le:=(· <= ·)) (fun a b _ _ h1 h2=>Int.le_antisymm h1 h2) hs ?_ ?_
 ·rw [List.pairwise_map];exact (E8 due).imp fun h=>by omega
 ·have e:((Br (Ab due)).map fun kv=>match kv.1 with | Sum.inl i=>i | Sum.inr _=>0)=((Ab due).map (·.1)).map fun n:Nat=>(n:Int):=by
   unfold Br;rw [map_map,map_map];rfl
  rw [e] at hp;exact hp.trans ((DD due).symm.map _)
theorem mem_keysS {n:Nat}:n ∈ At due ↔ n ∈ (Ab due).map (·.1):=(DD due).mem_iff
theorem Fi (due:Aa):(At due).length <= due.length:=by
 rw [(DD due).length_eq,AK];exact CT due
section
inductive spRows (C:Addr) (vs:List V) (H:Hp) (Q:VK) (_E:XK):Prop where
 | mk (p:Addr) (due:Aa) (r:Str) (z_0:vs=[.ref p]) (z_1:KindAt C H p due r) (z_2:∀ l as H',Same H H'->H' l=some (.lst (as.map V.ref))->TupsAt H' as (DP due)->Q (.ref l) H')
theorem SR:AJ ["self"] ["self"] (defScope FV):=fsc
theorem Qa (due:Aa):(Ax due).map (fun kv=>(kV kv.1,kv.2))=DP due:=by unfold Ax DP; rw [map_map]; rfl
theorem Qb {f:Addr} (F:Fun K "rows" "Kind.rows" FV f fd) (B:Bl mg) (T:Dx K C):AX P w K mg base CX0 1 f fd ["self"] (spRows C):=by
 refine F.m SR fun vs H Q E h=>?_;obtain ⟨p,due,r,rfl,KA,k⟩:=h;refine ⟨rfl,fun ad A outer s hr=>?_⟩;obtain ⟨dx,d1,o1,d2,o2,hp,h1,h2⟩:=KA.ex;refine ⟨_,AD (AL (BR (Km rfl) rfl B.list F4 (AA (OH PySem.F.slot_dict_items PySem.F.type_dict_items OI (As (pv 0) rfl)) AC))),?_⟩;refine ⟨_,rfl,p,C,dx,_,_,rfl,hp,T.cl,T.nN,G3 _ _ _,d1,rfl,.inl ⟨_,.inr ⟨o1,h1⟩⟩,d1,_,rfl,rfl,.inr ⟨o1,h1⟩,fun v hv=>?_⟩;have s1:Same H (upd H v (Lo d1 v)):=AH (Same.refl _) hv;refine ⟨v,d1,_,rfl,AB,Same.rd s1 (.inr ⟨o1,h1⟩),fun l as H' s2 _ hl ht=>?_⟩;rw [Qa] at ht;exact k l as H' (s1.trans s2) hl ht
inductive spKnown (C:Addr) (vs:List V) (H:Hp) (Q:VK) (_E:XK):Prop where
 | mk (p:Addr) (due:Aa) (r:Str) (z_0:vs=[.ref p]) (z_1:KindAt C H p due r) (z_2:∀ H',Same H H'->Q (.int (Ak ((Ab due).map (·.1)):Nat)) H')
theorem Qc:AJ ["self"] ["self"] (defScope ES):=fsc
theorem Oz {f:Addr} (F:Fun K "known" "Kind.known" ES f fd) (B:Bl mg) (T:Dx K C) (GU:Fn P w K mg base "union_of" 1 ["numbers"] (spUnionOf K)):AX P w K mg base CX0 2 f fd ["self"] (spKnown C):=by
 obtain ⟨fU,dU,GU,mU,kU,bU⟩:=GU.ex;refine F.m Qc fun vs H Q E h=>?_;obtain ⟨p,due,r,rfl,KA,k⟩:=h;refine ⟨rfl,fun ad A outer s hr=>?_⟩;obtain ⟨dx,d1,o1,d2,o2,hp,h1,h2⟩:=KA.ex;refine ⟨_,AD (AL (AS GU hr rfl mU kU bU .nil AQ (AA (BR (Kk rfl) rfl B.list F4 (AA (As (pv 0) rfl) AC)) AC))),?_⟩;refine ⟨_,rfl,p,C,dx,_,_,rfl,hp,T.cl,T.nF,G4 _ _ _,d2,_,rfl,.inr ⟨o2,h2⟩,fun l hl=>?_⟩;refine ⟨l,(Ab due).map (·.1),rfl,SqL.of (by rw [AB]; unfold Br Av; rw [map_map,map_map]; rfl),k _ (AH (Same.refl _) hl)⟩
inductive spMarks (C:Addr) (vs:List V) (H:Hp) (Q:VK) (_E:XK):Prop where
 | mk (p:Addr) (due:Aa) (r:Str) (z_0:vs=[.ref p]) (z_1:KindAt C H p due r) (z_2:due.length <= 60) (z_3:∀ l as H',Same H H'->H' l=some (.lst (as.map V.ref))->TupsAt H' as (Jq due)->Q (.ref l) H')
theorem Qd:AJ ["self"] ["self"] (defScope ER):=fsc
theorem IC {as:List Addr} {ps:List (V × V)} {b:Addr} {p:V × V} (s:Same H H') (h:TupsAt H as ps) (hb:H' b=some (.tup [p.1,p.2])):TupsAt H' (as++[b]) (ps++[p]):=Paired.snoc (TupsAt.same s h) hb
theorem O0 {f:Addr} (F:Fun K "marks" "Kind.marks" ER f fd) (B:Bl mg) (T:Dx K C) (GM:Fn P w K mg base "is_mark" 1 ["number"] spIsMark):AX P w K mg base CX0 2 f fd ["self"] (spMarks C):=by
 obtain ⟨fM,dM,GM,mM,kM,bM⟩:=GM.ex;refine F.m Qd fun vs H Q E h=>?_;obtain ⟨p,due,r,rfl,KA,h60,k⟩:=h;refine ⟨rfl,fun ad A outer s hr=>?_⟩;have hu:=Cb hr;obtain ⟨dx,d1,o1,d2,o2,hp,h1,h2⟩:=KA.ex
 refine ⟨_,AD (AL (B2 ["self"] [some 0] (by kernel_rfl) (by decide +kernel) (by kernel_rfl) rfl (Bx (AY (Et rfl) rfl B.sorted Hx (AA (As (pv 0) rfl) AC)))
  (fun _ _ _ _ _ _=>IZ (A2 (AS GM hr rfl mM kM bM .nil AQ (AA (pv 0) AC))))
  (fun _ _ _ _ _ _=>BE (AA (BU hu (QV K rfl (pv 1) rfl) (pv 0) (fun _ _=>rfl)) (AA (pv 0) AC))))),?_⟩
 have hle:(Br (Ab due)).length <= due.length:=by unfold Br; rw [AK]; exact CT due
 refine ⟨_,rfl,p,C,dx,_,_,rfl,hp,T.cl,T.nF,G4 _ _ _,d2,_,rfl,.inr ⟨o2,h2⟩,by omega,fun kv hkv=>?_,fun l ns hl cw cy=>?_⟩
 ·unfold Br at hkv;obtain ⟨q,_,rfl⟩:=mem_map.mp hkv;exact ⟨_,rfl⟩
 ·have en:=Jr cw cy;subst en;have s1:Same H (upd H l (.lst (((At due).map fun n:Nat=>(n:Int)).map V.int))):=AH (Same.refl _) hl;have exs:((At due).map fun n:Nat=>(n:Int)).map V.int=Av (At due):=(E6 _).symm
  refine ⟨l,rfl,⟨_,SqL.of AB⟩,CH (K:=K) (a:=l) (xs:=Av (At due))
   (fun i ys H2=>∃ as,ys=as.map V.ref/\Same H H2/\H2 l=some (.lst (Av (At due)))/\TupsAt H2 as ((((At due).take i).filter A4).map fun n=>(V.str (IA (Ab due) n),V.int (n:Int)))) ⟨[],rfl,s1,by rw [AB,exs],.nil⟩
   (fun i ys H2 _ ⟨_,_,_,e,_⟩=>SqL.of e) (fun i ys H2 ⟨as,e,_,_,t⟩=>?_) ?_ ?_⟩
  ·have:=t.length;rw [e,AK,this,AK];have h3:(((At due).take i).filter A4).length <= ((At due).take i).length:=length_filter_le _ _;rw [length_take] at h3;have:=Fi due;omega
  ·rintro i v ys H2 hi ⟨as,rfl,s2,hl2,ht⟩;obtain ⟨n,hn,rfl⟩:=Iv hi;have ci:n ∈ (Ab due).map (·.1):=mem_keysS.mp (mem_of_getElem? hn);have et:((At due).take (i + 1)).filter A4=((At due).take i).filter A4++(if A4 n then [n] else []):=PySem.take_succ_filter A4 _ i n hn;refine ⟨_,rfl,n,rfl,_,rfl,?_⟩;refine BY (fun hm=>?_) (fun hm=>?_)
   ·refine ⟨_,rfl,p,C,dx,_,_,rfl,s2 _ _ hp,T.cl,T.nF,G4 _ _ _,_,rfl,d2,_,rfl,.inl ⟨_,Sum.inl (n:Int),Same.rd s2 (.inr ⟨o2,h2⟩),rfl,(E7 ci).symm⟩,_,rfl,sl2,fun b hb=>?_⟩;refine ⟨as++[b],by rw [map_append]; rfl,AH s2 hb,by rw [AG (AI hl2 hb)]; exact hl2,?_⟩;rw [et,hm,if_pos rfl,map_append];exact IC (AH (Same.refl _) hb) ht AB
   ·refine ⟨as,rfl,s2,hl2,?_⟩;rw [et,if_neg hm,append_nil];exact ht
  ·rintro ys H2 ⟨as,rfl,s2,_,ht⟩ q hq
   have el:(At due).take (Av (At due)).length=At due:=by
    have:(Av (At due)).length=(At due).length:=by unfold Av; rw [AK]
    rw [this]; exact take_length
   rw [el] at ht;exact k q as _ (AH s2 hq) AB (TupsAt.same (AH (Same.refl _) hq) ht)
end
theorem Js {as:List Addr} {ps:List (V × V)} {i:Nat} {b:Addr} (h:TupsAt H as ps) (e:as[i]?=some b):∃ p,ps[i]?=some p/\H b=some (.tup [p.1,p.2]):=Ee h e
section
theorem KindAt.ins {p:Addr} {r:Str} (h:KindAt C H p due r):∃ dx d1 d2,H p=some (.ins C dx (Fy d1 d2 r)):=by
 obtain ⟨dx,d1,o1,d2,o2,a,_⟩:=h.ex;exact ⟨dx,d1,d2,a⟩
theorem NO (due:Aa):(Jq due).length=(BC due).length:=AK _
end
theorem MC (h:∀ p ∈ due,p.2 < 2 ^ 20):∀ n ∈ (Ab due).map (·.1),n < 2 ^ 20:=fun n hn=>by
 obtain ⟨q,hq,rfl⟩:=mem_map.mp hn;exact h _ (IB hq)
theorem O1 (h:∀ p ∈ due,p.2 < 2 ^ 20):∀ n ∈ BC due,n < 2 ^ 20:=fun n hn=>MC h n (mem_keysS.mp (mem_filter.mp hn).1)
theorem E9 {x:Int} {n:Nat} (h0:0 <= x) (h:x < 2 ^ n):Builtin.Int.intBits x <= n:=by
 obtain ⟨m,rfl⟩:=Int.eq_ofNat_of_zero_le h0;have hm:m < 2 ^ n:=by exact_mod_cast h
 rcases Nat.eq_zero_or_pos m with e | hp
 ·subst e; exact Nat.zero_le _
 ·rw [De hp];exact (Nat.log2_lt (by omega)).mpr hm
theorem Ef {xs:List V} {i:Int} (h0:0 <= i) (h1:i < xs.length):∃ v,atI xs i=some v/\xs[i.toNat]?=some v:=by
 have hlt:i.toNat < xs.length:=by omega
 refine ⟨xs[i.toNat],?_,List.getElem?_eq_getElem hlt⟩;unfold atI ixN;rw [if_pos h0,if_pos h1];exact List.getElem?_eq_getElem hlt
structure SameX (d:Addr) (H H':Hp):Prop where
 old:∀ b o,H b=some o->b ≠ d->H' b=some o
 dice:∃ a b:Int,H' d=some (.lst [.int a,.int b])
theorem SameX.step {d:Addr} {H1 H2:Hp} (x:SameX d H H1) (s:Same H1 H2):SameX d H H2 :=
 ⟨fun b o e hb=>s _ _ (x.old b o e hb),by obtain ⟨a,b,e⟩:=x.dice; exact ⟨a,b,s _ _ e⟩⟩
theorem SameX.trans {d:Addr} {H1 H2:Hp} (x:SameX d H H1) (y:SameX d H1 H2):SameX d H H2:=⟨fun b o e hb=>y.old _ _ (x.old b o e hb) hb,y.dice⟩
section
inductive spCell (K:FG) (vs:List V) (H:Hp) (Q:VK) (_E:XK):Prop where
 | mk (a:Addr) (ns:List Int) (k:Int) (z_0:vs=[.ref a,.int k]) (z_1:SqL K H a (ns.map V.int)) (z_2:ns.length <= 63) (z_3:0 <= k) (z_4:∀ (v:Int) H',Same H H'->Q (.int v) H')
theorem SS:AJ ["_law_script", "_law_k"] ["_law_script", "_law_k"] (defScope Gu):=fsc
theorem Qe {f:Addr} (F:Fun K "_law_cell" "_law_cell" Gu f fd) (B:Bl mg):AX P w K mg base CX0 1 f fd ["_law_script", "_law_k"] (spCell K):=by
 refine F.m SS fun vs H Q E h=>?_;obtain ⟨a,ns,kk,rfl,hS,h63,hk,k⟩:=h;refine ⟨rfl,fun ad A outer s hr=>?_⟩;have hu:=hr.units
 refine ⟨_,AE (Ag (AM (SB K rfl hu) (pv 0) (BK AC) (AR _)) (AD (AL (AZ F9 (pv 1) AF))) AV)
  (AD (AL (AZ Ci (BI (Ar K rfl) (pv 0) (AZ EB (pv 1) (AY (BH K rfl) rfl B.len PySem.boot_len (AA (pv 0) AC))) (fun _ _=>rfl))
   (AZ F9 (AZ IL (pv 1) (AY (BH K rfl) rfl B.len PySem.boot_len (AA (pv 0) AC))) AF)))),?_⟩
 refine ⟨_,rfl,Nat.zero_le _,fun p hp=>?_⟩;have s1:Same H (upd H p (.lst [])):=AH (Same.refl _) hp;refine ⟨a,p,ns,[],rfl,rfl,s1.seq hS,SqL.of AB,_,rfl,?_⟩;refine BY (fun h0=>?_) (fun h0=>?_)
 ·exact ⟨_,rfl,_,_,rfl,rfl,.inr ⟨by decide,by decide⟩,k _ _ s1⟩
 ·have ax:ns ≠ []:=fun z=>h0 (decide_eq_true z);have hpos:0 < ns.length:=List.length_pos_iff.mpr ax;have hl:(ns.map V.int).length=ns.length:=AK _;have hm0:0 <= kk % ((ns.map V.int).length:Int):=Int.emod_nonneg _ (by rw [hl]; omega);have hm1:kk % ((ns.map V.int).length:Int) < ((ns.map V.int).length:Nat):=Int.emod_lt_of_pos _ (by rw [hl]; omega);obtain ⟨v,hv,hv2⟩:=Ef (xs:=ns.map V.int) hm0 hm1
  obtain ⟨n,rfl⟩:∃ n,v=V.int n:=by
   rw [getElem?_map] at hv2;cases e:ns[(kk % ((ns.map V.int).length:Int)).toNat]? with
   | none=>rw [e] at hv2; cases hv2
   | some n=>rw [e] at hv2; exact ⟨n,(Option.some.inj hv2).symm⟩
  refine ⟨_,rfl,_,rfl,_,rfl,a,_,rfl,.inl (s1.seq hS),_,_,rfl,rfl,(by rw [hl]; omega),a,_,_,_,rfl,rfl,s1.seq hS,hv,?_⟩;exact ⟨_,rfl,_,rfl,a,_,rfl,.inl (s1.seq hS),_,_,rfl,rfl,⟨by rw [hl]; omega,by rw [hl]; omega⟩,_,_,rfl,rfl,.inr ⟨by decide,by decide⟩,_,_,rfl,rfl,k _ _ s1⟩
inductive spDrawn (vs:List V) (H:Hp) (Q:VK) (_E:XK):Prop where
 | mk (c k:Int) (z_0:vs=[.int c,.int k]) (z_1:∀ r:Int,0 <= r->Q (.int r) H)
theorem scDrawn:AJ ["_law_cell_here", "_law_k", "_law_more"] ["_law_cell_here", "_law_k"] (defScope Fa):=fsc
theorem O2 {f:Addr} (F:Fun K "_law_drawn" "_law_drawn" Fa f fd):AX P w K mg base CX0 1 f fd ["_law_cell_here", "_law_k"] spDrawn:=by
 refine F.m scDrawn fun vs H Q E h=>?_;obtain ⟨c,kk,rfl,k⟩:=h;refine ⟨rfl,fun ad A outer s hr=>?_⟩
 refine ⟨_,AE (Ac (i:=2) scDrawn.nd rfl (Or.inl rfl) (AZ EB (AZ Ci (AZ F9 (pv 0) AF) (AZ F9 (AZ Ci (pv 1) AF) AF)) AF))
  (AE (Ac (i:=2) scDrawn.nd rfl (Or.inl rfl) (AZ EB (AZ Ig (pv 2) (pv 2)) AF))
  (AE (Ac (i:=2) scDrawn.nd rfl (Or.inl rfl) (AZ Ig (AZ Ig (AZ Ci (AZ EB (pv 2) AF) AF) (AZ Ci (AZ ON (pv 2) AF) AF)) (pv 2)))
  (AD (AL (AZ EB (pv 2) AF))))),?_⟩
 refine ⟨_,rfl,_,_,rfl,rfl,.inr ⟨by decide,by decide⟩,_,rfl,_,_,rfl,rfl,_,_,rfl,rfl,.inr ⟨by decide,by decide⟩,_,_,rfl,rfl,_,_,rfl,rfl,(by show (0:Int) < _; decide),?_⟩;generalize ha:(c * 6364136223846793005 + (kk + 1) * 1442695040888963407) % 340282366920938463463374607431768211507=m1
 have h1:0 <= m1/\m1 < 2 ^ 130:=by
  rw [← ha];exact ⟨Int.emod_nonneg _ (by decide),Int.lt_trans (Int.emod_lt_of_pos _ (by decide)) (by decide)⟩
 have b1:Builtin.Int.intBits m1 <= 2 ^ 20:=Nat.le_trans (E9 h1.1 h1.2) (by decide);subst ha;refine ⟨_,rfl,_,rfl,_,_,rfl,rfl,⟨b1,b1⟩,_,_,rfl,rfl,(by show (0:Int) < _; decide),?_⟩;generalize hb:(c * 6364136223846793005 + (kk + 1) * 1442695040888963407) % 340282366920938463463374607431768211507 * ((c * 6364136223846793005 + (kk + 1) * 1442695040888963407) % 340282366920938463463374607431768211507) % 340282366920938463463374607431768211297=m2
 have h2:0 <= m2/\m2 < 2 ^ 130:=by
  rw [← hb];exact ⟨Int.emod_nonneg _ (by decide),Int.lt_trans (Int.emod_lt_of_pos _ (by decide)) (by decide)⟩
 have b2:Builtin.Int.intBits m2 <= 2 ^ 20:=Nat.le_trans (E9 h2.1 h2.2) (by decide)
 have p1:0 <= m2 % 18446744073709551557 + 1/\m2 % 18446744073709551557 + 1 < 2 ^ 65:=by
  have:=Int.emod_nonneg m2 (show (18446744073709551557:Int) ≠ 0 by decide);have:=Int.emod_lt_of_pos m2 (show (0:Int) < 18446744073709551557 by decide);omega
 have p2:0 <= m2 / 18446744073709551557 + 1/\m2 / 18446744073709551557 + 1 < 2 ^ 131:=by
  have h3:=Int.ediv_nonneg h2.1 (show (0:Int) <= 18446744073709551557 by decide);have h4:=Int.ediv_le_self (18446744073709551557) h2.1;omega
 have p3:0 <= (m2 % 18446744073709551557 + 1) * (m2 / 18446744073709551557 + 1):=Int.mul_nonneg p1.1 p2.1
 have p4:(m2 % 18446744073709551557 + 1) * (m2 / 18446744073709551557 + 1) < 2 ^ 196:=by
  have:=Int.mul_lt_mul' (Int.le_of_lt p1.2) p2.2 p2.1 (show (0:Int) < 2 ^ 65 by decide);exact Int.lt_of_lt_of_le this (by decide)
 have c1:Builtin.Int.intBits (m2 % 18446744073709551557 + 1) <= 2 ^ 20:=Nat.le_trans (E9 p1.1 p1.2) (by decide);have c2:Builtin.Int.intBits (m2 / 18446744073709551557 + 1) <= 2 ^ 20:=Nat.le_trans (E9 p2.1 p2.2) (by decide);have c3:Builtin.Int.intBits ((m2 % 18446744073709551557 + 1) * (m2 / 18446744073709551557 + 1)) <= 2 ^ 20:=Nat.le_trans (E9 p3 p4) (by decide);subst hb;refine ⟨_,rfl,_,_,rfl,rfl,(by show (0:Int) < _; decide),_,_,rfl,rfl,_,rfl,_,_,rfl,rfl,⟨by decide,PyProof.noPylong_of_log2 (by decide +kernel)⟩,_,_,rfl,rfl,_,_,rfl,rfl,⟨c1,c2⟩,?_⟩;refine ⟨_,rfl,_,_,rfl,rfl,⟨c3,b2⟩,?_⟩;exact ⟨_,rfl,_,_,rfl,rfl,(by show (0:Int) < _; decide),k _ (Int.emod_nonneg _ (by decide))⟩
inductive spRoll (vs:List V) (H:Hp) (Q:VK) (_E:XK):Prop where
 | mk (d:Addr) (a b m:Int) (z_0:vs=[.ref d,.int m]) (z_1:H d=some (.lst [.int a,.int b])) (z_2:0 < m) (z_3:m < 1073741824) (z_4:∀ r a' b':Int,0 <= r->r < m->Q (.int r) (upd H d (.lst [.int a',.int b'])))
theorem scRoll:AJ ["_law_dice", "_law_many", "_law_told_here"] ["_law_dice", "_law_many"] (defScope Gv):=fsc
theorem Qf {f:Addr} (F:Fun K "_law_roll" "_law_roll" Gv f fd) (GD:Fn P w K mg base "_law_drawn" 1 ["_law_cell_here", "_law_k"] spDrawn):AX P w K mg base CX0 2 f fd ["_law_dice", "_law_many"] spRoll:=by
 obtain ⟨fD,dD,GD,mD,kD,bD⟩:=GD.ex;refine F.m scRoll fun vs H Q E h=>?_;obtain ⟨d,a,b,m,rfl,hd,m0,m1,k⟩:=h;refine ⟨rfl,fun ad A outer s hr=>?_⟩
 refine ⟨_,AE (Ag (AM JH (BI (Ar K rfl) (pv 0) AF (fun _ _=>rfl)) (AZ KP AF AF) (AR _))
   (AE (Ac (i:=2) scRoll.nd rfl (Or.inl rfl) (AZ EB (BI (Ar K rfl) (pv 0) AF (fun _ _=>rfl)) (pv 1)))
   (AE (Ch (AZ IL (BI (Ar K rfl) (pv 0) AF (fun _ _=>rfl)) (pv 1)) (IK (pv 0) AF En))
   (AD (AL (pv 2))))) AV)
  (AE (Ch (AZ Ci (BI (Ar K rfl) (pv 0) AF (fun _ _=>rfl)) AF) (IK (pv 0) AF En))
  (AD (AL (AZ EB (AZ IL (AS GD hr rfl mD kD bD .nil AQ (AA (BI (Ar K rfl) (pv 0) AF (fun _ _=>rfl)) (AA (BI (Ar K rfl) (pv 0) AF (fun _ _=>rfl)) AC))) AF) (pv 1))))),?_⟩
 refine ⟨_,rfl,d,_,0,.int a,rfl,rfl,SqL.of hd,Bm (j:=0) rfl,_,_,rfl,rfl,⟨by decide,by decide,by decide⟩,_,_,rfl,rfl,_,rfl,?_⟩;refine BY (fun _=>?_) (fun _=>?_)
 ·refine ⟨_,rfl,d,_,0,.int a,rfl,rfl,SqL.of hd,Bm (j:=0) rfl,_,rfl,_,_,rfl,rfl,m0,?_⟩;refine ⟨_,rfl,d,_,0,.int a,rfl,rfl,SqL.of hd,Bm (j:=0) rfl,_,rfl,_,_,rfl,rfl,⟨m0,m1⟩,_,rfl,d,_,0,0,rfl,rfl,hd,rfl,?_⟩;exact ⟨_,rfl,k _ (a / m) b (Int.emod_nonneg _ (by omega)) (Int.emod_lt_of_pos _ m0)⟩
 ·refine ⟨_,rfl,d,_,1,.int b,rfl,rfl,SqL.of hd,Bm (j:=1) rfl,_,_,rfl,rfl,_,rfl,d,_,1,1,rfl,rfl,hd,rfl,?_⟩;have hd2:(upd H d (.lst ([V.int a,V.int b].set 1 (V.int (b + 1))))) d=some (.lst [.int a,.int (b + 1)]):=AB;refine ⟨_,rfl,d,_,0,.int a,rfl,rfl,SqL.of hd2,Bm (j:=0) rfl,_,rfl,d,_,1,.int (b + 1),rfl,rfl,SqL.of hd2,Bm (j:=1) rfl,_,_,rfl,fun r hr0=>?_⟩;refine ⟨_,_,rfl,rfl,⟨by decide,by decide⟩,_,rfl,_,_,rfl,rfl,m0,?_⟩;exact k _ a (b + 1) (Int.emod_nonneg _ (by omega)) (Int.emod_lt_of_pos _ m0)
inductive spRuleOf (vs:List V) (H:Hp) (Q:VK) (_E:XK):Prop where
 | mk (d:Addr) (a b:Int) (z_0:vs=[.ref d]) (z_1:H d=some (.lst [.int a,.int b])) (z_2:∀ (r:Str) H',r ∈ (["bar", "drop", "keep", "leave"]:List Str)->SameX d H H'->Q (.str r) H')
theorem O3:AJ ["_law_dice"] ["_law_dice"] (defScope Ea):=fsc
theorem NP {f:Addr} (F:Fun K "_law_rule_of" "_law_rule_of" Ea f fd) (GR:Fn P w K mg base "_law_roll" 2 ["_law_dice", "_law_many"] spRoll):AX P w K mg base CX0 3 f fd ["_law_dice"] spRuleOf:=by
 obtain ⟨fR,dR,GR,mR,kR,bR⟩:=GR.ex;refine F.m O3 fun vs H Q E h=>?_;obtain ⟨d,a,b,rfl,hd,k⟩:=h;refine ⟨rfl,fun ad A outer s hr=>?_⟩;refine ⟨_,AD (AL (BI (Ar K rfl) (BK (AA AN (AA AN (AA AN (AA AN AC))))) (AS GR hr rfl mR kR bR .nil AQ (AA (pv 0) (AA AF AC))) (fun _ _=>rfl))),?_⟩;refine ⟨sl4,fun p hp=>?_⟩;have npd:d ≠ p:=AI hd hp;refine ⟨_,rfl,d,a,b,4,rfl,by rw [AG npd]; exact hd,by decide,by decide,fun r a' b' h0 h1=>?_⟩;have hl:(upd (upd H p (.lst [.str "bar", .str "drop", .str "keep", .str "leave"])) d (.lst [.int a',.int b'])) p=some (.lst [.str "bar", .str "drop", .str "keep", .str "leave"]):=by rw [AG (Ne.symm npd),AB]
 obtain ⟨v,hv,hv2⟩:=Ef (xs:=[V.str "bar", V.str "drop", V.str "keep", V.str "leave"]) h0 (by show r < 4; exact h1)
 have hin:∃ x,v=.str x/\x ∈ (["bar", "drop", "keep", "leave"]:List Str):=by
  have:=mem_of_getElem? hv2;simp only [mem_cons,not_mem_nil,or_false] at this;rcases this with z | z | z | z
  ·exact ⟨_,z,by simp⟩
  ·exact ⟨_,z,by simp⟩
  ·exact ⟨_,z,by simp⟩
  ·exact ⟨_,z,by simp⟩
 obtain ⟨x,rfl,hx⟩:=hin;refine ⟨p,_,r,_,rfl,rfl,SqL.of hl,hv,k x _ hx ⟨fun c o e hc=>?_,⟨a',b',AB⟩⟩⟩;rw [AG hc,AG (AI e hp)];exact e
end
theorem MD (n k:Nat):decide (V.int (Builtin.bitAnd ((n:Int) / 2 ^ ((0:Int) + (k:Int)).toNat) 1)=V.int 1)=n.testBit k:=by
 have e0:((0:Int) + (k:Int)).toNat=k:=by omega
 have e1:(n:Int) / 2 ^ k=((n / 2 ^ k:Nat):Int):=by push_cast; rfl
 have e2:Builtin.bitAnd ((n / 2 ^ k:Nat):Int) 1=((n / 2 ^ k % 2:Nat):Int):=by
  have:=Bf (n / 2 ^ k) 1;rw [Nat.and_one_is_mod] at this;exact this
 rw [e0,e1,e2,Nat.testBit_eq_decide_div_mod_eq];refine decide_eq_decide.mpr ⟨fun h=>?_,fun h=>?_⟩
 ·have:=V.int.inj h;omega
 ·rw [h]; rfl
section
inductive spRounds (K:FG) (vs:List V) (H:Hp) (Q:VK) (_E:XK):Prop where
 | mk (a:Addr) (ns:List Int) (z_0:vs=[.ref a,.int 4]) (z_1:SqL K H a (ns.map V.int)) (z_2:ns.length <= 63) (z_3:∀ (l:Addr) (as:List Addr) H',Same H H'->H' l=some (.lst (as.map V.ref))->as.Nodup->l ∉ as->as.length <= 4->(∀ b ∈ as,H b=none/\∃ x y:Int,H' b=some (.lst [.int x,.int y]))->Q (.ref l) H')
theorem O4:AJ ["_law_script", "_law_most"] ["_law_script", "_law_most"] (defScope EY):=fsc
theorem NQ {f:Addr} (F:Fun K "_law_rounds" "_law_rounds" EY f fd) (B:Bl mg) (GC:Fn P w K mg base "_law_cell" 1 ["_law_script", "_law_k"] (spCell K)):AX P w K mg base CX0 2 f fd ["_law_script", "_law_most"] (spRounds K):=by
 obtain ⟨fC,dC,GC,mC,kC,bC⟩:=GC.ex;refine F.m O4 fun vs H Q E h=>?_;obtain ⟨a,ns,rfl,hS,h63,k⟩:=h;refine ⟨rfl,fun ad A outer s hr=>?_⟩
 refine ⟨_,AD (AL (B2 ["_law_script"] [some 0] (by kernel_rfl) (by decide +kernel) (by kernel_rfl) rfl
  (Cp rfl B.range (AA (AY (Mi rfl) rfl B.max SM (AA AF (AA (AY (Mj rfl) rfl B.min SL (AA (pv 1) (AA (AY (BH K rfl) rfl B.len PySem.boot_len (AA (pv 0) AC)) AC))) AC))) AC))
  (fun _ _ _ _ _ _=>By)
  (fun _ _ _ _ _ _=>BK (AA (AS GC hr rfl mC kC bC .nil AQ (AA (pv 1) (AA (pv 0) AC))) (AA AF AC))))),?_⟩
 have hl:(ns.map V.int).length=ns.length:=AK _;refine ⟨_,rfl,_,rfl,a,_,rfl,.inl hS,_,_,rfl,_,_,rfl,_,rfl,?_,?_,?_⟩
 ·split <;> split <;> omega
 ·split <;> split <;> omega
 ·generalize hn:(if (if (((ns.map V.int).length:Nat):Int) < 4 then (((ns.map V.int).length:Nat):Int) else 4) > 1 then (if (((ns.map V.int).length:Nat):Int) < 4 then (((ns.map V.int).length:Nat):Int) else 4) else 1).toNat=n
  have n5:n <= 4:=by
   rw [← hn];split <;> split <;> omega
  refine EH (lo:=0) (n:=n) (fun i ys H2=>∃ as:List Addr,ys=as.map V.ref/\as.length=i/\i <= 4/\Same H H2/\as.Nodup/\∀ b ∈ as,H b=none/\∃ x y:Int,H2 b=some (.lst [.int x,.int y])) ⟨[],rfl,rfl,by decide,Same.refl _,nodup_nil,fun b hb=>nomatch hb⟩ ?_ ?_ ?_
  ·rintro i ys H2 ⟨as,rfl,e,h5,_⟩;rw [AK]; omega
  ·rintro i ys H2 hi ⟨as,rfl,e,h5,s2,nd,hb⟩;refine ⟨_,rfl,_,rfl,a,ns,_,rfl,s2.seq hS,h63,by omega,fun v H3 s3=>⟨sl2,fun p hp=>?_⟩⟩;refine ⟨as++[p],by rw [map_append]; rfl,by rw [length_append,e]; rfl,by omega,AH (s2.trans s3) hp,?_,fun b hb'=>?_⟩
   ·refine List.nodup_append.mpr ⟨nd,nodup_cons.mpr ⟨not_mem_nil,nodup_nil⟩,?_⟩;intro x hx y hy;rw [mem_singleton] at hy;subst hy;obtain ⟨_,x1,y1,e1⟩:=hb x hx;exact AI (s3 _ _ e1) hp
   ·rcases mem_append.mp hb' with z | z
    ·obtain ⟨h0,x1,y1,e1⟩:=hb b z;exact ⟨h0,x1,y1,AH s3 hp _ _ e1⟩
    ·rw [mem_singleton] at z;subst z;refine ⟨?_,v,0,AB⟩;cases e:H b with
     | none=>rfl
     | some o =>
      have:=s3 _ _ (s2 _ _ e);rw [this] at hp;cases hp
  ·rintro ys H2 ⟨as,rfl,e,h5,s2,nd,hb⟩ l hl;refine k l as _ (AH s2 hl) AB nd ?_ (by omega) fun b hb'=>?_
   ·intro z;obtain ⟨_,x,y,e1⟩:=hb l z;rw [e1] at hl; cases hl
   ·obtain ⟨h0,x,y,e1⟩:=hb b hb';exact ⟨h0,x,y,AH (Same.refl _) hl _ _ e1⟩
inductive spBitsOf (vs:List V) (H:Hp) (Q:VK) (_E:XK):Prop where
 | mk (n:Nat) (z_0:vs=[.int (n:Int)]) (z_1:∀ l ys H',Same H H'->H' l=some (.lst ys)->ys.length=(C6 n).length->Q (.ref l) H')
theorem O5:AJ ["_law_number"] ["_law_number"] (defScope EZ):=fsc
theorem NR {f:Addr} (F:Fun K "_law_bits_of" "_law_bits_of" EZ f fd) (B:Bl mg):AX P w K mg base CX0 1 f fd ["_law_number"] spBitsOf:=by
 refine F.m O5 fun vs H Q E h=>?_;obtain ⟨n,rfl,k⟩:=h;refine ⟨rfl,fun ad A outer s hr=>?_⟩
 refine ⟨_,AD (AL (B2 ["_law_number"] [some 0] (by kernel_rfl) (by decide +kernel) (by kernel_rfl) rfl (Cp rfl B.range (AA AF AC))
  (fun _ _ _ _ _ _=>IZ (AM Aw (AZ CA (AZ Rs (pv 1) (pv 0)) AF) AF (AR _)))
  (fun _ _ _ _ _ _=>AZ IM AF (pv 0)))),?_⟩
 refine ⟨42,rfl,by decide,by decide,?_⟩;refine EH (lo:=0) (n:=42) (fun i ys H2=>ys.length=((List.range i).filter fun k=>n.testBit k).length/\i <= 42/\H2=H) ⟨rfl,by decide,rfl⟩ ?_ ?_ ?_
 ·rintro i ys H2 ⟨e,hi,_⟩;rw [e];have:=length_filter_le (fun k=>n.testBit k) (List.range i);rw [List.length_range] at this;omega
 ·rintro i ys H2 hi ⟨e,_,rfl⟩;refine ⟨_,rfl,_,rfl,_,_,rfl,rfl,(by omega),_,_,rfl,rfl,?_⟩;refine ⟨rfl,_,rfl,?_⟩
  have er:((List.range (i + 1)).filter fun k=>n.testBit k).length=((List.range i).filter fun k=>n.testBit k).length + (if n.testBit i then 1 else 0):=by
   rw [List.range_succ,List.filter_append,length_append,filter_cons,List.filter_nil];split <;> rfl
  refine BY (fun h=>?_) (fun h=>?_)
  ·have hb:n.testBit i=true:=by rw [← MD]; exact h
   refine ⟨_,rfl,_,_,rfl,rfl,⟨by omega,by first | decide | omega,by first | decide | omega⟩,?_,by omega,rfl⟩;rw [er,hb,length_append,e]; rfl
  ·have hb:n.testBit i=false:=by rw [← MD]; exact Bool.eq_false_iff.mpr h
   refine ⟨?_,by omega,rfl⟩;rw [er,hb,e]; rfl
 ·rintro ys H2 ⟨e,_,rfl⟩ l hl;exact k l ys _ (AH (Same.refl _) hl) AB e
end
end Mk
end
section
namespace L2
open PySem
def Tl (t u:TS):TS:=fun D σ H=>∃ G:St->Hp->Prop,(∀ R:St->Hp->Prop,(∀ σ H,G σ H->R σ H)->t { D with nx:=R } σ H)/\∀ σ H,G σ H->u D σ H
theorem BD {X:Cx} {st:Stmt} {rest:List Stmt} {t u:TS} (h1:PS X st t) (h2:PSs X rest u):PSs X (st :: rest) (Tl t u):=fun aa s σ H D I ⟨_,a,b⟩=>AE h1 h2 aa s σ H D I (a (u D) b)
end L2
namespace Mk
open PySem L2 MK
def SameT (H H':Hp):Prop:=∀ b xs,H b=some (.tup xs)->H' b=some (.tup xs)
theorem SameT.of (s:Same H H'):SameT H H':=fun b xs e=>s _ _ e
theorem SameT.upd {d:Addr} {xs ys:List V} (h:H d=some (.lst xs)):SameT H (upd H d (.lst ys)):=fun b zs e=>by
 rw [AG (fun z=>by subst z; rw [h] at e; cases e)]; exact e
theorem SameT.trans {H1 H2:Hp} (x:SameT H H1) (y:SameT H1 H2):SameT H H2:=fun b xs e=>y _ _ (x _ _ e)
theorem TupsAt.sameT {as:List Addr} {ps:List (V × V)} (s:SameT H H') (h:TupsAt H as ps):TupsAt H' as ps:=Paired.mapP h fun _ _ e=>s _ _ e
theorem ThAt.sameT {v:V} {th:Th} (s:SameT H H') (h:ThAt H v th):ThAt H' v th:=by
 cases th with
 | non=>exact h
 | num n=>exact h
 | nms ns=>obtain ⟨a,e,h⟩:=h; exact ⟨a,e,s _ _ h⟩
theorem RowAt.sameT {b:Addr} {r:Str × Th} (s:SameT H H') (h:RowAt H b r):RowAt H' b r:=by
 obtain ⟨tv,e,t⟩:=h;exact ⟨tv,s _ _ e,t.sameT s⟩
theorem Bh {as:List Addr} {rows:List (Str × Th)} (s:SameT H H') (h:Paired (RowAt H) as rows):Paired (RowAt H') as rows:=Paired.mapP h fun _ _ e=>e.sameT s
noncomputable def Eg (due:Aa):List PyData:=due.map fun p=>.tuple [.str p.1,.int (p.2:Int)]
theorem G5 {b:Addr} {x:Str} {n:Int} (h:H b=some (.tup [.str x,.int n])):CB K H (.tuple [.str x,.int n]) (.ref b):=by
 rw [CB];refine ⟨b,_,rfl,SqT.of h,?_⟩;rw [BZ];refine ⟨_,_,rfl,by rw [CB],?_⟩;rw [BZ];refine ⟨_,_,rfl,by rw [CB],?_⟩;rw [BZ]
theorem FA:∀ {due:Aa} {bs:List Addr},TupsAt H bs (DP due)->BZ K H (Eg due) (bs.map V.ref)
 | [],bs,h=>by
  have:bs=[]:=List.eq_nil_of_length_eq_zero (by rw [h.length]; rfl);subst this;show BZ K H [] [];rw [BZ]
 | p :: r,[],h=>by have:=h.length; simp [DP] at this
 | p :: r,b :: bs,h=>by
  have hh:H b=some (.tup [.str p.1,.int (p.2:Int)])/\TupsAt H bs (DP r):=by
   cases h with
   | cons h1 h2=>exact ⟨h1,h2⟩
  show BZ K H (.tuple [.str p.1,.int (p.2:Int)] :: Eg r) (V.ref b :: bs.map V.ref);rw [BZ];exact ⟨_,_,rfl,G5 hh.1,FA hh.2⟩
theorem FB {l:Addr} {ds:List PyData} {xs:List V} (h:H l=some (.lst xs)) (d:BZ K H ds xs):CB K H (.list ds) (.ref l):=by
 rw [CB];exact ⟨l,xs,rfl,SqL.of h,d⟩
theorem Qg:BZ K H [] []:=by rw [BZ]
theorem Qh (ds:List PyData):PyData.eqv (.list ds) (.list [])=ds.isEmpty:=by
 cases ds with
 | nil=>rfl
 | cons a r=>simp [PyData.eqv,PyData.eqvAll]
theorem G6 {x:Str} (h:x.cps.all (· < 128)=true):PyData.strOk x=true:=by
 unfold PyData.strOk;simp only [Array.all_eq_true,decide_eq_true_eq] at h ⊢;intro i hi;have:=h i hi;simp;omega
theorem K9 {ds:List PyData} (h:∀ d ∈ ds,d.canLay0=true):PyData.canLayAll0 ds=true:=by
 induction ds with
 | nil=>rfl
 | cons a r ih=>rw [PyData.canLayAll0,h a mem_cons_self,ih fun d hd=>h d (mem_cons_of_mem _ hd)]; rfl
theorem SU {ds:List PyData} {k:Nat} (h:∀ d ∈ ds,d.depth <= k):PyData.depthAll ds <= k:=by
 induction ds with
 | nil=>rw [PyData.depthAll]; exact Nat.zero_le _
 | cons a r ih=>rw [PyData.depthAll]; exact Nat.max_le.mpr ⟨h a mem_cons_self,ih fun d hd=>h d (mem_cons_of_mem _ hd)⟩
theorem Jt {ds:List PyData} (h:∀ d ∈ ds,d.canLay0=true/\d.depth <= 60):SeqAt.shaped (.list ds)=true:=by
 unfold SeqAt.shaped;rw [Bool.and_eq_true,decide_eq_true_eq];refine ⟨by rw [PyData.canLay0]; exact K9 fun d hd=>(h d hd).1,?_⟩;rw [PyData.depth];have:=SU (k:=60) fun d hd=>(h d hd).2;omega
theorem G7 {x:Str} {n:Int} (h:x.cps.all (· < 128)=true):(PyData.tuple [.str x,.int n]).canLay0=true/\(PyData.tuple [.str x,.int n]).depth <= 60:=by
 refine ⟨?_,?_⟩
 ·rw [PyData.canLay0];refine K9 fun d hd=>?_;simp only [mem_cons,not_mem_nil,or_false] at hd;rcases hd with rfl | rfl
  ·rw [PyData.canLay0]; exact G6 h
  ·rw [PyData.canLay0]
 ·simp only [PyData.depth,PyData.depthAll];omega
theorem Fq {x:Str} {n:Int} (h:x.cps.all (· < 128)=true):SeqAt.shaped (.tuple [.str x,.int n])=true:=by
 unfold SeqAt.shaped;rw [Bool.and_eq_true,decide_eq_true_eq];exact ⟨(G7 h).1,Nat.le_trans (G7 h).2 (by decide)⟩
theorem Dm (h:∀ p ∈ due,p.1.cps.all (· < 128)=true):SeqAt.shaped (.list (Eg due))=true:=Jt fun d hd=>by
 obtain ⟨p,hp,rfl⟩:=mem_map.mp hd;exact G7 (h p hp)
theorem LA:SeqAt.shaped (.list [])=true:=by decide +kernel
noncomputable def uni (due:Aa) (ns:List Str):Nat:=Ak (due.map fun p=>if inV (.str p.1) (ns.map V.str) then p.2 else 0)
theorem MF (x:Str) (ns:List Str):inV (.str x) (ns.map V.str)=ns.any (· == x):=by
 unfold inV;rw [any_map];rfl
theorem Do {p:Str × Nat} (nd:(due.map (·.1)).Nodup) (h:p ∈ due):look due p.1=p.2:=by
 induction due with
 | nil=>cases h
 | cons q r ih =>
  rw [map_cons,nodup_cons] at nd;unfold look;by_cases e:q.1=p.1
  ·rw [List.find?_cons_of_pos (by simpa using e)];rcases mem_cons.mp h with z | z
   ·subst z; rfl
   ·exact absurd (mem_map.mpr ⟨p,z,e.symm⟩) nd.1
  ·rw [List.find?_cons_of_neg (by simpa using e)];rcases mem_cons.mp h with z | z
   ·subst z; exact absurd rfl e
   ·exact ih nd.2 z
theorem SW {ns:List Str} (nd:(due.map (·.1)).Nodup) (hs:∀ x ∈ ns,x ∈ due.map (·.1)):uni due ns=Ak (ns.map (look due)):=by
 refine Nat.eq_of_testBit_eq fun k=>?_;unfold uni;rw [Ds,Ds,any_map,any_map,Bool.eq_iff_iff,any_eq_true,any_eq_true];constructor
 ·rintro ⟨p,hp,hb⟩;simp only [Function.comp] at hb;by_cases hi:inV (.str p.1) (ns.map V.str)=true
  ·rw [if_pos hi] at hb;rw [MF,any_eq_true] at hi;obtain ⟨x,hx,e⟩:=hi;have e':x=p.1:=by simpa using e
   subst e';exact ⟨p.1,hx,by simp only [Function.comp]; rw [Do nd hp]; exact hb⟩
  ·rw [if_neg hi,Nat.zero_testBit] at hb;cases hb
 ·rintro ⟨x,hx,hb⟩;obtain ⟨p,hp,rfl⟩:=mem_map.mp (hs x hx);refine ⟨p,hp,?_⟩;simp only [Function.comp] at hb ⊢;rw [Do nd hp] at hb;rw [if_pos (by rw [MF,any_eq_true]; exact ⟨p.1,hx,by simp⟩)];exact hb
theorem Ju {rows:List (Str × Th)} {r:Str × Th} (h:Ed rows) (hr:MA (Al rows) r):Ed (rows++[r]):=by
 intro i q e;rcases Nat.lt_trichotomy i rows.length with z | z | z
 ·rw [List.getElem?_append_left z] at e;rw [List.take_append_of_le_length (Nat.le_of_lt z)];exact h i q e
 ·subst z;rw [getElem?_append_right (Nat.le_refl _),Nat.sub_self] at e;have:r=q:=by simpa using e
  subst this;rw [List.take_append_of_le_length (Nat.le_refl _),take_length];exact hr
 ·rw [List.getElem?_eq_none (by rw [length_append,length_singleton]; omega)] at e;cases e
theorem Jv {rows:List (Str × Th)} (h:Ed rows) (h10:rows.length <= 10):D4 (Al rows):=by
 have key:∀ n,n <= rows.length->D4 (Al (rows.take n)):=by
  intro n;induction n with
  | zero=>intro _; rw [List.take_zero]; exact ⟨by decide,(fun p hp=>nomatch hp),nodup_nil,(fun p hp=>nomatch hp)⟩
  | succ n ih =>
   intro hn;have D:=ih (by omega);have hq:rows[n]?=some rows[n]:=List.getElem?_eq_getElem (by omega);have R:=h n _ hq;rw [take_add_one,hq,Option.toList_some,Fe];refine ⟨?_,fun p hp=>?_,?_,fun p hp=>?_⟩
   ·rw [length_append,length_singleton]; have:=R.few; omega
   ·rcases mem_append.mp hp with z | z
    ·exact D.lt p z
    ·rw [mem_singleton] at z; subst z; exact R.lt
   ·rw [map_append];refine List.nodup_append.mpr ⟨D.nd,nodup_cons.mpr ⟨not_mem_nil,nodup_nil⟩,?_⟩;intro x hx y hy;have ey:y=(rows[n]).1:=by simpa using hy
    subst ey;exact fun z=>R.new (z ▸ hx)
   ·rcases mem_append.mp hp with z | z
    ·exact D.nm p z
    ·rw [mem_singleton] at z; subst z; exact R.nm
 have:=key rows.length (Nat.le_refl _);rw [take_length] at this;exact this
theorem SX {A B:TT} {σ:St} {Q:Bool->Hp->Prop} (p q:Bool) (hA:∀ Q':Bool->Hp->Prop,Q' p H->A σ H Q') (hB:∀ Q':Bool->Hp->Prop,Q' q H->B σ H Q') (h:Q (p || q) H):tOr A B σ H Q:=by
 refine hA _ ?_;cases p with
 | true=>exact Aj h
 | false=>exact AW (hB _ h)
theorem Qi {A B:TT} {σ:St} {Q:Bool->Hp->Prop} (p q:Bool) (hA:∀ Q':Bool->Hp->Prop,Q' p H->A σ H Q') (hB:∀ Q':Bool->Hp->Prop,(∀ H',Same H H'->Q' q H')->B σ H Q') (h:∀ H',Same H H'->Q (p && q) H'):S7 A B σ H Q:=by
 refine hA _ ?_;cases p with
 | true=>exact Aj (hB _ h)
 | false=>exact AW (h _ (Same.refl _))
theorem ID {p:Addr} (s:Same H H') (h:H' p=none):H p=none:=by
 cases e:H p with
 | none=>rfl
 | some o=>rw [s _ _ e] at h; cases h
theorem Cn {X:Cx} {x:Str} {j} {p:Pos} {es:List Expr} {t:TA} (h:PA X es t):PA X (.Constant (.str x) j p :: es) (Ao (tC (.str x)) t):=AA AN h
theorem NS {X:Cx} {x0 x1 x2 x3 x4 x5 x6 x7 x8 x9:Str} {j0} {j1} {j2} {j3} {j4} {j5} {j6} {j7} {j8} {j9} {p0 p1 p2 p3 p4 p5 p6 p7 p8 p9:Pos}:PA X [.Constant (.str x0) j0 p0,.Constant (.str x1) j1 p1,.Constant (.str x2) j2 p2,.Constant (.str x3) j3 p3,.Constant (.str x4) j4 p4,.Constant (.str x5) j5 p5,.Constant (.str x6) j6 p6,.Constant (.str x7) j7 p7,.Constant (.str x8) j8 p8,.Constant (.str x9) j9 p9] (Ao (tC (.str x0)) (Ao (tC (.str x1)) (Ao (tC (.str x2)) (Ao (tC (.str x3)) (Ao (tC (.str x4)) (Ao (tC (.str x5)) (Ao (tC (.str x6)) (Ao (tC (.str x7)) (Ao (tC (.str x8)) (Ao (tC (.str x9)) (Cr))))))))))):=Cn (Cn (Cn (Cn (Cn (Cn (Cn (Cn (Cn (Cn (AC))))))))))
theorem CK {bs:List Addr} {i:Nat} {v:V} (h:TupsAt H bs (DP due)) (e:(bs.map V.ref)[i]?=some v):∃ b p,v=.ref b/\bs[i]?=some b/\due[i]?=some p/\H b=some (.tup [.str p.1,.int (p.2:Int)]):=by
 rw [getElem?_map] at e
 obtain ⟨b,hb,rfl⟩:∃ b,bs[i]?=some b/\v=V.ref b:=by
  cases q:bs[i]? with
  | none=>rw [q] at e; cases e
  | some x=>rw [q] at e; exact ⟨x,rfl,(Option.some.inj e).symm⟩
 obtain ⟨pq,hpq,aj⟩:=Js h hb;unfold DP at hpq;rw [getElem?_map] at hpq
 obtain ⟨pr,hpr,rfl⟩:∃ q,due[i]?=some q/\pq=(V.str q.1,V.int (q.2:Int)):=by
  cases q:due[i]? with
  | none=>rw [q] at hpq; cases hpq
  | some x=>rw [q] at hpq; exact ⟨x,rfl,(Option.some.inj hpq).symm⟩
 exact ⟨b,pr,rfl,hb,hpr,aj⟩
noncomputable def wordsL:List Str:=["A", "B", "CD", "EFG", "H", "IJKLMN", "O", "P", "Q", "R"]
theorem O6:∀ x ∈ wordsL,Tk x:=by
 have:∀ x ∈ wordsL,(CD x && x.cps.all (· < 128) && decide (x.length <= 1000))=true:=by decide +kernel
 intro x hx;have:=this x hx;simp only [Bool.and_eq_true,decide_eq_true_eq] at this;exact ⟨this.1.1,this.1.2,this.2⟩
theorem NT:∀ i:Fin 10,(wordsL[i.1]?.map fun x=>decide (x ∈ wordsL.take i.1))=some false:=by decide +kernel
structure LW (d w f u:Addr) (H0 H:Hp) (rows:List (Str × Th)):Prop where
 old:∀ b o,H0 b=some o->b ≠ d->H b=some o
 dice:∃ a b:Int,H d=some (.lst [.int a,.int b])
 words:H w=some (.lst (wordsL.map V.str))
 found:∃ as:List Addr,H f=some (.lst (as.map V.ref))/\Paired (RowAt H) as rows
 due:∃ bs:List Addr,H u=some (.lst (bs.map V.ref))/\TupsAt H bs (DP (Al rows))
structure Ap (d w f u:Addr) (H0:Hp):Prop where
 wd:w ≠ d
 fd:f ≠ d
 ud:u ≠ d
 wf:w ≠ f
 wu:w ≠ u
 fu:f ≠ u
 nf:H0 f=none
 nu:H0 u=none
section
variable {d w f u:Addr} {H0:Hp} {rows:List (Str × Th)}
theorem LW.same (h:LW d w f u H0 H rows) (s:Same H H'):LW d w f u H0 H' rows:=by
 obtain ⟨a,b,e⟩:=h.dice;obtain ⟨as,e1,p1⟩:=h.found;obtain ⟨bs,e2,p2⟩:=h.due;exact ⟨fun c o ec hc=>s _ _ (h.old c o ec hc),⟨a,b,s _ _ e⟩,s _ _ h.words,⟨as,s _ _ e1,Bh (SameT.of s) p1⟩,⟨bs,s _ _ e2,TupsAt.sameT (SameT.of s) p2⟩⟩
theorem LW.roll (A:Ap d w f u H0) (h:LW d w f u H0 H rows) (a' b':Int):LW d w f u H0 (upd H d (.lst [.int a',.int b'])) rows:=by
 obtain ⟨a,b,e⟩:=h.dice;obtain ⟨as,e1,p1⟩:=h.found;obtain ⟨bs,e2,p2⟩:=h.due;have t:SameT H (upd H d (.lst [.int a',.int b'])):=SameT.upd e;exact ⟨fun c o ec hc=>by rw [AG hc]; exact h.old c o ec hc,⟨a',b',AB⟩,by rw [AG A.wd]; exact h.words,⟨as,by rw [AG A.fd]; exact e1,Bh t p1⟩,⟨bs,by rw [AG A.ud]; exact e2,TupsAt.sameT t p2⟩⟩
end
theorem CL {rows:List (Str × Th)} {bs:List Addr} (h:TupsAt H bs (DP (Al rows))):bs.length=rows.length:=by
 rw [h.length]; unfold DP; rw [AK,Ba]
theorem O7 (rows:List (Str × Th)):(Al rows).map (·.1)=rows.map (·.1):=by
 have:∀ (l:List (Str × Th)) (a:Aa),((l.foldl (fun due r=>due++[(r.1,Cd due r.2)]) a).map (·.1))=a.map (·.1)++l.map (·.1):=by
  intro l;induction l with
  | nil=>intro a; simp
  | cons x r ih=>intro a; rw [foldl_cons,ih,map_append]; simp
 have e:=this rows [];unfold Al;rw [e]; rfl
noncomputable def Ue:St->Nat
 | [_,_,_,_,_,_,_,_,_,some (.int i),_,_]=>(2 ^ 22 - i).toNat
 | _=>0
section
inductive spLines (vs:List V) (H:Hp) (Q:VK) (_E:XK):Prop where
 | mk (d:Addr) (a b M:Int) (z_0:vs=[.ref d,.int M]) (z_1:1 <= M) (z_2:M <= 10) (z_3:H d=some (.lst [.int a,.int b])) (z_4:∀ (q f u:Addr) (as bs:List Addr) (rows:List (Str × Th)) H',SameX d H H'->H' q=some (.tup [.ref f,.ref u])->H f=none->H u=none->H' f=some (.lst (as.map V.ref))->Paired (RowAt H') as rows->H' u=some (.lst (bs.map V.ref))->TupsAt H' bs (DP (Al rows)) ->     0 < rows.length->(rows.length:Int) <= M->Ed rows->(∀ x ∈ rows.map (·.1),x ∈ wordsL)->Q (.ref q) H')
noncomputable abbrev SY:List Str:=["_law_dice", "_law_most", "_law_words", "_law_found", "_law_due", "_law_at", "_law_high", "_law_kind", "_law_thing", "_law_number", "_law_name", "_law_more"]
@[irreducible] noncomputable def LB:Expr:=match defBody Bw with | .Assign _ (.Tuple (e :: _) _ _) _ :: _=>e | _=>.Constant .none 0 ⟨0,0,0,0⟩
noncomputable abbrev Qj:Stmt:=match defBody Bw with | .Assign t (.Tuple (_ :: r) k p) q :: _=>.Assign t (.Tuple (LB :: r) k p) q | _=>.Pass ⟨0,0,0,0⟩
noncomputable abbrev SZ:List Stmt:=(defBody Bw).drop 1
theorem Sa:defBody Bw=Qj :: SZ:=by kernel_rfl
theorem NU {X:Cx}:PE X LB (TM (Ao (tC (.str "A")) (Ao (tC (.str "B")) (Ao (tC (.str "CD")) (Ao (tC (.str "EFG")) (Ao (tC (.str "H")) (Ao (tC (.str "IJKLMN")) (Ao (tC (.str "O")) (Ao (tC (.str "P")) (Ao (tC (.str "Q")) (Ao (tC (.str "R")) (Cr)))))))))))):=by
 unfold LB;exact BK NS
theorem scLines:AJ SY ["_law_dice", "_law_most"] (defScope Bw):=fsc
theorem O8 {f0:Addr} (F:Fun K "_law_lines" "_law_lines" Bw f0 fd) (B:Bl mg) (GR:Fn P w K mg base "_law_roll" 2 ["_law_dice", "_law_many"] spRoll):AX P w K mg base CX0 3 f0 fd ["_law_dice", "_law_most"] spLines:=by
 obtain ⟨fR,dR,GR,mR,kR,bR⟩:=GR.ex;refine F.m scLines fun vs H Q E h=>?_;obtain ⟨d,a,b,M,rfl,M1,M10,hd,k⟩:=h;refine ⟨rfl,fun ad A outer s hr=>?_⟩;have hu64:=hr.units;have nd:=scLines.nd;rw [Sa]
 refine ⟨_,AE (Ch (hs:=by kernel_rfl) (hw:=by kernel_rfl) (BE (AA (hs:=by kernel_rfl) NU (AA (BK AC) (AA (BK AC) AC))))
   (B8 rfl (Af (Ae (i:=2) scLines.nd rfl (Or.inl rfl)) (Af (Ae (i:=3) scLines.nd rfl (Or.inl rfl)) (Af (Ae (i:=4) scLines.nd rfl (Or.inr rfl)) Bd)))))
  (AE (DS PassesOwn.never rfl (Cp rfl B.range (AA (AZ Ci AF (AS GR hr rfl mR kR bR .nil AQ (AA (pv 0) (AA (pv 1) AC)))) AC)) (Ae (i:=5) scLines.nd rfl (Or.inl rfl))
   (BD (Ac (i:=6) scLines.nd rfl (Or.inl rfl) (Lp rfl rfl B.max (Gd [] [] (by kernel_rfl) (by decide +kernel) (by kernel_rfl) (by kernel_rfl) rfl (Bx (pv 4)) (fun _ _ _ _ _ _=>By) (fun _ _ _ _ _ _=>pv 1)) AF))
   (AE (Ac (i:=7) scLines.nd rfl (Or.inl rfl) (AS GR hr rfl mR kR bR .nil AQ (AA (pv 0) (AA AF AC))))
   (AE (Ch (hs:=by kernel_rfl) (hw:=by kernel_rfl) (BE (AA Rj (AA AF AC))) (B8 rfl (Af (Ae (i:=8) scLines.nd rfl (Or.inl rfl)) (Af (Ae (i:=9) scLines.nd rfl (Or.inl rfl)) Bd))))
   (BD (Eh PassesOwn.never (AM Ej (pv 9) (pv 6) (AR _)) (AD (Ac (i:=9) scLines.nd rfl (Or.inl rfl) (AZ F9 (pv 9) AF))))
   (BD (Ag (PW.pt (DR (AM Aw (pv 7) AF (AR _)) (CN (AM JH (pv 9) (AZ KP AF AF) (AR _)))))
     (AE (Ac (i:=8) scLines.nd rfl (Or.inl rfl) (BI (Ar K rfl) (BK (AA (AZ IM AF (AS GR hr rfl mR kR bR .nil AQ (AA (pv 0) (AA AF AC)))) (AA (AS GR hr rfl mR kR bR .nil AQ (AA (pv 0) (AA AF AC)))
      (AA (AZ IM AF (AS GR hr rfl mR kR bR .nil AQ (AA (pv 0) (AA AF AC)))) (AA AF AC))))) (AS GR hr rfl mR kR bR .nil AQ (AA (pv 0) (AA AF AC))) (fun _ _=>rfl)))
     (AD (Ac (i:=9) scLines.nd rfl (Or.inl rfl) (pv 8)))) AV)
   (BD (Ag (PW.pt (B6 (AM Ek (pv 7) AF (AR _)) (Bc (AM (Kn K rfl hu64) (pv 4) (BK AC) (AR _)))))
     (AE (Ac (i:=8) scLines.nd rfl (Or.inl rfl) (BR HE rfl B.tuple E3 (AA (B2 ["_law_due", "_law_dice"] [some 4,some 0] (by kernel_rfl) (by decide +kernel) (by kernel_rfl) rfl (Cp rfl B.range (AA (AZ Ci AF (AS GR hr rfl mR kR bR .nil AQ (AA (pv 0) (AA AF AC)))) AC)) (fun _ _ _ _ _ _=>By)
      (fun _ _ _ _ _ _=>BI (Az K rfl) (BI (Ar K rfl) (pv 1) (AS GR hr rfl mR kR bR .nil AQ (AA (pv 2) (AA (AY (BH K rfl) rfl B.len PySem.boot_len (AA (pv 1) AC)) AC))) (fun _ _=>rfl)) AF (fun _ _=>rfl))) AC)))
     (AE (Ac (i:=9) scLines.nd rfl (Or.inl rfl) AF)
     (AD (DS PassesOwn.never rfl (Bx (pv 4)) (B8 rfl (Af (Ae (i:=10) scLines.nd rfl (Or.inl rfl)) (Af (Ae (i:=11) scLines.nd rfl (Or.inl rfl)) Bd)))
      (AD (Ac (i:=9) scLines.nd rfl (Or.inl rfl) (AZ Lb (pv 9) (BX (AM Dq (pv 10) (pv 8) rfl) (pv 11) AF)))))))) AV)
   (AE (BJ (Es PySem.F.plainAttrs_list PySem.F.slot_list_append PySem.F.type_list_append Bt (pv 3) (AA (BE (AA (BI (Ar K rfl) (pv 2) (pv 5) (fun _ _=>rfl)) (AA (pv 8) AC))) AC)))
   (AD (BJ (Es PySem.F.plainAttrs_list PySem.F.slot_list_append PySem.F.type_list_append Bt (pv 4) (AA (BE (AA (BI (Ar K rfl) (pv 2) (pv 5) (fun _ _=>rfl)) (AA (pv 9) AC))) AC))))))))))))
  (AD (AL (BE (AA (pv 3) (AA (pv 4) AC)))))),?_⟩
 refine ⟨(by show 10 <= sizeLine; decide),fun pw hpw=>⟨Nat.zero_le _,fun pf hpf=>⟨Nat.zero_le _,fun pu hpu=>⟨sl3,fun q0 hq0=>?_⟩⟩⟩⟩;refine ⟨q0,_,rfl,SqT.of AB,rfl,_,_,rfl,_,_,rfl,_,_,rfl,rfl,?_⟩;have dw:pw ≠ d:=Ne.symm (AI hd hpw);have s1:Same H (upd H pw (.lst (wordsL.map V.str))):=AH (Same.refl _) hpw;have s2:Same (upd H pw (.lst (wordsL.map V.str))) (upd (upd H pw (.lst (wordsL.map V.str))) pf (.lst [])):=AH (Same.refl _) hpf;have s3:Same (upd (upd H pw (.lst (wordsL.map V.str))) pf (.lst [])) (upd (upd (upd H pw (.lst (wordsL.map V.str))) pf (.lst [])) pu (.lst [])):=AH (Same.refl _) hpu;have s4:=AH (Same.refl _) hq0 (o:=HO.tup [.ref pw,.ref pf,.ref pu]);have nf0:H pf=none:=ID s1 hpf;have nu0:H pu=none:=ID (s1.trans s2) hpu;have AP:Ap d pw pf pu H:=⟨dw,Ne.symm (AI hd nf0),Ne.symm (AI hd nu0),AI AB hpf,AI (s2 _ _ AB) hpu,AI AB hpu,nf0,nu0⟩;have L0:LW d pw pf pu H _ []:=⟨fun b o e _=>s4 _ _ (s3 _ _ (s2 _ _ (s1 _ _ e))),⟨a,b,s4 _ _ (s3 _ _ (s2 _ _ (s1 _ _ hd)))⟩,s4 _ _ (s3 _ _ (s2 _ _ AB)),⟨[],s4 _ _ (s3 _ _ AB),.nil⟩,⟨[],s4 _ _ AB,.nil⟩⟩;obtain ⟨a1,b1,hd1⟩:=L0.dice;refine ⟨_,rfl,_,rfl,d,a1,b1,M,rfl,hd1,by omega,by omega,fun r a' b' h0 h1=>?_⟩;refine ⟨_,_,rfl,rfl,_,rfl,by omega,by omega,?_⟩
 refine HS (lo:=0) (n:=(1 + r).toNat) (fun i σ H2=>∃ (v5 v6 v7 v8 v9 v10 v11:Option V) (rows:List (Str × Th)),σ=[some (.ref d),some (.int M),some (.ref pw),some (.ref pf),some (.ref pu),v5,v6,v7,v8,v9,v10,v11]/\rows.length=i/\Ed rows/\rows.map (·.1)=wordsL.take i/\LW d pw pf pu H H2 rows)
  ⟨none,none,none,none,none,none,none,[],rfl,rfl,(fun i r e=>by simp at e),rfl,L0.roll AP a' b'⟩ ?_ ?_
 ·rintro i σ H2 hi ⟨v5,v6,v7,v8,v9,v10,v11,rows,rfl,ba,RO,cj,L⟩;have hi10:i < 10:=by omega
  have DO:D4 (Al rows):=Jv RO (by omega);generalize bx:DK ((Al rows).map (·.2))=bf
  have hh20:bf < 2 ^ 20:=by
   rw [← bx];exact Jk (by decide) fun n hn=>by obtain ⟨p,hp,rfl⟩:=mem_map.mp hn; exact DO.lt p hp
  refine ⟨fun σ H3=>σ=[some (.ref d),some (.int M),some (.ref pw),some (.ref pf),some (.ref pu),some (.int (0 + (i:Int))),some (.int (bf:Int)),v7,v8,v9,v10,v11]/\LW d pw pf pu H H3 rows,fun R hR=>?_,?_⟩
  ·obtain ⟨bs,hu,hbs⟩:=L.due;have hbl:=CL hbs;refine ⟨_,rfl,pu,rfl,⟨_,SqL.of hu⟩,CH (K:=K) (a:=pu) (xs:=bs.map V.ref) (fun j ys H3=>ys=Av (((Al rows).take j).map (·.2))/\H3=H2) ⟨by rfl,rfl⟩ (fun j ys H3 _ ⟨_,e⟩=>e ▸ SqL.of hu) (fun j ys H3 ⟨e,_⟩=>?_) ?_ ?_⟩
   ·rw [e]; unfold Av; rw [AK,AK,length_take,Ba]; omega
   ·rintro j v ys H3 hj ⟨rfl,rfl⟩;obtain ⟨bb,p,rfl,hb1,ak,aj⟩:=CK hbs hj;refine ⟨bb,_,rfl,SqT.of aj,rfl,_,_,rfl,_,_,rfl,rfl,?_⟩;refine ⟨_,rfl,?_,rfl⟩;rw [take_add_one,ak,Option.toList_some,map_append];unfold Av;rw [map_append];rfl
   ·rintro ys H3 ⟨rfl,rfl⟩ p hp;have sp:=AH (Same.refl _) hp (o:=HO.lst (Av (((Al rows).take (bs.map V.ref).length).map (·.2))));have el:(Al rows).take (bs.map V.ref).length=Al rows:=by rw [AK,hbl,← Ba,take_length]
    refine ⟨p,((Al rows).map (·.2)).map (fun n:Nat=>(n:Int)),0,rfl,rfl,SqL.of (by rw [AB,el,E6]),fun e=>?_,fun e=>?_⟩
    ·refine hR _ _ ⟨?_,L.same sp⟩;have:(Al rows).map (·.2)=[]:=List.map_eq_nil_iff.mp e;rw [this] at bx;subst bx;rfl
    ·refine hR _ _ ⟨?_,L.same sp⟩;have ax:(Al rows).map (·.2) ≠ []:=fun z=>e (by rw [z]; rfl);rw [Jl ax,bx];rfl
  ·rintro σ H3 ⟨rfl,L3⟩;obtain ⟨a3,b3,hd3⟩:=L3.dice;refine ⟨_,rfl,d,a3,b3,8,rfl,hd3,by decide,by decide,fun kd a4 b4 kd0 kd1=>?_⟩;have L4:=L3.roll AP a4 b4;refine ⟨sl2,fun q hq=>⟨q,_,rfl,SqT.of AB,rfl,_,_,rfl,_,_,rfl,rfl,?_⟩⟩;have L5:=L4.same (AH (Same.refl _) hq (o:=HO.tup [V.non,V.int 1]));refine ⟨fun σ H6=>σ=[some (.ref d),some (.int M),some (.ref pw),some (.ref pf),some (.ref pu),some (.int (0 + (i:Int))),some (.int (bf:Int)),some (.int kd),some .non,some (.int (BQ bf:Nat)),v10,v11]/\LW d pw pf pu H H6 rows,fun R hR=>?_,?_⟩
   ·refine Nu (fun σ H6=>LW d pw pf pu H H6 rows/\∃ j:Nat,j <= 20/\σ=[some (.ref d),some (.int M),some (.ref pw),some (.ref pf),some (.ref pu),some (.int (0 + (i:Int))),some (.int (bf:Int)),some (.int kd),some .non,some (.int ((2 ^ j:Nat):Int)),v10,v11]/\(j=0\/2 ^ (j - 1) <= bf)) (fun σ _=>Ue σ) ⟨L5,0,by omega,rfl,.inl rfl⟩ ?_ ?_
    ·rintro σ H6 ⟨L6,j,hj,rfl,hjj⟩;refine ⟨_,rfl,_,rfl,_,_,rfl,rfl,_,rfl,?_⟩;refine BY (fun hle=>?_) (fun hle=>?_)
     ·have hle':2 ^ j <= bf:=by have:=of_decide_eq_true hle; exact_mod_cast this
      have hj20:j < 20:=(Nat.pow_lt_pow_iff_right (by decide)).mp (Nat.lt_of_le_of_lt hle' hh20);refine ⟨_,rfl,_,_,rfl,rfl,.inr ⟨by decide,by decide⟩,?_⟩;have e2:(((2 ^ j:Nat):Int) * 2)=((2 ^ (j + 1):Nat):Int):=by rw [Nat.pow_succ]; omega
      refine ⟨⟨L6,j + 1,by omega,?_,.inr hle'⟩,?_⟩
      ·show [some (V.ref d),some (V.int M),some (V.ref pw),some (V.ref pf),some (V.ref pu),some (V.int (0 + (i:Int))),some (V.int (bf:Int)),some (V.int kd),some V.non,some (V.int (((2 ^ j:Nat):Int) * 2)),v10,v11]=_;rw [e2]
      ·show (2 ^ 22 - (((2 ^ j:Nat):Int) * 2)).toNat < (2 ^ 22 - ((2 ^ j:Nat):Int)).toNat;have h1:0 < 2 ^ j:=Nat.two_pow_pos j;have h2:2 ^ j <= 2 ^ 20:=Nat.pow_le_pow_right (by decide) hj;omega
     ·have hgt:bf < 2 ^ j:=by
       have:¬ ((2 ^ j:Nat):Int) <= (bf:Int):=fun z=>hle (decide_eq_true z);omega
      refine hR _ _ ⟨?_,L6⟩;rw [Ji hgt hjj]
    ·rintro σ H6 Q1 Q2 hQ ⟨v,e1,v2,e2,i,j,a,b,c,ec,q⟩;exact ⟨v,e1,v2,e2,i,j,a,b,c,ec,hQ _ _ q⟩
   ·rintro σ H6 ⟨rfl,L6⟩;have hsig:∀ (tv nv w10 w11:V),True:=fun _ _ _ _=>trivial;refine ⟨fun σ H7=>∃ (tv:V) (th:Th) (w10 w11:Option V),σ=[some (.ref d),some (.int M),some (.ref pw),some (.ref pf),some (.ref pu),some (.int (0 + (i:Int))),some (.int (bf:Int)),some (.int kd),some tv,some (.int (Cd (Al rows) th:Nat)),w10,w11]/\LW d pw pf pu H H7 rows/\ThAt H7 tv th/\QW (Al rows) th/\Cd (Al rows) th < 2 ^ 20,fun R hR=>?_,?_⟩
    ·refine SX (decide (V.int kd=V.int 5)) (decide ((2:Int) ^ (20:Int).toNat <= (BQ bf:Nat))) (fun Q' h=>⟨_,rfl,rfl,_,rfl,h⟩) (fun Q' h=>⟨_,rfl,_,_,rfl,rfl,⟨by decide,by decide,by decide⟩,_,_,rfl,rfl,_,rfl,h⟩) ?_;refine BY (fun _=>?_) (fun hc=>?_)
     ·obtain ⟨x1,y1,e1⟩:=L6.dice;refine ⟨_,rfl,d,x1,y1,8,rfl,e1,by decide,by decide,fun r1 a1 b1 r10 r11=>?_⟩;have M1:=L6.roll AP a1 b1;refine ⟨_,_,rfl,rfl,⟨r10,by omega,by decide⟩,?_⟩;obtain ⟨x2,y2,e2⟩:=M1.dice;refine ⟨_,rfl,d,x2,y2,64,rfl,e2,by decide,by decide,fun r2 a2 b2 r20 r21=>?_⟩;have M2:=M1.roll AP a2 b2;obtain ⟨x3,y3,e3⟩:=M2.dice;refine ⟨_,rfl,d,x3,y3,20,rfl,e3,by decide,by decide,fun r3 a3 b3 r30 r31=>?_⟩;have M3:=M2.roll AP a3 b3;refine ⟨_,_,rfl,rfl,⟨r30,by omega,by decide⟩,?_⟩;refine ⟨sl4,fun p hp=>?_⟩;have M4:=M3.same (AH (Same.refl _) hp (o:=HO.lst [V.int (1 * 2 ^ r1.toNat),V.int r2,V.int (1 * 2 ^ r3.toNat),V.int 0]));obtain ⟨x4,y4,e4⟩:=M4.dice;have npd:p ≠ d:=Ne.symm (AI AB hp);refine ⟨_,rfl,d,x4,y4,4,rfl,e4,by decide,by decide,fun r4 a4 b4 r40 r41=>?_⟩;have M5:=M4.roll AP a4 b4;obtain ⟨v,hv,hv2⟩:=Ef (xs:=[V.int (1 * 2 ^ r1.toNat),V.int r2,V.int (1 * 2 ^ r3.toNat),V.int 0]) r40 (by show r4 < 4; exact r41)
      have hin:∃ n:Nat,v=.int (n:Int)/\n < 2 ^ 20:=by
       have:=mem_of_getElem? hv2;simp only [mem_cons,not_mem_nil,or_false] at this;rcases this with z | z | z | z
       ·refine ⟨2 ^ r1.toNat,by rw [z]; simp,?_⟩;exact (Nat.pow_lt_pow_iff_right (by decide)).mpr (by omega)
       ·exact ⟨r2.toNat,by rw [z,Int.toNat_of_nonneg r20],by omega⟩
       ·refine ⟨2 ^ r3.toNat,by rw [z]; simp,?_⟩;exact (Nat.pow_lt_pow_iff_right (by decide)).mpr (by omega)
       ·exact ⟨0,z,by decide⟩
      obtain ⟨n,rfl,hn⟩:=hin;refine ⟨p,_,r4,_,rfl,rfl,SqL.of (by rw [AG npd]; exact AB),hv,?_⟩;exact ⟨_,rfl,hR _ _ ⟨.int (n:Int),.num n,v10,v11,rfl,M5,rfl,trivial,hn⟩⟩
     ·refine hR _ _ ⟨.non,.non,v10,v11,?_,L6,rfl,trivial,?_⟩
      ·show _=[some (V.ref d),some (V.int M),some (V.ref pw),some (V.ref pf),some (V.ref pu),some (V.int (0 + (i:Int))),some (V.int (bf:Int)),some (V.int kd),some V.non,some (V.int ((BQ (DK ((Al rows).map (·.2))):Nat):Int)),v10,v11];rw [bx]
      ·show BQ (DK ((Al rows).map (·.2))) < 2 ^ 20;rw [bx];have h2:¬ ((2:Int) ^ (20:Int).toNat <= (BQ bf:Nat)):=fun z=>hc (by rw [decide_eq_true z,Bool.or_true]);have h3:((2:Int) ^ (20:Int).toNat)=1048576:=by decide
       omega
    ·rintro σ H7 ⟨tv,th,w10,w11,rfl,L7,hT,hTO,hlt⟩;obtain ⟨bs,hu,hbs⟩:=L7.due;have hbl:=CL hbs;refine ⟨fun σ H8=>∃ (tv:V) (th:Th) (w10 w11:Option V),σ=[some (.ref d),some (.int M),some (.ref pw),some (.ref pf),some (.ref pu),some (.int (0 + (i:Int))),some (.int (bf:Int)),some (.int kd),some tv,some (.int (Cd (Al rows) th:Nat)),w10,w11]/\LW d pw pf pu H H8 rows/\ThAt H8 tv th/\QW (Al rows) th/\Cd (Al rows) th < 2 ^ 20,fun R hR=>?_,?_⟩
     ·refine Qi (decide ((5:Int) < kd)) (!(Eg (Al rows)).isEmpty) (fun Q' h=>⟨_,rfl,_,_,rfl,rfl,_,rfl,h⟩) (fun Q' h=>⟨_,rfl,Nat.zero_le _,fun p hp=>?_⟩) (fun H8 s8=>?_)
      ·have sp:=AH (Same.refl _) hp (o:=HO.lst []);refine ⟨.list (Eg (Al rows)),.list [],FB (sp _ _ hu) (FA (TupsAt.sameT (SameT.of sp) hbs)),FB AB Qg,Dm fun p hp=>(DO.nm p hp).2.1,LA,_,rfl,?_⟩;rw [Qh];exact h _ sp
      ·refine BY (fun hc=>?_) (fun hc=>?_)
       ·have ax:0 < bs.length:=by
         rw [Bool.and_eq_true] at hc;have h2:=hc.2;rw [hbl,← Ba];cases hz:Al rows with
         | nil=>rw [hz] at h2; cases h2
         | cons x r=>simp
        have L8:=L7.same s8;obtain ⟨x1,y1,e1⟩:=L8.dice;refine ⟨_,rfl,d,x1,y1,3,rfl,e1,by decide,by decide,fun r1 a1 b1 r10 r11=>?_⟩;have M1:=L8.roll AP a1 b1;refine ⟨_,_,rfl,rfl,_,rfl,by omega,by omega,?_⟩;refine EH (lo:=0) (n:=(1 + r1).toNat) (fun j ys H9=>∃ ns:List Str,ys=ns.map V.str/\ns.length=j/\j <= 3/\(∀ x ∈ ns,x ∈ (Al rows).map (·.1))/\LW d pw pf pu H H9 rows) ⟨[],rfl,rfl,by decide,(fun x hx=>nomatch hx),M1⟩ ?_ ?_ ?_
        ·rintro j ys H9 ⟨ns,rfl,e,h3,_⟩;rw [AK]; omega
        ·rintro j ys H9 hj ⟨ns,rfl,e,h3,hin,L9⟩;obtain ⟨x2,y2,e2⟩:=L9.dice;obtain ⟨cs,hu9,a0⟩:=L9.due;have af:=CL a0;have ar:(cs.map V.ref).length=bs.length:=by rw [AK,af,hbl]
         refine ⟨_,rfl,_,rfl,_,rfl,pu,_,rfl,.inl (SqL.of hu9),d,x2,y2,_,rfl,e2,by rw [ar]; omega,by rw [ar]; omega,fun r2 a2 b2 r20 r21=>?_⟩;have M2:=L9.roll AP a2 b2;have hu10:(upd H9 d (.lst [.int a2,.int b2])) pu=some (.lst (cs.map V.ref)):=by rw [AG AP.ud]; exact hu9
         have hcs2:TupsAt (upd H9 d (.lst [.int a2,.int b2])) cs (DP (Al rows)):=TupsAt.sameT (SameT.upd e2) a0;obtain ⟨v,hv,hv2⟩:=Ef (xs:=cs.map V.ref) r20 (by exact r21);obtain ⟨bb,p,rfl,_,ak,aj⟩:=CK hcs2 hv2;refine ⟨pu,_,r2,_,rfl,rfl,SqL.of hu10,hv,bb,_,0,.str p.1,rfl,rfl,SqT.of aj,rfl,?_⟩;refine ⟨ns++[p.1],by rw [map_append]; rfl,by rw [length_append,e]; rfl,by omega,fun x hx=>?_,M2⟩;rcases mem_append.mp hx with z | z
         ·exact hin x z
         ·rw [mem_singleton] at z;subst z;exact mem_map.mpr ⟨p,mem_of_getElem? ak,rfl⟩
        ·rintro ys H9 ⟨ns,rfl,e,h3,hin,L9⟩ l hl;have L10:=L9.same (AH (Same.refl _) hl (o:=HO.lst (ns.map V.str)));refine ⟨l,_,rfl,.inl ⟨SqL.of AB,fun t ht=>?_⟩⟩;have L11:=L10.same (AH (Same.refl _) ht (o:=HO.tup (ns.map V.str)));obtain ⟨cs,hu11,a0⟩:=L11.due;have af:=CL a0;refine ⟨_,rfl,pu,rfl,⟨_,SqL.of hu11⟩,Cq (K:=K) (a:=pu) (xs:=cs.map V.ref) (fun j σ H12=>H12=upd (upd H9 l (.lst (ns.map V.str))) t (.tup (ns.map V.str))/\∃ w10 w11:Option V,σ=[some (.ref d),some (.int M),some (.ref pw),some (.ref pf),some (.ref pu),some (.int (0 + (i:Int))),some (.int (bf:Int)),some (.int kd),some (.ref t),some (.int (uni ((Al rows).take j) ns:Nat)),w10,w11]) ⟨rfl,w10,w11,rfl⟩ (fun j σ H12 _ ⟨e,_⟩=>e ▸ SqL.of hu11) ?_ ?_⟩
         ·rintro j v σ H12 hj ⟨rfl,w10,w11,rfl⟩;obtain ⟨bb,p,rfl,_,ak,aj⟩:=CK a0 hj;refine ⟨bb,_,rfl,SqT.of aj,rfl,_,_,rfl,_,_,rfl,rfl,?_⟩;refine ⟨_,rfl,_,rfl,_,rfl,t,_,rfl,.inr (SqT.of AB),rfl,?_,_,rfl,?_⟩
          ·rw [all_map];exact List.all_eq_true.mpr fun _ _=>rfl
          ·have eu:uni ((Al rows).take (j + 1)) ns=uni ((Al rows).take j) ns ||| (if inV (.str p.1) (ns.map V.str) then p.2 else 0):=by
            unfold uni;rw [take_add_one,ak,Option.toList_some,map_append];exact EN _ _
           refine BY (fun hc2=>?_) (fun hc2=>?_)
           ·refine ⟨_,rfl,_,_,rfl,rfl,rfl,some (.str p.1),some (.int (p.2:Int)),?_⟩;have hc3:inV (.str p.1) (ns.map V.str)=true:=hc2;rw [hc3,if_pos rfl] at eu;rw [eu,← C4];rfl
           ·refine ⟨_,_,rfl,rfl,rfl,some (.str p.1),some (.int (p.2:Int)),?_⟩;have hc3:inV (.str p.1) (ns.map V.str)=false:=Bool.eq_false_iff.mpr hc2;rw [hc3,if_neg Bool.false_ne_true] at eu;rw [eu,← C4];rfl
         ·rintro σ H12 ⟨rfl,w10,w11,rfl⟩;have el:(Al rows).take (cs.map V.ref).length=Al rows:=by rw [AK,af,← Ba,take_length]
          have en:Cd (Al rows) (.nms ns)=uni (Al rows) ns:=(SW DO.nd hin).symm;have eL:ns.length=(1 + r1).toNat:=e;refine hR _ _ ⟨.ref t,.nms ns,w10,w11,by rw [el,en],L11,⟨t,rfl,AB⟩,⟨?_,by omega,hin⟩,?_⟩
          ·intro z; subst z; simp at eL; omega
          ·show Ak (ns.map (look (Al rows))) < 2 ^ 20;refine Gm fun n hn=>?_;obtain ⟨x,hx,rfl⟩:=mem_map.mp hn;obtain ⟨p,hp,rfl⟩:=mem_map.mp (hin x hx);rw [Do DO.nd hp];exact DO.lt p hp
       ·exact hR _ _ ⟨tv,th,w10,w11,rfl,L7.same s8,hT.same s8,hTO,hlt⟩
     ·rintro σ H8 ⟨tv,th,w10,w11,rfl,L8,hT,hTO,hlt⟩;obtain ⟨as,hf,hP⟩:=L8.found;have au:as.length=rows.length:=hP.length;have hw:wordsL[i]?=some wordsL[i]:=List.getElem?_eq_getElem hi10;generalize aq:wordsL[i]=wd at hw
      have hat:atI (wordsL.map V.str) (0 + (i:Int))=some (.str wd):=by
       have:(0:Int) + (i:Int)=((i:Nat):Int):=by omega
       rw [this];exact Bm (by rw [getElem?_map,hw]; rfl)
      refine ⟨_,rfl,.inl ⟨rfl,_,SqL.of hf⟩,_,rfl,_,rfl,pw,_,_,.str wd,rfl,rfl,SqL.of L8.words,hat,_,rfl,sl2,fun p hp=>?_⟩;have sp:=AH (Same.refl _) hp (o:=HO.tup [V.str wd,tv]);have hz1:(as.map V.ref).length < sizeLine:=AO (by rw [AK]; omega);refine ⟨pf,_,.ref p,rfl,rfl,sp _ _ hf,hz1,?_⟩;have t1:SameT (upd H8 p (.tup [V.str wd,tv])) (upd (upd H8 p (.tup [V.str wd,tv])) pf (.lst (as.map V.ref++[.ref p]))):=SameT.upd (sp _ _ hf);obtain ⟨bs,hu,hbs⟩:=L8.due;have hbl:=CL hbs;have hu1:(upd (upd H8 p (.tup [V.str wd,tv])) pf (.lst (as.map V.ref++[.ref p]))) pu=some (.lst (bs.map V.ref)):=by rw [AG (Ne.symm AP.fu)]; exact sp _ _ hu
      have hw1:(upd (upd H8 p (.tup [V.str wd,tv])) pf (.lst (as.map V.ref++[.ref p]))) pw=some (.lst (wordsL.map V.str)):=by rw [AG AP.wf]; exact sp _ _ L8.words
      refine ⟨_,rfl,.inl ⟨rfl,_,SqL.of hu1⟩,_,rfl,_,rfl,pw,_,_,.str wd,rfl,rfl,SqL.of hw1,hat,_,rfl,sl2,fun q hq=>?_⟩;have sq:=AH (Same.refl _) hq (o:=HO.tup [V.str wd,V.int ((Cd (Al rows) th:Nat):Int)]);have hz2:(bs.map V.ref).length < sizeLine:=AO (by rw [AK]; omega);refine ⟨pu,_,.ref q,rfl,rfl,sq _ _ hu1,hz2,?_⟩;have t2:=SameT.upd (sq _ _ hu1) (ys:=bs.map V.ref++[.ref q]);have tall:=((SameT.of sp).trans t1).trans ((SameT.of sq).trans t2);obtain ⟨x,y,ed⟩:=L8.dice;have RR:MA (Al rows) (wd,th):=⟨DO,by rw [Ba]; omega,O6 wd (mem_of_getElem? hw),?_,hTO,hlt⟩;refine ⟨_,_,_,_,_,_,_,rows++[(wd,th)],rfl,by rw [length_append,ba]; rfl,Ju RO RR,?_,?_⟩
      ·rw [map_append,cj,take_add_one,hw,Option.toList_some]; rfl
      ·refine ⟨fun c o ec hc=>?_,⟨x,y,?_⟩,?_,⟨as++[p],?_,?_⟩,⟨bs++[q],?_,?_⟩⟩
       ·have n1:c ≠ pu:=AI ec AP.nu;have n2:c ≠ pf:=AI ec AP.nf;rw [AG n1];refine sq _ _ ?_;rw [AG n2];exact sp _ _ (L8.old c o ec hc)
       ·rw [AG (Ne.symm AP.ud)];refine sq _ _ ?_;rw [AG (Ne.symm AP.fd)];exact sp _ _ ed
       ·rw [AG AP.wu];exact sq _ _ hw1
       ·rw [AG AP.fu];refine sq _ _ ?_;rw [AB,map_append]; rfl
       ·refine Paired.snoc (Bh tall hP) ?_;exact ⟨tv,t2 _ _ (sq _ _ (t1 _ _ AB)),hT.sameT tall⟩
       ·rw [AB,map_append]; rfl
       ·rw [Fe];unfold DP;rw [map_append];exact Paired.snoc (TupsAt.sameT tall hbs) (t2 _ _ AB)
      ·rw [O7,cj];intro z;have key:=NT ⟨i,hi10⟩;rw [hw] at key;have:=Option.some.inj key;exact of_decide_eq_false this z
 ·rintro σ H2 ⟨v5,v6,v7,v8,v9,v10,v11,rows,rfl,ba,RO,cj,L⟩;obtain ⟨as,hf,hP⟩:=L.found;obtain ⟨bs,hu,hbs⟩:=L.due;refine ⟨_,rfl,_,rfl,sl2,fun q hq=>?_⟩;have sq:=AH (Same.refl _) hq (o:=HO.tup [V.ref pf,V.ref pu]);refine k q pf pu as bs rows _ ⟨fun c o e hc=>sq _ _ (L.old c o e hc),?_⟩ AB nf0 nu0 (sq _ _ hf) (Bh (SameT.of sq) hP) (sq _ _ hu) (TupsAt.sameT (SameT.of sq) hbs) (by omega) (by omega) RO (fun x hx=>mem_of_mem_take (cj ▸ hx));obtain ⟨x,y,e⟩:=L.dice;exact ⟨x,y,sq _ _ e⟩
end
end Mk
end
section
namespace L2
open PySem
theorem Dt {X:Cx} (K:FG) (hK:X.K=K):CallR X (.builtin "isinstance") (fun xs H Q=>∃ v C t b,xs=[v,.ref C]/\TyOf K H v t/\W.kitOne K t (.ref C)=some b/\Q (.bl b) H):=by
 subst hK;intro aa s σ H xs us Q I r h;obtain ⟨v,C,t,b,rfl,ty,hk,q⟩:=h;obtain ⟨u,uT,rfl,ru,ruT⟩:=HU r;cases ruT;exact HY I ru ty hk fun tk=>⟨.bl b,H,I.tok tk,rfl,q⟩
end L2
namespace Mk
open PySem L2 MK
structure KIsi (K:FG) (C:Addr):Prop where
 cl:Cls K C
 ha:W.findIn K (.ref C) "__class__" = some (some (.builtin "object.__class__"))
 hn:W.specialIn K (.builtin "object.__class__") "__get__" = some (some (.builtin "getset_descriptor.__get__"))
 ht:W.takesIn K (.builtin "object.__class__")=some true
 hm:W.mroIn K C (.type "object")=some true
 nl:W.kitOne K (.type "list") (.ref C)=some false
theorem KIsi.ty {a dx:Addr} {fs:List (Str × V)} (k:KIsi K C) (e:H a=some (.ins C dx fs)):TyOf K H (.ref a) (.ref C):=.ins e k.cl k.ha k.hn k.ht k.hm
theorem Cw (K:FG) (C:Addr):W.kitOne K (.ref C) (.ref C)=some true:=by
 unfold W.kitOne;rw [if_pos (by simp)]
section
inductive spNumber (C:Addr) (vs:List V) (H:Hp) (Q:VK) (_E:XK):Prop where
 | mk (p:Addr) (due:Aa) (r:Str) (x:Str) (z_0:vs=[.ref p,.str x]) (z_1:KindAt C H p due r) (z_2:x ∈ due.map (·.1)) (z_3:Q (.int (look due x:Nat)) H)
theorem O9:AJ ["self", "name"] ["self", "name"] (defScope Dg):=fsc
theorem NV {f:Addr} (F:Fun K "number" "Kind.number" Dg f fd) (T:Dx K C) (GO:Fn P w K mg base "is_one_of" 1 ["thing", "names"] (Cu K)):AX P w K mg base CX0 2 f fd ["self", "name"] (spNumber C):=by
 obtain ⟨fO,dO,GO,mO,kO,bO⟩:=GO.ex;refine F.m O9 fun vs H Q E h=>?_;obtain ⟨p,due,r,x,rfl,KA,hx,k⟩:=h;refine ⟨rfl,fun ad A outer s hr=>?_⟩;have hu:=Cb hr;obtain ⟨dx,d1,o1,d2,o2,hp,h1,h2⟩:=KA.ex
 refine ⟨_,AE (Ag (BV (A2 (AS GO hr rfl mO kO bO .nil AQ (AA (pv 1) (AA (As (pv 0) rfl) AC))))) (AD Ah) AV)
  (AD (AL (BU hu (As (pv 0) rfl) (pv 1) (fun _ _=>rfl)))),?_⟩
 have DG:JO H d1 (.str x) (some (V.int (look due x:Int))):=.inl ⟨_,Sum.inr x,.inr ⟨o1,h1⟩,rfl,(B5 hx).symm⟩;refine ⟨_,rfl,_,rfl,p,C,dx,_,_,rfl,hp,T.cl,T.nN,G3 _ _ _,.inl ⟨x,d1,Ax due,rfl,.inr ⟨o1,h1⟩,_,rfl,?_⟩⟩;rw [B5 hx];refine AW ?_;exact ⟨_,rfl,p,C,dx,_,_,rfl,hp,T.cl,T.nN,G3 _ _ _,_,rfl,d1,_,rfl,DG,k⟩
inductive spRest (C:Addr) (vs:List V) (H:Hp) (Q:VK) (_E:XK):Prop where
 | mk (p:Addr) (due:Aa) (r:Str) (z_0:vs=[.ref p]) (z_1:KindAt C H p due r) (z_2:Q (.str r) H)
theorem Sb:AJ ["self"] ["self"] (defScope FW):=fsc
theorem Qk {f:Addr} (F:Fun K "rest" "Kind.rest" FW f fd) (T:Dx K C):AX P w K mg base CX0 1 f fd ["self"] (spRest C):=by
 refine F.m Sb fun vs H Q E h=>?_;obtain ⟨p,due,r,rfl,KA,k⟩:=h;refine ⟨rfl,fun ad A outer s hr=>?_⟩;obtain ⟨dx,d1,o1,d2,o2,hp,h1,h2⟩:=KA.ex;refine ⟨_,AD (AL (As (pv 0) rfl)),?_⟩;exact ⟨_,rfl,p,C,dx,_,_,rfl,hp,T.cl,T.nR,Fh _ _ _,k⟩
theorem PB {p q:Str × Nat}:PyData.eqv (.tuple [.str p.1,.int (p.2:Int)]) (.tuple [.str q.1,.int (q.2:Int)])=decide (p=q):=by
 rw [Bool.eq_iff_iff];simp only [PyData.eqv,PyData.eqvAll,Bool.and_true,Bool.and_eq_true,decide_eq_true_eq,beq_iff_eq];constructor
 ·rintro ⟨a,b⟩;exact Prod.ext a (by exact_mod_cast b)
 ·rintro rfl;exact ⟨rfl,rfl⟩
theorem Jw:∀ (a b:Aa),PyData.eqv (.list (Eg a)) (.list (Eg b))=decide (a=b)
 | [],[]=>by simp [Eg,PyData.eqv,PyData.eqvAll]
 | [],q :: r=>by simp [Eg,PyData.eqv,PyData.eqvAll]
 | p :: r,[]=>by simp [Eg,PyData.eqv,PyData.eqvAll]
 | p :: r,q :: s=>by
  have ih:=Jw r s
  have h:PyData.eqv (.list (Eg (p :: r))) (.list (Eg (q :: s)))=(PyData.eqv (.tuple [.str p.1,.int (p.2:Int)]) (.tuple [.str q.1,.int (q.2:Int)]) && PyData.eqv (.list (Eg r)) (.list (Eg s))):=by
   simp only [Eg,map_cons,PyData.eqv,PyData.eqvAll]
  rw [h,PB,ih,Bool.eq_iff_iff];simp
def Asc (due:Aa):Prop:=∀ p ∈ due,p.1.cps.all (· < 128)=true
inductive spEqK (C:Addr) (vs:List V) (H:Hp) (Q:VK) (_E:XK):Prop where
 | mk (a b:Addr) (due:Aa) (r:Str) (z_0:vs=[.ref a,.ref b]) (z_1:KindAt C H a due r) (z_2:Asc due) (z_3:((∃ xs,H b=some (.lst xs)/\∀ H',Same H H'->Q (.bl false) H')\/∃ (due':Aa) (r':Str),KindAt C H b due' r'/\Asc due'/\∀ H',Same H H'->Q (.bl (decide (due=due'/\r=r'))) H'))
theorem Uf:AJ ["self", "other"] ["self", "other"] (defScope Io):=fsc
theorem Sc {f:Addr} (F:Fun K "__eq__" "Kind.__eq__" Io f fd) (B:Bl mg) (T:Dx K C) (KI:KIsi K C) (mC:mg "Kind" = some (.ref C)) (GR:Mt P w K mg base C "rows" 1 ["self"] (spRows C)):AX P w K mg base CX0 2 f fd ["self", "other"] (spEqK C):=by
 obtain ⟨fR,dR,GR,mR,bR⟩:=GR.ex;refine F.m Uf fun vs H Q E h=>?_;obtain ⟨a,b,due,r,rfl,KA,h1,h⟩:=h;refine ⟨rfl,fun ad A outer s hr=>?_⟩;have hu64:=hr.units
 refine ⟨_,AD (AL (Bj (AY (Dt K rfl) rfl B.isi Eb (AA (pv 1) (AA (A8 (v:=.ref C) rfl mC rfl) AC)))
  (Bj (Be (SA K rfl hu64) (A3 (pv 0) T.cl mR GR hr bR .nil AQ) (A3 (pv 1) T.cl mR GR hr bR .nil AQ) (AR _))
   (B7 (Be Aw (As (pv 0) rfl) (As (pv 1) rfl) (AR _)))))),?_⟩
 obtain ⟨dx,d1,d2,hp⟩:=KA.ins;rcases h with ⟨xs,hb,k⟩ | ⟨due',r',KB,h2,k⟩
 ·refine ⟨_,rfl,_,C,_,false,rfl,.lst hb,KI.nl,_,rfl,?_⟩;exact AW (k _ (Same.refl _))
 ·obtain ⟨dy,e1,e2,hq⟩:=KB.ins;refine ⟨_,rfl,_,C,_,true,rfl,KI.ty hq,Cw K C,_,rfl,?_⟩;refine Aj ?_;refine ⟨_,rfl,a,dx,_,rfl,hp,(CG _ _ _),a,due,r,rfl,KA,fun l as H1 s1 hl ht=>?_⟩;refine ⟨_,rfl,b,dy,_,rfl,s1 _ _ hq,(CG _ _ _),b,due',r',rfl,KB.same s1,fun l2 as2 H2 s2 hl2 ht2=>?_⟩;refine ⟨_,_,FB (s2 _ _ hl) (FA (TupsAt.same s2 ht)),FB hl2 (FA ht2),Dm h1,Dm h2,_,rfl,?_⟩;rw [Jw];have s12:=s1.trans s2;refine BY (fun e=>?_) (fun e=>?_)
  ·have e':due=due':=of_decide_eq_true e;refine ⟨_,rfl,a,C,dx,_,_,rfl,s12 _ _ hp,T.cl,T.nR,Fh _ _ _,_,rfl,b,C,dy,_,_,rfl,s12 _ _ hq,T.cl,T.nR,Fh _ _ _,rfl,?_⟩;have:=k _ s12;have ev:decide (V.str r=V.str r')=decide (due=due'/\r=r'):=decide_eq_decide.mpr ⟨fun z=>⟨e',V.str.inj z⟩,fun z=>by rw [z.2]⟩;rw [ev];exact this
  ·have:=k _ s12;rw [decide_eq_false (fun z=>e (decide_eq_true z.1))] at this;exact this
end
noncomputable def LD (due:Aa) (e m:Addr):LK:=[(Sum.inr "known", V.int (Ak (due.map (·.2)):Nat)),(Sum.inr "firsts", V.ref e),(Sum.inr "marks", V.ref m),(Sum.inr "bits", V.int (Ak (BC due):Nat))]
theorem Sd (a b c d:V):C1 [] [((Sum.inr "known" : Key),a),(Sum.inr "firsts", b),(Sum.inr "marks", c),(Sum.inr "bits", d)]=[((Sum.inr "known" : Key),a),(Sum.inr "firsts", b),(Sum.inr "marks", c),(Sum.inr "bits", d)]:=by kernel_rfl
theorem Cy (due:Aa) (e m:Addr):BN (LD due e m) (Sum.inr "known")=some (V.int (Ak (due.map (·.2)):Nat)):=by kernel_rfl
theorem NX (due:Aa):(BC due).Pairwise (· < ·):=by
 have h1:=E8 due;have h2:(At due).Nodup:=(DD due).nodup_iff.mpr (NL due);have h3:(At due).Pairwise (· < ·):=List.Pairwise.imp₂ (fun a b h n=>Nat.lt_of_le_of_ne h n) h1 h2;exact h3.filter _
theorem IE (due:Aa):((BC due).map fun n:Nat=>(n:Int)).sum=((Ak (BC due):Nat):Int):=by
 have hs:(BC due).sum=Ak (BC due):=NE (fun n hn=>(mem_filter.mp hn).2) (NX due);rw [← hs];clear hs;generalize BC due=l;induction l with
 | nil=>rfl
 | cons a r ih=>rw [map_cons,sum_cons,sum_cons,ih]; push_cast; rfl
theorem FC (due:Aa):Ak ((Ab due).map (·.1))=Ak (due.map (·.2)):=by
 refine Nat.eq_of_testBit_eq fun k=>?_;rw [Ds,Ds,Bool.eq_iff_iff,any_eq_true,any_eq_true];constructor
 ·rintro ⟨n,hn,hb⟩;obtain ⟨q,hq,rfl⟩:=mem_map.mp hn;exact ⟨q.1,mem_map.mpr ⟨_,IB hq,rfl⟩,hb⟩
 ·rintro ⟨n,hn,hb⟩;obtain ⟨p,hp,rfl⟩:=mem_map.mp hn;exact ⟨p.2,NM hp,hb⟩
section
inductive spTable (vs:List V) (H:Hp) (Q:VK) (_E:XK):Prop where
 | mk (u:Addr) (bs:List Addr) (due:Aa) (z_0:vs=[.ref u]) (z_1:H u=some (.lst (bs.map V.ref))) (z_2:TupsAt H bs (DP due)) (z_3:due.length <= 10) (z_4:(∀ p ∈ due,p.2 < 2 ^ 20)) (z_5:∀ t e m ms H',Same H H'->H' t=some (.dK (LD due e m))->H' e=some (.dK (Br (Ab due)))->H' m=some (.lst (ms.map V.ref))->TupsAt H' ms (Jq due)->Q (.ref t) H')
noncomputable abbrev Se:List Str:=["_law_due", "_law_known", "_law_firsts", "_law_name", "_law_number", "_law_marks"]
theorem scTable:AJ Se ["_law_due"] (defScope Dj):=fsc
theorem PD {f:Addr} (F:Fun K "_law_table_of" "_law_table_of" Dj f fd) (B:Bl mg) (GB:Fn P w K mg base "_law_bits_of" 1 ["_law_number"] spBitsOf):AX P w K mg base CX0 2 f fd ["_law_due"] spTable:=by
 obtain ⟨fB,dB,GB,mB,kB,bB⟩:=GB.ex;refine F.m scTable fun vs H Q E h=>?_;obtain ⟨u,bs,due,rfl,hu0,hbs,h10,hlt,k⟩:=h;refine ⟨rfl,fun ad A outer s hr=>?_⟩;have hu:=Cb hr
 refine ⟨_,AE (Ch (hs:=by kernel_rfl) (hw:=by kernel_rfl) (BE (AA AF (AA Ct AC))) (B8 rfl (Af (Ae (i:=1) scTable.nd rfl (Or.inl rfl)) (Af (Ae (i:=2) scTable.nd rfl (Or.inr rfl)) Bd))))
  (AE (DS PassesOwn.never rfl (Bx (pv 0)) (B8 rfl (Af (Ae (i:=3) scTable.nd rfl (Or.inl rfl)) (Af (Ae (i:=4) scTable.nd rfl (Or.inl rfl)) Bd)))
   (AE (Ac (i:=1) scTable.nd rfl (Or.inl rfl) (AZ Lb (pv 1) (pv 4)))
   (AD (Ag (F7 (Mn hu (pv 4) (pv 2))) (AD (IW hu (pv 2) (pv 4) (pv 3) rfl)) AV))))
  (AE (N9 (i:=5) scTable.nd rfl (by kernel_rfl) ["_law_firsts"] [some 2] (by kernel_rfl) (by decide +kernel) (by kernel_rfl) rfl (Bx (AY (Et rfl) rfl B.sorted Hx (AA (pv 2) AC)))
   (fun _ _ _ _ _ _=>IZ (AM Aw (AY (BH K rfl) rfl B.len PySem.boot_len (AA (AS GB hr rfl mB kB bB .nil AQ (AA (pv 0) AC)) AC)) AF (AR _)))
   (fun _ _ _ _ _ _=>BE (AA (BU hu (pv 1) (pv 0) (fun _ _=>rfl)) (AA (pv 0) AC))))
  (AD (AL (Lm (B1 AN (pv 1) (B1 AN (pv 2) (B1 AN (pv 5) (B1 AN (AY (OJ rfl) rfl B.sum Op (AA (Gd [] [] (by kernel_rfl) (by decide +kernel) (by kernel_rfl) (by kernel_rfl) rfl (Bx (pv 5)) (fun _ _ _ _ _ _=>By) (fun _ _ _ _ _ _=>pv 1)) AC)) Ll)))) rfl rfl (by simp) (by decide)))))),?_⟩
 refine fun e he=>⟨sl2,fun q hq=>⟨q,_,rfl,SqT.of AB,rfl,_,_,rfl,_,_,rfl,rfl,?_⟩⟩;have s1:=AH (AH (Same.refl _) he (o:=HO.dK [])) hq (o:=HO.tup [V.int 0,V.ref e]);have hbl:bs.length=due.length:=by rw [hbs.length]; unfold DP; rw [AK]
 refine ⟨_,rfl,u,rfl,⟨_,SqL.of (s1 _ _ hu0)⟩,Cq (K:=K) (a:=u) (xs:=bs.map V.ref) (fun i σ H2=>∃ v3 v4:Option V,σ=[some (.ref u),some (.int (Ak ((due.take i).map (·.2)):Nat)),some (.ref e),v3,v4,none]/\Same H H2/\H2 e=some (.dK (Br (Ab (due.take i)))))
  ⟨none,none,rfl,s1,AH (Same.refl _) hq _ _ AB⟩ (fun i σ H2 _ ⟨_,_,_,s2,_⟩=>SqL.of (s2 _ _ hu0)) ?_ ?_⟩
 ·rintro i v σ H2 hi ⟨v3,v4,rfl,s2,he2⟩;obtain ⟨bb,p,rfl,_,ak,aj⟩:=CK (TupsAt.same s2 hbs) hi;have et:due.take (i + 1)=due.take i++[p]:=by rw [take_add_one,ak]; rfl
  have ek:(((Ak ((due.take (i + 1)).map (·.2)):Nat)):Int)=Builtin.bitOr ((Ak ((due.take i).map (·.2)):Nat):Int) (p.2:Int):=by
   rw [et,map_append,C4];exact congrArg _ (EN _ _)
  have hle:(Br (Ab (due.take i))).length <= 100:=by
   unfold Br;rw [AK];have:=CT (due.take i);rw [length_take] at this;omega
  refine ⟨bb,_,rfl,SqT.of aj,rfl,_,_,rfl,_,_,rfl,rfl,?_⟩;refine ⟨_,rfl,_,rfl,_,_,rfl,rfl,?_⟩;by_cases z:p.2 ∈ (Ab (due.take i)).map (·.1)
  ·refine ⟨_,rfl,_,rfl,e,_,rfl,.inl ⟨_,Sum.inl (p.2:Int),.inl he2,rfl,(E7 z).symm⟩,_,rfl,?_⟩;refine AW ⟨_,_,by rw [ek]; rfl,s2,?_⟩;rw [et,Ce,if_pos (by simpa using z)];exact he2
  ·refine ⟨_,rfl,_,rfl,e,_,rfl,.inl ⟨_,Sum.inl (p.2:Int),.inl he2,rfl,(Fg z).symm⟩,_,rfl,?_⟩;refine Aj ⟨_,rfl,_,rfl,_,rfl,e,_,rfl,DPut.k (k:=Sum.inl (p.2:Int)) he2 (AO (by omega)),?_⟩;refine ⟨_,_,by rw [ek]; rfl,Gz s2 he,?_⟩;rw [AB,et,Ce,if_neg (by simpa using z),Jp z]
 ·rintro σ H2 ⟨v3,v4,rfl,s2,he2⟩;have e1:due.take (bs.map V.ref).length=due:=by rw [AK,hbl,take_length]
  rw [e1] at he2 ⊢;have hle:(Br (Ab due)).length <= due.length:=by unfold Br; rw [AK]; exact CT due
  refine ⟨_,rfl,e,_,rfl,.inl he2,by omega,fun kv hkv=>?_,fun l ns hl cw cy=>?_⟩
  ·unfold Br at hkv;obtain ⟨q,_,rfl⟩:=mem_map.mp hkv;exact ⟨_,rfl⟩
  ·have en:=Jr cw cy;subst en;have s3:=AH (Same.refl _) hl (o:=HO.lst (((At due).map fun n:Nat=>(n:Int)).map V.int));have exs:((At due).map fun n:Nat=>(n:Int)).map V.int=Av (At due):=(E6 _).symm
   refine ⟨l,rfl,⟨_,SqL.of AB⟩,CH (K:=K) (a:=l) (xs:=Av (At due))
    (fun i ys H3=>∃ as,ys=as.map V.ref/\Same H2 H3/\H3 l=some (.lst (Av (At due)))/\TupsAt H3 as ((((At due).take i).filter A4).map fun n=>(V.str (IA (Ab due) n),V.int (n:Int)))) ⟨[],rfl,s3,by rw [AB,exs],.nil⟩
    (fun i ys H3 _ ⟨_,_,_,e,_⟩=>SqL.of e) (fun i ys H3 ⟨as,e,_,_,t⟩=>?_) ?_ ?_⟩
   ·have:=t.length;rw [e,AK,this,AK];have h3:(((At due).take i).filter A4).length <= ((At due).take i).length:=length_filter_le _ _;rw [length_take] at h3;have:=Fi due;omega
   ·rintro i v ys H3 hi ⟨as,rfl,s4,hl3,ht⟩;obtain ⟨n,hn,rfl⟩:=Iv hi;have ci:n ∈ (Ab due).map (·.1):=mem_keysS.mp (mem_of_getElem? hn);have hn42:n < 2 ^ 42:=Nat.lt_trans (MC hlt n ci) (by decide);have et:((At due).take (i + 1)).filter A4=((At due).take i).filter A4++(if A4 n then [n] else []):=PySem.take_succ_filter A4 _ i n hn;refine ⟨_,rfl,n,rfl,fun l2 zs H4 s5 hl4 hz=>⟨l2,_,rfl,.inl (SqL.of hl4),rfl,_,rfl,?_⟩⟩
    have eb:decide (V.int ((zs.length:Nat):Int)=V.int 1)=A4 n:=by
     rw [← HJ hn42,hz];refine decide_eq_decide.mpr ⟨fun h=>?_,fun h=>by rw [h]; rfl⟩;have:=V.int.inj h;omega
    rw [eb];have hl5:=s5 _ _ hl3;refine BY (fun hm=>?_) (fun hm=>?_)
    ·refine ⟨_,rfl,_,rfl,e,_,rfl,.inl ⟨_,Sum.inl (n:Int),.inl (s5 _ _ (s4 _ _ he2)),rfl,(E7 ci).symm⟩,_,rfl,sl2,fun b hb=>?_⟩;refine ⟨as++[b],by rw [map_append]; rfl,AH (s4.trans s5) hb,by rw [AG (AI hl5 hb)]; exact hl5,?_⟩;rw [et,hm,if_pos rfl,map_append];exact IC (AH s5 hb) ht AB
    ·refine ⟨as,rfl,s4.trans s5,hl5,?_⟩;rw [et,if_neg hm,append_nil];exact TupsAt.same s5 ht
   ·rintro ys H3 ⟨as,rfl,s4,_,ht⟩ m hm
    have el:(At due).take (Av (At due)).length=At due:=by
     have:(Av (At due)).length=(At due).length:=by unfold Av; rw [AK]
     rw [this]; exact take_length
    rw [el] at ht;have ht':TupsAt H3 as (Jq due):=ht;have s5:=AH (Same.refl _) hm (o:=HO.lst (as.map V.ref));have au:as.length=(BC due).length:=by rw [ht'.length]; exact NO due
    refine fun t ht0=>⟨_,rfl,_,rfl,_,rfl,?_⟩;have s6:=AH (Same.refl _) ht0 (o:=HO.dK []);have htm:=TupsAt.same (s5.trans s6) ht';have hm6:=s6 _ _ (AB (H:=H3) (a:=m) (o:=HO.lst (as.map V.ref)));refine ⟨_,rfl,m,rfl,⟨_,SqL.of hm6⟩,CH (K:=K) (a:=m) (xs:=as.map V.ref) (fun j ys H7=>ys=Av ((BC due).take j)/\H7=upd (upd H3 m (.lst (as.map V.ref))) t (.dK [])) ⟨by rfl,rfl⟩ (fun j ys H7 _ ⟨_,e⟩=>e ▸ SqL.of hm6) (fun j ys H7 ⟨e,_⟩=>?_) ?_ ?_⟩
    ·rw [e]; unfold Av; rw [AK,length_take];have h3:(BC due).length <= (At due).length:=length_filter_le _ _;have:=Fi due;omega
    ·rintro j v ys H7 hj ⟨rfl,rfl⟩;rw [getElem?_map] at hj
     obtain ⟨b,hb,rfl⟩:∃ b,as[j]?=some b/\v=V.ref b:=by
      cases q:as[j]? with
      | none=>rw [q] at hj; cases hj
      | some x=>rw [q] at hj; exact ⟨x,rfl,(Option.some.inj hj).symm⟩
     obtain ⟨pq,hpq,aj⟩:=Js htm hb;unfold Jq at hpq;rw [getElem?_map] at hpq
     obtain ⟨n,hn,rfl⟩:∃ n,(BC due)[j]?=some n/\pq=(V.str (IA (Ab due) n),V.int (n:Int)):=by
      cases q:(BC due)[j]? with
      | none=>rw [q] at hpq; cases hpq
      | some x=>rw [q] at hpq; exact ⟨x,rfl,(Option.some.inj hpq).symm⟩
     refine ⟨b,_,rfl,SqT.of aj,rfl,_,_,rfl,_,_,rfl,rfl,?_⟩;refine ⟨_,rfl,?_,rfl⟩;rw [take_add_one,hn,Option.toList_some];unfold Av;rw [map_append];rfl
    ·rintro ys H7 ⟨rfl,rfl⟩ l2 hl2;have el2:(BC due).take (as.map V.ref).length=BC due:=by rw [AK,au,take_length]
     rw [el2];have s7:=AH (Same.refl _) hl2 (o:=HO.lst (Av (BC due)));refine ⟨l2,(BC due).map fun n:Nat=>(n:Int),rfl,SqL.of (by rw [AB,E6]),fun n hn=>?_,?_,?_⟩
     ·obtain ⟨x,_,rfl⟩:=mem_map.mp hn;exact Int.natCast_nonneg _
     ·rw [IE];have:=Gm (O1 hlt);omega
     ·rw [IE];refine ⟨s7 _ _ AB,[((Sum.inr "known" : Key),V.int (Ak (due.map (·.2)):Nat)),(Sum.inr "firsts", .ref e),(Sum.inr "marks", .ref m),(Sum.inr "bits", V.int (Ak (BC due):Nat))],rfl,(by show 4 <= 15; decide),?_⟩;rw [Sd];have nt:∀ b o,H3 b=some o->b ≠ t:=fun b o ebo=>AI (s5 _ _ ebo) ht0
      have sAll:Same (upd H3 m (.lst (as.map V.ref))) (upd (upd (upd (upd H3 m (.lst (as.map V.ref))) t (.dK [])) l2 (.lst (Av (BC due)))) t (.dK (LD due e m))):=fun b o ebo=>by
       rw [AG (AI ebo ht0)];exact s7 _ _ (s6 _ _ ebo)
      refine k t e m as _ ?_ AB ?_ (sAll _ _ AB) (TupsAt.same (s5.trans sAll) ht')
      ·intro b o ebo;exact sAll _ _ (s5 _ _ (s4 _ _ (s2 _ _ ebo)))
      ·exact sAll _ _ (s5 _ _ (s4 _ _ he2))
end
theorem Fs:∀ {ds:List PyData},(∀ d ∈ ds,PyData.eqv d d=true)->PyData.eqvAll ds ds=true
 | [],_=>by rw [PyData.eqvAll]
 | d :: r,h=>by
  rw [PyData.eqvAll,h d mem_cons_self,Fs fun x hx=>h x (mem_cons_of_mem _ hx)];rfl
theorem FD {ds:List PyData} (h:∀ d ∈ ds,PyData.eqv d d=true):PyData.eqv (.tuple ds) (.tuple ds)=true:=by
 rw [PyData.eqv]; exact Fs h
theorem DE (x:Str):PyData.eqv (.str x) (.str x)=true:=by simp [PyData.eqv]
theorem FE (n:Int):PyData.eqv (.int n) (.int n)=true:=by simp [PyData.eqv]
theorem Ug:¬ (("own_kind" : Str) = "bits"):=by decide +kernel
noncomputable def FF (kp:Addr) (n:Nat):List (Str × V):=BL "bits" (.int (n:Int)) (BL "own_kind" (.ref kp) [])
theorem Iy (kp:Addr) (n:Nat):(FF kp n).lookup ("own_kind" : Str)=some (.ref kp):=by
 unfold FF;rw [AU,if_neg Ug,AU,if_pos rfl]
theorem Iz (kp:Addr) (n:Nat):(FF kp n).lookup ("bits" : Str)=some (.int (n:Int)):=by
 unfold FF;rw [AU,if_pos rfl]
theorem PF (kp:Addr) (n:Nat) {m:Str} (h1:¬ m = "bits") (h2:¬ m = "own_kind"):(FF kp n).lookup m=none:=by
 unfold FF;rw [AU,if_neg h1,AU,if_neg h2];rfl
def ValAt (VC:Addr) (H:Hp) (p kp:Addr) (n:Nat):Prop:=∃ dx,H p=some (.ins VC dx (FF kp n))
theorem ValAt.same {p kp:Addr} {n:Nat} (s:Same H H') (h:ValAt VC H p kp n):ValAt VC H' p kp n:=by
 obtain ⟨dx,h⟩:=h;exact ⟨dx,s _ _ h⟩
structure LF (K:FG) (VC:Addr):Prop where
 cl:Cls K VC
 nK:NoAttr K VC "own_kind"
 nB:NoAttr K VC "bits"
noncomputable def kn (due:Aa):Nat:=Ak (due.map (·.2))
section
inductive spIsNumber (vs:List V) (H:Hp) (Q:VK) (_E:XK):Prop where
 | mk (n:Nat) (z_0:vs=[.int (n:Int)]) (z_1:n < 2 ^ 40) (z_2:Q (.bl true) H)
theorem LG:AJ ["thing"] ["thing"] (defScope FX):=fsc
theorem Jx {f:Addr} {tL:Tok} (F:Fun K "is_number" "is_number" FX f fd) (hL:mg "LIMIT" = some (.int 1099511627776 tL)) (GW:Fn P w K mg base "is_whole" 1 ["thing"] spIsWhole):AX P w K mg base CX0 2 f fd ["thing"] spIsNumber:=by
 obtain ⟨fW,dW,GW,mW,kW,bW⟩:=GW.ex;refine F.m LG fun vs H Q E h=>?_;obtain ⟨n,rfl,hn,k⟩:=h;refine ⟨rfl,fun ad A outer s hr=>?_⟩;refine ⟨_,AD (AL (Bj (AS GW hr rfl mW kW bW .nil AQ (AA (pv 0) AC)) (B7 (El Ej Fo AF (pv 0) (A8 (v:=.int 1099511627776) rfl hL ⟨tL,rfl⟩))))),?_⟩;refine ⟨_,rfl,(n:Int),rfl,_,rfl,?_⟩;refine Aj ?_;refine ⟨_,rfl,_,_,rfl,rfl,_,rfl,?_⟩;rw [decide_eq_true (show (0:Int) <= (n:Int) by omega)];refine Aj ?_;refine ⟨_,_,rfl,rfl,?_⟩;show Q (V.bl (decide ((n:Int) < 1099511627776))) H
 rw [decide_eq_true (show (n:Int) < 1099511627776 by have:(2:Nat) ^ 40=1099511627776:=by decide
                                                     omega)]
 exact k
inductive spRestOf (C:Addr) (vs:List V) (H:Hp) (Q:VK) (_E:XK):Prop where
 | mk (kp:Addr) (due:Aa) (r:Str) (n:Nat) (z_0:vs=[.ref kp,.int (n:Int)]) (z_1:KindAt C H kp due r) (z_2:∀ H',Same H H'->Q (.int ((n - (n &&& kn due):Nat):Int)) H')
theorem PJ:AJ ["kind", "number"] ["kind", "number"] (defScope Ip):=fsc
theorem NY {f:Addr} (F:Fun K "rest_of" "rest_of" Ip f fd) (T:Dx K C) (GK:Mt P w K mg base C "known" 2 ["self"] (spKnown C)):AX P w K mg base CX0 3 f fd ["kind", "number"] (spRestOf C):=by
 obtain ⟨fK,dK,GK,mK,bK⟩:=GK.ex;refine F.m PJ fun vs H Q E h=>?_;obtain ⟨kp,due,r,n,rfl,KA,k⟩:=h;refine ⟨rfl,fun ad A outer s hr=>?_⟩;obtain ⟨dx,d1,d2,hp⟩:=KA.ins;refine ⟨_,AD (AL (AZ CA (pv 1) (DU IN (A3 (pv 0) T.cl mK GK hr bK .nil AQ)))),?_⟩;refine ⟨_,rfl,_,rfl,kp,dx,_,rfl,hp,(CG _ _ _),kp,due,r,rfl,KA,fun H1 s1=>?_⟩;refine ⟨_,rfl,_,_,rfl,rfl,?_⟩;show Q (V.int (Builtin.bitAnd (n:Int) (Builtin.bitNot ((Ak ((Ab due).map (·.1)):Nat):Int)))) H1;rw [C5,FC];exact k H1 s1
inductive spVInit (C VC:Addr) (vs:List V) (H:Hp) (Q:VK) (_E:XK):Prop where
 | mk (p dx kp:Addr) (due:Aa) (r:Str) (n:Nat) (z_0:vs=[.ref p,.ref kp,.int (n:Int)]) (z_1:H p=some (.ins VC dx [])) (z_2:KindAt C H kp due r) (z_3:n < 2 ^ 40) (z_4:(r = "keep" \/ n - (n &&& kn due)=0)) (z_5:∀ H',(∀ b o,H b=some o->b ≠ p->H' b=some o)->ValAt VC H' p kp n->Q .non H')
theorem Ql:AJ ["self", "kind", "number"] ["self", "kind", "number"] (defScope ET):=fsc
theorem Jy {f:Addr} (F:Fun K "__init__" "Value.__init__" ET f fd) (T:Dx K C) (VT:LF K VC)
  (GN:Fn P w K mg base "is_number" 2 ["thing"] spIsNumber) (GR:Fn P w K mg base "rest_of" 3 ["kind", "number"] (spRestOf C)) (GRe:Mt P w K mg base C "rest" 1 ["self"] (spRest C)):AX P w K mg base CX0 4 f fd ["self", "kind", "number"] (spVInit C VC):=by
 obtain ⟨fN,dN,GN,mN,kN,bN⟩:=GN.ex;obtain ⟨fR,dR,GR,mR,kR,bR⟩:=GR.ex;obtain ⟨fE,dE,GE,mE,bE⟩:=GRe.ex;refine F.m Ql fun vs H Q E h=>?_;obtain ⟨p,dx,kp,due,r,n,rfl,hp,KA,hn,hrest,k⟩:=h;refine ⟨rfl,fun ad A outer s hr=>?_⟩;have hr1:Room 1 _:=hr.mono (by decide);have hr2:Room 2 _:=hr.mono (by decide);obtain ⟨dxk,d1,d2,ah⟩:=KA.ins
 refine ⟨_,AE (Ag (BV (A2 (AS GN hr2 rfl mN kN bN .nil AQ (AA (pv 2) AC)))) (AD Ah) AV)
  (BD (Ag (PW.pt (B6 (AM Dy (A3 (pv 1) T.cl mE GE hr1 bE .nil AQ) AN (AR _)) (Bc (AM Dy (AS GR hr rfl mR kR bR .nil AQ (AA (pv 1) (AA (pv 2) AC))) AF (AR _))))) (AD Ah) AV)
  (AE (Cj (pv 0) (pv 1) rfl) (AD (Cj (pv 0) (pv 2) rfl)))),?_⟩
 refine ⟨_,rfl,n,rfl,hn,_,rfl,?_⟩;refine AW ?_;refine ⟨fun σ H1=>σ=[some (.ref p),some (.ref kp),some (.int (n:Int))]/\Same H H1,fun R hR=>?_,?_⟩
 ·refine ⟨_,rfl,kp,dxk,_,rfl,ah,(CG _ _ _),kp,due,r,rfl,KA,rfl,_,rfl,?_⟩;by_cases hk:r = "keep"
  ·rw [decide_eq_true (show V.str r=V.str "keep" by rw [hk])];exact AW (AW (hR _ _ ⟨rfl,Same.refl _⟩))
  ·rw [decide_eq_false (show ¬ V.str r=V.str "keep" from fun z=>hk (V.str.inj z))];refine Aj ?_;refine ⟨_,rfl,_,rfl,kp,due,r,n,rfl,KA,fun H1 s1=>⟨rfl,_,rfl,?_⟩⟩;have h0:=hrest.resolve_left hk;rw [h0];exact AW (hR _ _ ⟨rfl,s1⟩)
 ·rintro σ H1 ⟨rfl,s1⟩;refine ⟨_,rfl,_,rfl,p,VC,dx,[],rfl,s1 _ _ hp,VT.cl,VT.nK,(by show 0 < 1000; decide),?_⟩;refine ⟨_,rfl,_,rfl,p,VC,dx,_,rfl,AB,VT.cl,VT.nB,Nat.lt_of_le_of_lt (A6 _ _ _) (by show 1 < 1000; decide),?_⟩;refine k _ (fun b o e hb=>?_) ⟨dx,AB⟩;rw [AG hb,AG hb];exact s1 _ _ e
inductive spVNumber (VC:Addr) (vs:List V) (H:Hp) (Q:VK) (_E:XK):Prop where
 | mk (p kp:Addr) (n:Nat) (z_0:vs=[.ref p]) (z_1:ValAt VC H p kp n) (z_2:Q (.int (n:Int)) H)
theorem NZ:AJ ["self"] ["self"] (defScope C9):=fsc
theorem LH {f:Addr} (F:Fun K "number" "Value.number" C9 f fd) (VT:LF K VC):AX P w K mg base CX0 1 f fd ["self"] (spVNumber VC):=by
 refine F.m NZ fun vs H Q E h=>?_;obtain ⟨p,kp,n,rfl,⟨dx,hp⟩,k⟩:=h;refine ⟨rfl,fun ad A outer s hr=>?_⟩;refine ⟨_,AD (AL (As (pv 0) rfl)),?_⟩;exact ⟨_,rfl,p,VC,dx,_,_,rfl,hp,VT.cl,VT.nB,Iz _ _,k⟩
inductive spVKind (VC:Addr) (vs:List V) (H:Hp) (Q:VK) (_E:XK):Prop where
 | mk (p kp:Addr) (n:Nat) (z_0:vs=[.ref p]) (z_1:ValAt VC H p kp n) (z_2:Q (.ref kp) H)
theorem Qm:AJ ["self"] ["self"] (defScope EU):=fsc
theorem PL {f:Addr} (F:Fun K "kind" "Value.kind" EU f fd) (VT:LF K VC):AX P w K mg base CX0 1 f fd ["self"] (spVKind VC):=by
 refine F.m Qm fun vs H Q E h=>?_;obtain ⟨p,kp,n,rfl,⟨dx,hp⟩,k⟩:=h;refine ⟨rfl,fun ad A outer s hr=>?_⟩;refine ⟨_,AD (AL (As (pv 0) rfl)),?_⟩;exact ⟨_,rfl,p,VC,dx,_,_,rfl,hp,VT.cl,VT.nK,Iy _ _,k⟩
inductive spVEq (C VC:Addr) (vs:List V) (H:Hp) (Q:VK) (_E:XK):Prop where
 | mk (a:Addr) (v:V) (ka:Addr) (na:Nat) (due:Aa) (r:Str) (z_0:vs=[.ref a,v]) (z_1:ValAt VC H a ka na) (z_2:KindAt C H ka due r) (z_3:Asc due) (z_4:((∃ i,v=.int i/\Q (.bl false) H)\/∃ (b kb:Addr) (nb:Nat) (due':Aa) (r':Str),v=.ref b/\ValAt VC H b kb nb/\KindAt C H kb due' r'/\Asc due'/\∀ H',Same H H'->Q (.bl (decide ((due=due'/\r=r')/\na=nb))) H'))
theorem Tm:AJ ["self", "other"] ["self", "other"] (defScope Gr):=fsc
theorem Sf {f:Addr} (F:Fun K "__eq__" "Value.__eq__" Gr f fd) (B:Bl mg) (T:Dx K C) (VT:LF K VC) (VI:KIsi K VC) (hI:W.kitOne K (.type "int") (.ref VC)=some false) (mV:mg "Value" = some (.ref VC))
  (GE:Mt P w K mg base C "__eq__" 2 ["self", "other"] (spEqK C)):AX P w K mg base CX0 3 f fd ["self", "other"] (spVEq C VC):=by
 obtain ⟨fE,dE,GE,mE,bE⟩:=GE.ex;refine F.m Tm fun vs H Q E h=>?_;obtain ⟨a,v,ka,na,due,r,rfl,⟨dx,hp⟩,KA,h1,h⟩:=h;refine ⟨rfl,fun ad A outer s hr=>?_⟩
 refine ⟨_,AD (AL (Bj (AY (Dt K rfl) rfl B.isi Eb (AA (pv 1) (AA (A8 (v:=.ref VC) rfl mV rfl) AC)))
  (Bj (Be (OP GE hr bE mE) (As (pv 0) rfl) (As (pv 1) rfl) (AR _))
   (B7 (Be Aw (As (pv 0) rfl) (As (pv 1) rfl) (AR _)))))),?_⟩
 rcases h with ⟨i,rfl,k⟩ | ⟨b,kb,nb,due',r',rfl,⟨dy,hq⟩,KB,h2,k⟩
 ·refine ⟨_,rfl,_,VC,_,false,rfl,.int i,hI,_,rfl,?_⟩;exact AW k
 ·refine ⟨_,rfl,_,VC,_,true,rfl,VI.ty hq,Cw K VC,_,rfl,?_⟩;refine Aj ?_;obtain ⟨dka,d1,d2,hka⟩:=KA.ins;obtain ⟨dkb,e1,e2,hkb⟩:=KB.ins;refine ⟨_,rfl,a,VC,dx,_,_,rfl,hp,VT.cl,VT.nK,Iy _ _,_,rfl,b,VC,dy,_,_,rfl,hq,VT.cl,VT.nK,Iy _ _,?_⟩;refine ⟨ka,dka,_,kb,rfl,rfl,hka,.inl ⟨_,_,hkb⟩,ka,kb,due,r,rfl,KA,h1,.inr ⟨due',r',KB,h2,fun H1 s1=>⟨_,rfl,_,rfl,?_⟩⟩⟩;refine BY (fun e=>?_) (fun e=>?_)
  ·have e':=of_decide_eq_true e;refine ⟨_,rfl,a,VC,dx,_,_,rfl,s1 _ _ hp,VT.cl,VT.nB,Iz _ _,_,rfl,b,VC,dy,_,_,rfl,s1 _ _ hq,VT.cl,VT.nB,Iz _ _,rfl,?_⟩;have ev:decide (V.int (na:Int)=V.int (nb:Int))=decide ((due=due'/\r=r')/\na=nb):=decide_eq_decide.mpr ⟨fun z=>⟨e',by have:=V.int.inj z; omega⟩,fun z=>by rw [z.2]⟩;rw [ev];exact k _ s1
  ·have:=k _ s1;rw [decide_eq_false (fun z=>e (decide_eq_true z.1))] at this;exact this
structure MH (P:Program) (w:World) (K:FG) (mg:SV) (base:Heap) (C VC:Addr):Prop where
 VT:LF K VC
 cls:mg "Value" = some (.ref VC)
 make:∃ f fd,Mk K VC f/\AX P w K mg base CX0 4 f fd ["self", "kind", "number"] (spVInit C VC)/\Binds K fd ["self", "kind", "number"] []
 eq:∃ f fd,AX P w K mg base CX0 3 f fd ["self", "other"] (spVEq C VC)/\KQ K VC "__eq__" f/\Binds K fd ["self", "other"] []
 isi:KIsi K VC
 ne:W.findIn K (.ref VC) "__ne__" = some (some (.builtin "object.__ne__"))
 ni:W.subIn K (.type "int") (.ref VC)=some false
theorem Dp {D kp dx:Addr} (hkp:H kp=none) (ay:H dx=none) (ax:dx ≠ kp):Same H (upd (upd H dx (.own kp)) kp (.ins D dx [])):=by
 refine AH (AH (Same.refl _) ay) ?_;rw [AG (Ne.symm ax)];exact hkp
theorem Du {Hc:Hp} {kp:Addr} (sN:Same H H') (hkp:H kp=none) (sc:∀ b o,H' b=some o->b ≠ kp->Hc b=some o):Same H Hc:=fun b o e=>sc b o (sN _ _ e) (AI e hkp)
theorem RS (h:∀ p ∈ due,p.2 < 2 ^ 20):kn due < 2 ^ 20:=by
 unfold kn;exact Gm fun n hn=>by obtain ⟨p,hp,rfl⟩:=mem_map.mp hn; exact h p hp
theorem PM (x y:Nat):(x ||| y) + (x &&& y)=x + y:=by
 have h:=PyProof.Rows.bitOr_and (x:Int) (y:Int);rw [C4,Bf] at h;omega
theorem Jz (a b:Nat):a - (a &&& b)=a ^^^ (a &&& b):=by
 have h1:(a ^^^ (a &&& b)) ||| (a &&& b)=a:=by
  refine Nat.eq_of_testBit_eq fun k=>?_;simp only [Nat.testBit_and,Nat.testBit_xor,Nat.testBit_or];cases a.testBit k <;> cases b.testBit k <;> rfl
 have h2:(a ^^^ (a &&& b)) &&& (a &&& b)=0:=by
  refine Nat.eq_of_testBit_eq fun k=>?_;simp only [Nat.testBit_and,Nat.testBit_xor,Nat.zero_testBit];cases a.testBit k <;> cases b.testBit k <;> rfl
 have h3:=PM (a ^^^ (a &&& b)) (a &&& b);rw [h1,h2] at h3;omega
theorem I0 (a b:Nat):(a - (a &&& b)) - ((a - (a &&& b)) &&& a)=0:=by
 have h:(a - (a &&& b)) &&& a=a - (a &&& b):=by
  have e:a - (a &&& b)=a ^^^ (a &&& b):=Jz a b;rw [e];refine Nat.eq_of_testBit_eq fun k=>?_;simp only [Nat.testBit_and,Nat.testBit_xor];cases a.testBit k <;> cases b.testBit k <;> rfl
 omega
end
section
variable {CU:Addr}
inductive spErrInit (K:FG) (vs:List V) (H:Hp) (Q:VK) (_E:XK):Prop where
 | mk (e C:Addr) (dx:Option Addr) (x:Str) (z_0:vs=[.ref e,.str x]) (z_1:A9 K C=true) (z_2:H e=some (Eu e C dx)) (z_3:Q .non H)
theorem Na:AJ ["self", "words"] ["self", "words"] (defScope A7):=fsc
theorem LI {f:Addr} (F:FunD K "__init__" "MarkError.__init__" A7 f fd) (hV:mg "ValueError" = none):AX P w K mg base CX0 1 f fd ["self", "words"] (spErrInit K):=by
 refine F.ok Na (fun vs H Q E h=>?_) (fun ad A outer s H vs Q E hr h=>?_)
 ·obtain ⟨e,C,dx,x,rfl,_⟩:=h;rfl
 ·obtain ⟨e,C,dx,x,rfl,hC,he,k⟩:=h;refine ⟨_,AD (BJ (OY rfl hV (AA (pv 0) (AA (pv 1) AC)))),?_⟩;exact ⟨_,rfl,_,rfl,e,C,dx,[.str x],rfl,(by show 1 <= 1000; decide),hC,he,k⟩
theorem none_of {x:Addr} (s:Same H H') (h:H' x=none):H x=none:=by
 cases e:H x with
 | none=>rfl
 | some u=>rw [s _ _ e] at h; cases h
end
noncomputable def wds:List Str:=["BadRows", "BadRest", "BadText", "Unled", "BadRule", "BadName", "BadNumber", "Unlike", "BadPairs", "Never", "Nothing"]
noncomputable def wd (j:Nat):Str:=wds.getD j ""
noncomputable def flg (j:Nat):List Bool:=(List.range 11).map fun i=>decide (i=j)
noncomputable def b1 (b:Bool):Int:=if b then 1 else 0
theorem MJ:∀ j,j < 11->((flg j).map b1).sum=1:=by decide +kernel
theorem Sh:∀ j,j < 11->(flg j)[j]?=some true/\∀ m,m < j->(flg j)[m]?=some false:=by decide +kernel
theorem Si:∀ j:Nat,j < 11->atI (wds.map V.str) (j:Int)=some (V.str (wd j)):=by decide +kernel
structure LJ (mg:SV) (ec:Nat->Addr):Prop where
 e0:mg "BadRows" = some (.ref (ec 0))
 e1:mg "BadRest" = some (.ref (ec 1))
 e2:mg "BadText" = some (.ref (ec 2))
 e3:mg "Unled" = some (.ref (ec 3))
 e4:mg "BadRule" = some (.ref (ec 4))
 e5:mg "BadName" = some (.ref (ec 5))
 e6:mg "BadNumber" = some (.ref (ec 6))
 e7:mg "Unlike" = some (.ref (ec 7))
 e8:mg "BadPairs" = some (.ref (ec 8))
 e9:mg "Never" = some (.ref (ec 9))
 e10:mg "Nothing" = some (.ref (ec 10))
 ev:mg "ValueError" = none
structure ML (K:FG) (ec:Nat->Addr) (C:Addr) (j:Nat):Prop where
 hj:j < 11
 kx:QK K C
 kit:∀ i,i < 11->W.kitOne K (.ref C) (.ref (ec i))=some (decide (i=j))
 val:W.kitOne K (.ref C) (.type "ValueError")=some true
section
variable {ec:Nat->Addr}
theorem Bq {X:Cx} {a:Expr} {te:TE} {e c:Addr} {oe:Obj} {x:Str} {p p2 pos:Pos} (K:FG) (hK:X.K=K) (pX:ExcP X e oe C) (k:QK K C) (hg:Gl X "isinstance") (hm:X.mg "isinstance" = none) (hgT:Gl X x) (hmT:X.mg x=some (.ref c)) (he:PE X a te)
  (hdb:(x == ("__debug__" : Str))=false:=by decide)
  (hs:starEach [a,.Name x p2] X.env=(false,eval a X.env) :: starEach [.Name x p2] X.env:=by rfl) (hpl:(backTo pos (starEach [.Name x p2] X.env)).any (·.1)=false:=by rfl) (hs2:starEach [.Name x p2] X.env=(false,eval (.Name x p2) X.env) :: starEach [] X.env:=by rfl) :
  PE X (.Call (.Name "isinstance" p) [a,.Name x p2] [] pos) (tCB (fun xs H Q=>∃ v c b,xs=[.ref e,v]/\((∃ D,v=.ref D/\c=.ref D)\/∃ T,v=.ty T/\c=.type T)/\(oe.dict=none\/∃ d u,oe.dict=some d/\H d=some u)/\W.kitOne K (.ref C) c=some b/\Q (.bl b) H) (Ao te (Ao (tC (.ref c)) Cr))):=by
 subst hK;exact AY (Hu pX k) hg hm Eb (AA he (AA (A8 (v:=.ref c) hgT hmT rfl hdb) AC hs2) hs) (by decide) (by decide) hs hpl
def Co (K:FG) (ec:Nat->Addr):SpS:=fun e oe vs H Q=>vs=[.ref e]/\∃ (C:Addr) (j:Nat) (fs:Array Value),oe.cls=.ref C/\oe.data=.fields fs/\fs[2]?=some .none/\(oe.dict=none\/∃ d u,oe.dict=some d/\H d=some u)/\ML K ec C j /\
 ∀ p H',Same H H'->H' p=some (.tup [.str "refused", .str (wd j)])->Q (.ref p) H'
theorem scWord:AJ ["_law_e", "_law_flags", "_law_words"] ["_law_e"] (defScope Di):=fsc
theorem Qn {f:Addr} (F:Fun K "_law_word" "_law_word" Di f fd) (B:Bl mg) (M:LJ mg ec):Lu P w K mg base 1 f fd ["_law_e"] (Co K ec):=by
 refine F.okS scWord (fun e oe vs H Q h=>?_) (fun ad A outer s H vs Q e oe hh hr h=>?_)
 ·obtain ⟨rfl,_⟩:=h;rfl
 ·obtain ⟨rfl,C,j,fs,hc,hf,h2,hd,EA,k⟩:=h;have hj:=EA.hj
  have hdS:∀ H',Same H H'->(oe.dict=none\/∃ d u,oe.dict=some d/\H' d=some u):=fun H' s=>by
   rcases hd with z | ⟨d,u,z,y⟩
   ·exact .inl z
   ·exact .inr ⟨d,u,z,s _ _ y⟩
  have kt:=EA.kit;have pX:ExcP (Gj P w K mg base ["_law_e", "_law_flags", "_law_words"] "_law_word" (defScope Di) f ad A outer s H e oe) e oe C:=⟨mem_cons_self,hc,⟨fs,hf⟩⟩;have rd:Rdy (Gj P w K mg base ["_law_e", "_law_flags", "_law_words"] "_law_word" (defScope Di) f ad A outer s H e oe):=QH hh hf h2
  refine ⟨_,AE (Ac (i:=1) scWord.nd rfl (Or.inl rfl) (BK (AA (Bq K rfl pX EA.kx rfl B.isi rfl M.e0 (pv 0)) (AA (Bq K rfl pX EA.kx rfl B.isi rfl M.e1 (pv 0)) (AA (Bq K rfl pX EA.kx rfl B.isi rfl M.e2 (pv 0)) (AA (Bq K rfl pX EA.kx rfl B.isi rfl M.e3 (pv 0)) AC))))))
   (AE (Ac (i:=1) scWord.nd rfl (Or.inl rfl) (AZ GQ (pv 1) (BK (AA (Bq K rfl pX EA.kx rfl B.isi rfl M.e4 (pv 0)) (AA (Bq K rfl pX EA.kx rfl B.isi rfl M.e5 (pv 0)) (AA (Bq K rfl pX EA.kx rfl B.isi rfl M.e6 (pv 0)) AC))))))
   (AE (Ac (i:=1) scWord.nd rfl (Or.inl rfl) (AZ GQ (pv 1) (BK (AA (Bq K rfl pX EA.kx rfl B.isi rfl M.e7 (pv 0)) AC))))
   (AE (Ac (i:=1) scWord.nd rfl (Or.inl rfl) (AZ GQ (pv 1) (BK (AA (Bq K rfl pX EA.kx rfl B.isi rfl M.e8 (pv 0)) (AA (Bq K rfl pX EA.kx rfl B.isi rfl M.e9 (pv 0)) (AA (Bq K rfl pX EA.kx rfl B.isi rfl M.e10 (pv 0)) AC))))))
   (AE (Ac (i:=2) scWord.nd rfl (Or.inl rfl) (BK (AA AN (AA AN (AA AN (AA AN (AA AN (AA AN (AA AN AC)))))))))
   (AE (Ac (i:=2) scWord.nd rfl (Or.inl rfl) (AZ GQ (pv 2) (BK (AA AN (AA AN AC)))))
   (AE (Ag (PW.pt (DR (AM Dy (AY (Ho rd) rfl B.sum Op (AA (Mu [] [] (by kernel_rfl) (by decide +kernel) (by kernel_rfl) rd (OF (pv 1)) (fun _ _ _ _ _ _=>By) (fun _ _ _ _ _ _=>BR HV rfl B.int Gx (AA (pv 0) AC))) AC)) AF (AR _))
     (CN (BV (A2 (AY (Hu pX EA.kx) rfl B.isi Eb (AA (pv 0) (AA (LZ (v:=.ty "ValueError") rfl M.ev Ls rfl) AC)))))))) (AD Ah) AV)
   (AD (AL (BE (AA AN (AA (BI (Ar K rfl) (AZ GQ (pv 2) (BK (AA AN (AA AN AC)))) (Es PySem.F.plainAttrs_list PySem.F.slot_list_index PySem.F.type_list_index NC (pv 1) (AA DH AC)) (fun _ _=>rfl)) AC))))))))))),?_⟩
  refine ⟨_,rfl,_,_,_,rfl,.inl ⟨_,rfl,rfl⟩,hdS _ (Same.refl _),kt 0 (by decide),_,rfl,_,_,_,rfl,.inl ⟨_,rfl,rfl⟩,hdS _ (Same.refl _),kt 1 (by decide),_,rfl,_,_,_,rfl,.inl ⟨_,rfl,rfl⟩,hdS _ (Same.refl _),kt 2 (by decide),_,rfl,_,_,_,rfl,.inl ⟨_,rfl,rfl⟩,hdS _ (Same.refl _),kt 3 (by decide),sl4,fun l1 h1=>?_⟩;have s1:=AH (Same.refl H) h1 (o:=.lst [V.bl (decide (0=j)),V.bl (decide (1=j)),V.bl (decide (2=j)),V.bl (decide (3=j))]);have a1:=AB (H:=H) (a:=l1) (o:=.lst [V.bl (decide (0=j)),V.bl (decide (1=j)),V.bl (decide (2=j)),V.bl (decide (3=j))]);generalize upd H l1 (.lst [V.bl (decide (0=j)),V.bl (decide (1=j)),V.bl (decide (2=j)),V.bl (decide (3=j))])=H1 at s1 a1 ⊢;refine ⟨_,rfl,_,rfl,_,_,_,rfl,.inl ⟨_,rfl,rfl⟩,hdS _ s1,kt 4 (by decide),_,rfl,_,_,_,rfl,.inl ⟨_,rfl,rfl⟩,hdS _ s1,kt 5 (by decide),_,rfl,_,_,_,rfl,.inl ⟨_,rfl,rfl⟩,hdS _ s1,kt 6 (by decide),sl3,fun l2 h2'=>?_⟩;refine ⟨l1,l2,_,_,rfl,rfl,(AH (Same.refl H1) h2') _ _ a1,AB,(by show 4 + 3 <= sizeLine; decide),fun l3 h3=>?_⟩;have s3:=s1.trans (AH (AH (Same.refl H1) h2' (o:=.lst [V.bl (decide (4=j)),V.bl (decide (5=j)),V.bl (decide (6=j))])) h3 (o:=.lst ([V.bl (decide (0=j)),V.bl (decide (1=j)),V.bl (decide (2=j)),V.bl (decide (3=j))]++[V.bl (decide (4=j)),V.bl (decide (5=j)),V.bl (decide (6=j))])));generalize e3:upd (upd H1 l2 (.lst [V.bl (decide (4=j)),V.bl (decide (5=j)),V.bl (decide (6=j))])) l3 (.lst ([V.bl (decide (0=j)),V.bl (decide (1=j)),V.bl (decide (2=j)),V.bl (decide (3=j))]++[V.bl (decide (4=j)),V.bl (decide (5=j)),V.bl (decide (6=j))]))=H3 at s3 ⊢;have a3:H3 l3=some (.lst ([V.bl (decide (0=j)),V.bl (decide (1=j)),V.bl (decide (2=j)),V.bl (decide (3=j))]++[V.bl (decide (4=j)),V.bl (decide (5=j)),V.bl (decide (6=j))])):=by rw [← e3,AB]
  refine ⟨_,rfl,_,rfl,_,_,_,rfl,.inl ⟨_,rfl,rfl⟩,hdS _ s3,kt 7 (by decide),sl1,fun l4 h4=>?_⟩;refine ⟨l3,l4,_,_,rfl,rfl,(AH (Same.refl H3) h4) _ _ a3,AB,(by show 7 + 1 <= sizeLine; decide),fun l5 h5=>?_⟩;have s5:=s3.trans (AH (AH (Same.refl H3) h4 (o:=.lst [V.bl (decide (7=j))])) h5 (o:=.lst (([V.bl (decide (0=j)),V.bl (decide (1=j)),V.bl (decide (2=j)),V.bl (decide (3=j))]++[V.bl (decide (4=j)),V.bl (decide (5=j)),V.bl (decide (6=j))])++[V.bl (decide (7=j))])));generalize e5:upd (upd H3 l4 (.lst [V.bl (decide (7=j))])) l5 (.lst (([V.bl (decide (0=j)),V.bl (decide (1=j)),V.bl (decide (2=j)),V.bl (decide (3=j))]++[V.bl (decide (4=j)),V.bl (decide (5=j)),V.bl (decide (6=j))])++[V.bl (decide (7=j))]))=H5 at s5 ⊢;have a5:H5 l5=some (.lst (([V.bl (decide (0=j)),V.bl (decide (1=j)),V.bl (decide (2=j)),V.bl (decide (3=j))]++[V.bl (decide (4=j)),V.bl (decide (5=j)),V.bl (decide (6=j))])++[V.bl (decide (7=j))])):=by rw [← e5,AB]
  refine ⟨_,rfl,_,rfl,_,_,_,rfl,.inl ⟨_,rfl,rfl⟩,hdS _ s5,kt 8 (by decide),_,rfl,_,_,_,rfl,.inl ⟨_,rfl,rfl⟩,hdS _ s5,kt 9 (by decide),_,rfl,_,_,_,rfl,.inl ⟨_,rfl,rfl⟩,hdS _ s5,kt 10 (by decide),sl3,fun l6 h6=>?_⟩;refine ⟨l5,l6,_,_,rfl,rfl,(AH (Same.refl H5) h6) _ _ a5,AB,(by show 8 + 3 <= sizeLine; decide),fun l7 h7=>?_⟩;have s7:=s5.trans (AH (AH (Same.refl H5) h6 (o:=.lst [V.bl (decide (8=j)),V.bl (decide (9=j)),V.bl (decide (10=j))])) h7 (o:=.lst ((([V.bl (decide (0=j)),V.bl (decide (1=j)),V.bl (decide (2=j)),V.bl (decide (3=j))]++[V.bl (decide (4=j)),V.bl (decide (5=j)),V.bl (decide (6=j))])++[V.bl (decide (7=j))])++[V.bl (decide (8=j)),V.bl (decide (9=j)),V.bl (decide (10=j))])));generalize e7:upd (upd H5 l6 (.lst [V.bl (decide (8=j)),V.bl (decide (9=j)),V.bl (decide (10=j))])) l7 (.lst ((([V.bl (decide (0=j)),V.bl (decide (1=j)),V.bl (decide (2=j)),V.bl (decide (3=j))]++[V.bl (decide (4=j)),V.bl (decide (5=j)),V.bl (decide (6=j))])++[V.bl (decide (7=j))])++[V.bl (decide (8=j)),V.bl (decide (9=j)),V.bl (decide (10=j))]))=H7 at s7 ⊢;have a7:H7 l7=some (.lst ((flg j).map V.bl)):=by rw [← e7]; exact AB
  refine ⟨sl7,fun l8 h8=>?_⟩;refine ⟨_,rfl,sl2,fun l9 h9=>?_⟩;refine ⟨l8,l9,_,_,rfl,rfl,(AH (Same.refl _) h9) _ _ AB,AB,(by show 7 + 2 <= sizeLine; decide),fun l10 h10=>?_⟩;have s10:=AH (AH (AH (Same.refl H7) h8 (o:=.lst [V.str "BadRows", V.str "BadRest", V.str "BadText", V.str "Unled", V.str "BadRule", V.str "BadName", V.str "BadNumber"])) h9 (o:=.lst [V.str "Unlike", V.str "BadPairs"])) h10 (o:=.lst ([V.str "BadRows", V.str "BadRest", V.str "BadText", V.str "Unled", V.str "BadRule", V.str "BadName", V.str "BadNumber"]++[V.str "Unlike", V.str "BadPairs"]));generalize e10:upd (upd (upd H7 l8 (.lst [V.str "BadRows", V.str "BadRest", V.str "BadText", V.str "Unled", V.str "BadRule", V.str "BadName", V.str "BadNumber"])) l9 (.lst [V.str "Unlike", V.str "BadPairs"])) l10 (.lst ([V.str "BadRows", V.str "BadRest", V.str "BadText", V.str "Unled", V.str "BadRule", V.str "BadName", V.str "BadNumber"]++[V.str "Unlike", V.str "BadPairs"]))=H10 at s10 ⊢;have a10:H10 l10=some (.lst ([V.str "BadRows", V.str "BadRest", V.str "BadText", V.str "Unled", V.str "BadRule", V.str "BadName", V.str "BadNumber"]++[V.str "Unlike", V.str "BadPairs"])):=by rw [← e10]; exact AB
  have b7:=s10 _ _ a7;refine ⟨_,rfl,l7,rfl,⟨_,SqL.of b7⟩,CH (K:=K) (a:=l7) (xs:=(flg j).map V.bl) (fun i ys H2=>ys=((flg j).take i).map (fun b=>V.int (b1 b))/\H2=H10) ⟨rfl,rfl⟩ (fun i ys H2 _ ⟨_,e⟩=>e ▸ SqL.of b7) (fun i ys H2 ⟨e,_⟩=>?_) ?_ ?_⟩
  ·rw [e,AK,length_take];have:(flg j).length=11:=rfl;omega
  ·rintro i v ys H2 hi ⟨rfl,rfl⟩;rw [getElem?_map] at hi;obtain ⟨b,hb,rfl⟩:=Option.map_eq_some_iff.mp hi;refine ⟨_,rfl,.inr ⟨b,rfl,?_,rfl⟩⟩;rw [take_add_one,hb,Option.toList_some,map_append];rfl
  ·rintro ys H2 ⟨rfl,rfl⟩ p hp;have el:(flg j).take ((flg j).map V.bl).length=flg j:=by rw [AK]; exact take_length
   rw [el];have em:(flg j).map (fun b=>V.int (b1 b))=((flg j).map b1).map V.int:=by rw [map_map]; rfl
   rw [em];have s11:=AH (Same.refl H2) hp (o:=.lst (((flg j).map b1).map V.int));refine ⟨p,(flg j).map b1,rfl,SqL.of AB,fun n hn=>?_,(by rw [MJ j hj]; decide),rfl,_,rfl,?_⟩
   ·obtain ⟨b,_,rfl⟩:=mem_map.mp hn;unfold b1;split <;> decide
   rw [MJ j hj];refine AW ?_;refine ⟨_,rfl,_,_,true,rfl,.inr ⟨_,rfl,rfl⟩,hdS _ (s7.trans (s10.trans s11)),EA.val,_,rfl,?_⟩;refine AW ?_;refine ⟨_,rfl,sl2,fun l11 h11=>?_⟩;have s12:=AH s11 h11 (o:=.lst [V.str "Never", V.str "Nothing"]);refine ⟨l10,l11,_,_,rfl,rfl,s12 _ _ a10,AB,(by show 9 + 2 <= sizeLine; decide),fun l12 h12=>?_⟩;have s13:=AH s12 h12 (o:=.lst (([V.str "BadRows", V.str "BadRest", V.str "BadText", V.str "Unled", V.str "BadRule", V.str "BadName", V.str "BadNumber"]++[V.str "Unlike", V.str "BadPairs"])++[V.str "Never", V.str "Nothing"]));have c7:=s13 _ _ b7;obtain ⟨f1,f2⟩:=Sh j hj;refine ⟨_,rfl,.inl ⟨rfl,_,SqL.of c7⟩,l7,flg j,j,rfl,rfl,c7,f1,f2,l12,_,(j:Int),_,rfl,rfl,SqL.of AB,Si j hj,sl2,fun q hq=>?_⟩;exact k q _ (s7.trans (s10.trans (AH s13 hq))) AB
end
structure RT (K:FG) (ec:Nat->Addr) (cM C:Addr) (j:Nat):Prop where
 ea:ML K ec C j
 cx:A9 K C=true
 n0:(EK K C).contains (.ref (ec 0))=false
 n1:(EK K C).contains (.ref (ec 1))=false
 n2:(EK K C).contains (.ref (ec 2))=false
 n3:(EK K C).contains (.ref (ec 3))=false
 m:(EK K C).contains (.ref cM)=true
noncomputable def HK (j:Nat):Str:=(["at", "bits", "at", "name"]:List Str).getD j ""
structure J0 (K:FG) (ec:Nat->Addr) (C:Addr) (j:Nat):Prop where
 ea:ML K ec C j
 cx:A9 K C=true
 j4:j < 4
 no:∀ i,i < j->(EK K C).contains (.ref (ec i))=false
 m:(EK K C).contains (.ref (ec j))=true
 g:Tg K C (HK j)
structure Nb (K:FG) (mg:SV) (ec:Nat->Addr) (cM:Addr):Prop where
 m:mg "MarkError" = some (.ref cM)
 xm:A9 K cM=true
 x0:A9 K (ec 0)=true
 x1:A9 K (ec 1)=true
 x2:A9 K (ec 2)=true
 x3:A9 K (ec 3)=true
structure FnS (P:Program) (w:World) (K:FG) (mg:SV) (base:Heap) (x:Str) (k:Nat) (ps:List Str) (sp:SpS):Prop where
 ex:∃ f fd,Lu P w K mg base k f fd ps sp/\mg x=some (.ref f)/\W.keepIn K (.ref f)=true/\Binds K fd ps []
def PN (K:FG) (ec:Nat->Addr) (cM C:Addr) (dx:Option Addr) (e:Addr):TS:=fun D σ H=>σ.length=2 /\
 ((∃ j,RT K ec cM C j/\dx=none/\∀ p H',Same H H'->H' p=some (.tup [.str "refused", .str (wd j)])->D.rt (.ref p) H') \/
  ∃ j d v,J0 K ec C j/\dx=some d/\H d=some (.xd [(HK j,v)])/\∀ p H',Same H H'->H' p=some (.tup [.str "refused", .str (wd j),v])->D.rt (.ref p) H')
def J1 (K:FG) (ec:Nat->Addr) (cM:Addr) (Q:VK):XK:=fun Cv dx H2=>∃ C,Cv=.ref C/\∀ e,H2 e=some (Fw e C dx) ->
 ((∃ j,RT K ec cM C j/\dx=none/\∀ p H',Same (del H2 e) H'->H' p=some (.tup [.str "refused", .str (wd j)])->Q (.ref p) H') \/
  ∃ j d v,J0 K ec C j/\dx=some d/\(del H2 e) d=some (.xd [(HK j,v)])/\∀ p H',Same (del H2 e) H'->H' p=some (.tup [.str "refused", .str (wd j),v])->Q (.ref p) H')
theorem scTold:AJ ["_law_deed", "_law_e"] ["_law_deed"] (defScope Am):=fsc
section
variable {ec:Nat->Addr} {cM:Addr}
theorem PP {X:Cx} (K:FG) (hK:X.K=K):OpR X (binaryOp .Add) (Li K):=hK ▸ Pz
theorem Qo {k:Nat} {f lf c':Addr} (F:Fun K "_law_told" "_law_told" Am f fd) (M:LJ mg ec) (EX:Nb K mg ec cM) (GW:FnS P w K mg base "_law_word" 1 ["_law_e"] (Co K ec))
  {A:Around} {outer:List Env} {s:Shared} {H:Hp} {args:Args} {Nl:List Str} {scope:Scope} {cl:List (Str × Addr)} {σl:St} {name qual:Str} {params:Arguments} {body:Expr} {pm ctv:Value} {tl:XK->TE} {Q:VK}
  (hr:Room (k + 2) A) (e0:Env0 P w K mg base A outer s H) (hb:BindsTo s fd args ((["_law_deed"]:List Str).zip [Value.ref lf])) (C:Gk Nl scope cl σl H s.heap) (hfs:∀ x c,cl.lookup x=some c->c ∉ frs outer)
  (h1:H lf=some (FnO lf (W.kla_obj name qual params body scope cl pm c' ctv))) (h2:H c'=some (Ex c' qual))
  (bq:bindArgs (W.kla_fn name qual params body scope cl pm (.ref c') ctv) ⟨[],[]⟩=pure [])
  (hco:scope.isCoroutine=false) (bw:scope.isGenerator=false) (hk:scope.kind=.function) (bi:∀ x ∈ scope.names,x.2 ≠ .cell)
  (cz:∀ (A':Around) (outer':List Env) (s':Shared) (H':Hp) (E:XK),Room k (A'.deeper (W.envX qual scope s'.heap.objs.size lf (.ref c') cl))->PE (D1 P w K mg base Nl qual scope lf (.ref c') cl A' outer' s' H' E) body (tl E))
  (h:tl (J1 K ec cM Q) σl H Q):codeAny (model P w) A (.call (.ref f) args) (CR CX0 outer P w H s Q E0) s:=by
 obtain ⟨fW,dW,GW,mW,kW,bW⟩:=GW.ex;refine F.at (N:=["_law_deed", "_law_e"]) scTold (vs:=[.ref lf]) rfl (k:=k + 1) hr e0 hb (.cons rfl .nil) fun ad hr1=>?_;have own:=SG (CX:=CX0) (P:=P) (w:=w) (K:=K) (mg:=mg) (base:=base) (N:=["_law_deed", "_law_e"]) (qual := "_law_told") (scope:=defScope Am) (f:=f) (cd:=ad) (A:=A) (outer:=outer) (s:=s) (H:=H) (E:=E0)
 have hrm:∀ e:Addr,RoomS 1 ((A.deeper (PyProof.Rows.envOfC "_law_told" (defScope Am) s.heap.objs.size f ad)).mark (some (.ref e))):=fun e=>by
  have q:=hr1.mono (show 1 <= k + 1 by omega);exact ⟨q.dp,q.un⟩
 refine ⟨_,AD (SJ (tb:=fun E=>No (Jh 0 lf c' qual (W.kla_obj name qual params body scope cl pm c' ctv) σl (tl E))) (th:=PN K ec cM) own (fun P0 xe E hx=>?_) (fun CC dx=>?_)),?_⟩
 ·exact AD (AL (Kx (X:=Ew (BG CX0 P w K mg base ["_law_deed", "_law_e"] "_law_told" (defScope Am) f ad A outer s H E0) P0 xe) (i:=0) (k:=k + 1) rfl (Or.inl rfl) hr1 C hfs rfl hx bq hco bw hk bi (fun s' H'=>cz _ _ s' H' E (hr1.deeper _))))
 ·intro aa s1 σ H1 D e oe T oT c I h;obtain ⟨hl,⟨j,EP,rfl,kq⟩ | ⟨j,d,v,EF,rfl,hxd,kq⟩⟩:=h
  ·refine (?hp:PH (BG CX0 P w K mg base ["_law_deed", "_law_e"] "_law_told" (defScope Am) f ad A outer s H E0) CC none _ (fun e=>Lv 1 (fun D σ H=>σ[1]?=some (some (.ref e))/\∀ p H',Same H H'->H' p=some (.tup [.str "refused", .str (wd j)])->D.rt (.ref p) H') e)) aa s1 σ H1 D e oe T oT c I ?_
   ·refine Bz (Dn:=ec 0) EP.cx EX.x0 rfl M.e0 EP.n0 ?_;refine Bz (Dn:=ec 1) EP.cx EX.x1 rfl M.e1 EP.n1 ?_;refine Bz (Dn:=ec 2) EP.cx EX.x2 rfl M.e2 EP.n2 ?_;refine Bz (Dn:=ec 3) EP.cx EX.x3 rfl M.e3 EP.n3 ?_;refine Lw (Dn:=cM) (i:=1) (tb:=fun (e:Addr) (D:D7) (σ:St) (H:Hp)=>σ[1]?=some (some (V.ref e))/\∀ p H',Same H H'->H' p=some (.tup [.str "refused", .str (wd j)])->D.rt (.ref p) H') scTold.nd rfl rfl EP.cx EX.xm rfl EX.m EP.m (fun e oe T oT c=>?_);refine fun aa s2 σ2 H2 D2 I2 h2=>?_;obtain ⟨fs,hd,hf1,hf2⟩:=c.fld;refine (?hb2:PSs (BO (BG CX0 P w K mg base ["_law_deed", "_law_e"] "_law_told" (defScope Am) f ad A outer s H E0) e oe T oT) _ (No (Ij (Co K ec) e oe (Ao (Fu 1) Cr)))) aa s2 σ2 H2 D2 I2 ⟨_,h2.1,rfl,CC,j,fs,c.cls,hd,hf2,.inl c.dict,EP.ea,h2.2⟩;exact AD (AL (Jg (X:=BO (BG CX0 P w K mg base ["_law_deed", "_law_e"] "_law_told" (defScope Am) f ad A outer s H E0) e oe T oT) (e:=e) (oe:=oe) GW (hrm e) rfl (by simp [BO]) rfl mW kW bW (AA (pv 1) AC)))
   ·exact ⟨by rw [List.getElem?_set_self (by omega)],kq⟩
  ·have hj4:=EF.j4;refine (?hq:PH (BG CX0 P w K mg base ["_law_deed", "_law_e"] "_law_told" (defScope Am) f ad A outer s H E0) CC (some d) _ (fun e=>Lv 1 (fun D σ H=>σ[1]?=some (some (.ref e))/\H d=some (.xd [(HK j,v)])/\∀ p H',Same H H'->H' p=some (.tup [.str "refused", .str (wd j),v])->D.rt (.ref p) H') e)) aa s1 σ H1 D e oe T oT c I ?_
   ·have take:∀ {x:Str} {b₀:Stmt} {np pos:Pos} {hs:List ExceptHandler} (Dn:Addr),A9 K Dn=true->(hg:Gl (BG CX0 P w K mg base ["_law_deed", "_law_e"] "_law_told" (defScope Am) f ad A outer s H E0) x)->mg x=some (.ref Dn)->(EK K CC).contains (.ref Dn)=true->(x == ("__debug__" : Str))=false ->
      (∀ e oe T oT,Cgt CC (some d) e oe T oT->PSs (BO (BG CX0 P w K mg base ["_law_deed", "_law_e"] "_law_told" (defScope Am) f ad A outer s H E0) e oe T oT) [b₀] (No (tOp (Li K) (Ij (Co K ec) e oe (Ao (Fu 1) Cr)) (Ru (Ao (Oi e oe (HK j) (Fu 1)) Cr))))) ->
      PH (BG CX0 P w K mg base ["_law_deed", "_law_e"] "_law_told" (defScope Am) f ad A outer s H E0) CC (some d) (.ExceptHandler (some (.Name x np)) (some "_law_e") [b₀] pos :: hs) (fun e=>Lv 1 (fun D σ H=>σ[1]?=some (some (.ref e))/\H d=some (.xd [(HK j,v)])/\∀ p H',Same H H'->H' p=some (.tup [.str "refused", .str (wd j),v])->D.rt (.ref p) H') e):=fun {x b₀ np pos hs} Dn hD hg hm hc hdb hbod =>
     Lw (Dn:=Dn) (i:=1) (tb:=fun (e:Addr) (D:D7) (σ:St) (H:Hp)=>σ[1]?=some (some (V.ref e))/\H d=some (.xd [(HK j,v)])/\∀ p H',Same H H'->H' p=some (.tup [.str "refused", .str (wd j),v])->D.rt (.ref p) H') scTold.nd rfl rfl EF.cx hD hg hm hc (fun e oe T oT c=>by
      refine fun aa s2 σ2 H2 D2 I2 h2=>?_;obtain ⟨fs,hd,hf1,hf2⟩:=c.fld;obtain ⟨g1,g2,g3⟩:=h2;refine hbod e oe T oT c aa s2 σ2 H2 D2 I2 ⟨_,g1,rfl,CC,j,fs,c.cls,hd,hf2,.inr ⟨d,_,c.dict,g2⟩,EF.ea,fun p H' sp hp=>?_⟩;refine ⟨_,g1,d,_,v,rfl,c.dict,sp _ _ g2,(by simp),sl1,fun q hq=>?_⟩;have sq:=AH (Same.refl H') hq (o:=.tup [v]);refine ⟨p,q,_,_,rfl,rfl,SqT.of (sq _ _ hp),SqT.of AB,(by simp),(by show 2 + 1 <= sizeLine; decide),(fun z=>nomatch z),fun _ r hr=>?_⟩
      exact g3 r _ (sp.trans (AH sq hr)) AB) hdb
    have pX:∀ e oe T oT,Cgt CC (some d) e oe T oT->ExcP (BO (BG CX0 P w K mg base ["_law_deed", "_law_e"] "_law_told" (defScope Am) f ad A outer s H E0) e oe T oT) e oe CC:=fun e oe T oT c=>by
     obtain ⟨fs,hd,_⟩:=c.fld;exact ⟨by simp [BO],c.cls,⟨fs,hd⟩⟩
    have bod:∀ {fl:Str} {p1 p2 p3 p4 p5 p6 p7:Pos} {kt:Nat},HK j=fl->∀ e oe T oT,Cgt CC (some d) e oe T oT->PSs (BO (BG CX0 P w K mg base ["_law_deed", "_law_e"] "_law_told" (defScope Am) f ad A outer s H E0) e oe T oT) [.Return (some (.BinOp (.Call (.Name "_law_word" p1) [.Name "_law_e" p2] [] p3) .Add (.Tuple [.Attribute (.Name "_law_e" p4) fl p5] kt p6) p7)) p7] (No (tOp (Li K) (Ij (Co K ec) e oe (Ao (Fu 1) Cr)) (Ru (Ao (Oi e oe (HK j) (Fu 1)) Cr)))):=fun ae e oe T oT c=>by
     subst ae;exact AD (AL (AZ (PP K rfl) (Jg (X:=BO (BG CX0 P w K mg base ["_law_deed", "_law_e"] "_law_told" (defScope Am) f ad A outer s H E0) e oe T oT) (e:=e) (oe:=oe) GW (hrm e) rfl (by simp [BO]) rfl mW kW bW (AA (pv 1) AC)) (BE (AA (QR (pX e oe T oT c) EF.g (pv 1) rfl) AC))))
    rcases (show j=0\/j=1\/j=2\/j=3 by omega) with z | z | z | z
    ·subst z;exact take (ec 0) EX.x0 rfl M.e0 EF.m (by decide) (bod rfl)
    ·subst z;refine Bz (Dn:=ec 0) EF.cx EX.x0 rfl M.e0 (EF.no 0 (by decide)) ?_;exact take (ec 1) EX.x1 rfl M.e1 EF.m (by decide) (bod rfl)
    ·subst z;refine Bz (Dn:=ec 0) EF.cx EX.x0 rfl M.e0 (EF.no 0 (by decide)) ?_;refine Bz (Dn:=ec 1) EF.cx EX.x1 rfl M.e1 (EF.no 1 (by decide)) ?_;exact take (ec 2) EX.x2 rfl M.e2 EF.m (by decide) (bod rfl)
    ·subst z;refine Bz (Dn:=ec 0) EF.cx EX.x0 rfl M.e0 (EF.no 0 (by decide)) ?_;refine Bz (Dn:=ec 1) EF.cx EX.x1 rfl M.e1 (EF.no 1 (by decide)) ?_;refine Bz (Dn:=ec 2) EF.cx EX.x2 rfl M.e2 (EF.no 2 (by decide)) ?_;exact take (ec 3) EX.x3 rfl M.e3 EF.m (by decide) (bod rfl)
   ·exact ⟨by rw [List.getElem?_set_self (by omega)],hxd,kq⟩
 ·refine ⟨rfl,h1,h2,?_⟩
  have e:QJ (BG CX0 P w K mg base ["_law_deed", "_law_e"] "_law_told" (defScope Am) f ad A outer s H E0).N.length (PN K ec cM) { nx:=fun _ H'=>Q .non H',rt:=Q }=J1 K ec cM Q:=by
   funext Cv dx H2;unfold QJ J1 PN;simp [BG]
  rw [← e] at h;exact h
end
end Mk
end
section
namespace L2
open PySem PySem.Spec PyProof.Rows
noncomputable def Qp (ix:List Nat) (σ:St):St:=ix.map fun j=>(σ[j]?).getD none
structure LamN (X:Cx) (Nl:List Str) (ix:List Nat) (scope:Scope) (clos:List (Str × Addr)):Prop where
 len:ix.length=Nl.length
 nm:∀ (i:Nat) (x:Str),Nl[i]?=some x->∃ j:Nat,ix[i]?=some j/\X.N[j]?=some x/\X.env.scope.names.lookup x=some .cell/\scope.names.lookup x=some .free
 cl:∀ x c,clos.lookup x=some c->X.env.cells.lookup x=some c
 has:∀ x,(scope.names.lookup x=some .cell\/scope.names.lookup x=some .free)->∃ c,clos.lookup x=some c
 fn:∀ x,X.fn x=true
section
variable {X:Cx} {aa:LO} {σ:St} {s:Shared} {Nl:List Str} {ix:List Nat} {scope:Scope} {clos:List (Str × Addr)}
theorem LamN.cells (L:LamN X Nl ix scope clos) (I:Inv X aa σ H s):Gk Nl scope clos (Qp ix σ) H s.heap:=by
 refine ⟨fun x y c h1 h2=>I.ok.inj x y c (L.cl x c h1) (L.cl y c h2),L.has,fun x c h=>⟨I.cell x c (L.cl x c h),I.freeC x c (L.cl x c h)⟩,fun i x v h1 h2=>?_,?_⟩
 ·obtain ⟨j,hj,hN,hk,hf⟩:=L.nm i x h1;refine ⟨hf,?_⟩;unfold Qp at h2;rw [getElem?_map,hj] at h2
  have hv:σ[j]?=some (some v):=by
   simp only [Option.map_some,Option.some.injEq] at h2;cases e:σ[j]? with
   | none=>rw [e] at h2; cases h2
   | some o=>rw [e] at h2; simp only [Option.getD_some] at h2; rw [h2]
  obtain ⟨m,_,hl⟩:=I.loc;obtain ⟨u,r,l⟩:=hl j x v hN hv (.inr (.inl hk));rcases l with ⟨l,_⟩ | ⟨_,c,e,z⟩
  ·rw [show X.env.kindOf x=X.env.scope.names.lookup x from rfl,hk] at l; cases l
  ·obtain ⟨c2,e2⟩:=L.has x (.inr hf);have e3:=L.cl x c2 e2;rw [e] at e3;cases e3;exact ⟨u,c,r,e2,z⟩
 ·unfold Qp; rw [AK]; exact L.len
theorem LamN.far (L:LamN X Nl ix scope clos) (I:Inv X aa σ H s):∀ x c,clos.lookup x=some c->c ∉ frs X.stack:=fun x c h z=>by
 have hc:=L.cl x c h;rcases mem_cons.mp (I.stkSub c z) with z | z
 ·exact I.cne x c hc z
 ·obtain ⟨_,o,ho,_⟩:=I.ok.funs.mem z;exact absurd (Nat.lt_of_lt_of_le (lt_size ho) (I.ok.cab x c (L.fn x) hc)) (Nat.lt_irrefl _)
end
end L2
namespace Mk
open PySem L2 MK
section
variable {X:Cx} {ec:Nat->Addr} {cM c P0:Addr} {ls:List Pos} {lpos:Pos}
def PQ (K:FG) (ec:Nat->Addr) (cM P0:Addr) (qual:Str) (ls:List Pos) (ix:List Nat) (tl:XK->TE):TE:=fun σ H Q=>TabOk H P0 qual ls/\∀ H',Hw P0 H H'->TabOk H' P0 qual ls->tl (J1 K ec cM Q) (Qp ix σ) H' Q
theorem MM {k:Nat} {f:Addr} (F:Fun X.K "_law_told" "_law_told" Am f fd) (M:LJ X.mg ec) (EX:Nb X.K X.mg ec cM) (GW:FnS X.prog X.w X.K X.mg X.base "_law_word" 1 ["_law_e"] (Co X.K ec))
  (hr:Room (k + 2) X.A) (hg:Gl X "_law_told") (hm:X.mg "_law_told" = some (.ref f)) (hkp:W.keepIn X.K (.ref f)=true) (hB:Binds X.K fd ["_law_deed"] [])
  {Nl:List Str} {ix:List Nat} {scope:Scope} {clos:List (Str × Addr)} {params:Arguments} {body:Expr} {tl:XK->TE} {p pos:Pos}
  (L:Og X c P0) (hls:lpos ∈ ls) (ax:∀ q ∈ ls,q=lpos\/(q.line == lpos.line && q.col == lpos.col)=false) (af:closureFor scope X.env=pure clos) (cv:defaultsOf params X.env=([],[])) (LN:LamN X Nl ix scope clos)
  (bq:∀ pm c' ctv,bindArgs (W.kla_fn "<lambda>" (X.env.qual ++ "<lambda>") params body scope clos pm (.ref c') ctv) ⟨[],[]⟩=pure [])
  (hco:scope.isCoroutine=false) (bw:scope.isGenerator=false) (hk:scope.kind=.function) (bi:∀ x ∈ scope.names,x.2 ≠ .cell)
  (cz:∀ (lf c':Addr) (A':Around) (outer':List Env) (s':Shared) (H':Hp) (E:XK),Room k (A'.deeper (W.envX (X.env.qual ++ "<lambda>") scope s'.heap.objs.size lf (.ref c') clos))->PE (D1 X.prog X.w X.K X.mg X.base Nl (X.env.qual ++ "<lambda>") scope lf (.ref c') clos A' outer' s' H' E) body (tl E))
  (he:starEach [.Lambda params body scope lpos] X.env=(false,eval (.Lambda params body scope lpos) X.env) :: starEach [] X.env:=by rfl) (hpl:(backTo pos (starEach [] X.env)).any (·.1)=false:=by rfl) :
  PE X (.Call (.Name "_law_told" p) [.Lambda params body scope lpos] [] pos) (PQ X.K ec cM P0 (X.env.qual ++ "<lambda>") ls ix tl):=by
 intro aa s σ H Q I ⟨hT,h⟩;refine wpAny_Call_Name_kw (Bb I hg hm ?_ (by decide));have ha:PA X [.Lambda params body scope lpos] (Ao (Td P0 (X.env.qual ++ "<lambda>") ls (fun c' ctv=>W.kla_obj "<lambda>" (X.env.qual ++ "<lambda>") params body scope clos ((X.mg "__name__").getD .none) c' ctv)) Cr):=AA (SK L hls ax af cv) AC he;refine W.callWith_K (h₀:=X.base) I.ok.mod.kin hkp (thn (ha pos aa s σ H (fun vs H1=>∃ lf c' ctv,vs=[.ref lf]/\Hw P0 H H1/\TabOk H1 P0 (X.env.qual ++ "<lambda>") ls/\H1 lf=some (FnO lf (W.kla_obj "<lambda>" (X.env.qual ++ "<lambda>") params body scope clos ((X.mg "__name__").getD .none) c' ctv))/\H1 c'=some (Ex c' (X.env.qual ++ "<lambda>"))) I ⟨hT,fun lf c' ctv H' _ hs ht h1 h2=>⟨lf,c',ctv,rfl,hs,ht,h1,h2⟩⟩) fun us s1 ⟨vs,H1,I1,r,lf,c',ctv,ev,hs,ht,h1,h2⟩=>⟨I1.kIn,?_⟩) he hpl;subst ev;obtain ⟨u,eu,ru⟩:=Bs r;subst eu;obtain rfl:u=Value.ref lf:=ru;have bb:=hB s1 [.ref lf] I1.kIn rfl;rw [append_nil] at bb;refine wpAny_call (codeAny_mono (Qo (k:=k) F M EX GW hr I1.env0 bb (LN.cells I1) (LN.far I1) h1 h2 (bq _ _ _) hco bw hk bi (cz lf c') (h H1 hs ht)) fun r s' hq=>?_);cases r with
 | error e=>exact False.elim hq
 | ok fl =>
  cases fl with
  | ret u=>exact I1.after hq
  | next=>exact False.elim hq
  | brk=>exact False.elim hq
  | cont=>exact False.elim hq
end
section
variable {cM cR:Addr}
structure Tn (P:Program) (w:World) (K:FG) (mg:SV) (base:Heap) (cM:Addr):Prop where
 cls:mg "MarkError" = some (.ref cM)
 ga:W.specialIn K (.ref cM) "__getattribute__" = some (some (.builtin "type.__getattribute__"))
 rd:W.readsIn K cM (.type "type")=true
 fn:∃ f fd,W.findCls K (.ref cM) (.type "type") "__init__" = some (.val (.ref f))/\AX P w K mg base CX0 1 f fd ["self", "words"] (spErrInit K)/\W.keepIn K (.ref f)=true/\Binds K fd ["self", "words"] []
inductive spRestInit (K:FG) (cM:Addr) (vs:List V) (H:Hp) (Q:VK) (_E:XK):Prop where
 | mk (e C:Addr) (n:Int) (z_0:vs=[.ref e,.int n]) (z_1:n.natAbs.log2 < 1920) (z_2:A9 K C=true) (z_3:H e=some (Eu e C none)) (z_4:Oh K C cM "bits") (z_5:∀ d,H d=none->d ≠ e->Q .non (upd (upd H e (Eu e C (some d))) d (.xd [("bits", .int n)])))
theorem LL:AJ ["self", "bits"] ["self", "bits"] (defScope C7):=fsc
theorem J3 {f:Addr} (F:Fun K "__init__" "BadRest.__init__" C7 f fd) (ME:Tn P w K mg base cM):AX P w K mg base CX0 2 f fd ["self", "bits"] (spRestInit K cM):=by
 obtain ⟨fI,dI,hf,GI,kI,bI⟩:=ME.fn;have mM:=ME.cls;refine F.m LL fun vs H Q E h=>?_;obtain ⟨e,C,n,rfl,hn,hC,he,S,k⟩:=h;refine ⟨rfl,fun ad A outer s hr=>?_⟩;refine ⟨_,AE (BJ (Ky rfl mM ME.ga ME.rd hf GI hr kI bI .nil AQ (AA (pv 0) (AA (QQ (by decide +kernel) (pv 1)) AC)))) (AD (QP (M:=cM) (pv 0) (pv 1) rfl)),?_⟩;refine ⟨_,rfl,_,rfl,.inl ⟨n,rfl,hn⟩,fun z=>⟨e,C,none,z,rfl,hC,he,?_⟩⟩;exact ⟨_,rfl,_,rfl,e,C,rfl,he,S,k⟩
def UqR (H:Hp) (E:XK) (cR:Addr) (n:Int):Prop:=∀ e d H',Same H H'->H e=none->H d=none->d ≠ e->H' e=some (Fw e cR (some d))->H' d=some (.xd [("bits", .int n)])->E (.ref cR) (some d) H'
structure PR (P:Program) (w:World) (K:FG) (mg:SV) (base:Heap) (cM cR:Addr):Prop where
 cls:mg "BadRest" = some (.ref cR)
 make:∃ f fd,MkX K cR f/\AX P w K mg base CX0 2 f fd ["self", "bits"] (spRestInit K cM)/\Binds K fd ["self", "bits"] []
 st:Oh K cR cM "bits"
theorem Nd {σ:St} {H1:Hp} {E:XK} {D:D7} {n:Int} {te:TE} (hC:A9 K cR=true) (S:Oh K cR cM "bits") (hn:n.natAbs.log2 < 1920) (s1:Same H H1) (h:UqR H E cR n) (ht:te σ H1=fun Q=>Q (.int n) H1) :
  OV cR (OT cR (spRestInit K cM) [] E0 (Ao te Cr)) E D σ H1:=by
 show te σ H1 _;rw [ht];refine ⟨(by show 1 <= 1000; decide),fun a ha=>?_⟩;refine ⟨a,cR,n,rfl,hn,hC,AB,S,fun d hd ax=>⟨rfl,a,some d,rfl,?_,?_⟩⟩
 ·rw [AG (Ne.symm ax),AB]
 ·have hd1:H1 d=none:=by rw [AG ax] at hd; exact hd
  refine h a d _ (fun b u e=>?_) (none_of s1 ha) (none_of s1 hd1) ax AB ?_
  ·have e1:=s1 _ _ e;have nb:b ≠ a:=AI e1 ha;have nd:b ≠ d:=AI e1 hd1;rw [AG nb,AG nd,AG nb,AG nb];exact e1
  ·rw [AG ax,AB]
end
noncomputable def plain (i:Int):Nat:=if 0 <= i then i.toNat else (-i - 1).toNat
noncomputable def AT (due:Aa) (i:Int):Nat:=plain i - (plain i &&& kn due)
theorem Fj (i:Int):(plain i:Int)=if 0 <= i then i else -i - 1:=by
 unfold plain;split <;> omega
theorem PU {i:Int} (h1:-1099511627776 <= i) (h2:i < 1099511627776):plain i < 2 ^ 40:=by
 have e:(2:Nat) ^ 40=1099511627776:=by decide
 unfold plain;split <;> omega
theorem LM (x m:Nat):(x &&& m) - ((x &&& m) &&& m)=0:=by
 have h:(x &&& m) &&& m=x &&& m:=by
  refine Nat.eq_of_testBit_eq fun k=>?_;simp only [Nat.testBit_and];cases x.testBit k <;> cases m.testBit k <;> rfl
 omega
theorem IF {n:Nat} (h:n < 2 ^ 40):((n:Int)).natAbs.log2 < 1920:=by
 rw [Int.natAbs_natCast];rcases Nat.eq_zero_or_pos n with z | z
 ·subst z; decide
 ·have:=(Nat.log2_lt (by omega)).mpr h;omega
section
variable {cM cR:Addr}
inductive spMade (C VC cR:Addr) (vs:List V) (H:Hp) (Q:VK) (E:XK):Prop where
 | mk (kp:Addr) (due:Aa) (r:Str) (i:Int) (z_0:vs=[.ref kp,.int i]) (z_1:KindAt C H kp due r) (z_2:kn due < 2 ^ 20) (z_3:-1099511627776 <= i) (z_4:i < 1099511627776) (z_5:((AT due i ≠ 0/\r = "bar" /\ UqR H E cR (AT due i:Nat)) \/    (¬ (AT due i ≠ 0/\r = "bar")/\i < 0/\∀ q H',Same H H'->ValAt VC H' q kp (kn due - (kn due &&& plain i))->Q (.ref q) H') \/    (¬ (AT due i ≠ 0/\r = "bar")/\0 <= i/\AT due i ≠ 0/\r = "leave" /\ ∀ H',Same H H'->Q (.int i) H') \/    (¬ (AT due i ≠ 0/\r = "bar")/\0 <= i/\¬ (AT due i ≠ 0/\r = "leave")/\∀ q H',Same H H'->ValAt VC H' q kp (if r = "keep" then plain i else plain i - AT due i)->Q (.ref q) H')))
theorem scMade:AJ ["kind", "number", "bits", "rest"] ["kind", "number"] (defScope Ly):=fsc
theorem Qq {f:Addr} {tL:Tok} (F:Fun K "made" "made" Ly f fd) (hL:mg "LIMIT" = some (.int 1099511627776 tL)) (T:Dx K C) (VO:MH P w K mg base C VC) (RO:PR P w K mg base cM cR)
  (GW:Fn P w K mg base "is_whole" 1 ["thing"] spIsWhole) (GR:Fn P w K mg base "rest_of" 3 ["kind", "number"] (spRestOf C)) (GRe:Mt P w K mg base C "rest" 1 ["self"] (spRest C)) (GK:Mt P w K mg base C "known" 2 ["self"] (spKnown C)) :
  AX P w K mg base (CXr P w) 6 f fd ["kind", "number"] (spMade C VC cR):=by
 obtain ⟨fW,dW,GW,mW,kW,bW⟩:=GW.ex;obtain ⟨fR,dR,GR,mR,kR,bR⟩:=GR.ex;obtain ⟨fE,dE,GE,mE,bE⟩:=GRe.ex;obtain ⟨fK,dK,GK,mK,bK⟩:=GK.ex;obtain ⟨fI,dI,MI,GI,bI⟩:=VO.make;obtain ⟨fX,dX,MX,GX,bX⟩:=RO.make;have mV:=VO.cls;have mB:=RO.cls;refine F.n scMade fun vs H Q E h=>?_;obtain ⟨kp,due,r,i,rfl,KA,hk20,hi1,hi2,h⟩:=h;refine ⟨rfl,fun ad A outer s hr=>?_⟩;have hr1:Room 1 _:=hr.mono (by decide);have hr2:Room 2 _:=hr.mono (by decide);have hr3:Room 3 _:=hr.mono (by decide);have rz:=QC (P:=P) (w:=w) (K:=K) (mg:=mg) (base:=base) (N:=["kind", "number", "bits", "rest"]) (qual := "made") (scope:=defScope Ly) (f:=f) (cd:=ad) (A:=A) (outer:=outer) (s:=s) (H:=H) (E:=E);obtain ⟨dxk,d1,d2,ah⟩:=KA.ins
 refine ⟨_,AE (Ag (PW.pt (DR (BV (A2 (AS GW hr1 rfl mW kW bW .nil AQ (AA (pv 1) AC)))) (CN (BV (Em Ej Fo (DU ED (A8 (v:=.int 1099511627776) rfl hL ⟨tL,rfl⟩)) (pv 1) (A8 (v:=.int 1099511627776) rfl hL ⟨tL,rfl⟩)))))) (AD Ah) AV)
  (BD (Ac (i:=2) scMade.nd rfl (Or.inl rfl) (BX (AM JH (pv 1) AF (AR _)) (pv 1) (AZ B9 (DU ED (pv 1)) AF)))
  (AE (Ac (i:=3) scMade.nd rfl (Or.inl rfl) (AS GR hr3 rfl mR kR bR .nil AQ (AA (pv 0) (AA (pv 2) AC))))
  (BD (Ag (PW.pt (B6 (AM Dy (pv 3) AF (AR _)) (Bc (AM Aw (A3 (pv 0) T.cl mE GE hr1 bE .nil AQ) AN (AR _))))) (AD (OW rz rfl MX.cls (OU MX GX hr3 rfl mB bX .nil AQ (AA (pv 3) AC)))) AV)
  (AE (Ag (AM Fo (pv 1) AF (AR _)) (AD (AL (IR MI GI hr rfl mV bI .nil AQ (AA (pv 0) (AA (AZ CA (A3 (pv 0) T.cl mK GK hr2 bK .nil AQ) (DU IN (pv 2))) AC))))) AV)
  (BD (Ag (PW.pt (B6 (AM Dy (pv 3) AF (AR _)) (Bc (AM Aw (A3 (pv 0) T.cl mE GE hr1 bE .nil AQ) AN (AR _))))) (AD (AL (pv 1))) AV)
  (AD (AL (IR MI GI hr rfl mV bI .nil AQ (AA (pv 0) (AA (BX (AM Aw (A3 (pv 0) T.cl mE GE hr1 bE .nil AQ) AN (AR _)) (pv 2) (AZ B9 (pv 2) (pv 3))) AC)))))))))),?_⟩
 have noR:(Fy d1 d2 r).lookup ("rest" : Str)=none:=(CG _ _ _);have noK:(Fy d1 d2 r).lookup ("known" : Str)=none:=(CG _ _ _);refine ⟨_,rfl,i,rfl,_,rfl,?_⟩;refine AW ?_;refine ⟨_,rfl,_,rfl,_,_,rfl,rfl,_,rfl,?_⟩;rw [decide_eq_true (show -1099511627776 <= i from hi1)];refine Aj ?_;refine ⟨_,_,rfl,rfl,_,rfl,?_⟩;rw [decide_eq_true (show i < 1099511627776 from hi2)];refine AW ?_;refine ⟨fun σ H1=>σ=[some (.ref kp),some (.int i),some (.int (plain i:Nat)),none]/\H1=H,fun R hR=>?_,?_⟩
 ·refine ⟨_,rfl,_,_,rfl,rfl,_,rfl,?_⟩;have e:=Fj i;refine BY (fun hc=>?_) (fun hc=>?_)
  ·have h0:0 <= i:=of_decide_eq_true hc;rw [if_pos h0] at e;refine ⟨_,rfl,hR _ _ ⟨?_,rfl⟩⟩;rw [e];rfl
  ·have h0:¬ 0 <= i:=fun z=>hc (decide_eq_true z);rw [if_neg h0] at e;refine ⟨_,rfl,_,rfl,_,_,rfl,rfl,hR _ _ ⟨?_,rfl⟩⟩;rw [e];rfl
 rintro σ H0 ⟨rfl,rfl⟩;refine ⟨_,rfl,_,rfl,kp,due,r,plain i,rfl,KA,fun H1 s1=>?_⟩;have hb40:=PU hi1 hi2;have hs40:AT due i < 2 ^ 40:=Nat.lt_of_le_of_lt (Nat.sub_le _ _) hb40;have KA1:=KA.same s1;have cc:=s1 _ _ ah;have eS:∀ n:Nat,decide (V.int (n:Int)=V.int 0)=decide (n=0):=fun n=>decide_eq_decide.mpr ⟨fun z=>by have:=V.int.inj z; omega,fun z=>by rw [z]; rfl⟩;refine ⟨fun σ H2=>¬ (AT due i ≠ 0/\r = "bar")/\σ=[some (.ref kp),some (.int i),some (.int (plain i:Nat)),some (.int (AT due i:Nat))]/\H2=H1,fun R hR=>?_,?_⟩
 ·refine ⟨_,rfl,rfl,_,rfl,?_⟩;show if (!decide (V.int ((AT due i:Nat):Int)=V.int 0))=true then _ else _
  rw [eS];by_cases hz:AT due i=0
  ·rw [decide_eq_true hz];exact AW (AW (hR _ _ ⟨fun z=>z.1 hz,rfl,rfl⟩))
  ·rw [decide_eq_false hz];refine Aj ?_;refine ⟨_,rfl,kp,dxk,_,rfl,cc,noR,kp,due,r,rfl,KA1,rfl,_,rfl,?_⟩;by_cases bh:r = "bar"
   ·rw [decide_eq_true (show V.str r=V.str "bar" by rw [bh])];refine Aj ?_;rcases h with ⟨_,_,hU⟩ | ⟨hn,_⟩ | ⟨hn,_⟩ | ⟨hn,_⟩
    ·exact Nd (te:=Fu 3) MX.cls RO.st (IF hs40) s1 hU (by funext Q'; exact propext ⟨fun ⟨v,e,q⟩=>by cases e; exact q,fun q=>⟨_,rfl,q⟩⟩)
    ·exact absurd ⟨hz,bh⟩ hn
    ·exact absurd ⟨hz,bh⟩ hn
    ·exact absurd ⟨hz,bh⟩ hn
   ·rw [decide_eq_false (show ¬ V.str r=V.str "bar" from fun z=>bh (V.str.inj z))];exact AW (hR _ _ ⟨fun z=>bh z.2,rfl,rfl⟩)
 rintro σ H2 ⟨hnb,rfl,rfl⟩;refine ⟨_,rfl,_,_,rfl,rfl,_,rfl,?_⟩;rcases h with ⟨z1,z2,_⟩ | ⟨_,c8,k⟩ | ⟨_,hnn,hs0,hlv,k⟩ | ⟨_,hnn,hnl,k⟩
 ·exact absurd ⟨z1,z2⟩ hnb
 ·rw [decide_eq_true (show i < 0 from c8)];refine Aj ?_;refine ⟨_,rfl,_,rfl,kp,dxk,_,rfl,cc,noK,kp,due,r,rfl,KA1,fun H3 s3=>⟨_,rfl,_,rfl,_,_,rfl,rfl,?_⟩⟩;intro q dq hq hdq ax;have sN:=Dp (D:=VC) hq hdq ax;have eb:Builtin.bitAnd ((Ak ((Ab due).map (·.1)):Nat):Int) (Builtin.bitNot (plain i:Int))=((kn due - (kn due &&& plain i):Nat):Int):=by rw [C5,FC]; rfl
  refine ⟨q,dq,kp,due,r,kn due - (kn due &&& plain i),?_,AB,((KA1.same s3).same sN),?_,.inr (I0 _ _),fun H4 s4 hV=>⟨rfl,k q H4 ((s1.trans s3).trans (Du sN hq s4)) hV⟩⟩
  ·show [V.ref q,V.ref kp,V.int (Builtin.bitAnd ((Ak ((Ab due).map (·.1)):Nat):Int) (Builtin.bitNot (plain i:Int)))]=_;rw [eb]
  ·have h1:kn due - (kn due &&& plain i) <= kn due:=Nat.sub_le _ _;have h2:(2:Nat) ^ 20 < 2 ^ 40:=by decide
   omega
 ·rw [decide_eq_false (show ¬ i < 0 by omega)];refine AW ?_;refine ⟨fun _ _=>False,fun R hR=>?_,fun _ _ z=>z.elim⟩;refine ⟨_,rfl,rfl,_,rfl,?_⟩;show if (!decide (V.int ((AT due i:Nat):Int)=V.int 0))=true then _ else _
  rw [eS,decide_eq_false hs0];refine Aj ?_;refine ⟨_,rfl,kp,dxk,_,rfl,cc,noR,kp,due,r,rfl,KA1,rfl,_,rfl,?_⟩;rw [decide_eq_true (show V.str r=V.str "leave" by rw [hlv])];exact Aj ⟨_,rfl,k _ s1⟩
 ·rw [decide_eq_false (show ¬ i < 0 by omega)];refine AW ?_;refine ⟨fun σ H3=>σ=[some (.ref kp),some (.int i),some (.int (plain i:Nat)),some (.int (AT due i:Nat))]/\H3=H2,fun R hR=>?_,?_⟩
  ·refine ⟨_,rfl,rfl,_,rfl,?_⟩;show if (!decide (V.int ((AT due i:Nat):Int)=V.int 0))=true then _ else _
   rw [eS];by_cases hz:AT due i=0
   ·rw [decide_eq_true hz];exact AW (AW (hR _ _ ⟨rfl,rfl⟩))
   ·rw [decide_eq_false hz];refine Aj ?_;refine ⟨_,rfl,kp,dxk,_,rfl,cc,noR,kp,due,r,rfl,KA1,rfl,_,rfl,?_⟩;rw [decide_eq_false (show ¬ V.str r=V.str "leave" from fun z=>hnl ⟨hz,V.str.inj z⟩)];exact AW (hR _ _ ⟨rfl,rfl⟩)
  rintro σ H3 ⟨rfl,rfl⟩;refine ⟨_,rfl,_,rfl,kp,dxk,_,rfl,cc,noR,kp,due,r,rfl,KA1,rfl,_,rfl,?_⟩
  have fin:∀ n:Nat,n=(if r = "keep" then plain i else plain i - AT due i)->n < 2 ^ 40->(r = "keep" \/ n - (n &&& kn due)=0)->∀ q dq,H3 q=none->H3 dq=none->dq ≠ q->spVInit C VC [.ref q,.ref kp,.int (n:Int)] (upd (upd H3 dq (.own q)) q (.ins VC dq [])) (fun v H4=>v=.non/\Q (.ref q) H4) E0:=fun n en hn hk q dq hq hdq ax=>by
   have sN:=Dp (D:=VC) hq hdq ax;exact ⟨q,dq,kp,due,r,n,rfl,AB,KA1.same sN,hn,hk,fun H4 s4 hV=>⟨rfl,k q H4 (s1.trans (Du sN hq s4)) (en ▸ hV)⟩⟩
  by_cases bo:r = "keep"
  ·rw [decide_eq_true (show V.str r=V.str "keep" by rw [bo])];refine Aj ⟨_,rfl,?_⟩;exact fin (plain i) (by rw [if_pos bo]) hb40 (.inl bo)
  ·rw [decide_eq_false (show ¬ V.str r=V.str "keep" from fun z=>bo (V.str.inj z))];refine AW ⟨_,rfl,_,rfl,_,_,rfl,rfl,?_⟩;have hle:AT due i <= plain i:=Nat.sub_le _ _;have es:((plain i:Nat):Int) - ((AT due i:Nat):Int)=((plain i - AT due i:Nat):Int):=by omega
   have ek:plain i - AT due i=plain i &&& kn due:=by
    unfold AT;have:=Nat.and_le_left (n:=plain i) (m:=kn due);omega
   intro q dq hq hdq ax;have:=fin (plain i - AT due i) (by rw [if_neg bo]) (by omega) (.inr (by rw [ek]; exact LM _ _)) q dq hq hdq ax;rw [← es] at this;exact this
end
section
theorem A1 {d:Addr} {x y x' y':Int} (h:H d=some (.lst [.int x,.int y])):SameX d H (upd H d (.lst [.int x',.int y'])):=⟨fun b o e hb=>by rw [AG hb]; exact e,⟨x',y',AB⟩⟩
inductive spLMade (vs:List V) (H:Hp) (Q:VK) (_E:XK):Prop where
 | mk (t e m:Addr) (due:Aa) (r:Str) (i:Int) (z_0:vs=[.ref t,.str r,.int i]) (z_1:H t=some (.dK (LD due e m))) (z_2:((AT due i ≠ 0/\r = "bar" /\ ∀ p,H p=none->Q (.ref p) (upd H p (.tup [.str "refused", .str "BadRest", .int (AT due i:Nat)]))) \/    (¬ (AT due i ≠ 0/\r = "bar")/\i < 0/\Q (.int (kn due - (kn due &&& plain i):Nat)) H) \/    (¬ (AT due i ≠ 0/\r = "bar")/\0 <= i/\AT due i ≠ 0/\r = "leave" /\ ∀ p,H p=none->Q (.ref p) (upd H p (.tup [.str "left", .int i]))) \/    (¬ (AT due i ≠ 0/\r = "bar")/\0 <= i/\¬ (AT due i ≠ 0/\r = "leave")/\Q (.int ((if r = "keep" then plain i else plain i - AT due i:Nat):Int)) H)))
theorem scLMade:AJ ["_law_table", "_law_way", "_law_number", "_law_plain", "_law_strange"] ["_law_table", "_law_way", "_law_number"] (defScope Gw):=fsc
theorem PV {f:Addr} (F:Fun K "_law_made" "_law_made" Gw f fd):AX P w K mg base CX0 1 f fd ["_law_table", "_law_way", "_law_number"] spLMade:=by
 refine F.m scLMade fun vs H Q E h=>?_;obtain ⟨t,e,m,due,r,i,rfl,ht,h⟩:=h;refine ⟨rfl,fun ad A outer s hr=>?_⟩;have hu:=Cb hr
 refine ⟨_,BD (Ac (i:=3) scLMade.nd rfl (Or.inl rfl) (BX (AM JH (pv 2) AF (AR _)) (pv 2) (AZ B9 (AZ B9 AF (pv 2)) AF)))
  (AE (Ac (i:=4) scLMade.nd rfl (Or.inl rfl) (AZ B9 (pv 3) (AZ CA (pv 3) (BU hu (pv 0) AN (fun _ _=>rfl)))))
  (BD (Ag (PW.pt (B6 (AM Ek (pv 4) AF (AR _)) (Bc (AM Aw (pv 1) AN (AR _))))) (AD (AL (BE (AA AN (AA AN (AA (pv 4) AC)))))) AV)
  (AE (Ag (AM Fo (pv 2) AF (AR _)) (AD (AL (AZ B9 (BU hu (pv 0) AN (fun _ _=>rfl)) (AZ CA (BU hu (pv 0) AN (fun _ _=>rfl)) (pv 3))))) AV)
  (BD (Ag (PW.pt (B6 (AM Ek (pv 4) AF (AR _)) (Bc (AM Aw (pv 1) AN (AR _))))) (AD (AL (BE (AA AN (AA (pv 2) AC))))) AV)
  (AD (AL (BX (AM Aw (pv 1) AN (AR _)) (pv 2) (AZ CA (pv 2) (BU hu (pv 0) AN (fun _ _=>rfl)))))))))),?_⟩
 refine ⟨fun σ H1=>σ=[some (.ref t),some (.str r),some (.int i),some (.int (plain i:Nat)),none]/\H1=H,fun R hR=>?_,?_⟩
 ·refine ⟨_,rfl,_,_,rfl,rfl,_,rfl,?_⟩;have e:=Fj i;refine BY (fun hc=>?_) (fun hc=>?_)
  ·have h0:0 <= i:=of_decide_eq_true hc;rw [if_pos h0] at e;refine ⟨_,rfl,hR _ _ ⟨?_,rfl⟩⟩;rw [e];rfl
  ·have h0:¬ 0 <= i:=fun z=>hc (decide_eq_true z);rw [if_neg h0] at e;refine ⟨_,rfl,_,_,rfl,rfl,_,_,rfl,rfl,hR _ _ ⟨?_,rfl⟩⟩;rw [e];show _=[some (V.ref t),some (V.str r),some (V.int i),some (V.int (-i - 1)),none];have:(0:Int) - i - 1=-i - 1:=by omega
   rw [← this];rfl
 rintro σ H0 ⟨rfl,rfl⟩;have kd:∀ x:V,x=V.ref t->True:=fun _ _=>trivial;refine ⟨_,rfl,_,rfl,_,rfl,t,_,rfl,.inl ⟨_,Sum.inr "known", .inl ht,rfl,(Cy _ _ _).symm⟩,_,_,rfl,rfl,_,_,rfl,rfl,?_⟩
 have es:(fun i j=>V.int (i - j)) ((plain i:Nat):Int) (Builtin.bitAnd ((plain i:Nat):Int) ((Ak (due.map (·.2)):Nat):Int))=V.int ((AT due i:Nat):Int):=by
  show V.int (((plain i:Nat):Int) - Builtin.bitAnd ((plain i:Nat):Int) ((Ak (due.map (·.2)):Nat):Int))=_;rw [Bf];have:=Nat.and_le_left (n:=plain i) (m:=kn due);unfold AT;congr 1;show ((plain i:Nat):Int) - ((plain i &&& kn due:Nat):Int)=_;omega
 have eG:∀ n:Nat,decide ((0:Int) < (n:Int))=!decide (n=0):=fun n=>by
  by_cases z:n=0
  ·subst z; rfl
  ·rw [decide_eq_true (show (0:Int) < (n:Int) by omega),decide_eq_false z]; rfl
 refine ⟨fun σ H2=>¬ (AT due i ≠ 0/\r = "bar")/\σ=[some (.ref t),some (.str r),some (.int i),some (.int (plain i:Nat)),some (.int (AT due i:Nat))]/\H2=H0,fun R hR=>?_,?_⟩
 ·refine ⟨_,congrArg (fun z=>some (some z)) es,_,_,rfl,rfl,_,rfl,?_⟩;rw [eG];by_cases hz:AT due i=0
  ·rw [decide_eq_true hz];refine AW (AW (hR _ _ ⟨fun z=>z.1 hz,?_,rfl⟩));rw [← es];rfl
  ·rw [decide_eq_false hz];refine Aj ?_;refine ⟨_,rfl,rfl,_,rfl,?_⟩;by_cases bh:r = "bar"
   ·rw [decide_eq_true (show V.str r=V.str "bar" by rw [bh])];refine Aj ?_;rcases h with ⟨_,_,k⟩ | ⟨hn,_⟩ | ⟨hn,_⟩ | ⟨hn,_⟩
    ·exact ⟨_,congrArg (fun z=>some (some z)) es,sl3,k⟩
    ·exact absurd ⟨hz,bh⟩ hn
    ·exact absurd ⟨hz,bh⟩ hn
    ·exact absurd ⟨hz,bh⟩ hn
   ·rw [decide_eq_false (show ¬ V.str r=V.str "bar" from fun z=>bh (V.str.inj z))];refine AW (hR _ _ ⟨fun z=>bh z.2,?_,rfl⟩);rw [← es];rfl
 rintro σ H2 ⟨hnb,rfl,rfl⟩;refine ⟨_,rfl,_,_,rfl,rfl,_,rfl,?_⟩;rcases h with ⟨z1,z2,_⟩ | ⟨_,c8,k⟩ | ⟨_,hnn,hs0,hlv,k⟩ | ⟨_,hnn,hnl,k⟩
 ·exact absurd ⟨z1,z2⟩ hnb
 ·rw [decide_eq_true (show i < 0 from c8)];refine Aj ?_;refine ⟨_,rfl,t,_,rfl,.inl ⟨_,Sum.inr "known", .inl ht,rfl,(Cy _ _ _).symm⟩,_,rfl,t,_,rfl,.inl ⟨_,Sum.inr "known", .inl ht,rfl,(Cy _ _ _).symm⟩,_,rfl,_,_,rfl,rfl,_,_,rfl,rfl,?_⟩
  have ek:(fun i j=>V.int (i - j)) ((Ak (due.map (·.2)):Nat):Int) (Builtin.bitAnd ((Ak (due.map (·.2)):Nat):Int) ((plain i:Nat):Int))=V.int ((kn due - (kn due &&& plain i):Nat):Int):=by
   show V.int (((Ak (due.map (·.2)):Nat):Int) - Builtin.bitAnd ((Ak (due.map (·.2)):Nat):Int) ((plain i:Nat):Int))=_;rw [Bf];have:=Nat.and_le_left (n:=kn due) (m:=plain i);congr 1;show ((kn due:Nat):Int) - ((kn due &&& plain i:Nat):Int)=_;omega
  rw [← ek] at k;exact k
 ·rw [decide_eq_false (show ¬ i < 0 by omega)];refine AW ?_;refine ⟨fun _ _=>False,fun R hR=>?_,fun _ _ z=>z.elim⟩;refine ⟨_,rfl,_,_,rfl,rfl,_,rfl,?_⟩;rw [eG,decide_eq_false hs0];refine Aj ?_;refine ⟨_,rfl,rfl,_,rfl,?_⟩;rw [decide_eq_true (show V.str r=V.str "leave" by rw [hlv])];exact Aj ⟨_,rfl,sl2,k⟩
 ·rw [decide_eq_false (show ¬ i < 0 by omega)];refine AW ?_;refine ⟨fun σ H3=>σ=[some (.ref t),some (.str r),some (.int i),some (.int (plain i:Nat)),some (.int (AT due i:Nat))]/\H3=H2,fun R hR=>?_,?_⟩
  ·refine ⟨_,rfl,_,_,rfl,rfl,_,rfl,?_⟩;rw [eG];by_cases hz:AT due i=0
   ·rw [decide_eq_true hz];exact AW (AW (hR _ _ ⟨rfl,rfl⟩))
   ·rw [decide_eq_false hz];refine Aj ?_;refine ⟨_,rfl,rfl,_,rfl,?_⟩;rw [decide_eq_false (show ¬ V.str r=V.str "leave" from fun z=>hnl ⟨hz,V.str.inj z⟩)];exact AW (hR _ _ ⟨rfl,rfl⟩)
  rintro σ H3 ⟨rfl,rfl⟩;have ep:=Fj i;rw [if_pos hnn] at ep;refine ⟨_,rfl,rfl,_,rfl,?_⟩;by_cases bo:r = "keep"
  ·rw [decide_eq_true (show V.str r=V.str "keep" by rw [bo])];rw [if_pos bo,ep] at k;exact Aj ⟨_,rfl,k⟩
  ·rw [decide_eq_false (show ¬ V.str r=V.str "keep" from fun z=>bo (V.str.inj z))];refine AW ⟨_,rfl,_,rfl,t,_,rfl,.inl ⟨_,Sum.inr "known", .inl ht,rfl,(Cy _ _ _).symm⟩,_,_,rfl,rfl,?_⟩
   have ek:(fun i j=>V.int (Builtin.bitAnd i j)) i ((Ak (due.map (·.2)):Nat):Int)=V.int ((plain i - AT due i:Nat):Int):=by
    show V.int (Builtin.bitAnd i ((Ak (due.map (·.2)):Nat):Int))=_;have ei:Builtin.bitAnd i ((Ak (due.map (·.2)):Nat):Int)=Builtin.bitAnd ((plain i:Nat):Int) ((Ak (due.map (·.2)):Nat):Int):=by rw [ep]
    rw [ei,Bf];have:=Nat.and_le_left (n:=plain i) (m:=kn due);unfold AT;congr 1;show ((plain i &&& kn due:Nat):Int)=_;omega
   rw [if_neg bo,← ek] at k;exact k
def JA (VC:Addr):Sp:=fun vs H Q _=>(∃ (p kp:Addr) (n:Nat),vs=[.ref p]/\ValAt VC H p kp n/\Q (.int (n:Int)) H)\/(∃ (p:Addr) (xs:List V),vs=[.ref p]/\H p=some (.tup xs)/\Q (.ref p) H) \/
 ∃ i:Int,vs=[.int i]/\∀ p,H p=none->Q (.ref p) (upd H p (.tup [.str "left", .int i]))
theorem Qr:AJ ["_law_thing"] ["_law_thing"] (defScope Fb):=fsc
theorem PX {f:Addr} (F:Fun K "_law_shown" "_law_shown" Fb f fd) (B:Bl mg) (VT:LF K VC) (VI:KIsi K VC) (mV:mg "Value" = some (.ref VC)) (hI:W.kitOne K (.type "int") (.ref VC)=some false) (hT:W.kitOne K (.type "tuple") (.ref VC)=some false)
  (GVN:Mt P w K mg base VC "number" 1 ["self"] (spVNumber VC)):AX P w K mg base CX0 2 f fd ["_law_thing"] (JA VC):=by
 obtain ⟨fVN,dVN,GVN,mVN,bVN⟩:=GVN.ex;refine F.ok Qr (fun vs H Q E h=>?_) (fun ad A outer s H vs Q E hr h=>?_)
 ·rcases h with ⟨p,kp,n,rfl,_⟩ | ⟨p,xs,rfl,_⟩ | ⟨i,rfl,_⟩ <;> rfl
 ·refine ⟨_,AE (Ag (A2 (AY (Dt K rfl) rfl B.isi Eb (AA (pv 0) (AA (A8 (v:=.ref VC) rfl mV rfl) AC)))) (AD (AL (A3 (pv 0) VT.cl mVN GVN hr bVN .nil AQ))) AV)
   (AD (AL (BX (A2 (Bp K rfl rfl B.isi rfl B.tuple E3 (pv 0))) (pv 0) (BE (AA AN (AA (pv 0) AC)))))),?_⟩
  rcases h with ⟨p,kp,n,rfl,⟨dx,hp⟩,k⟩ | ⟨p,xs,rfl,hp,k⟩ | ⟨i,rfl,k⟩
  ·refine ⟨_,rfl,_,VC,_,true,rfl,VI.ty hp,Cw K VC,_,rfl,?_⟩;refine Aj ?_;exact ⟨_,rfl,p,dx,_,rfl,hp,PF _ _ (by decide +kernel) (by decide +kernel),p,kp,n,rfl,⟨dx,hp⟩,k⟩
  ·refine ⟨_,rfl,_,VC,_,false,rfl,.tup hp,hT,_,rfl,?_⟩;refine AW ?_;refine ⟨_,rfl,_,_,_,true,rfl,.tup hp,rfl,_,rfl,?_⟩;exact Aj ⟨_,rfl,k⟩
  ·refine ⟨_,rfl,_,VC,_,false,rfl,.int i,hI,_,rfl,?_⟩;refine AW ?_;refine ⟨_,rfl,_,_,_,false,rfl,.int i,rfl,_,rfl,?_⟩;exact AW ⟨_,rfl,sl2,k⟩
end
end Mk
end
section
namespace Mk
open PySem L2 MK PySem.NumText
noncomputable def CV (c:Nat):Bool:=decide (48 <= c) && decide (c <= 57)
theorem Nf (lo hi:Nat) (x y:Str) (hx:x.cps.toList=[lo]) (hy:y.cps.toList=[hi]) (c:Nat):(if (!decide ((⟨#[c]⟩:Str).cps.toList < x.cps.toList))=true then (!decide (y.cps.toList < (⟨#[c]⟩:Str).cps.toList)) else false)=(decide (lo <= c) && decide (c <= hi)):=by
 rw [hx,hy];show (if (!decide ([c] < [lo]))=true then !decide ([hi] < [c]) else false)=_
 have e1:decide ([c] < [lo])=decide (c < lo):=by
  rw [Bool.eq_iff_iff,decide_eq_true_eq,decide_eq_true_eq,cons_lt_cons_iff];simp
 have e2:decide ([hi] < [c])=decide (hi < c):=by
  rw [Bool.eq_iff_iff,decide_eq_true_eq,decide_eq_true_eq,cons_lt_cons_iff];simp
 rw [e1,e2];by_cases h1:c < lo <;> by_cases h2:hi < c <;> simp [h1,h2] <;> omega
section
def RU (x:Str):Prop:=x.cps.toList.all CV=true/\(x = "0" \/ (x.cps.toList.head? ≠ some 48/\digitsVal x.cps.toList < 1099511627776))
inductive spFig (vs:List V) (H:Hp) (Q:VK) (_E:XK):Prop where
 | mk (x:Str) (b:Bool) (z_0:vs=[.str x]) (z_1:x.cps.all (· < 128)=true) (z_2:0 < x.length) (z_3:x.length <= 200) (z_4:((b=false/\x.cps.toList.all CV=false)\/(b=true/\RU x))) (z_5:∀ H',Same H H'->Q (.bl b) H')
theorem To:AJ ["text"] ["text"] (defScope EW):=fsc
theorem Sj {f:Addr} (F:Fun K "is_figures" "is_figures" EW f fd) (B:Bl mg) (GN:Fn P w K mg base "is_number" 2 ["thing"] spIsNumber):AX P w K mg base CX0 3 f fd ["text"] spFig:=by
 obtain ⟨fN,dN,GN,mN,kN,bN⟩:=GN.ex;refine F.m To fun vs H Q E h=>?_;obtain ⟨x,b,rfl,ha,h0,h60,h,k⟩:=h;refine ⟨rfl,fun ad A outer s hr=>?_⟩
 refine ⟨_,AE (Ag (PW.pt (DR (AM Aw (AY BS rfl B.len PySem.boot_len (AA (pv 0) AC)) AF (AR _)) (CN (BV (A2 (AY (Gg rfl) rfl B.all K3 (AA (B2 [] [] (by kernel_rfl) (by decide +kernel) (by kernel_rfl) rfl (OD (pv 0)) (fun _ _ _ _ _ _=>By) (fun _ _ _ _ _ _=>El CJ CJ AN (pv 0) AN)) AC))))))) (AD (AL DH)) AV)
  (AE (Ag (AM Aw (BI KZ (pv 0) AF (fun _ _=>rfl)) AN (AR _)) (AD (AL (Be Aw (pv 0) AN (AR _)))) AV)
  (AD (AL (AS GN hr rfl mN kN bN .nil AQ (AA (BR D3 rfl B.int Gx (AA (pv 0) AC)) AC))))),?_⟩
 refine ⟨_,rfl,x,rfl,Nat.le_of_lt (AO (by omega)),rfl,_,rfl,?_⟩;rw [decide_eq_false (show ¬ V.int (x.length:Int)=V.int 0 from fun z=>by have:=V.int.inj z; omega)];refine AW ?_;have hlx:x.cps.toList.length=x.length:=by rw [Array.length_toList]; rfl
 refine ⟨_,rfl,x,rfl,ha,Jj (x:=x) (fun i ys H2=>H2=H/\ys=(x.cps.toList.take i).map fun c=>V.bl (CV c)) ⟨rfl,rfl⟩ (fun i ys H2 ⟨_,e⟩=>?_) ?_ ?_⟩
 ·rw [e,AK,length_take];omega
 ·rintro i c ys H2 hc ⟨rfl,rfl⟩;refine ⟨_,rfl,_,_,rfl,rfl,_,rfl,?_⟩
  have fin:∀ b,b=CV c->(H2=H2/\(x.cps.toList.take i).map (fun c=>V.bl (CV c))++[V.bl b]=(x.cps.toList.take (i + 1)).map fun c=>V.bl (CV c)):=fun b hb=>by
   refine ⟨rfl,?_⟩;have hc':x.cps.toList[i]?=some c:=by rw [Array.getElem?_toList]; exact hc
   rw [take_add_one,hc',map_append,hb];rfl
  have hu:=Nf 48 57 "0" "9" (by decide +kernel) (by decide +kernel) c;refine BY (fun h3=>?_) (fun h3=>?_)
  ·rw [if_pos h3] at hu;exact ⟨_,_,rfl,rfl,fin _ hu⟩
  ·rw [if_neg h3] at hu;exact fin _ hu
 rintro ys H2 ⟨rfl,rfl⟩ p hp;have el:x.cps.toList.take x.cps.size=x.cps.toList:=List.take_of_length_le (by rw [Array.length_toList]; exact Nat.le_refl _);have sp:=AH (Same.refl _) hp (o:=HO.lst ((x.cps.toList.take x.cps.size).map fun c=>V.bl (CV c)));refine ⟨p,x.cps.toList.map CV,rfl,SqL.of (by rw [AB,el,map_map]; rfl),_,rfl,?_⟩;rw [show (x.cps.toList.map CV).all id=x.cps.toList.all CV by rw [all_map]; rfl];rcases h with ⟨rfl,hno⟩ | ⟨rfl,be,hv⟩
 ·rw [hno];exact Aj (k _ sp)
 ·rw [be];refine AW ?_
  obtain ⟨c,cs,ec⟩:∃ c cs,x.cps.toList=c :: cs:=by
   cases e:x.cps.toList with
   | nil=>rw [e] at hlx; simp at hlx; omega
   | cons c cs=>exact ⟨c,cs,rfl⟩
  refine ⟨_,rfl,x,0,c,rfl,rfl,Nat.le_of_lt (AO (by omega)),(show atI _ ((0:Nat):Int)=_ from Bm (by rw [ec]; rfl)),rfl,_,rfl,?_⟩;rcases hv with rfl | ⟨hh,hv⟩
  ·have e0:("0" : Str).cps.toList=[48]:=by decide +kernel
   rw [e0] at ec;cases ec;rw [decide_eq_true (show V.str ⟨#[48]⟩=V.str "0" by decide +kernel)];refine Aj ⟨_,rfl,rfl,?_⟩;rw [decide_eq_true (show V.str "0" = V.str "0" from rfl)];exact k _ sp
  ·rw [decide_eq_false (show ¬ V.str ⟨#[c]⟩=V.str "0" from fun z=>hh (by
    have:=V.str.inj z;have e1:=congrArg (fun z:Str=>z.cps.toList) this;have e0:("0" : Str).cps.toList=[48]:=by decide +kernel
    rw [e0] at e1;have e2:c=48:=by injection e1
    rw [ec,e2]
    rfl))]
   refine AW ?_
   have hd:AllDigits x.cps.toList:=fun c hc=>by
    have:=List.all_eq_true.mp be c hc;unfold CV at this;rw [Bool.and_eq_true,decide_eq_true_eq,decide_eq_true_eq] at this;exact this
   refine ⟨_,rfl,x,_,rfl,by omega,intText_digits hd (by rw [ec]; simp) (by omega),digitsVal x.cps.toList,rfl,by omega,k _ sp⟩
inductive spLet (vs:List V) (H:Hp) (Q:VK) (_E:XK):Prop where
 | mk (x:Str) (z_0:vs=[.str x]) (z_1:0 < x.length) (z_2:x.length <= 200) (z_3:(∀ c ∈ x.cps.toList,c < 97)) (z_4:Q (.bl false) H)
theorem Tp:AJ ["thing"] ["thing"] (defScope FY):=fsc
theorem Sk {f:Addr} (F:Fun K "is_letter" "is_letter" FY f fd) (B:Bl mg):AX P w K mg base CX0 1 f fd ["thing"] spLet:=by
 refine F.m Tp fun vs H Q E h=>?_;obtain ⟨x,rfl,h0,h60,hs,k⟩:=h;refine ⟨rfl,fun ad A outer s hr=>?_⟩;refine ⟨_,AD (AL (Bj (Bp K rfl rfl B.isi rfl B.str Fc (pv 0)) (Bj (Be Aw (AY BS rfl B.len PySem.boot_len (AA (pv 0) AC)) AF (AR _)) (B7 (El CJ CJ AN (pv 0) AN))))),?_⟩;refine ⟨_,rfl,_,_,_,true,rfl,.str x,rfl,_,rfl,Aj ?_⟩;refine ⟨_,rfl,x,rfl,Nat.le_of_lt (AO (by omega)),rfl,_,rfl,?_⟩;have hlx:x.cps.toList.length=x.length:=by rw [Array.length_toList]; rfl
 refine BY (fun h1=>?_) (fun h1=>k)
 obtain ⟨c,ec⟩:∃ c,x.cps.toList=[c]:=by
  have e1:x.length=1:=by have:=V.int.inj (of_decide_eq_true h1); omega
  rw [e1] at hlx;exact List.length_eq_one_iff.mp hlx
 have hc:=hs c (by rw [ec]; exact mem_singleton.mpr rfl);refine ⟨_,rfl,_,_,rfl,rfl,_,rfl,?_⟩;have ea:("a" : Str).cps.toList=[97]:=by decide +kernel
 rw [ec,ea,show decide ([c] < [97])=true from decide_eq_true (by rw [cons_lt_cons_iff]; exact .inl hc)];exact AW k
end
theorem Ay (x:Str):x.cps.toList.length=x.length:=by rw [Array.length_toList]; rfl
theorem FH (z:Str) {a b:Nat} (hab:a <= b) (hb:b <= z.length):(Txt.slice z (some (a:Int)) (some (b:Int))).cps.toList=(z.cps.toList.drop a).take (b - a):=by
 unfold Txt.slice;split
 ·rename_i h;rw [StrLaws.strSliceIndices_plain hab hb,AK,List.length_range] at h
  have e:b - a=z.length:=by
   simp only [beq_self_eq_true,Bool.true_and,beq_iff_eq] at h;exact h
  have ea:a=0:=by omega
  subst ea;rw [List.drop_zero,List.take_of_length_le (by rw [Ay]; omega)]
 ·show (List.filterMap _ _).toArray.toList=_;rw [List.toList_toArray,StrLaws.sliced_plain z hab hb]
def Sl (x:Str):Prop:=CD x=true\/(CD x=false/\RU x)
def Sm (x:Str):Prop:=CD x=false/\x.cps.toList.all CV=false
section
inductive spPart (vs:List V) (H:Hp) (Q:VK) (_E:XK):Prop where
 | mk (x:Str) (b:Bool) (z_0:vs=[.str x,.bl false]) (z_1:x.cps.all (· < 128)=true) (z_2:0 < x.length) (z_3:x.length <= 200) (z_4:((b=false/\Sm x)\/(b=true/\Sl x))) (z_5:∀ H',Same H H'->Q (.bl b) H')
theorem Sn:AJ ["text", "lettered"] ["text", "lettered"] (defScope Ir):=fsc
theorem Qs {f:Addr} (F:Fun K "is_part" "is_part" Ir f fd) (GN:Fn P w K mg base "is_name" 1 ["thing"] spIsName) (GF:Fn P w K mg base "is_figures" 3 ["text"] spFig):AX P w K mg base CX0 4 f fd ["text", "lettered"] spPart:=by
 obtain ⟨fN,dN,GN,mN,kN,bN⟩:=GN.ex;obtain ⟨fF,dF,GF,mF,kF,bF⟩:=GF.ex;refine F.m Sn fun vs H Q E h=>?_;obtain ⟨x,b,rfl,ha,h0,h60,h,k⟩:=h;refine ⟨rfl,fun ad A outer s hr=>?_⟩;have hr1:Room 1 _:=hr.mono (by decide);have pn:∀ {X:Cx} {e:Expr},PE X e (fun _ _ _=>False):=fun {X e} _ _ _ _ _ _ h=>h.elim;refine ⟨_,AD (AL (Q9 (AS GN hr1 rfl mN kN bN .nil AQ (AA (pv 0) AC)) (Q9 (AS GF hr rfl mF kF bF .nil AQ (AA (pv 0) AC)) (B7 (Bj (pv 1) (B7 pn)))))),?_⟩;refine ⟨_,rfl,x,rfl,ha,by omega,fun H1 s1=>⟨_,rfl,?_⟩⟩;rcases h with ⟨rfl,hn,hd⟩ | ⟨rfl,hn | ⟨hn,hf⟩⟩
 ·rw [hn];refine AW ⟨_,rfl,x,false,rfl,ha,h0,h60,.inl ⟨rfl,hd⟩,fun H2 s2=>⟨_,rfl,AW ⟨_,rfl,_,rfl,AW (k _ (s1.trans s2))⟩⟩⟩
 ·rw [hn];exact Aj (k _ s1)
 ·rw [hn];exact AW ⟨_,rfl,x,true,rfl,ha,h0,h60,.inr ⟨rfl,hf⟩,fun H2 s2=>⟨_,rfl,Aj (k _ (s1.trans s2))⟩⟩
structure PY (z:Str) (a n:Nat):Prop where
 le:a + n <= z.length
 ok:∀ k,0 < k->k <= n->Sl (Txt.slice z (some (a:Int)) (some ((a + k:Nat):Int)))
 no:a + n < z.length->Sm (Txt.slice z (some (a:Int)) (some ((a + n + 1:Nat):Int)))
theorem Ng {z:Str} {a b:Nat} (hab:a <= b) (hb:b <= z.length) (h:z.cps.all (· < 128)=true):(Txt.slice z (some (a:Int)) (some (b:Int))).cps.all (· < 128)=true:=by
 rw [← Array.all_toList] at h ⊢;rw [FH z hab hb];exact List.all_eq_true.mpr fun c hc=>List.all_eq_true.mp h c (List.mem_of_mem_drop (mem_of_mem_take hc))
theorem Nh {z:Str} {a b:Nat} (hab:a <= b) (hb:b <= z.length):(Txt.slice z (some (a:Int)) (some (b:Int))).length=b - a:=by
 rw [← Ay,FH z hab hb,length_take,List.length_drop,Ay];omega
inductive spPE (vs:List V) (H:Hp) (Q:VK) (_E:XK):Prop where
 | mk (z:Str) (a n:Nat) (z_0:vs=[.str z,.int (a:Int),.bl false]) (z_1:z.cps.all (· < 128)=true) (z_2:z.length <= 200) (z_3:PY z a n) (z_4:∀ H',Same H H'->Q (.int ((a + n:Nat):Int)) H')
theorem scPE:AJ ["text", "at", "lettered", "end"] ["text", "at", "lettered"] (defScope Gs):=fsc
theorem Qt {f:Addr} (F:Fun K "part_end" "part_end" Gs f fd) (B:Bl mg) (GP:Fn P w K mg base "is_part" 4 ["text", "lettered"] spPart):AX P w K mg base CX0 5 f fd ["text", "at", "lettered"] spPE:=by
 obtain ⟨fP,dP,GP,mP,kP,bP⟩:=GP.ex;refine F.m scPE fun vs H Q E h=>?_;obtain ⟨z,a,n,rfl,ha,h60,PA,q⟩:=h;refine ⟨rfl,fun ad A outer s hr=>?_⟩
 refine ⟨_,AE (Ac (i:=3) scPE.nd rfl (Or.inl rfl) (pv 1))
  (AE (Eh PassesOwn.never (PW.pt (B6 (AM Fo (pv 3) (AY BS rfl B.len PySem.boot_len (AA (pv 0) AC)) (AR _)) (Bc (A2 (AS GP hr rfl mP kP bP .nil AQ (AA (JM Om (pv 0) (F0 (pv 1)) (F0 (AZ Ci (pv 3) AF))) (AA (pv 2) AC))))))) (AD (KH (i:=3) scPE.nd rfl (Or.inl rfl) AF (Lc:OpR _ _ _))))
  (AD (AL (pv 3)))),?_⟩
 refine ⟨_,rfl,fun m σ H2=>∃ k:Nat,σ=[some (.str z),some (.int (a:Int)),some (.bl false),some (.int ((a + k:Nat):Int))]/\Same H H2/\k <= n/\m=n - k,⟨n,0,rfl,Same.refl _,Nat.zero_le _,rfl⟩,?_⟩;rintro m σ H2 ⟨k,rfl,s2,hk,rfl⟩;have hle:=PA.le;refine ⟨_,rfl,_,rfl,z,rfl,Nat.le_of_lt (AO (by omega)),_,_,rfl,rfl,_,rfl,?_⟩;by_cases hz:a + k < z.length
 ·rw [decide_eq_true (show ((a + k:Nat):Int) < (z.length:Int) by omega)];refine Aj ?_;have e1:((a + k:Nat):Int) + 1=((a + k + 1:Nat):Int):=by omega
  refine ⟨_,rfl,_,rfl,(a:Int),rfl,_,rfl,_,_,rfl,rfl,((a + k + 1:Nat):Int),congrArg V.int e1,z,rfl,Nat.le_of_lt (AO (by omega)),_,rfl,?_⟩;have hl:=Nh (z:=z) (a:=a) (b:=a + k + 1) (by omega) (by omega);have hs:=Ng (z:=z) (a:=a) (b:=a + k + 1) (by omega) (by omega) ha;by_cases hkn:k < n
  ·have ok:=PA.ok (k + 1) (by omega) (by omega);rw [show a + (k + 1)=a + k + 1 by omega] at ok;refine ⟨_,true,rfl,hs,by omega,by omega,.inr ⟨rfl,ok⟩,fun H3 s3=>⟨_,rfl,Aj ⟨fun σ H4=>σ=[some (.str z),some (.int (a:Int)),some (.bl false),some (.int ((a + (k + 1):Nat):Int))]/\Same H H4,fun σ' H' ⟨e,s'⟩=>⟨n - (k + 1),by omega,k + 1,e,s',by omega,rfl⟩,?_⟩⟩⟩;refine ⟨_,rfl,_,_,rfl,rfl,?_,s2.trans s3⟩;show [some (V.str z),some (V.int (a:Int)),some (V.bl false),some (V.int (((a + k:Nat):Int) + 1))]=_;rw [e1];rfl
  ·have e:k=n:=by omega
   subst e;have no:=PA.no hz;exact ⟨_,false,rfl,hs,by omega,by omega,.inl ⟨rfl,no⟩,fun H3 s3=>⟨_,rfl,AW ⟨_,rfl,q _ (s2.trans s3)⟩⟩⟩
 ·rw [decide_eq_false (show ¬ ((a + k:Nat):Int) < (z.length:Int) by omega)];have e:k=n:=by omega
  subst e;exact AW (AW ⟨_,rfl,q _ s2⟩)
end
structure HL (K:FG) (DC:Addr):Prop where
 cl:Cls K DC
 nS:NoAttr K DC "steps"
 nW:NoAttr K DC "waiting"
 nP:NoAttr K DC "wants_part"
theorem RV:¬ (("steps" : Str) = "wants_part"):=by decide +kernel
theorem RW:¬ (("waiting" : Str) = "wants_part"):=by decide +kernel
theorem RX:¬ (("waiting" : Str) = "steps"):=by decide +kernel
noncomputable def rdL (ls lw:Addr) (wp:Bool):List (Str × V):=BL "wants_part" (.bl wp) (BL "waiting" (.ref lw) (BL "steps" (.ref ls) []))
theorem PZ (ls lw:Addr) (wp:Bool):(rdL ls lw wp).lookup ("steps" : Str)=some (.ref ls):=by
 unfold rdL;rw [AU,if_neg RV,AU,if_neg (Ne.symm RX),AU,if_pos rfl]
theorem FI (ls lw:Addr) (wp:Bool):(rdL ls lw wp).lookup ("waiting" : Str)=some (.ref lw):=by
 unfold rdL;rw [AU,if_neg RW,AU,if_pos rfl]
theorem IG (ls lw:Addr) (wp:Bool):(rdL ls lw wp).lookup ("wants_part" : Str)=some (.bl wp):=by
 unfold rdL;rw [AU,if_pos rfl]
theorem DF (ls lw:Addr) (wp:Bool) {m:Str} (h1:¬ m = "steps" := by decide +kernel) (h2:¬ m = "waiting" := by decide +kernel) (h3:¬ m = "wants_part" := by decide +kernel):(rdL ls lw wp).lookup m=none:=by
 unfold rdL;rw [AU,if_neg h3,AU,if_neg h2,AU,if_neg h1];rfl
theorem MO (ls lw:Addr) (wp b:Bool):BL "wants_part" (.bl b) (rdL ls lw wp)=rdL ls lw b:=by
 unfold rdL;simp [BL,RV,RW,Ne.symm RX]
structure RdAt (DC:Addr) (H:Hp) (p ls lw:Addr) (ss ws:List Str) (wp:Bool):Prop where
 ex:∃ dx,H p=some (.ins DC dx (rdL ls lw wp))
 hs:H ls=some (.lst (ss.map V.str))
 hw:H lw=some (.lst (ws.map V.str))
 ne:ls ≠ lw
def StR (p ls lw:Addr) (H H':Hp):Prop:=∀ b o,H b=some o->b ≠ p->b ≠ ls->b ≠ lw->H' b=some o
theorem StR.refl (p ls lw:Addr) (H:Hp):StR p ls lw H H:=fun _ _ e _ _ _=>e
theorem RdAt.np {DC:Addr} {p ls lw:Addr} {ss ws:List Str} {wp:Bool} (h:RdAt DC H p ls lw ss ws wp):ls ≠ p/\lw ≠ p:=by
 obtain ⟨dx,hp⟩:=h.ex;have h1:=h.hs;have h2:=h.hw;exact ⟨fun z=>(by rw [z,hp] at h1; cases h1),fun z=>(by rw [z,hp] at h2; cases h2)⟩
theorem RdAt.steps {DC:Addr} {p ls lw:Addr} {ss ws:List Str} {wp:Bool} (ss':List Str) (h:RdAt DC H p ls lw ss ws wp):RdAt DC (upd H ls (.lst (ss'.map V.str))) p ls lw ss' ws wp:=by
 obtain ⟨dx,hp⟩:=h.ex;exact ⟨⟨dx,by rw [AG (Ne.symm h.np.1)]; exact hp⟩,AB,by rw [AG (Ne.symm h.ne)]; exact h.hw,h.ne⟩
theorem RdAt.waits {DC:Addr} {p ls lw:Addr} {ss ws:List Str} {wp:Bool} (ws':List Str) (h:RdAt DC H p ls lw ss ws wp):RdAt DC (upd H lw (.lst (ws'.map V.str))) p ls lw ss ws' wp:=by
 obtain ⟨dx,hp⟩:=h.ex;exact ⟨⟨dx,by rw [AG (Ne.symm h.np.2)]; exact hp⟩,by rw [AG h.ne]; exact h.hs,AB,h.ne⟩
theorem RdAt.wants {DC:Addr} {p ls lw dx:Addr} {ss ws:List Str} {wp:Bool} (b:Bool) (h:RdAt DC H p ls lw ss ws wp):RdAt DC (upd H p (.ins DC dx (rdL ls lw b))) p ls lw ss ws b :=
 ⟨⟨dx,AB⟩,by rw [AG h.np.1]; exact h.hs,by rw [AG h.np.2]; exact h.hw,h.ne⟩
theorem MP (ls lw:Addr) (wp:Bool):(rdL ls lw wp).length < 1000:=by
 have h1:=A6 "wants_part" (.bl wp) (BL "waiting" (.ref lw) (BL "steps" (.ref ls) []));have h2:=A6 "waiting" (.ref lw) (BL "steps" (.ref ls) []);have h3:=A6 "steps" (.ref ls) [];have h4:([]:List (Str × V)).length=0:=rfl;unfold rdL;omega
section
variable {DC bd:Addr}
inductive spTP (DC:Addr) (vs:List V) (H:Hp) (Q:VK) (_E:XK):Prop where
 | mk (p ls lw:Addr) (ss ws:List Str) (wp:Bool) (x:Str) (z_0:vs=[.ref p,.str x]) (z_1:RdAt DC H p ls lw ss ws wp) (z_2:ss.length <= 400) (z_3:∀ H',StR p ls lw H H'->RdAt DC H' p ls lw (ss++[x]) ws false->Q .non H')
theorem Uh:AJ ["self", "part"] ["self", "part"] (defScope Bu):=fsc
theorem Tq {f:Addr} (F:Fun K "take_part" "Reading.take_part" Bu f fd) (DT:HL K DC):AX P w K mg base CX0 1 f fd ["self", "part"] (spTP DC):=by
 refine F.m Uh fun vs H Q E h=>?_;obtain ⟨p,ls,lw,ss,ws,wp,x,rfl,R,h100,q⟩:=h;refine ⟨rfl,fun ad A outer s hr=>?_⟩;obtain ⟨dx,hp⟩:=id R.ex;refine ⟨_,AE (BJ (Es PySem.F.plainAttrs_list PySem.F.slot_list_append PySem.F.type_list_append Bt (As (pv 0) rfl) (AA (pv 1) AC))) (AD (Cj (pv 0) DH rfl)),?_⟩;refine ⟨_,rfl,p,DC,dx,_,_,rfl,hp,DT.cl,DT.nS,PZ _ _ _,.inl ⟨rfl,_,SqL.of R.hs⟩,_,rfl,ls,_,_,rfl,rfl,R.hs,AO (by rw [AK]; omega),?_⟩;have R1:=R.steps (ss++[x]);rw [map_append] at R1;have e1:(upd H ls (.lst (ss.map V.str++[x].map V.str))) p=some (.ins DC dx (rdL ls lw wp)):=by rw [AG (Ne.symm R.np.1)]; exact hp
 refine ⟨_,rfl,p,DC,dx,_,rfl,e1,DT.cl,DT.nP,MP _ _ _,?_⟩;rw [MO];exact q _ (fun b o e n1 n2 n3=>by rw [AG n1,AG n2]; exact e) (R1.wants false)
inductive spRd0 (DC:Addr) (vs:List V) (H:Hp) (Q:VK) (_E:XK):Prop where
 | mk (p dx:Addr) (z_0:vs=[.ref p]) (z_1:H p=some (.ins DC dx [])) (z_2:∀ ls lw H',(∀ b o,H b=some o->b ≠ p->H' b=some o)->H ls=none->H lw=none->RdAt DC H' p ls lw [] [] true->Q .non H')
theorem Ts:AJ ["self"] ["self"] (defScope DA):=fsc
theorem So {f:Addr} (F:Fun K "__init__" "Reading.__init__" DA f fd) (DT:HL K DC):AX P w K mg base CX0 1 f fd ["self"] (spRd0 DC):=by
 refine F.m Ts fun vs H Q E h=>?_;obtain ⟨p,dx,rfl,hp,q⟩:=h;refine ⟨rfl,fun ad A outer s hr=>?_⟩;refine ⟨_,AE (Cj (pv 0) (BK AC) rfl) (AE (Cj (pv 0) (BK AC) rfl) (AD (Cj (pv 0) DH rfl))),?_⟩;refine ⟨(by show 0 <= sizeLine; decide),fun ls hls=>?_⟩;have nls:p ≠ ls:=AI hp hls;refine ⟨_,rfl,p,DC,dx,_,rfl,by rw [AG nls]; exact hp,DT.cl,DT.nS,(by show 0 < 1000; decide),?_⟩;refine ⟨(by show 0 <= sizeLine; decide),fun lw hlw=>?_⟩;have nlp:p ≠ lw:=fun z=>by rw [← z,AB] at hlw; cases hlw
 have cm:(upd H ls (.lst [])) lw=none:=by rw [AG (Ne.symm nlp)] at hlw; exact hlw
 have nll:ls ≠ lw:=fun z=>by rw [← z,AB] at cm; cases cm
 have cn:H lw=none:=by rw [AG (Ne.symm nll)] at cm; exact cm
 refine ⟨_,rfl,p,DC,dx,_,rfl,by rw [AG nlp,AB],DT.cl,DT.nW,Nat.lt_of_le_of_lt (A6 _ _ _) (by show 0 + 1 < 1000; decide),?_⟩;refine ⟨_,rfl,p,DC,dx,_,rfl,AB,DT.cl,DT.nP,Nat.lt_of_le_of_lt (Nat.le_trans (A6 _ _ _) (Nat.succ_le_succ (A6 _ _ _))) (by show 0 + 1 + 1 < 1000; decide),?_⟩;refine q ls lw _ (fun b o e hb=>?_) hls cn ⟨⟨dx,AB⟩,?_,?_,nll⟩
 ·rw [AG hb,AG hb,AG (AI e cn),AG hb,AG (AI e hls)];exact e
 ·rw [AG (Ne.symm nls),AG (Ne.symm nls),AG nll,AG (Ne.symm nls),AB];rfl
 ·rw [AG (Ne.symm nlp),AG (Ne.symm nlp),AB];rfl
end
noncomputable abbrev sl (z:Str) (a b:Nat):Str:=Txt.slice z (some (a:Int)) (some (b:Int))
inductive Sg | br | or | xo | an | no
deriving DecidableEq
noncomputable def Sg.s:Sg->Str | .br => "(" | .or => "|" | .xo => "^" | .an => "&" | .no => "~"
noncomputable def Sg.b:Sg->Nat | .br=>0 | .or=>1 | .xo=>2 | .an=>3 | .no=>4
noncomputable def Sg.c:Sg->Nat | .br=>40 | .or=>124 | .xo=>94 | .an=>38 | .no=>126
def Sg.joins:Sg->Prop | .or=>True | .xo=>True | .an=>True | _=>False
noncomputable abbrev sgs (W:List Sg):List Str:=W.map Sg.s
noncomputable def LQ (W:List Sg):Nat:=match W.getLast? with | some s=>s.b | none=>0
inductive Rn (z:Str) (T:List Str):Nat->List Str->List Sg->Bool->Prop
 | done (S:List Str) (Q:List Sg) (h:∀ q ∈ Q,1 <= q.b) (e:T=S++(sgs Q).reverse):Rn z T z.length S Q false
 | blank (a:Nat) (S:List Str) (W:List Sg) (wp:Bool) (h:z.cps.toList[a]?=some 32) (r:Rn z T (a + 1) S W wp):Rn z T a S W wp
 | part (a n:Nat) (S:List Str) (W:List Sg) (h:PY z a n) (hn:0 < n) (r:Rn z T (a + n) (S++[sl z a (a + n)]) W false):Rn z T a S W true
 | ahead (a:Nat) (S:List Str) (W:List Sg) (g:Sg) (hg:g=.no\/g=.br) (h:z.cps.toList[a]?=some g.c) (r:Rn z T (a + 1) S (W++[g]) true):Rn z T a S W true
 | join (a:Nat) (S:List Str) (W Q:List Sg) (g:Sg) (hg:g.joins) (h:z.cps.toList[a]?=some g.c) (hq:∀ q ∈ Q,g.b <= q.b) (hw:LQ W < g.b) (r:Rn z T (a + 1) (S++(sgs Q).reverse) (W++[g]) true):Rn z T a S (W++Q) false
 | close (a:Nat) (S:List Str) (W Q:List Sg) (h:z.cps.toList[a]?=some 41) (hq:∀ q ∈ Q,1 <= q.b) (r:Rn z T (a + 1) (S++(sgs Q).reverse) W false):Rn z T a S ((W++[.br])++Q) false
inductive Tr
 | wd (x:Str)
 | ng (t:Tr)
 | bn (g:Sg) (a b:Tr)
noncomputable def Tr.post:Tr->List Str
 | .wd x=>[x]
 | .ng t=>t.post++[("~" : Str)]
 | .bn g a b=>a.post++b.post++[g.s]
abbrev Bk (u:List Nat):Prop:=u=[]\/u=[32]
structure PW0 (w:List Nat):Prop where
 ne:0 < w.length
 ok:∀ k,0 < k->k <= w.length->∀ x:Str,x.cps.toList=w.take k->Sl x
inductive Wr:Tr->Nat->List Nat->Prop
 | wd (x:Str) (r:Nat) (bl:List Nat) (hb:Bk bl) (h:PW0 x.cps.toList):Wr (.wd x) r (bl++x.cps.toList)
 | ng (t:Tr) (r:Nat) (u:List Nat) (hr:r <= 3) (h:Wr t 3 u):Wr (.ng t) r (126 :: u)
 | bn (g:Sg) (a b:Tr) (r:Nat) (u v bl:List Nat) (hg:g.joins) (hr:r + 1 <= g.b) (hb:Bk bl) (ha:Wr a (g.b - 1) u) (hv:Wr b g.b v):Wr (.bn g a b) r (u++(bl++(g.c :: v)))
 | br (t:Tr) (r:Nat) (u bl:List Nat) (hb:Bk bl) (h:Wr t 0 u):Wr t r (bl++(40 :: (u++[41])))
def Sep (u:List Nat):Prop:=∀ c,u.head?=some c->CS c=false/\CV c=false
theorem Pa {w:List Nat} {c:Nat} {x:Str} (hc:CS c=false/\CV c=false) (h:x.cps.toList=w++[c]):Sm x:=by
 refine ⟨?_,?_⟩
 ·unfold CD
  have:x.cps.toList.all CS=false:=by
   rw [h,all_append];simp [hc.1]
  rw [this,Bool.and_false]
 ·rw [h,all_append];simp [hc.2]
theorem MQ {x y:Str} (h:x.cps.toList=y.cps.toList):x=y:=by
 cases x with
 | mk a=>cases y with
  | mk b =>
   have:a=b:=by
    have:=congrArg List.toArray h;simpa using this
   rw [this]
theorem Tt {z:Str} {pre w post:List Nat} (hz:z.cps.toList=pre++(w++post)) (hw:PW0 w) (hp:Sep post):PY z pre.length w.length/\sl z pre.length (pre.length + w.length)=⟨w.toArray⟩:=by
 have ba:z.length=pre.length + (w.length + post.length):=by rw [← Ay,hz,length_append,length_append]
 have hs:∀ k,k <= w.length + post.length->(sl z pre.length (pre.length + k)).cps.toList=(w++post).take k:=fun k hk=>by
  rw [FH z (by omega) (by omega),hz,List.drop_left,Nat.add_sub_cancel_left]
 refine ⟨⟨by omega,fun k h0 hk=>?_,fun hlt=>?_⟩,?_⟩
 ·refine hw.ok k h0 hk _ ?_;rw [hs k (by omega),List.take_append_of_le_length hk]
 ·cases post with
  | nil=>simp at ba; omega
  | cons c r =>
   refine Pa (w:=w) (c:=c) (hp c rfl) ?_;have:=hs (w.length + 1) (by simp);rw [show pre.length + w.length + 1=pre.length + (w.length + 1) by omega,this,List.take_append];simp;exact List.take_of_length_le (by omega)
 ·refine MQ ?_;rw [hs w.length (by omega),List.take_left]
theorem G8 {z:Str} {pre post:List Nat} {c:Nat} (hz:z.cps.toList=pre++c :: post):z.cps.toList[pre.length]?=some c:=by
 rw [hz,getElem?_append_right (Nat.le_refl _),Nat.sub_self];rfl
theorem Dv (W:List Sg) (g:Sg):LQ (W++[g])=g.b:=by
 unfold LQ;rw [List.getLast?_append];rfl
theorem Pb {z:Str} {T:List Str} {bl pre post:List Nat} {S:List Str} {W:List Sg} {wp:Bool} (hb:Bk bl) (hz:z.cps.toList=pre++(bl++post)) (r:Rn z T (pre++bl).length S W wp):Rn z T pre.length S W wp:=by
 rcases hb with rfl | rfl
 ·rwa [append_nil] at r
 ·exact .blank _ _ _ _ (G8 hz) (by simpa using r)
theorem Sep.of {c:Nat} {r:List Nat} (h:CS c=false/\CV c=false):Sep (c :: r):=fun d hd=>by cases hd; exact h
theorem Sep.bk {bl u:List Nat} (hb:Bk bl) (h:Sep u):Sep (bl++u):=by
 rcases hb with rfl | rfl
 ·exact h
 ·exact Sep.of ⟨rfl,rfl⟩
theorem Sep.sg {g:Sg} {r:List Nat}:Sep (g.c :: r):=Sep.of (by cases g <;> exact ⟨rfl,rfl⟩)
theorem Sq {z:Str} {T:List Str} {t:Tr} {r:Nat} {u:List Nat} (hW:Wr t r u):∀ {pre suf:List Nat} {S:List Str} {W:List Sg},z.cps.toList=pre++(u++suf)->Sep suf->(r < 3->LQ W <= r) ->
  (∀ (S':List Str) (Q:List Sg),(∀ q ∈ Q,r + 1 <= q.b)->S'++(sgs Q).reverse=S++t.post->Rn z T (pre++u).length S' (W++Q) false)->Rn z T pre.length S W true:=by
 induction hW with
 | wd x r bl hb h =>
  intro pre suf S W hz hs hw k;rw [List.append_assoc] at hz;refine Pb hb hz ?_;obtain ⟨p1,p2⟩:=Tt (z:=z) (pre:=pre++bl) (w:=x.cps.toList) (post:=suf) (by rw [hz,List.append_assoc]) h hs;refine .part _ _ _ _ p1 h.ne ?_;rw [p2,show (⟨x.cps.toList.toArray⟩:Str)=x from rfl];have:=k (S++[x]) [] (fun q hq=>nomatch hq) (by show S++[x]++[]=S++[x]; rw [append_nil]);rw [append_nil] at this;rw [← List.append_assoc,length_append] at this;exact this
 | ng t r u hr h ih =>
  intro pre suf S W hz hs hw k;refine .ahead _ _ _ .no (.inl rfl) (G8 (post:=u++suf) (by rw [hz]; rfl)) ?_;have:=ih (pre:=pre++[126]) (suf:=suf) (S:=S) (W:=W++[.no]) (by rw [hz]; simp) hs (fun h=>absurd h (by decide)) (fun S' Q hq e=>?_)
  ·simpa using this
  ·have:=k S' (.no :: Q) (fun q hq'=>by
    rcases mem_cons.mp hq' with rfl | h
    ·show r + 1 <= 4; omega
    ·have:=hq q h; omega) (by
    show S'++(Sg.no.s :: sgs Q).reverse=S++(t.post++[("~" : Str)]);rw [List.reverse_cons,← List.append_assoc,e,List.append_assoc]
    rfl)
   rw [show W++[Sg.no]++Q=W++(.no :: Q) by simp];simpa using this
 | bn g a b r u v bl hg hr hb ha hv iha ihb =>
  intro pre suf S W hz hs hw k;have hg1:1 <= g.b:=by cases g <;> first | exact hg.elim | decide
  have hg3:g.b <= 3:=by cases g <;> first | exact hg.elim | decide
  have hw':=hw (by omega);refine iha (suf:=bl++(g.c :: (v++suf))) (by rw [hz]; simp) (Sep.bk hb Sep.sg) (fun _=>by omega) fun S1 Q1 h1 e1=>?_;refine Pb (pre:=pre++u) (post:=g.c :: (v++suf)) hb (by rw [hz]; simp) ?_;refine .join _ _ _ _ g hg (G8 (post:=v++suf) (by rw [hz]; simp)) (fun q hq=>by have:=h1 q hq; omega) (by omega) ?_;rw [e1];have:=ihb (pre:=pre++u++bl++[g.c]) (suf:=suf) (S:=S++a.post) (W:=W++[g]) (by rw [hz]; simp) hs (fun _=>by rw [Dv]; exact Nat.le_refl _) fun S2 Q2 h2 e2=>?_
  ·have el:(pre++u++bl++[g.c]).length=(pre++u++bl).length + 1:=by simp; omega
   rw [el] at this;exact this
  ·have:=k S2 (g :: Q2) (fun q hq'=>by
    rcases mem_cons.mp hq' with rfl | h
    ·exact hr
    ·have:=h2 q h; omega) (by
    show S2++(g.s :: sgs Q2).reverse=S++(a.post++b.post++[g.s]);rw [List.reverse_cons,← List.append_assoc,e2]
    simp)
   rw [show W++[g]++Q2=W++(g :: Q2) by simp];have el:(pre++u++bl++[g.c]++v).length=(pre++(u++(bl++g.c :: v))).length:=by simp
   rw [el];exact this
 | br t r u bl hb h ih =>
  intro pre suf S W hz hs hw k;rw [List.append_assoc] at hz;refine Pb hb hz ?_;refine .ahead _ _ _ .br (.inr rfl) (G8 (post:=u++41 :: suf) (by rw [hz]; simp [Sg.c])) ?_;have:=ih (pre:=pre++bl++[40]) (suf:=41 :: suf) (S:=S) (W:=W++[.br]) (by rw [hz]; simp) (Sep.of ⟨rfl,rfl⟩) (fun _=>by rw [Dv]; exact Nat.le_refl _) (fun S' Q hq e=>?_)
  ·have el:(pre++bl++[40]).length=(pre++bl).length + 1:=by simp; omega
   rw [el] at this;exact this
  ·refine .close _ _ _ _ (G8 (post:=suf) (by rw [hz]; simp)) (fun q h=>by have:=hq q h; omega) ?_;rw [e];have:=k (S++t.post) [] (fun q hq=>nomatch hq) (by show _++[]=_; rw [append_nil]);rw [append_nil] at this;have el:(pre++(bl++40 :: (u++[41]))).length=(pre++bl++[40]++u).length + 1:=by simp; omega
   rw [el] at this;exact this
theorem J4 {z:Str} {t:Tr} (h:Wr t 0 z.cps.toList):Rn z t.post 0 [] [] true:=by
 refine Sq h (pre:=[]) (suf:=[]) (by simp) (fun c hc=>nomatch hc) (fun _=>by decide) fun S' Q hq e=>?_;have el:([]++z.cps.toList:List Nat).length=z.length:=by rw [nil_append,Ay]
 rw [el,nil_append];exact .done _ _ (fun q h=>hq q h) (by rw [e]; rfl)
noncomputable def Cf:LK:=[((Sum.inr "(" : Key),.int 0),(Sum.inr "|", .int 1),(Sum.inr "^", .int 2),(Sum.inr "&", .int 3),(Sum.inr "~", .int 4)]
theorem MR (g:Sg):BN Cf (Sum.inr g.s:Key)=some (.int (g.b:Int)):=by cases g <;> decide +kernel
theorem Tu {DC p ls lw bd:Addr} {ss ws:List Str} {wp:Bool} {kvs:LK} (R:RdAt DC H p ls lw ss ws wp) (s:StR p ls lw H H') (h:Rd H bd (.dK kvs)):Rd H' bd (.dK kvs):=by
 obtain ⟨dx,hp⟩:=R.ex
 have ne:∀ {o:HO},H bd=some o->(∀ xs,o ≠ .lst xs)->(∀ a b c,o ≠ .ins a b c)->bd ≠ p/\bd ≠ ls/\bd ≠ lw:=fun {o} e h1 h2=>by
  refine ⟨fun z=>?_,fun z=>?_,fun z=>?_⟩
  ·rw [z,hp] at e;cases e;exact h2 _ _ _ rfl
  ·rw [z,R.hs] at e;cases e;exact h1 _ rfl
  ·rw [z,R.hw] at e;cases e;exact h1 _ rfl
 rcases h with h | ⟨o,h⟩
 ·obtain ⟨a,b,c⟩:=ne h (fun _ z=>nomatch z) (fun _ _ _ z=>nomatch z);exact .inl (s _ _ h a b c)
 ·obtain ⟨a,b,c⟩:=ne h (fun _ z=>nomatch z) (fun _ _ _ z=>nomatch z);exact .inr ⟨o,s _ _ h a b c⟩
theorem J5 (L:List Sg) (g:Sg):atI ((sgs (L++[g])).map V.str) (-1)=some (V.str g.s)/\((sgs (L++[g])).map V.str)[((sgs (L++[g])).map V.str).length - 1]?=some (V.str g.s)/\((sgs (L++[g])).map V.str).dropLast=(sgs L).map V.str:=by
 have e:(sgs (L++[g])).map V.str=(sgs L).map V.str++[V.str g.s]:=by simp [sgs]
 rw [e];refine ⟨?_,?_,?_⟩
 ·unfold atI
  have e2:ixN ((sgs L).map V.str++[V.str g.s]).length (-1)=some ((sgs L).map V.str).length:=by
   rw [length_append,length_singleton];unfold ixN;simp;omega
  rw [e2];show ((sgs L).map V.str++[V.str g.s])[((sgs L).map V.str).length]?=_;rw [getElem?_append_right (Nat.le_refl _),Nat.sub_self];rfl
 ·rw [length_append,length_singleton,Nat.add_sub_cancel,getElem?_append_right (Nat.le_refl _),Nat.sub_self];rfl
 ·exact List.dropLast_concat
section
variable {DC bd:Addr}
inductive spSet (DC bd:Addr) (vs:List V) (H:Hp) (Q:VK) (_E:XK):Prop where
 | mk (p ls lw:Addr) (ss:List Str) (W G:List Sg) (b:Nat) (wp:Bool) (z_0:vs=[.ref p,.int (b:Int)]) (z_1:RdAt DC H p ls lw ss (sgs (W++G)) wp) (z_2:ss.length + (W.length + G.length) <= 400) (z_3:Rd H bd (.dK Cf))
  (z_4:∀ q ∈ G,b <= q.b) (z_5:W=[]\/LQ W < b) (z_6:∀ H',StR p ls lw H H'->RdAt DC H' p ls lw (ss++(sgs G).reverse) (sgs W) wp->Q .non H')
theorem Tv:AJ ["self", "binding"] ["self", "binding"] (defScope CP):=fsc
theorem Sr {f:Addr} (F:Fun K "settle" "Reading.settle" CP f fd) (B:Bl mg) (DT:HL K DC) (mB:mg "BINDING" = some (.ref bd)):AX P w K mg base CX0 1 f fd ["self", "binding"] (spSet DC bd):=by
 refine F.m Tv fun vs H Q E h=>?_;obtain ⟨p,ls,lw,ss,W,G,b,wp,rfl,R,h400,hB,hG,hW,q⟩:=h;refine ⟨rfl,fun ad A outer s hr=>?_⟩;have hu:=Cb hr
 refine ⟨_,AD (Eh PassesOwn.never (PW.pt (B6 (AM Ek (AY (BH K rfl) rfl B.len PySem.boot_len (AA (As (pv 0) rfl) AC)) AF (AR _)) (Bc (AM JH (BU hu (A8 (v:=.ref bd) rfl mB rfl) (BI (Ar K rfl) (As (pv 0) rfl) (DU ED AF) (fun _ _=>rfl)) (fun _ _=>rfl)) (pv 1) (AR _)))))
  (AD (BJ (Es PySem.F.plainAttrs_list PySem.F.slot_list_append PySem.F.type_list_append Bt (As (pv 0) rfl) (AA (GH PySem.F.plainAttrs_list PySem.F.slot_list_pop PySem.F.type_list_pop IV (As (pv 0) rfl)) AC))))),?_⟩
 refine ⟨fun m σ H2=>σ=[some (.ref p),some (.int (b:Int))]/\∃ G1 G2,G=G1++G2/\G1.length=m/\StR p ls lw H H2/\RdAt DC H2 p ls lw (ss++(sgs G2).reverse) (sgs (W++G1)) wp,⟨G.length,rfl,G,[],(append_nil _).symm,rfl,StR.refl _ _ _ _,by simpa using R⟩,?_⟩;rintro m σ H2 ⟨rfl,G1,G2,eG,em,s2,R2⟩;obtain ⟨dx,hp⟩:=id R2.ex;refine ⟨_,rfl,p,DC,dx,_,_,rfl,hp,DT.cl,DT.nW,FI _ _ _,lw,_,rfl,.inl (SqL.of R2.hw),_,_,rfl,rfl,_,rfl,?_⟩;have ba:((sgs (W++G1)).map V.str).length=(W++G1).length:=by simp [sgs]
 rw [ba];rcases List.eq_nil_or_concat (W++G1) with e | ⟨L,g,e⟩
 ·have e1:=List.append_eq_nil_iff.mp e;rw [e,decide_eq_false (show ¬ (([]:List Sg).length:Int) > 0 by simp)];refine AW (AW (q _ s2 ?_));rw [e1.2] at eG R2;rw [eG];simpa [e1.1] using R2
 ·rw [List.concat_eq_append] at e;rw [decide_eq_true (show ((W++G1).length:Int) > 0 by rw [e,length_append,length_singleton]; omega)];refine Aj ?_;have hsl:=J5 L g;rw [← e] at hsl;obtain ⟨hat,c9,db⟩:=hsl;refine ⟨_,rfl,p,DC,dx,_,_,rfl,hp,DT.cl,DT.nW,FI _ _ _,_,rfl,lw,_,-1,.str g.s,rfl,rfl,SqL.of R2.hw,hat,bd,.int (g.b:Int),rfl,.inl ⟨_,Sum.inr g.s,Tu R s2 hB,rfl,(MR g).symm⟩,_,rfl,_,_,rfl,rfl,_,rfl,?_⟩;rcases List.eq_nil_or_concat G1 with e1 | ⟨G0,g',e1⟩
  ·-- all are settled
   subst e1;rw [append_nil] at e
   have hb:¬ ((g.b:Int) ≥ (b:Int)):=by
    rcases hW with z | z
    ·rw [z] at e;have:=congrArg List.length e;simp at this
    ·rw [e,Dv] at z;omega
   rw [decide_eq_false hb];refine AW (q _ s2 ?_);rw [eG];simpa using R2
  ·rw [List.concat_eq_append] at e1;subst e1;have e3:W++(G0++[g'])=L++[g]:=e;rw [← List.append_assoc] at e3;obtain ⟨eL,eg⟩:=List.append_inj' e3 rfl;have eg':g'=g:=by simpa using eg
   subst eg'
   have hb:(g'.b:Int) ≥ (b:Int):=by
    have:=hG g' (by rw [eG]; simp);omega
   rw [decide_eq_true hb];refine Aj ⟨fun σ H3=>σ=[some (.ref p),some (.int (b:Int))]/\StR p ls lw H H3/\RdAt DC H3 p ls lw (ss++(sgs ([g']++G2)).reverse) (sgs (W++G0)) wp,fun σ' H' ⟨e,s',R'⟩=>⟨G0.length,by rw [← em,length_append]; exact Nat.lt_succ_self _,e,G0,[g']++G2,by rw [eG,List.append_assoc],rfl,s',R'⟩,?_⟩;refine ⟨_,rfl,p,DC,dx,_,_,rfl,hp,DT.cl,DT.nS,PZ _ _ _,.inl ⟨rfl,_,SqL.of R2.hs⟩,_,rfl,p,DC,dx,_,_,rfl,hp,DT.cl,DT.nW,FI _ _ _,.inl ⟨rfl,_,SqL.of R2.hw⟩,lw,_,.str g'.s,rfl,rfl,R2.hw,c9,?_⟩;rw [db,← eL];have es:ss++(sgs G2).reverse++[g'.s]=ss++(sgs ([g']++G2)).reverse:=by simp [sgs]
   have R3:=R2.waits (sgs (W++G0));have R4:=R3.steps (ss++(sgs ([g']++G2)).reverse);refine ⟨ls,_,_,rfl,rfl,R3.hs,AO ?_,rfl,fun b o e n1 n2 n3=>?_,?_⟩
   ·have h1:=congrArg List.length eG;simp only [length_append,length_singleton] at h1;simp only [AK,length_append,List.length_reverse];omega
   ·rw [AG n2,AG n3];exact s2 b o e n1 n2 n3
   ·rw [← es,map_append] at R4;rw [← es];exact R4
inductive SgStep:Str->List Str->List Sg->Bool->List Str->List Sg->Bool->Prop
 | blank (S:List Str) (W:List Sg) (wp:Bool):SgStep " " S W wp S W wp
 | ahead (S:List Str) (W:List Sg) (g:Sg) (hg:g=.no\/g=.br):SgStep g.s S W true S (W++[g]) true
 | join (S:List Str) (W G:List Sg) (g:Sg) (hg:g.joins) (hq:∀ q ∈ G,g.b <= q.b) (hw:LQ W < g.b):SgStep g.s S (W++G) false (S++(sgs G).reverse) (W++[g]) true
 | close (S:List Str) (W G:List Sg) (hq:∀ q ∈ G,1 <= q.b):SgStep ")" S ((W++[.br])++G) false (S++(sgs G).reverse) W false
inductive spTB (DC bd:Addr) (vs:List V) (H:Hp) (Q:VK) (_E:XK):Prop where
 | mk (p ls lw:Addr) (ss:List Str) (W G:List Sg) (g:Sg) (z_0:vs=[.ref p,.str g.s]) (z_1:g.joins) (z_2:RdAt DC H p ls lw ss (sgs (W++G)) false) (z_3:ss.length + (W.length + G.length) <= 390) (z_4:Rd H bd (.dK Cf))
  (z_5:∀ q ∈ G,g.b <= q.b) (z_6:LQ W < g.b) (z_7:∀ H',StR p ls lw H H'->RdAt DC H' p ls lw (ss++(sgs G).reverse) (sgs (W++[g])) true->Q (.bl true) H')
theorem Ui:AJ ["self", "sign"] ["self", "sign"] (defScope BW):=fsc
theorem Qu {g:Sg} (h:g.joins):(if true=true then !inV (V.str g.s) [V.str "&", V.str "^", V.str "|"] else inV (V.str g.s) [V.str "&", V.str "^", V.str "|"])=false:=by
 cases g <;> first | exact h.elim | decide +kernel
theorem Tw {f jn:Addr} (F:Fun K "take_between" "Reading.take_between" BW f fd) (DT:HL K DC) (mB:mg "BINDING" = some (.ref bd)) (mJ:mg "JOINING" = some (.ref jn)) (hJ:∀ H,SqT K H jn [.str "&", .str "^", .str "|"]) (GS:Mt P w K mg base DC "settle" 1 ["self", "binding"] (spSet DC bd)) :
  AX P w K mg base CX0 2 f fd ["self", "sign"] (spTB DC bd):=by
 obtain ⟨fS,dS,GS,mS,bS⟩:=GS.ex;refine F.m Ui fun vs H Q E h=>?_;obtain ⟨p,ls,lw,ss,W,G,g,rfl,hg,R,h390,hB,hq,hw,q⟩:=h;refine ⟨rfl,fun ad A outer s hr=>?_⟩;have hu:=Cb hr;obtain ⟨dx,hp⟩:=id R.ex
 refine ⟨_,AE (Ag (AM IU (pv 1) (A8 (v:=.ref jn) rfl mJ rfl) rfl) (AD Ah) AV)
  (AE (BJ (CZ (pv 0) DT.cl mS GS hr bS .nil AQ (AA (BU hu (A8 (v:=.ref bd) rfl mB rfl) (pv 1) (fun _ _=>rfl)) AC)))
  (AE (BJ (Es PySem.F.plainAttrs_list PySem.F.slot_list_append PySem.F.type_list_append Bt (As (pv 0) rfl) (AA (pv 1) AC)))
  (AE (Cj (pv 0) DH rfl)
  (AD (AL DH))))),?_⟩
 refine ⟨_,rfl,jn,_,rfl,.inr (hJ H),rfl,rfl,_,rfl,?_⟩;rw [Qu hg];refine AW ?_;refine ⟨_,rfl,p,dx,_,rfl,hp,DF _ _ _,_,rfl,bd,.int (g.b:Int),rfl,.inl ⟨_,Sum.inr g.s,hB,rfl,(MR g).symm⟩,p,ls,lw,ss,W,G,g.b,false,rfl,R,by omega,hB,hq,.inr hw,fun H1 s1 R1=>?_⟩;obtain ⟨dx1,ak⟩:=id R1.ex;refine ⟨_,rfl,p,DC,dx1,_,_,rfl,ak,DT.cl,DT.nW,FI _ _ _,.inl ⟨rfl,_,SqL.of R1.hw⟩,_,rfl,lw,_,_,rfl,rfl,R1.hw,AO (by simp only [AK]; omega),?_⟩;have ew:(sgs W).map V.str++[V.str g.s]=(sgs (W++[g])).map V.str:=by simp [sgs]
 have R2:RdAt DC (upd H1 lw (.lst ((sgs (W++[g])).map V.str))) p ls lw (ss++(sgs G).reverse) (sgs (W++[g])) false:=R1.waits (sgs (W++[g]));rw [ew];refine ⟨_,rfl,p,DC,dx1,_,rfl,by rw [AG (Ne.symm R1.np.2)]; exact ak,DT.cl,DT.nP,MP _ _ _,?_⟩;rw [MO];exact q _ (fun b o e n1 n2 n3=>by rw [AG n1,AG n3]; exact s1 b o e n1 n2 n3) (R2.wants true)
inductive spTA (DC:Addr) (vs:List V) (H:Hp) (Q:VK) (_E:XK):Prop where
 | mk (p ls lw:Addr) (ss:List Str) (W:List Sg) (g:Sg) (wp:Bool) (z_0:vs=[.ref p,.str g.s]) (z_1:g=.no\/g=.br) (z_2:RdAt DC H p ls lw ss (sgs W) wp) (z_3:W.length <= 390)
  (z_4:∀ H',StR p ls lw H H'->RdAt DC H' p ls lw ss (sgs (W++[g])) wp->Q (.bl true) H')
theorem Uj:AJ ["self", "sign"] ["self", "sign"] (defScope Bn):=fsc
theorem Tx {f:Addr} (F:Fun K "take_ahead" "Reading.take_ahead" Bn f fd) (DT:HL K DC):AX P w K mg base CX0 1 f fd ["self", "sign"] (spTA DC):=by
 refine F.m Uj fun vs H Q E h=>?_;obtain ⟨p,ls,lw,ss,W,g,wp,rfl,hg,R,h390,q⟩:=h;refine ⟨rfl,fun ad A outer s hr=>?_⟩;obtain ⟨dx,hp⟩:=id R.ex
 refine ⟨_,AE (Ag (PW.pt (B6 (AM Dy (pv 1) AN (AR _)) (Bc (AM Dy (pv 1) AN (AR _))))) (AD Ah) AV)
  (AE (BJ (Es PySem.F.plainAttrs_list PySem.F.slot_list_append PySem.F.type_list_append Bt (As (pv 0) rfl) (AA (pv 1) AC)))
  (AD (AL DH))),?_⟩
 have fin:∀ {R':Prop},R'->(∀ b:Bool,b=false->if b=true then False else R'):=fun h b hb=>by subst hb; exact h
 refine ⟨_,rfl,rfl,_,rfl,?_⟩;have ew:(sgs W).map V.str++[V.str g.s]=(sgs (W++[g])).map V.str:=by simp [sgs]
 have R2:RdAt DC (upd H lw (.lst ((sgs (W++[g])).map V.str))) p ls lw ss (sgs (W++[g])) wp:=R.waits (sgs (W++[g]));rcases hg with rfl | rfl
 ·rw [show decide (V.str Sg.no.s=V.str "~")=true by decide +kernel];refine AW (AW ?_);refine ⟨_,rfl,p,DC,dx,_,_,rfl,hp,DT.cl,DT.nW,FI _ _ _,.inl ⟨rfl,_,SqL.of R.hw⟩,_,rfl,lw,_,_,rfl,rfl,R.hw,AO (by simp only [AK]; omega),?_⟩;rw [ew];exact q _ (fun b o e n1 n2 n3=>by rw [AG n3]; exact e) R2
 ·rw [show decide (V.str Sg.br.s=V.str "~")=false by decide +kernel];refine Aj ⟨_,rfl,rfl,_,rfl,?_⟩;rw [show decide (V.str Sg.br.s=V.str "(")=true by decide +kernel];refine AW ?_;refine ⟨_,rfl,p,DC,dx,_,_,rfl,hp,DT.cl,DT.nW,FI _ _ _,.inl ⟨rfl,_,SqL.of R.hw⟩,_,rfl,lw,_,_,rfl,rfl,R.hw,AO (by simp only [AK]; omega),?_⟩;rw [ew];exact q _ (fun b o e n1 n2 n3=>by rw [AG n3]; exact e) R2
inductive spTC (DC bd:Addr) (vs:List V) (H:Hp) (Q:VK) (_E:XK):Prop where
 | mk (p ls lw:Addr) (ss:List Str) (W G:List Sg) (wp:Bool) (z_0:vs=[.ref p]) (z_2:RdAt DC H p ls lw ss (sgs ((W++[.br])++G)) wp) (z_3:ss.length + (W.length + G.length) <= 390) (z_4:Rd H bd (.dK Cf))
  (z_5:∀ q ∈ G,1 <= q.b) (z_7:∀ H',StR p ls lw H H'->RdAt DC H' p ls lw (ss++(sgs G).reverse) (sgs W) wp->Q (.bl true) H')
theorem Uk:AJ ["self"] ["self"] (defScope Bo):=fsc
theorem Ty {f:Addr} {tB:Tok} (F:Fun K "take_close" "Reading.take_close" Bo f fd) (B:Bl mg) (DT:HL K DC) (mL:mg "LEAST_BINDING" = some (.int 1 tB)) (GS:Mt P w K mg base DC "settle" 1 ["self", "binding"] (spSet DC bd)):AX P w K mg base CX0 2 f fd ["self"] (spTC DC bd):=by
 obtain ⟨fS,dS,GS,mS,bS⟩:=GS.ex;refine F.m Uk fun vs H Q E h=>?_;obtain ⟨p,ls,lw,ss,W,G,wp,rfl,R,h390,hB,hq,q⟩:=h;refine ⟨rfl,fun ad A outer s hr=>?_⟩;obtain ⟨dx,hp⟩:=id R.ex
 refine ⟨_,AE (BJ (CZ (pv 0) DT.cl mS GS hr bS .nil AQ (AA (A8 (v:=.int 1) rfl mL ⟨tB,rfl⟩) AC)))
  (AE (Ag (AM Aw (AY (BH K rfl) rfl B.len PySem.boot_len (AA (As (pv 0) rfl) AC)) AF (AR _)) (AD Ah) AV)
  (AE (BJ (GH PySem.F.plainAttrs_list PySem.F.slot_list_pop PySem.F.type_list_pop IV (As (pv 0) rfl)))
  (AD (AL DH)))),?_⟩
 refine ⟨_,rfl,p,dx,_,rfl,hp,DF _ _ _,p,ls,lw,ss,W++[.br],G,1,wp,rfl,R,by rw [length_append,length_singleton]; omega,hB,hq,.inr (by rw [Dv]; decide),fun H1 s1 R1=>?_⟩;obtain ⟨dx1,ak⟩:=id R1.ex;obtain ⟨hat,c9,db⟩:=J5 W .br;refine ⟨_,rfl,p,DC,dx1,_,_,rfl,ak,DT.cl,DT.nW,FI _ _ _,lw,_,rfl,.inl (SqL.of R1.hw),rfl,_,rfl,?_⟩
 rw [decide_eq_false (fun z=>by
  have:=V.int.inj z;simp only [AK,length_append,length_singleton] at this
  omega)]
 refine AW ?_;refine ⟨_,rfl,p,DC,dx1,_,_,rfl,ak,DT.cl,DT.nW,FI _ _ _,.inl ⟨rfl,_,SqL.of R1.hw⟩,lw,_,.str Sg.br.s,rfl,rfl,R1.hw,c9,?_⟩;rw [db];exact q _ (fun b o e n1 n2 n3=>by rw [AG n3]; exact s1 b o e n1 n2 n3) (R1.waits (sgs W))
inductive spTS (DC bd:Addr) (vs:List V) (H:Hp) (Q:VK) (_E:XK):Prop where
 | mk (p ls lw:Addr) (x:Str) (S S':List Str) (W W':List Sg) (wp wp':Bool) (z_0:vs=[.ref p,.str x]) (z_1:RdAt DC H p ls lw S (sgs W) wp) (z_2:SgStep x S W wp S' W' wp') (z_3:S.length + W.length <= 380) (z_4:Rd H bd (.dK Cf))
  (z_5:∀ H',StR p ls lw H H'->RdAt DC H' p ls lw S' (sgs W') wp'->Q (.bl true) H')
theorem Ul:AJ ["self", "sign"] ["self", "sign"] (defScope Bv):=fsc
theorem G9 (g:Sg):decide (V.str g.s=V.str " ")=false/\decide (V.str g.s=V.str ")")=false:=by cases g <;> decide +kernel
theorem Tz {f:Addr} (F:Fun K "take_sign" "Reading.take_sign" Bv f fd) (DT:HL K DC) (GB:Mt P w K mg base DC "take_between" 2 ["self", "sign"] (spTB DC bd)) (GA:Mt P w K mg base DC "take_ahead" 1 ["self", "sign"] (spTA DC)) (GC:Mt P w K mg base DC "take_close" 2 ["self"] (spTC DC bd)):AX P w K mg base CX0 3 f fd ["self", "sign"] (spTS DC bd):=by
 obtain ⟨fB,dB,GB,mB,bB⟩:=GB.ex;obtain ⟨fA,dA,GA,mA,bA⟩:=GA.ex;obtain ⟨fC,dC,GC,mC,bC⟩:=GC.ex;refine F.m Ul fun vs H Q E h=>?_;obtain ⟨p,ls,lw,x,S,S',W,W',wp,wp',rfl,R,st,h380,hB,q⟩:=h;refine ⟨rfl,fun ad A outer s hr=>?_⟩;obtain ⟨dx,hp⟩:=id R.ex;have hr1:Room 1 _:=hr.mono (by decide)
 refine ⟨_,AE (Ag (AM Aw (pv 1) AN (AR _)) (AD (AL DH)) AV)
  (AE (Ag (A2 (As (pv 0) rfl)) (AD (AL (CZ (pv 0) DT.cl mA GA hr1 bA .nil AQ (AA (pv 1) AC)))) AV)
  (AD (AL (BX (AM Aw (pv 1) AN (AR _)) (A3 (pv 0) DT.cl mC GC hr bC .nil AQ) (CZ (pv 0) DT.cl mB GB hr bB .nil AQ (AA (pv 1) AC)))))),?_⟩
 refine ⟨_,rfl,rfl,_,rfl,?_⟩;cases st with
 | blank =>
  rw [show decide (V.str " " = V.str " ")=true by decide +kernel];exact Aj (q _ (StR.refl _ _ _ _) R)
 | ahead _ _ g hg =>
  rw [(G9 g).1];refine AW ⟨_,rfl,p,DC,dx,_,_,rfl,hp,DT.cl,DT.nP,IG _ _ _,_,rfl,Aj ?_⟩;exact ⟨_,rfl,p,dx,_,rfl,hp,DF _ _ _,_,rfl,p,ls,lw,S,W,g,true,rfl,hg,R,by omega,q⟩
 | join _ W0 G g hg hq hw =>
  rw [(G9 g).1];rw [length_append] at h380;refine AW ⟨_,rfl,p,DC,dx,_,_,rfl,hp,DT.cl,DT.nP,IG _ _ _,_,rfl,AW ?_⟩;refine ⟨_,rfl,rfl,_,rfl,?_⟩;rw [(G9 g).2];exact AW ⟨_,rfl,p,dx,_,rfl,hp,DF _ _ _,_,rfl,p,ls,lw,S,W0,G,g,rfl,hg,R,by omega,hB,hq,hw,q⟩
 | close _ _ G hq =>
  rw [show decide (V.str ")" = V.str " ")=false by decide +kernel];rw [length_append,length_append] at h380;refine AW ⟨_,rfl,p,DC,dx,_,_,rfl,hp,DT.cl,DT.nP,IG _ _ _,_,rfl,AW ?_⟩;refine ⟨_,rfl,rfl,_,rfl,?_⟩;rw [show decide (V.str ")" = V.str ")")=true by decide +kernel];exact Aj ⟨_,rfl,p,dx,_,rfl,hp,DF _ _ _,p,ls,lw,S,W',G,false,rfl,R,by omega,hB,hq,q⟩
inductive spEnds (DC bd:Addr) (vs:List V) (H:Hp) (Q:VK) (_E:XK):Prop where
 | mk (p ls lw:Addr) (ss:List Str) (G:List Sg) (z_0:vs=[.ref p]) (z_1:RdAt DC H p ls lw ss (sgs G) false) (z_2:ss.length + G.length <= 390) (z_3:∀ q ∈ G,1 <= q.b) (z_4:Rd H bd (.dK Cf))
  (z_5:∀ H',StR p ls lw H H'->RdAt DC H' p ls lw (ss++(sgs G).reverse) [] false->Q (.bl true) H')
theorem Ss:AJ ["self"] ["self"] (defScope DB):=fsc
theorem Qw {f:Addr} {tB:Tok} (F:Fun K "ends" "Reading.ends" DB f fd) (B:Bl mg) (DT:HL K DC) (mL:mg "LEAST_BINDING" = some (.int 1 tB)) (GS:Mt P w K mg base DC "settle" 1 ["self", "binding"] (spSet DC bd)):AX P w K mg base CX0 2 f fd ["self"] (spEnds DC bd):=by
 obtain ⟨fS,dS,GS,mS,bS⟩:=GS.ex;refine F.m Ss fun vs H Q E h=>?_;obtain ⟨p,ls,lw,ss,G,rfl,R,h390,hq,hB,q⟩:=h;refine ⟨rfl,fun ad A outer s hr=>?_⟩;obtain ⟨dx,hp⟩:=id R.ex
 refine ⟨_,AE (BJ (CZ (pv 0) DT.cl mS GS hr bS .nil AQ (AA (A8 (v:=.int 1) rfl mL ⟨tB,rfl⟩) AC)))
  (AD (AL (Bj (Nn (As (pv 0) rfl)) (B7 (Be Aw (AY (BH K rfl) rfl B.len PySem.boot_len (AA (As (pv 0) rfl) AC)) AF (AR _)))))),?_⟩
 refine ⟨_,rfl,p,dx,_,rfl,hp,DF _ _ _,p,ls,lw,ss,[],G,1,false,rfl,R,by show _ + (0 + _) <= 400; omega,hB,hq,.inl rfl,fun H1 s1 R1=>?_⟩;obtain ⟨dx1,ak⟩:=id R1.ex;refine ⟨_,rfl,p,DC,dx1,_,_,rfl,ak,DT.cl,DT.nP,IG _ _ _,_,rfl,_,rfl,Aj ?_⟩;exact ⟨_,rfl,p,DC,dx1,_,_,rfl,ak,DT.cl,DT.nW,FI _ _ _,lw,_,rfl,.inl (SqL.of R1.hw),rfl,q _ s1 R1⟩
end
theorem Qx {a:Addr} {o:HO} (s:Same H H') (h:Rd H a o):Rd H' a o:=by
 rcases h with h | ⟨o,h⟩
 ·exact .inl (s _ _ h)
 ·exact .inr ⟨o,s _ _ h⟩
theorem RdAt.same {DC:Addr} {p ls lw:Addr} {ss ws:List Str} {wp:Bool} (s:Same H H') (h:RdAt DC H p ls lw ss ws wp):RdAt DC H' p ls lw ss ws wp:=by
 obtain ⟨dx,hp⟩:=h.ex;exact ⟨⟨dx,s _ _ hp⟩,s _ _ h.hs,s _ _ h.hw,h.ne⟩
theorem LR (g:Sg):(⟨#[g.c]⟩:Str)=g.s:=by cases g <;> decide +kernel
theorem RY (g:Sg):CS g.c=false/\CV g.c=false:=by cases g <;> exact ⟨rfl,rfl⟩
inductive RnN (z:Str) (T:List Str) (a:Nat) (S:List Str) (W:List Sg) (wp:Bool):Prop
 | done (ea:a=z.length) (ew:wp=false) (h:∀ q ∈ W,1 <= q.b) (e:T=S++(sgs W).reverse)
 | part (ew:wp=true) (n:Nat) (h:PY z a n) (hn:0 < n) (r:Rn z T (a + n) (S++[sl z a (a + n)]) W false)
 | sign (c:Nat) (S':List Str) (W':List Sg) (wp':Bool) (hc:z.cps.toList[a]?=some c) (no:CS c=false/\CV c=false) (st:SgStep ⟨#[c]⟩ S W wp S' W' wp') (r:Rn z T (a + 1) S' W' wp') (l:S'.length + W'.length <= S.length + W.length + 1)
theorem Rn.next {z:Str} {T:List Str} {a:Nat} {S:List Str} {W:List Sg} {wp:Bool} (h:Rn z T a S W wp):RnN z T a S W wp:=by
 cases h with
 | done _ _ h e=>exact .done rfl rfl h e
 | blank _ _ _ _ h r=>exact .sign 32 _ _ _ h ⟨rfl,rfl⟩ (by rw [show (⟨#[32]⟩:Str) = " " by decide +kernel]; exact .blank _ _ _) r (by omega)
 | part _ n _ _ h hn r=>exact .part rfl n h hn r
 | ahead _ _ _ g hg h r=>exact .sign g.c _ _ _ h (RY g) (by rw [LR]; exact .ahead _ _ g hg) r (by simp; omega)
 | join _ _ W Q g hg h hq hw r=>exact .sign g.c _ _ _ h (RY g) (by rw [LR]; exact .join _ W Q g hg hq hw) r (by simp; omega)
 | close _ _ W Q h hq r=>exact .sign 41 _ _ _ h ⟨rfl,rfl⟩ (by rw [show (⟨#[41]⟩:Str) = ")" by decide +kernel]; exact .close _ W Q hq) r (by simp; omega)
theorem Su {z:Str} {a c:Nat} (hc:z.cps.toList[a]?=some c) (no:CS c=false/\CV c=false):PY z a 0:=by
 obtain ⟨hlt,ec⟩:=List.getElem?_eq_some_iff.mp hc;rw [Ay] at hlt;refine ⟨by omega,fun k h0 hk=>absurd hk (by omega),fun _=>Pa (w:=[]) no ?_⟩;rw [FH z (by omega) (by omega)];rw [show a + 0 + 1 - a=1 by omega,nil_append];rw [List.drop_eq_getElem_cons (by rw [Ay]; exact hlt),ec];rfl
structure T3 (P:Program) (w:World) (K:FG) (mg:SV) (base:Heap) (DC bd:Addr):Prop where
 T:HL K DC
 cls:mg "Reading" = some (.ref DC)
 make:∃ f fd,Mk K DC f/\AX P w K mg base CX0 1 f fd ["self"] (spRd0 DC)/\Binds K fd ["self"] []
 tp:Mt P w K mg base DC "take_part" 1 ["self", "part"] (spTP DC)
 ts:Mt P w K mg base DC "take_sign" 3 ["self", "sign"] (spTS DC bd)
 en:Mt P w K mg base DC "ends" 2 ["self"] (spEnds DC bd)
inductive spSt (DC bd:Addr) (vs:List V) (H:Hp) (Q:VK) (_E:XK):Prop where
 | mk (z:Str) (T:List Str) (z_0:vs=[.str z,.bl false]) (z_1:z.cps.all (· < 128)=true) (z_2:z.length <= 100) (z_3:Rn z T 0 [] [] true) (z_4:Rd H bd (.dK Cf)) (z_5:∀ l H',Same H H'->H' l=some (.lst (T.map V.str))->Q (.ref l) H')
noncomputable abbrev NSt:List Str:=["text", "lettered", "reading", "at", "end"]
theorem scSt:AJ NSt ["text", "lettered"] (defScope CQ):=fsc
inductive StA (DC:Addr) (z:Str) (T:List Str) (p ls lw:Addr) (H:Hp) (a:Nat):Prop
 | mk (S:List Str) (W:List Sg) (wp:Bool) (R:RdAt DC H p ls lw S (sgs W) wp) (t:Rn z T a S W wp) (l:S.length + W.length <= a) (h:a <= z.length)
section
variable {DC bd:Addr}
theorem T4 {f:Addr} (F:Fun K "steps_of" "steps_of" CQ f fd) (B:Bl mg) (RO:T3 P w K mg base DC bd) (GE:Fn P w K mg base "part_end" 5 ["text", "at", "lettered"] spPE):AX P w K mg base CX0 6 f fd ["text", "lettered"] (spSt DC bd):=by
 obtain ⟨fE,dE,GE,mE,kE,bE⟩:=GE.ex;obtain ⟨fI,dI,MI,GI,bI⟩:=RO.make;obtain ⟨fT,dT,GT,mT,bT⟩:=RO.tp.ex;obtain ⟨fS,dS,GS,mS,bS⟩:=RO.ts.ex;obtain ⟨fN,dN,GN,mN,bN⟩:=RO.en.ex;have mC:=RO.cls;have DT:=RO.T;refine F.m scSt fun vs H Q E h=>?_;obtain ⟨z,T,rfl,ha,h40,RN,hB,q⟩:=h;refine ⟨rfl,fun ad A outer s hr=>?_⟩;have hr1:Room 1 _:=hr.mono (by decide);have hr2:Room 2 _:=hr.mono (by decide);have hr3:Room 3 _:=hr.mono (by decide);have nd:=scSt.nd
 refine ⟨_,AE (Ag (BV (A2 (Bp K rfl rfl B.isi rfl B.str Fc (pv 0)))) (AD Ah) AV)
  (AE (Ac (i:=2) nd rfl (Or.inl rfl) (Nz MI GI hr2 rfl mC bI .nil AQ))
  (AE (Ac (i:=3) nd rfl (Or.inl rfl) AF)
  (BD (Eh PassesOwn.never (AM Fo (pv 3) (AY BS rfl B.len PySem.boot_len (AA (pv 0) AC)) (AR _))
   (BD (Ac (i:=4) nd rfl (Or.inl rfl) (BX (A2 (As (pv 2) rfl)) (AS GE hr rfl mE kE bE .nil AQ (AA (pv 0) (AA (pv 3) (AA (pv 1) AC)))) (pv 3)))
   (AD (Ag (AM Ek (pv 4) (pv 3) (AR _))
    (AE (BJ (CZ (pv 2) DT.cl mT GT hr1 bT .nil AQ (AA (JM Om (pv 0) (F0 (pv 3)) (F0 (pv 4))) AC))) (AD (Ac (i:=3) nd rfl (Or.inl rfl) (pv 4))))
    (AD (Ag (A2 (CZ (pv 2) DT.cl mS GS hr3 bS .nil AQ (AA (BI KZ (pv 0) (pv 3) (fun _ _=>rfl)) AC))) (AD (KH (i:=3) nd rfl (Or.inl rfl) AF (Lc:OpR _ _ _))) (AD Ah)))))))
  (AE (Ag (BV (A2 (A3 (pv 2) DT.cl mN GN hr2 bN .nil AQ))) (AD Ah) AV)
  (AD (AL (As (pv 2) rfl))))))),?_⟩
 refine ⟨_,rfl,_,_,_,true,rfl,.str z,rfl,_,rfl,AW ?_⟩;intro p dx hp ay ax;have sN:=Dp (D:=DC) hp ay ax;refine ⟨p,dx,rfl,AB,fun ls lw H1 s1 hls hlw R1=>⟨rfl,?_⟩⟩;have S1:Same H H1:=fun b o e=>s1 b o (sN _ _ e) (AI e hp);have hls0:H ls=none:=none_of sN hls;have cn:H lw=none:=none_of sN hlw;have old:∀ {H2 H3:Hp},Same H H2->StR p ls lw H2 H3->Same H H3:=fun {H2 H3} a b c o e=>b c o (a c o e) (AI e hp) (AI e hls0) (AI e cn);have rdS:∀ {H2:Hp},Same H H2->Rd H2 bd (.dK Cf):=fun {H2} a=>Qx a hB;refine ⟨fun σ H'=>(∃ v4,σ=[some (.str z),some (.bl false),some (.ref p),some (.int (z.length:Int)),v4])/\Same H H'/\∃ S W,RdAt DC H' p ls lw S (sgs W) false/\(∀ q ∈ W,1 <= q.b)/\T=S++(sgs W).reverse/\S.length + W.length <= 300,fun R hR=>?_,?_⟩
 ·refine ⟨fun m σ H2=>∃ a v4,σ=[some (.str z),some (.bl false),some (.ref p),some (.int ((a:Nat):Int)),v4]/\m=z.length - a/\Same H H2/\StA DC z T p ls lw H2 a,⟨z.length,0,none,rfl,rfl,S1,.mk [] [] true R1 RN (Nat.zero_le _) (Nat.zero_le _)⟩,?_⟩;rintro m σ H2 ⟨a,v4,rfl,rfl,S2,S,W,wp,R2,t,l,au⟩;refine ⟨_,rfl,_,rfl,z,rfl,Nat.le_of_lt (AO (by omega)),_,_,rfl,rfl,_,rfl,?_⟩;obtain ⟨dx2,al⟩:=id R2.ex;cases t.next with
  | done ea ew h e =>
   subst ea ew;rw [decide_eq_false (show ¬ ((z.length:Nat):Int) < (z.length:Int) by omega)];exact AW (hR _ _ ⟨⟨_,rfl⟩,S2,S,W,R2,h,e,by omega⟩)
  | part ew n pt hn r =>
   subst ew;have hle:=pt.le;rw [decide_eq_true (show ((a:Nat):Int) < (z.length:Int) by omega)];refine Aj ⟨fun σ H3=>∃ b v4,σ=[some (.str z),some (.bl false),some (.ref p),some (.int ((b:Nat):Int)),v4]/\z.length - b < z.length - a/\Same H H3/\StA DC z T p ls lw H3 b,fun σ' H' ⟨b,v,e1,e2,e3,e4⟩=>⟨z.length - b,e2,b,v,e1,rfl,e3,e4⟩,?_⟩;refine ⟨fun σ H3=>σ=[some (.str z),some (.bl false),some (.ref p),some (.int ((a:Nat):Int)),some (.int ((a + n:Nat):Int))]/\Same H H3/\RdAt DC H3 p ls lw S (sgs W) true,fun R hR=>?_,?_⟩
   ·refine ⟨_,rfl,p,DC,dx2,_,_,rfl,al,DT.cl,DT.nP,IG _ _ _,_,rfl,Aj ?_⟩;exact ⟨_,rfl,_,rfl,_,rfl,z,a,n,rfl,ha,by omega,pt,fun H3 s3=>hR _ _ ⟨rfl,S2.trans s3,R2.same s3⟩⟩
   ·rintro σ H3 ⟨rfl,S3,R3⟩;obtain ⟨dx3,hp3⟩:=id R3.ex;refine ⟨_,rfl,_,rfl,_,_,rfl,rfl,_,rfl,?_⟩;rw [decide_eq_true (show ((a + n:Nat):Int) > ((a:Nat):Int) by omega)];refine Aj ?_;refine ⟨_,rfl,p,dx3,_,rfl,hp3,DF _ _ _,_,rfl,_,rfl,_,rfl,_,rfl,_,rfl,z,rfl,Nat.le_of_lt (AO (by omega)),p,ls,lw,S,sgs W,true,_,rfl,R3,by omega,fun H4 s4 R4=>?_⟩;exact ⟨_,rfl,a + n,_,rfl,by omega,old S3 s4,.mk _ W false R4 r (by rw [length_append,length_singleton]; omega) hle⟩
  | sign c S' W' wp' hc no st r hl' =>
   have hlt:a < z.length:=by
    have:=(List.getElem?_eq_some_iff.mp hc).1;rw [Ay] at this;exact this
   rw [decide_eq_true (show ((a:Nat):Int) < (z.length:Int) by omega)];refine Aj ⟨fun σ H3=>∃ b v4,σ=[some (.str z),some (.bl false),some (.ref p),some (.int ((b:Nat):Int)),v4]/\z.length - b < z.length - a/\Same H H3/\StA DC z T p ls lw H3 b,fun σ' H' ⟨b,v,e1,e2,e3,e4⟩=>⟨z.length - b,e2,b,v,e1,rfl,e3,e4⟩,?_⟩;refine ⟨fun σ H3=>σ=[some (.str z),some (.bl false),some (.ref p),some (.int ((a:Nat):Int)),some (.int ((a:Nat):Int))]/\Same H H3/\RdAt DC H3 p ls lw S (sgs W) wp,fun R hR=>?_,?_⟩
   ·refine ⟨_,rfl,p,DC,dx2,_,_,rfl,al,DT.cl,DT.nP,IG _ _ _,_,rfl,?_⟩;cases wp with
    | false=>exact AW ⟨_,rfl,hR _ _ ⟨rfl,S2,R2⟩⟩
    | true=>exact Aj ⟨_,rfl,_,rfl,_,rfl,z,a,0,rfl,ha,by omega,Su hc no,fun H3 s3=>hR _ _ ⟨rfl,S2.trans s3,R2.same s3⟩⟩
   ·rintro σ H3 ⟨rfl,S3,R3⟩;obtain ⟨dx3,hp3⟩:=id R3.ex;refine ⟨_,rfl,_,rfl,_,_,rfl,rfl,_,rfl,?_⟩;rw [decide_eq_false (show ¬ ((a:Nat):Int) > ((a:Nat):Int) by omega)];refine AW ?_;refine ⟨_,rfl,p,dx3,_,rfl,hp3,DF _ _ _,_,rfl,_,rfl,z,(a:Int),c,rfl,rfl,Nat.le_of_lt (AO (by omega)),Bm hc,p,ls,lw,⟨#[c]⟩,S,S',W,W',wp,wp',rfl,R3,st,by omega,rdS S3,fun H4 s4 R4=>⟨_,rfl,Aj ?_⟩⟩;refine ⟨_,rfl,_,_,rfl,rfl,a + 1,some (.int ((a:Nat):Int)),?_,by omega,old S3 s4,.mk S' W' wp' R4 r (by omega) (by omega)⟩;show [some (V.str z),some (V.bl false),some (V.ref p),some (V.int (((a:Nat):Int) + 1)),some (V.int ((a:Nat):Int))]=_;rfl
 rintro σ H2 ⟨⟨v4,rfl⟩,S2,S,W,R2,hq,eS,l80⟩;obtain ⟨dx2,al⟩:=id R2.ex;refine ⟨_,rfl,p,dx2,_,rfl,al,DF _ _ _,p,ls,lw,S,W,rfl,R2,by omega,hq,rdS S2,fun H3 s3 R3=>⟨_,rfl,AW ?_⟩⟩;obtain ⟨dx3,hp3⟩:=id R3.ex;refine ⟨_,rfl,p,DC,dx3,_,_,rfl,hp3,DT.cl,DT.nS,PZ _ _ _,q ls H3 (old S2 s3) ?_⟩;rw [eS];exact R3.hs
end
theorem MS (a b:Nat):Builtin.bitXor (a:Int) (b:Int)=((a ^^^ b:Nat):Int):=by
 have h1:(a ^^^ b) ||| (a &&& b)=a ||| b:=by
  refine Nat.eq_of_testBit_eq fun k=>?_;simp only [Nat.testBit_and,Nat.testBit_xor,Nat.testBit_or];cases a.testBit k <;> cases b.testBit k <;> rfl
 have h2:(a ^^^ b) &&& (a &&& b)=0:=by
  refine Nat.eq_of_testBit_eq fun k=>?_;simp only [Nat.testBit_and,Nat.testBit_xor,Nat.zero_testBit];cases a.testBit k <;> cases b.testBit k <;> rfl
 have h3:=PM (a ^^^ b) (a &&& b);rw [h1,h2] at h3;have h4:Builtin.bitXor (a:Int) (b:Int)=Builtin.bitOr (a:Int) (b:Int) - Builtin.bitAnd (a:Int) (b:Int):=rfl;rw [h4,C4,Bf];omega
noncomputable def wv (due:Aa) (x:Str):Nat:=if CD x then look due x else digitsVal x.cps.toList
structure WdOk (due:Aa) (x:Str):Prop where
 as:x.cps.all (· < 128)=true
 l0:0 < x.length
 l6:x.length <= 200
 sm:∀ c ∈ x.cps.toList,c < 97
 or:(CD x=true/\x ∈ due.map (·.1))\/(CD x=false/\AllDigits x.cps.toList)
theorem WdOk.nb {x:Str} (h:WdOk due x):x ≠ "|" /\ x ≠ "&" /\ x ≠ "^" /\ x ≠ "~" := by
 have key:∀ y:Str,CD y=false->(∃ c ∈ y.cps.toList,¬ (48 <= c/\c <= 57))->x ≠ y:=fun y h1 ⟨c,hc,h2⟩ z=>by
  subst z;rcases h.or with ⟨a,_⟩ | ⟨_,b⟩
  ·rw [h1] at a;cases a
  ·exact h2 (b c hc)
 exact ⟨key _ (by decide +kernel) ⟨124,by decide +kernel,by decide⟩,key _ (by decide +kernel) ⟨38,by decide +kernel,by decide⟩,key _ (by decide +kernel) ⟨94,by decide +kernel,by decide⟩,key _ (by decide +kernel) ⟨126,by decide +kernel,by decide⟩⟩
noncomputable def Sg.f:Sg->Nat->Nat->Nat | .an,a,b=>a &&& b | .xo,a,b=>a ^^^ b | _,a,b=>a ||| b
inductive EvS (due:Aa) (k:Nat):List Nat->Str->List Nat->Prop
 | ng (h:List Nat) (v:Nat):EvS due k (h++[v]) "~" (h++[k - (k &&& v)])
 | bn (g:Sg) (hg:g.joins) (h:List Nat) (a b:Nat):EvS due k (h++[a]++[b]) g.s (h++[g.f a b])
 | wd (x:Str) (W:WdOk due x) (h:List Nat):EvS due k h x (h++[wv due x])
inductive Ev (due:Aa) (k:Nat):List Nat->List Str->List Nat->Prop
 | nil (h:List Nat):Ev due k h [] h
 | cons (h h' h'':List Nat) (x:Str) (S:List Str) (a:EvS due k h x h') (b:Ev due k h' S h''):Ev due k h (x :: S) h''
theorem Ev.app {k:Nat} {S':List Str} {h1 h2:List Nat}:∀ {S:List Str} {h:List Nat},Ev due k h S h1->Ev due k h1 S' h2->Ev due k h (S++S') h2
 | [],_,.nil _,b=>b
 | x :: S,_,.cons _ h' _ _ _ a r,b=>.cons _ h' _ _ _ a (r.app b)
noncomputable def Tr.come (due:Aa) (k:Nat):Tr->Nat
 | .wd x=>wv due x
 | .ng t=>k - (k &&& t.come due k)
 | .bn g a b=>g.f (a.come due k) (b.come due k)
def Tr.Ok (due:Aa):Tr->Prop
 | .wd x=>WdOk due x
 | .ng t=>t.Ok due
 | .bn g a b=>g.joins/\a.Ok due/\b.Ok due
theorem FJ {k:Nat}:∀ (t:Tr),t.Ok due->∀ h,Ev due k h t.post (h++[t.come due k])
 | .wd x,o,h=>.cons _ _ _ _ _ (.wd x o h) (.nil _)
 | .ng t,o,h=>(FJ t o h).app (.cons _ _ _ _ _ (.ng h _) (.nil _))
 | .bn g a b,o,h=>((FJ a o.2.1 h).app (FJ b o.2.2 _)).app (.cons _ _ _ _ _ (.bn g o.1 h _ _) (.nil _))
theorem EvS.len {k:Nat} {h h':List Nat} {x:Str} (e:EvS due k h x h'):h'.length <= h.length + 1:=by
 cases e <;> simp <;> omega
section
variable {DC bd jn:Addr}
inductive spJn (vs:List V) (H:Hp) (Q:VK) (_E:XK):Prop where
 | mk (g:Sg) (a b:Nat) (z_0:vs=[.str g.s,.int (a:Int),.int (b:Int)]) (z_1:g.joins) (z_2:Q (.int ((g.f a b:Nat):Int)) H)
theorem Um:AJ ["sign", "one", "other"] ["sign", "one", "other"] (defScope Iu):=fsc
theorem T5 {f:Addr} (F:Fun K "joined" "joined" Iu f fd):AX P w K mg base CX0 1 f fd ["sign", "one", "other"] spJn:=by
 refine F.m Um fun vs H Q E h=>?_;obtain ⟨g,a,b,rfl,hg,q⟩:=h;refine ⟨rfl,fun ad A outer s hr=>?_⟩;refine ⟨_,AE (Ag (AM Aw (pv 0) AN (AR _)) (AD (AL (AZ CA (pv 1) (pv 2)))) AV) (AE (Ag (AM Aw (pv 0) AN (AR _)) (AD (AL (AZ Nv (pv 1) (pv 2)))) AV) (AD (AL (AZ Lb (pv 1) (pv 2))))),?_⟩;refine ⟨_,rfl,rfl,_,rfl,?_⟩;cases g with
 | br=>exact hg.elim
 | no=>exact hg.elim
 | an =>
  rw [show decide (V.str Sg.an.s=V.str "&")=true by decide +kernel];refine Aj ⟨_,rfl,_,rfl,_,_,rfl,rfl,?_⟩;show Q (V.int (Builtin.bitAnd _ _)) H;rw [Bf];exact q
 | xo =>
  rw [show decide (V.str Sg.xo.s=V.str "&")=false by decide +kernel];refine AW ⟨_,rfl,rfl,_,rfl,?_⟩;rw [show decide (V.str Sg.xo.s=V.str "^")=true by decide +kernel];refine Aj ⟨_,rfl,_,rfl,_,_,rfl,rfl,?_⟩;show Q (V.int (Builtin.bitXor _ _)) H;rw [MS];exact q
 | or =>
  rw [show decide (V.str Sg.or.s=V.str "&")=false by decide +kernel];refine AW ⟨_,rfl,rfl,_,rfl,?_⟩;rw [show decide (V.str Sg.or.s=V.str "^")=false by decide +kernel];refine AW ⟨_,rfl,_,rfl,_,_,rfl,rfl,?_⟩;show Q (V.int (Builtin.bitOr _ _)) H;rw [C4];exact q
inductive spPN (C:Addr) (vs:List V) (H:Hp) (Q:VK) (_E:XK):Prop where
 | mk (k t:Addr) (x:Str) (due:Aa) (r:Str) (z_0:vs=[.ref k,.str x,.ref t]) (z_1:KindAt C H k due r) (z_2:WdOk due x) (z_3:∀ H',Same H H'->Q (.int (wv due x:Nat)) H')
theorem Uo:AJ ["kind", "part", "table"] ["kind", "part", "table"] (defScope Dh):=fsc
theorem T6 {f:Addr} (F:Fun K "part_number" "part_number" Dh f fd) (B:Bl mg) (T:Dx K C) (GL:Fn P w K mg base "is_letter" 1 ["thing"] spLet) (GN:Fn P w K mg base "is_name" 1 ["thing"] spIsName) (GK:Mt P w K mg base C "number" 2 ["self", "name"] (spNumber C)):AX P w K mg base CX0 3 f fd ["kind", "part", "table"] (spPN C):=by
 obtain ⟨fL,dL,GL,mL,kL,bL⟩:=GL.ex;obtain ⟨fN,dN,GN,mN,kN,bN⟩:=GN.ex;obtain ⟨fK,dK,GK,mK,bK⟩:=GK.ex;refine F.m Uo fun vs H Q E h=>?_;obtain ⟨k,t,x,due,r,rfl,KA,W,q⟩:=h;refine ⟨rfl,fun ad A outer s hr=>?_⟩;have hr1:Room 1 _:=hr.mono (by decide);obtain ⟨dk,e1,e2,hk⟩:=KA.ins
 refine ⟨_,AE (Ag (A2 (AS GL hr1 rfl mL kL bL .nil AQ (AA (pv 1) AC))) (AD Ah) AV)
  (AE (Ag (A2 (AS GN hr1 rfl mN kN bN .nil AQ (AA (pv 1) AC))) (AD (AL (CZ (pv 0) T.cl mK GK hr bK .nil AQ (AA (pv 1) AC)))) AV)
  (AD (AL (BR D3 rfl B.int Gx (AA (pv 1) AC))))),?_⟩
 have l6:=W.l6;refine ⟨_,rfl,x,rfl,W.l0,W.l6,W.sm,_,rfl,AW ?_⟩;refine ⟨_,rfl,x,rfl,W.as,by omega,fun H1 s1=>⟨_,rfl,?_⟩⟩;have qq:=q H1 s1;unfold wv at qq;rcases W.or with ⟨hn,hx⟩ | ⟨hn,hd⟩
 ·rw [hn] at qq ⊢;rw [if_pos rfl] at qq;exact Aj ⟨_,rfl,k,dk,_,rfl,s1 _ _ hk,(CG _ _ _),_,rfl,k,due,r,x,rfl,KA.same s1,hx,qq⟩
 ·rw [hn] at qq ⊢;rw [if_neg (by decide)] at qq;have l0:=W.l0;exact AW ⟨_,rfl,x,_,rfl,by omega,intText_digits hd (fun z=>by have:=Ay x; rw [z] at this; simp at this; omega) (by omega),qq⟩
inductive spNo (C:Addr) (vs:List V) (H:Hp) (Q:VK) (_E:XK):Prop where
 | mk (k l t:Addr) (S:List Str) (v:Nat) (due:Aa) (r:Str) (z_0:vs=[.ref k,.ref l,.ref t]) (z_1:KindAt C H k due r) (z_2:H l=some (.lst (S.map V.str))) (z_3:S.length <= 400) (z_4:Ev due (kn due) [] S [v]) (z_5:∀ H',Same H H'->Q (.int ((v:Nat):Int)) H')
noncomputable abbrev NNo:List Str:=["kind", "steps", "table", "held", "step", "last"]
theorem scNo:AJ NNo ["kind", "steps", "table"] (defScope FZ):=fsc
theorem Dw (h:List Nat) (v:Nat):atI (Av (h++[v])) (-1)=some (V.int (v:Int))/\(Av (h++[v]))[(Av (h++[v])).length - 1]?=some (V.int (v:Int))/\(Av (h++[v])).dropLast=Av h/\ixN (Av (h++[v])).length (-1)=some h.length/\∀ u:V,(Av (h++[v])).set h.length u=Av h++[u]:=by
 have e:Av (h++[v])=Av h++[V.int (v:Int)]:=by unfold Av; rw [map_append]; rfl
 have el:(Av h).length=h.length:=AK _;rw [e]
 have e2:ixN (Av h++[V.int (v:Int)]).length (-1)=some h.length:=by
  rw [length_append,length_singleton,el];unfold ixN;simp;omega
 refine ⟨?_,?_,List.dropLast_concat,e2,fun u=>?_⟩
 ·unfold atI;rw [e2];show (Av h++[V.int (v:Int)])[h.length]?=_;rw [getElem?_append_right (by omega),el,Nat.sub_self];rfl
 ·rw [length_append,length_singleton,Nat.add_sub_cancel,getElem?_append_right (Nat.le_refl _),Nat.sub_self];rfl
 ·rw [List.set_append_right _ _ (by omega),el,Nat.sub_self];rfl
theorem Pc {g:Sg} (h:g.joins):(if false=true then !inV (V.str g.s) [V.str "&", V.str "^", V.str "|"] else inV (V.str g.s) [V.str "&", V.str "^", V.str "|"])=true:=by
 cases g <;> first | exact h.elim | decide +kernel
theorem T7 {f:Addr} (F:Fun K "number_of" "number_of" FZ f fd) (T:Dx K C) (mJ:mg "JOINING" = some (.ref jn)) (hJ:∀ H,SqT K H jn [.str "&", .str "^", .str "|"]) (GK:Mt P w K mg base C "known" 2 ["self"] (spKnown C)) (GJ:Fn P w K mg base "joined" 1 ["sign", "one", "other"] spJn) (GP:Fn P w K mg base "part_number" 3 ["kind", "part", "table"] (spPN C)):AX P w K mg base CX0 4 f fd ["kind", "steps", "table"] (spNo C):=by
 obtain ⟨fJ,dJ,GJ,mJn,kJ,bJ⟩:=GJ.ex;obtain ⟨fP,dP,GP,mP,kP,bP⟩:=GP.ex;obtain ⟨fK,dK,GK,mK,bK⟩:=GK.ex;refine F.m scNo fun vs H Q E h=>?_;obtain ⟨k,l,t,S,v,due,r,rfl,KA,hl,h400,G,q⟩:=h;refine ⟨rfl,fun ad A outer s hr=>?_⟩;have hr1:Room 1 _:=hr.mono (by decide);have hr2:Room 2 _:=hr.mono (by decide);have nd:=scNo.nd
 refine ⟨_,AE (Ac (i:=3) nd rfl (Or.inl rfl) (BK AC))
  (AE (DS PassesOwn.never rfl (Bx (pv 1)) (Ae (i:=4) nd rfl (Or.inl rfl))
   (AD (Ag (AM Aw (pv 4) AN (AR _))
    (AD (Ch (AZ CA (A3 (pv 0) T.cl mK GK hr2 bK .nil AQ) (DU IN (BI (Ar K rfl) (pv 3) (DU ED AF) (fun _ _=>rfl)))) (IK (pv 3) (DU ED AF) En)))
    (AD (Ag (AM Dq (pv 4) (A8 (v:=.ref jn) rfl mJ rfl) rfl)
     (AE (Ac (i:=5) nd rfl (Or.inl rfl) (GH PySem.F.plainAttrs_list PySem.F.slot_list_pop PySem.F.type_list_pop IV (pv 3)))
     (AD (Ch (AS GJ hr1 rfl mJn kJ bJ .nil AQ (AA (pv 4) (AA (BI (Ar K rfl) (pv 3) (DU ED AF) (fun _ _=>rfl)) (AA (pv 5) AC)))) (IK (pv 3) (DU ED AF) En))))
     (AD (BJ (Es PySem.F.plainAttrs_list PySem.F.slot_list_append PySem.F.type_list_append Bt (pv 3) (AA (AS GP hr rfl mP kP bP .nil AQ (AA (pv 0) (AA (pv 4) (AA (pv 2) AC)))) AC)))))))))
  (AD (AL (GH PySem.F.plainAttrs_list PySem.F.slot_list_pop PySem.F.type_list_pop IV (pv 3))))),?_⟩
 refine ⟨(by show 0 <= sizeLine; decide),fun hd hhd=>?_⟩;have s1:=AH (Same.refl _) hhd (o:=HO.lst []);have h1:=AB (H:=H) (a:=hd) (o:=HO.lst []);generalize upd H hd (HO.lst [])=H1 at s1 h1 ⊢;have nl:l ≠ hd:=AI hl hhd;refine ⟨_,rfl,l,rfl,⟨_,SqL.of (s1 _ _ hl)⟩,Cq (K:=K) (a:=l) (xs:=S.map V.str) (fun i σ H2=>(∃ v4 v5,σ=[some (.ref k),some (.ref l),some (.ref t),some (.ref hd),v4,v5])/\Same H H2/\∃ h,H2 hd=some (.lst (Av h))/\Ev due (kn due) h (S.drop i) [v]/\h.length <= i) ⟨⟨_,_,rfl⟩,s1,[],h1,G,Nat.zero_le _⟩ (fun i σ H2 _ e=>SqL.of (e.2.1 _ _ hl)) ?_ ?_⟩
 ·rintro i x σ H2 hi ⟨⟨v4,v5,rfl⟩,s2,h,h2,ev,hle⟩;rw [getElem?_map] at hi;obtain ⟨y,hy,rfl⟩:=Option.map_eq_some_iff.mp hi;obtain ⟨hi2,ey⟩:=List.getElem?_eq_some_iff.mp hy;rw [List.drop_eq_getElem_cons hi2,ey] at ev;have keep:∀ {H3:Hp} (o:HO),Same H H3->Same H (upd H3 hd o):=fun {H3} o a b u e=>by rw [AG (AI e hhd)]; exact a b u e
  refine ⟨_,rfl,rfl,_,rfl,?_⟩;cases ev with
  | cons _ h' _ _ _ es er =>
   have ba:=es.len;cases es with
   | ng h0 a =>
    obtain ⟨l1,l2,l3,l4,l5⟩:=Dw h0 a;rw [show decide (V.str "~" = V.str "~")=true by decide +kernel];have KA2:=KA.same s2;obtain ⟨dxk,e1,e2,ah⟩:=KA2.ins;refine Aj ⟨_,rfl,k,dxk,_,rfl,ah,(CG _ _ _),k,due,r,rfl,KA2,fun H3 s3=>?_⟩;refine ⟨_,rfl,_,rfl,hd,_,-1,.int (a:Int),rfl,rfl,SqL.of (s3 _ _ h2),l1,_,rfl,_,_,rfl,rfl,?_⟩;refine ⟨_,rfl,_,rfl,hd,_,-1,h0.length,rfl,rfl,s3 _ _ h2,l4,⟨_,_,rfl⟩,keep _ (s2.trans s3),h0++[kn due - (kn due &&& a)],?_,er,by omega⟩;rw [AB,l5];show some (HO.lst (Av h0++[V.int (Builtin.bitAnd ((Ak ((Ab due).map (·.1)):Nat):Int) (Builtin.bitNot (a:Int)))]))=_;rw [FC,C5];unfold Av;rw [map_append];rfl
   | bn g hg h0 a b =>
    obtain ⟨l1,l2,l3,l4,l5⟩:=Dw (h0++[a]) b;obtain ⟨m1,m2,m3,m4,m5⟩:=Dw h0 a;rw [show decide (V.str g.s=V.str "~")=false by cases g <;> first | exact hg.elim | decide +kernel];refine AW ⟨_,rfl,jn,_,rfl,.inr (hJ _),rfl,rfl,_,rfl,?_⟩;rw [Pc hg];refine Aj ?_;refine ⟨_,rfl,.inl ⟨rfl,_,SqL.of h2⟩,hd,_,.int (b:Int),rfl,rfl,h2,l2,?_⟩;rw [l3];have h3:=AB (H:=H2) (a:=hd) (o:=HO.lst (Av (h0++[a])));refine ⟨_,rfl,_,rfl,_,rfl,hd,_,-1,.int (a:Int),rfl,rfl,SqL.of h3,m1,_,rfl,g,a,b,rfl,hg,_,rfl,_,rfl,hd,_,-1,h0.length,rfl,rfl,h3,m4,⟨_,_,rfl⟩,keep _ (keep _ s2),h0++[g.f a b],?_,er,by omega⟩;rw [AB,m5];unfold Av;rw [map_append];rfl
   | wd _ W _ =>
    obtain ⟨n1,n2,n3,n4⟩:=W.nb;rw [decide_eq_false (show ¬ V.str y=V.str "~" from fun z=>n4 (V.str.inj z))];refine AW ⟨_,rfl,jn,_,rfl,.inr (hJ _),rfl,rfl,_,rfl,?_⟩
    have ein:(if false=true then !inV (V.str y) [V.str "&", V.str "^", V.str "|"] else inV (V.str y) [V.str "&", V.str "^", V.str "|"])=false:=by
     rw [if_neg (by decide)];unfold inV;simp [eqV,n1,n2,n3,Ne.symm n1,Ne.symm n2,Ne.symm n3]
    rw [ein];refine AW ⟨_,rfl,.inl ⟨rfl,_,SqL.of h2⟩,_,rfl,_,rfl,_,rfl,k,t,y,due,r,rfl,KA.same s2,W,fun H3 s3=>?_⟩;refine ⟨hd,_,_,rfl,rfl,s3 _ _ h2,AO (by unfold Av; rw [AK]; omega),⟨_,_,rfl⟩,keep _ (s2.trans s3),h++[wv due y],?_,er,by omega⟩;rw [AB];unfold Av;rw [map_append];rfl
 ·rintro σ H2 ⟨⟨v4,v5,rfl⟩,s2,h,h2,ev,_⟩;rw [AK,List.drop_length] at ev;cases ev;obtain ⟨l1,l2,l3,l4,l5⟩:=Dw [] v;refine ⟨_,rfl,.inl ⟨rfl,_,SqL.of h2⟩,hd,_,.int (v:Int),rfl,rfl,h2,rfl,q _ fun b u e=>?_⟩;rw [AG (AI e hhd)];exact s2 b u e
end
noncomputable def gV2 (vs zs:List V):List V:=match vs,zs with | [a],[c]=>[a,c] | _,_=>[]
noncomputable def gU2 (us ws:List Value):List Value:=match us,ws with | [a],[c]=>[a,c] | _,_=>[]
structure FnR (P:Program) (w:World) (K:FG) (mg:SV) (base:Heap) (x:Str) (k:Nat) (ps:List Str) (sp:Sp):Prop where
 ex:∃ f fd,AX P w K mg base (CXr P w) k f fd ps sp/\mg x=some (.ref f)/\W.keepIn K (.ref f)=true/\Binds K fd ps []
section
variable {DC bd cR:Addr}
structure T8 (P:Program) (w:World) (K:FG) (mg:SV) (base:Heap) (DC bd:Addr):Prop where
 ex:∃ f fd,AX P w K mg base CX0 6 f fd ["text", "lettered"] (spSt DC bd)/\mg "steps_of" = some (.ref f)/\W.keepIn K (.ref f)=true/\∃ g,EE K fd ["text", "lettered"] ["lettered"] g gV2
inductive spRead (C VC cR bd:Addr) (vs:List V) (H:Hp) (Q:VK) (E:XK):Prop where
 | mk (kp:Addr) (z:Str) (T:List Str) (n:Nat) (due:Aa) (r:Str) (z_0:vs=[.ref kp,.str z]) (z_1:KindAt C H kp due r) (z_2:z.cps.all (· < 128)=true) (z_3:z.length <= 100) (z_4:Rn z T 0 [] [] true) (z_5:T.length <= 400) (z_6:Ev due (kn due) [] T [n]) (z_7:Rd H bd (.dK Cf))
  (z_8:∀ H1,Same H H1->spMade C VC cR [.ref kp,.int (n:Int)] H1 Q E)
theorem Sv:AJ ["kind", "text"] ["kind", "text"] (defScope Lz):=fsc
theorem Qy {f:Addr} (F:Fun K "read" "read" Lz f fd) (SO:T8 P w K mg base DC bd) (GN:Fn P w K mg base "number_of" 4 ["kind", "steps", "table"] (spNo C)) (GM:FnR P w K mg base "made" 6 ["kind", "number"] (spMade C VC cR)):AX P w K mg base (CXr P w) 7 f fd ["kind", "text"] (spRead C VC cR bd):=by
 obtain ⟨fS,dS,GS,mS,kS,g,bS⟩:=SO.ex;obtain ⟨fN,dN,GN,mN,kN,bN⟩:=GN.ex;obtain ⟨fM,dM,GM,mM,kM,bM⟩:=GM.ex;refine F.n Sv fun vs H Q E h=>?_;obtain ⟨kp,z,T,n,due,r,rfl,KA,ha,h40,RN,hT,EV,hB,q⟩:=h;refine ⟨rfl,fun ad A outer s hr=>?_⟩;have hr4:Room 4 _:=hr.mono (by decide);have ps:=Tc (P:=P) (w:=w) (K:=K) (mg:=mg) (base:=base) (N:=["kind", "text"]) (qual := "read") (scope:=defScope Lz) (f:=f) (cd:=ad) (A:=A) (outer:=outer) (s:=s) (H:=H) (E:=E);refine ⟨_,AD (AL (AS GM hr rfl mM kM bM .nil ps (AA (pv 0) (AA (AS GN hr4 rfl mN kN bN .nil AQ (AA (pv 0) (AA (N0 GS hr rfl mS kS bS AQ (AA (pv 1) AC) (IS DH KY)) (AA Ct AC)))) AC)))),?_⟩;refine ⟨_,rfl,_,rfl,_,rfl,z,T,rfl,ha,h40,RN,hB,fun l H1 s1 hl=>?_⟩;refine fun d hd=>?_;have s2:=AH s1 hd (o:=HO.dK []);refine ⟨kp,l,d,T,n,due,r,rfl,KA.same s2,by rw [AG (AI hl hd)]; exact hl,hT,EV,fun H3 s3=>?_⟩;exact q H3 (s2.trans s3)
inductive spTurned (C VC:Addr) (vs:List V) (H:Hp) (Q:VK) (_E:XK):Prop where
 | mk (p kp:Addr) (n:Nat) (due:Aa) (r:Str) (z_0:vs=[.ref p]) (z_1:ValAt VC H p kp n) (z_2:KindAt C H kp due r) (z_3:kn due < 2 ^ 20) (z_4:∀ q H',Same H H'->ValAt VC H' q kp (kn due - (kn due &&& n))->Q (.ref q) H')
theorem Pd:AJ ["one"] ["one"] (defScope Iq):=fsc
theorem Ni {f:Addr} (F:Fun K "turned" "turned" Iq f fd) (T:Dx K C) (VO:MH P w K mg base C VC) (GVN:Mt P w K mg base VC "number" 1 ["self"] (spVNumber VC)) (GVK:Mt P w K mg base VC "kind" 1 ["self"] (spVKind VC)) (GK:Mt P w K mg base C "known" 2 ["self"] (spKnown C)) :
  AX P w K mg base CX0 6 f fd ["one"] (spTurned C VC):=by
 obtain ⟨fVN,dVN,GVN,mVN,bVN⟩:=GVN.ex;obtain ⟨fVK,dVK,GVK,mVK,bVK⟩:=GVK.ex;obtain ⟨fK,dK,GK,mK,bK⟩:=GK.ex;obtain ⟨fI,dI,MI,GI,bI⟩:=VO.make;have mV:=VO.cls;have VT:=VO.VT;refine F.m Pd fun vs H Q E h=>?_;obtain ⟨p,kp,n,due,r,rfl,hv,KA,hlt,k⟩:=h;refine ⟨rfl,fun ad A outer s hr=>?_⟩;have hr1:Room 1 _:=hr.mono (by decide);have hr2:Room 2 _:=hr.mono (by decide);refine ⟨_,AD (AL (IR MI GI hr rfl mV bI .nil AQ (AA (A3 (pv 0) VT.cl mVK GVK hr1 bVK .nil AQ) (AA (AZ CA (A3 (A3 (pv 0) VT.cl mVK GVK hr1 bVK .nil AQ) T.cl mK GK hr2 bK .nil AQ) (DU IN (A3 (pv 0) VT.cl mVN GVN hr1 bVN .nil AQ))) AC)))),?_⟩;obtain ⟨dx,hp⟩:=hv;obtain ⟨dxk,d1,d2,ah⟩:=KA.ins;have nok:(FF kp n).lookup ("kind" : Str)=none:=PF _ _ (by decide +kernel) (by decide +kernel);have nob:(FF kp n).lookup ("number" : Str)=none:=PF _ _ (by decide +kernel) (by decide +kernel);refine ⟨_,rfl,p,dx,_,rfl,hp,nok,p,kp,n,rfl,⟨dx,hp⟩,_,rfl,p,dx,_,rfl,hp,nok,p,kp,n,rfl,⟨dx,hp⟩,kp,dxk,_,rfl,ah,(CG _ _ _),kp,due,r,rfl,KA,fun H1 s1=>?_⟩;refine ⟨_,rfl,p,dx,_,rfl,s1 _ _ hp,nob,p,kp,n,rfl,⟨dx,s1 _ _ hp⟩,_,rfl,_,_,rfl,rfl,?_⟩;intro q dq hq hdq ax;have sN:=Dp (D:=VC) hq hdq ax;have eb:Builtin.bitAnd ((Ak ((Ab due).map (·.1)):Nat):Int) (Builtin.bitNot (n:Int))=((kn due - (kn due &&& n):Nat):Int):=by rw [C5,FC]; rfl
 refine ⟨q,dq,kp,due,r,kn due - (kn due &&& n),?_,AB,(KA.same s1).same sN,?_,.inr (I0 _ _),fun H2 s2 hV=>⟨rfl,?_⟩⟩
 ·show [V.ref q,V.ref kp,V.int (Builtin.bitAnd ((Ak ((Ab due).map (·.1)):Nat):Int) (Builtin.bitNot (n:Int)))]=_;rw [eb]
 ·have h1:kn due - (kn due &&& n) <= kn due:=Nat.sub_le _ _;have h2:(2:Nat) ^ 20 < 2 ^ 40:=by decide
  omega
 ·exact k q H2 (s1.trans (Du sN hq s2)) hV
end
theorem Qz {w:List Nat} (h0:0 < w.length) (h6:w.length <= 6) (hu:w.all CS=true):PW0 w:=by
 refine ⟨h0,fun k hk hkw x hx=>.inl ?_⟩;have hl:x.length=k:=by rw [← Ay,hx,length_take]; omega
 unfold CD;rw [hl,hx,decide_eq_true (show 1 <= k by omega),decide_eq_true (show k <= 6 by omega)];refine List.all_eq_true.mpr fun c hc=>List.all_eq_true.mp hu c (mem_of_mem_take hc)
noncomputable abbrev dg (m:Nat):List Nat:=(Nat.toDigits 10 m).map Char.toNat
theorem MU {m:Nat} (h:¬ m < 10):dg m=dg (m / 10)++dg (m % 10):=by
 have hm:m % 10 < 10:=Nat.mod_lt m (by decide);have t:Nat.toDigits 10 (m / 10)++Nat.toDigits 10 (m % 10)=Nat.toDigits 10 (10 * (m / 10) + m % 10):=Nat.toDigits_append_toDigits (by decide) (by omega) hm;rw [Nat.div_add_mod] at t;show (Nat.toDigits 10 m).map Char.toNat=_;rw [← t,map_append]
theorem HA {m:Nat} (h:m < 10):dg m=[m + 48]:=by
 show (Nat.toDigits 10 m).map Char.toNat=_;rw [Nat.toDigits_of_lt_base h];have:∀ d:Nat,d < 10->[(Nat.digitChar d)].map Char.toNat=[d + 48]:=by decide
 exact this m h
theorem MV (m:Nat) (h:0 < m):∃ c r,dg m=c :: r/\c ≠ 48:=by
 induction m using Nat.strongRecOn with
 | _ m ih =>
  by_cases h1:m < 10
  ·exact ⟨m + 48,[],HA h1,by omega⟩
  ·obtain ⟨c,r,e,hc⟩:=ih (m / 10) (by omega) (by omega);exact ⟨c,r++dg (m % 10),by rw [MU h1,e]; rfl,hc⟩
theorem Pe (m:Nat):(dg m).all CV=true:=by
 induction m using Nat.strongRecOn with
 | _ m ih =>
  by_cases h1:m < 10
  ·rw [HA h1];simp [CV];omega
  ·rw [MU h1,all_append,ih (m / 10) (by omega),ih (m % 10) (by omega)];rfl
theorem Pf (l:List Nat) (k:Nat):digitsVal (l.take k) <= digitsVal l:=by
 have key:∀ (r:List Nat) (a b:Nat),a <= b->a <= r.foldl (fun acc c=>acc * 10 + (c - 48)) b:=fun r=>by
  induction r with
  | nil=>exact fun a b h=>h
  | cons c r ih=>exact fun a b h=>ih a _ (by show a <= b * 10 + (c - 48); omega)
 unfold digitsVal
 conv=>rhs; rw [← List.take_append_drop k l,foldl_append]
 exact key _ _ _ (Nat.le_refl _)
theorem Sw {n:Nat} (h:n < 1099511627776):PW0 (dg n):=by
 have ax:0 < (dg n).length:=by
  by_cases h1:n < 10
  ·rw [HA h1]; simp
  ·obtain ⟨c,r,e,_⟩:=MV n (by omega);rw [e]; simp
 refine ⟨ax,fun k hk hkw x hx=>?_⟩;have be:x.cps.toList.all CV=true:=by rw [hx]; exact List.all_eq_true.mpr fun c hc=>List.all_eq_true.mp (Pe n) c (mem_of_mem_take hc)
 have hnm:CD x=false:=by
  unfold CD
  have:x.cps.toList.all CS=false:=by
   cases e:x.cps.toList with
   | nil =>
    rw [e] at hx;have h9:=congrArg List.length hx;rw [length_take,length_nil] at h9;omega
   | cons c r =>
    rw [e] at be;simp [CV,CS] at be ⊢;omega
  rw [this,Bool.and_false]
 refine .inr ⟨hnm,be,?_⟩;rcases Nat.eq_zero_or_pos n with rfl | hp
 ·refine .inl (MQ ?_);rw [hx,HA (by decide)];have:k=1:=by rw [HA (by decide)] at hkw; simp at hkw; omega
  subst this;decide +kernel
 ·obtain ⟨c,r,e,hc⟩:=MV n hp;refine .inr ⟨?_,?_⟩
  ·rw [hx,e];cases k with
   | zero=>omega
   | succ k=>simpa using hc
  ·rw [hx];exact Nat.lt_of_le_of_lt (Pf _ _) (by rw [show digitsVal (dg n)=n from W.KIN.val_back n]; exact h)
structure Wd (due:Aa) (x:Str) (n:Nat):Prop where
 ok:WdOk due x
 pw:PW0 x.cps.toList
 v:wv due x=n
 len:x.length <= 13
theorem RZ (D:D4 due) {p:Str × Nat} (hp:p ∈ due):Wd due p.1 p.2/\p.1.length <= 6:=by
 obtain ⟨h1,h2,_⟩:=D.nm p hp;have h3:=h1;unfold CD at h3;simp only [Bool.and_eq_true,decide_eq_true_eq] at h3;obtain ⟨⟨l1,l6⟩,up⟩:=h3;have sl:=Ay p.1;refine ⟨⟨⟨h2,by omega,by omega,fun c hc=>?_,.inl ⟨h1,mem_map.mpr ⟨_,hp,rfl⟩⟩⟩,Qz (by omega) (by omega) up,?_,by omega⟩,l6⟩
 ·have:=List.all_eq_true.mp up c hc;simp [CS] at this;omega
 ·unfold wv;rw [if_pos h1];exact Do D.nd hp
noncomputable abbrev Fz (n:Nat):Str:=Str.ofString (toString ((n:Nat):Int))
theorem Q0 (n:Nat):(Fz n).cps.toList=dg n:=by
 show (Str.ofString (toString (Int.ofNat n))).cps.toList=_;rw [PyProof.Rows.text_ofNat]
theorem LU {n:Nat} (h:n < 2 ^ 40):Wd due (Fz n) n:=by
 have e:=Q0 n;have hd:=Pe n
 have pw:=Sw (n:=n) (by have e40:(2:Nat) ^ 40=1099511627776:=by decide
                        omega)
 have sl:=Ay (Fz n)
 have hl:(dg n).length <= 13:=by
  rw [AK];exact toDigits_len_pow (by decide) (by decide) (Nat.lt_trans h (by decide))
 rw [e] at sl;have ax:=pw.ne
 have hdc:∀ c ∈ (Fz n).cps.toList,48 <= c/\c <= 57:=fun c hc=>by
  rw [e] at hc;have:=List.all_eq_true.mp hd c hc;simpa [CV] using this
 have hnm:CD (Fz n)=false:=by
  unfold CD
  have:(Fz n).cps.toList.all CS=false:=by
   cases e2:(Fz n).cps.toList with
   | nil=>rw [e2] at e; rw [← e] at ax; simp at ax
   | cons c r =>
    have:=hdc c (by rw [e2]; exact mem_cons_self ..);simp [CS];omega
  rw [this,Bool.and_false]
 refine ⟨⟨?_,by omega,by omega,fun c hc=>?_,.inr ⟨hnm,hdc⟩⟩,by rw [e]; exact pw,?_,by omega⟩
 ·rw [← Array.all_toList,List.all_eq_true];exact fun c hc=>decide_eq_true (by have:=hdc c hc; omega)
 ·have:=hdc c hc;omega
 ·unfold wv;rw [hnm,if_neg (by decide),e];exact W.KIN.val_back n
inductive LT
 | nm (x:Str)
 | no (n:Nat)
 | ng (t:LT)
 | bn (g:Sg) (a b:LT)
noncomputable def LT.tr:LT->Tr
 | .nm x=>.wd x
 | .no n=>.wd (Fz n)
 | .ng t=>.ng t.tr
 | .bn g a b=>.bn g a.tr b.tr
noncomputable def LT.ht:LT->Nat
 | .nm _=>0
 | .no _=>0
 | .ng t=>t.ht + 1
 | .bn _ a b=>max a.ht b.ht + 1
def LT.Ok (ws:List Str):LT->Prop
 | .nm x=>x ∈ ws
 | .no n=>n < 2 ^ 20
 | .ng t=>t.Ok ws
 | .bn g a b=>g.joins/\a.Ok ws/\b.Ok ws
def LtAt (H:Hp):V->LT->Prop
 | v,.nm x=>∃ p,v=.ref p/\H p=some (.tup [.str "name", .str x])
 | v,.no n=>∃ p,v=.ref p/\H p=some (.tup [.str "number", .int (n:Int)])
 | v,.ng t=>∃ p u,v=.ref p/\H p=some (.tup [.str "~", u])/\LtAt H u t
 | v,.bn g a b=>∃ p u1 u2,v=.ref p/\H p=some (.tup [.str g.s,u1,u2])/\LtAt H u1 a/\LtAt H u2 b
theorem LtAt.sameT (s:SameT H H'):∀ {t:LT} {v:V},LtAt H v t->LtAt H' v t
 | .nm x,v,h=>by
  obtain ⟨p,e,h⟩:=h;exact ⟨p,e,s _ _ h⟩
 | .no n,v,h=>by
  obtain ⟨p,e,h⟩:=h;exact ⟨p,e,s _ _ h⟩
 | .ng t,v,h=>by
  obtain ⟨p,u,e,h,a⟩:=h;exact ⟨p,u,e,s _ _ h,a.sameT s⟩
 | .bn g a b,v,h=>by
  obtain ⟨p,u1,u2,e,h,x,y⟩:=h;exact ⟨p,u1,u2,e,s _ _ h,x.sameT s,y.sameT s⟩
theorem SameX.tt {d:Addr} {x y:Int} (hd:H d=some (.lst [.int x,.int y])) (s:SameX d H H'):SameT H H':=fun b xs e=>s.old _ _ e (LY e hd fun z=>nomatch z)
theorem FK {d wl:Addr} {x y:Int} {ws:List Str} (hd:H d=some (.lst [.int x,.int y])) (hw:H wl=some (.lst (ws.map V.str))) (h0:0 < ws.length):wl ≠ d:=LY hw hd fun z=>by
 cases ws with
 | nil=>exact absurd h0 (by decide)
 | cons a r=>cases HO.lst.inj z
section
noncomputable abbrev HB:List Str:=["_law_dice", "_law_words", "_law_signs", "_law_deep"]
inductive spTree (D:Nat) (vs:List V) (H:Hp) (Q:VK) (_E:XK):Prop where
 | mk (d wl:Addr) (a b:Int) (ws:List Str) (z_0:vs=[.ref d,.ref wl,.str "", .int (D:Int)]) (z_1:H d=some (.lst [.int a,.int b])) (z_2:H wl=some (.lst (ws.map V.str))) (z_3:0 < ws.length) (z_4:ws.length <= 10)
  (z_5:∀ v t H',SameX d H H'->LtAt H' v t->t.Ok ws->t.ht <= D->Q v H')
def Ra:Nat->Sp
 | 0=>fun _ _ _ _=>False
 | D + 1=>spTree D
noncomputable abbrev T9:List Str:=["_law_dice", "_law_words", "_law_signs", "_law_deep", "_law_kind", "_law_one"]
theorem scTree:AJ T9 HB (defScope E1):=fsc
theorem J6 {f:Addr} (F:Fun K "_law_tree" "_law_tree" E1 f fd) (B:Bl mg) (GR:Fn P w K mg base "_law_roll" 2 ["_law_dice", "_law_many"] spRoll) (D:Nat) (G:Fn P w K mg base "_law_tree" (2 + D) HB (Ra D)):AX P w K mg base CX0 (3 + D) f fd HB (spTree D):=by
 obtain ⟨fR,dR,GR,mR,kR,bR⟩:=GR.ex;obtain ⟨fT,dT,GT,mT,kT,bT⟩:=G.ex;have e3:3 + D=2 + D + 1:=by omega
 rw [e3];refine F.m scTree fun vs H Q E h=>?_;obtain ⟨d,wl,a,b,ws,rfl,hd,hw,h0,h10,q⟩:=h;refine ⟨rfl,fun ad A outer s hr=>?_⟩;have hr2:Room 2 _:=hr.mono (by omega);have nd:=scTree.nd
 refine ⟨_,BD (Ac (i:=4) nd rfl (Or.inl rfl) (BX (AM Ek (pv 3) AF (AR _)) (AS GR hr2 rfl mR kR bR .nil AQ (AA (pv 0) (AA AF AC))) (AS GR hr2 rfl mR kR bR .nil AQ (AA (pv 0) (AA AF AC)))))
  (AE (Ag (AM Fo (pv 4) AF (AR _)) (AD (AL (BE (AA AN (AA (BI (Ar K rfl) (pv 1) (AS GR hr2 rfl mR kR bR .nil AQ (AA (pv 0) (AA (AY (BH K rfl) rfl B.len PySem.boot_len (AA (pv 1) AC)) AC))) (fun _ _=>rfl)) AC))))) AV)
  (AE (Ag (PW.pt (DR (AM Aw (pv 4) AF (AR _)) (CN (PW.pt (B6 (AM Aw (pv 4) AF (AR _)) (Bc (AM Aw (pv 2) AN (AR _)))))))) (AD (AL (BE (AA AN (AA (BI (Ar K rfl) (BK (AA (AS GR hr2 rfl mR kR bR .nil AQ (AA (pv 0) (AA AF AC))) (AA (AS GR hr2 rfl mR kR bR .nil AQ (AA (pv 0) (AA (AZ KP AF AF) AC))) (AA (AS GR hr2 rfl mR kR bR .nil AQ (AA (pv 0) (AA AF AC))) AC)))) (AS GR hr2 rfl mR kR bR .nil AQ (AA (pv 0) (AA AF AC))) (fun _ _=>rfl)) AC))))) AV)
  (AE (Ag (AM Aw (pv 4) AF (AR _)) (AD Ah) AV)
  (AE (Ag (AM Aw (pv 4) AF (AR _)) (AD (AL (BE (AA AN (AA (AS GT hr rfl mT kT bT .nil AQ (AA (pv 0) (AA (pv 1) (AA (pv 2) (AA (AZ B9 (pv 3) AF) AC))))) AC))))) AV)
  (AE (Ac (i:=5) nd rfl (Or.inl rfl) (AS GT hr rfl mT kT bT .nil AQ (AA (pv 0) (AA (pv 1) (AA (pv 2) (AA (AZ B9 (pv 3) AF) AC))))))
  (AD (AL (BE (AA (BI KZ AN (AZ B9 (pv 4) AF) (fun _ _=>rfl)) (AA (pv 5) (AA (AS GT hr rfl mT kT bT .nil AQ (AA (pv 0) (AA (pv 1) (AA (pv 2) (AA (AZ B9 (pv 3) AF) AC))))) AC))))))))))),?_⟩
 refine ⟨fun σ H'=>∃ kd:Int,σ=[some (.ref d),some (.ref wl),some (.str ""),some (.int (D:Int)),some (.int kd),none]/\0 <= kd/\kd < 8/\(D=0->kd < 4)/\SameX d H H',fun R hR=>?_,?_⟩
 ·refine ⟨_,rfl,_,_,rfl,rfl,_,rfl,?_⟩;refine BY (fun hp=>?_) (fun hp=>?_)
  ·have hD:(0:Int) < (D:Int):=of_decide_eq_true hp;exact ⟨_,rfl,d,a,b,8,rfl,hd,by decide,by decide,fun kd a1 b1 k0 k1=>hR _ _ ⟨kd,rfl,k0,k1,fun z=>absurd hD (by omega),A1 hd⟩⟩
  ·exact ⟨_,rfl,d,a,b,4,rfl,hd,by decide,by decide,fun kd a1 b1 k0 k1=>hR _ _ ⟨kd,rfl,k0,by omega,fun _=>k1,A1 hd⟩⟩
 rintro σ H1 ⟨kd,rfl,k0,k8,kD,s1⟩;have hw1:=s1.old _ _ hw (FK hd hw h0);obtain ⟨x1,y1,hd1⟩:=s1.dice;have hwl:(ws.map V.str).length=ws.length:=AK _;refine ⟨_,rfl,_,_,rfl,rfl,_,rfl,?_⟩;refine BY (fun _=>?_) (fun h2=>?_)
 ·-- a name
  refine ⟨_,rfl,_,rfl,_,rfl,wl,_,rfl,.inl (SqL.of hw1),d,x1,y1,_,rfl,hd1,by omega,by omega,fun r2 a2 b2 r20 r21=>?_⟩;have sx:=A1 (x':=a2) (y':=b2) hd1;have hw2:=sx.old _ _ hw1 (FK hd1 hw1 h0);obtain ⟨v,hv,hv2⟩:=Ef (xs:=ws.map V.str) r20 (by exact r21);rw [getElem?_map] at hv2;obtain ⟨y,hy,rfl⟩:=Option.map_eq_some_iff.mp hv2;refine ⟨wl,_,r2,_,rfl,rfl,SqL.of hw2,hv,sl2,fun p hp=>?_⟩;exact q (.ref p) (.nm y) _ ((s1.trans sx).step (AH (Same.refl _) hp)) ⟨p,rfl,AB⟩ (mem_of_getElem? hy) (Nat.zero_le _)
 ·have hk2:¬ kd < 2:=fun z=>h2 (decide_eq_true z);refine ⟨_,rfl,rfl,_,rfl,?_⟩;by_cases e2:kd=2
  ·rw [decide_eq_true (show V.int kd=V.int 2 by rw [e2])];refine Aj (Aj ?_);refine ⟨_,rfl,d,x1,y1,9,rfl,hd1,by decide,by decide,fun n1 a2 b2 n10 n11=>?_⟩;have sA:=A1 (x':=a2) (y':=b2) hd1;refine ⟨_,rfl,_,_,rfl,rfl,⟨by decide,by decide,by decide⟩,d,a2,b2,_,rfl,AB,by decide,by decide,fun n2 a3 b3 n20 n21=>?_⟩;have sB:=A1 (x':=a3) (y':=b3) (AB (H:=H1) (a:=d) (o:=.lst [.int a2,.int b2]));refine ⟨_,rfl,d,a3,b3,64,rfl,AB,by decide,by decide,fun n3 a4 b4 n30 n31=>?_⟩;have sC:=A1 (x':=a4) (y':=b4) (AB (H:=upd H1 d (.lst [.int a2,.int b2])) (a:=d) (o:=.lst [.int a3,.int b3]));have s4:=((s1.trans sA).trans sB).trans sC;have hd4:=AB (H:=upd (upd H1 d (.lst [.int a2,.int b2])) d (.lst [.int a3,.int b3])) (a:=d) (o:=.lst [.int a4,.int b4]);generalize upd (upd (upd H1 d (.lst [.int a2,.int b2])) d (.lst [.int a3,.int b3])) d (.lst [.int a4,.int b4])=H4 at s4 hd4 ⊢;refine ⟨sl3,fun p hp=>?_⟩;have hpd:p ≠ d:=Ne.symm (AI hd4 hp);have s5:=s4.step (AH (Same.refl _) hp (o:=HO.lst [V.int n1,V.int n2,V.int n3]));have hd5:(upd H4 p (.lst [V.int n1,V.int n2,V.int n3])) d=some (.lst [.int a4,.int b4]):=by rw [AG (Ne.symm hpd)]; exact hd4
   have hp5:=AB (H:=H4) (a:=p) (o:=HO.lst [V.int n1,V.int n2,V.int n3]);generalize upd H4 p (.lst [V.int n1,V.int n2,V.int n3])=H5 at s5 hd5 hp5 ⊢;refine ⟨_,rfl,d,a4,b4,3,rfl,hd5,by decide,by decide,fun ix a5 b5 ix0 ix1=>?_⟩;have sD:=A1 (x':=a5) (y':=b5) hd5;have hp6:=sD.old _ _ hp5 hpd;obtain ⟨v,hv,hv2⟩:=Ef (xs:=[V.int n1,V.int n2,V.int n3]) ix0 ix1;have e20:(2:Int) ^ (20:Int).toNat=1048576:=by decide
   have n21':n2 < 1048576:=e20 ▸ n21
   obtain ⟨n,rfl,hn⟩:∃ n:Nat,v=V.int (n:Int)/\n < 2 ^ 20:=by
    have hm:=mem_of_getElem? hv2;simp only [mem_cons,not_mem_nil,or_false] at hm;have p20:(2:Nat) ^ 20=1048576:=by decide
    rcases hm with rfl | rfl | rfl
    ·exact ⟨n1.toNat,by rw [Int.toNat_of_nonneg n10],by omega⟩
    ·exact ⟨n2.toNat,by rw [Int.toNat_of_nonneg n20],by omega⟩
    ·exact ⟨n3.toNat,by rw [Int.toNat_of_nonneg n30],by omega⟩
   refine ⟨p,_,ix,_,rfl,rfl,SqL.of hp6,hv,sl2,fun p2 al=>?_⟩;exact q (.ref p2) (.no n) _ ((s5.trans sD).step (AH (Same.refl _) al)) ⟨p2,rfl,AB⟩ hn (Nat.zero_le _)
  rw [decide_eq_false (show ¬ V.int kd=V.int 2 from fun z=>e2 (V.int.inj z))];refine AW ⟨_,rfl,rfl,_,rfl,?_⟩;by_cases e3:kd=3
  ·rw [decide_eq_true (show V.int kd=V.int 3 by rw [e3])];refine Aj ⟨_,rfl,rfl,_,rfl,?_⟩;rw [show decide (V.str "" = V.str "")=true by decide +kernel];refine Aj ?_;refine ⟨_,rfl,d,x1,y1,9,rfl,hd1,by decide,by decide,fun n1 a2 b2 n10 n11=>?_⟩;have sA:=A1 (x':=a2) (y':=b2) hd1;refine ⟨_,rfl,_,_,rfl,rfl,⟨by decide,by decide,by decide⟩,d,a2,b2,_,rfl,AB,by decide,by decide,fun n2 a3 b3 n20 n21=>?_⟩;have sB:=A1 (x':=a3) (y':=b3) (AB (H:=H1) (a:=d) (o:=.lst [.int a2,.int b2]));refine ⟨_,rfl,d,a3,b3,64,rfl,AB,by decide,by decide,fun n3 a4 b4 n30 n31=>?_⟩;have sC:=A1 (x':=a4) (y':=b4) (AB (H:=upd H1 d (.lst [.int a2,.int b2])) (a:=d) (o:=.lst [.int a3,.int b3]));have s4:=((s1.trans sA).trans sB).trans sC;have hd4:=AB (H:=upd (upd H1 d (.lst [.int a2,.int b2])) d (.lst [.int a3,.int b3])) (a:=d) (o:=.lst [.int a4,.int b4]);generalize upd (upd (upd H1 d (.lst [.int a2,.int b2])) d (.lst [.int a3,.int b3])) d (.lst [.int a4,.int b4])=H4 at s4 hd4 ⊢;refine ⟨sl3,fun p hp=>?_⟩;have hpd:p ≠ d:=Ne.symm (AI hd4 hp);have s5:=s4.step (AH (Same.refl _) hp (o:=HO.lst [V.int n1,V.int n2,V.int n3]));have hd5:(upd H4 p (.lst [V.int n1,V.int n2,V.int n3])) d=some (.lst [.int a4,.int b4]):=by rw [AG (Ne.symm hpd)]; exact hd4
   have hp5:=AB (H:=H4) (a:=p) (o:=HO.lst [V.int n1,V.int n2,V.int n3]);generalize upd H4 p (.lst [V.int n1,V.int n2,V.int n3])=H5 at s5 hd5 hp5 ⊢;refine ⟨_,rfl,d,a4,b4,3,rfl,hd5,by decide,by decide,fun ix a5 b5 ix0 ix1=>?_⟩;have sD:=A1 (x':=a5) (y':=b5) hd5;have hp6:=sD.old _ _ hp5 hpd;obtain ⟨v,hv,hv2⟩:=Ef (xs:=[V.int n1,V.int n2,V.int n3]) ix0 ix1;have e20:(2:Int) ^ (20:Int).toNat=1048576:=by decide
   have n21':n2 < 1048576:=e20 ▸ n21
   obtain ⟨n,rfl,hn⟩:∃ n:Nat,v=V.int (n:Int)/\n < 2 ^ 20:=by
    have hm:=mem_of_getElem? hv2;simp only [mem_cons,not_mem_nil,or_false] at hm;have p20:(2:Nat) ^ 20=1048576:=by decide
    rcases hm with rfl | rfl | rfl
    ·exact ⟨n1.toNat,by rw [Int.toNat_of_nonneg n10],by omega⟩
    ·exact ⟨n2.toNat,by rw [Int.toNat_of_nonneg n20],by omega⟩
    ·exact ⟨n3.toNat,by rw [Int.toNat_of_nonneg n30],by omega⟩
   refine ⟨p,_,ix,_,rfl,rfl,SqL.of hp6,hv,sl2,fun p2 al=>?_⟩;exact q (.ref p2) (.no n) _ ((s5.trans sD).step (AH (Same.refl _) al)) ⟨p2,rfl,AB⟩ hn (Nat.zero_le _)
  have f3:decide (V.int kd=V.int 3)=false:=decide_eq_false (fun z=>e3 (V.int.inj z));rw [f3];refine AW (AW ⟨_,rfl,rfl,_,rfl,?_⟩);rw [f3];refine AW ?_
  obtain ⟨D',rfl⟩:∃ D',D=D' + 1:=by
   cases D with
   | zero=>have:=kD rfl; omega
   | succ D'=>exact ⟨D',rfl⟩
  have eD:((D' + 1:Nat):Int) - 1=(D':Int):=by omega
  have step:∀ {H2:Hp} {vs:List V} {Q:VK} {E:XK},SameX d H H2->vs=[.ref d,.ref wl,.str "", .int (((D' + 1:Nat):Int) - 1)]->(∀ v t H',SameX d H2 H'->LtAt H' v t->t.Ok ws->t.ht <= D'->Q v H')->Ra (D' + 1) vs H2 Q E:=fun {H2 vs Q E} sx e k=>by
   obtain ⟨x2,y2,hd2⟩:=sx.dice;exact ⟨d,wl,x2,y2,ws,by rw [e,eD],hd2,sx.old _ _ hw (FK hd hw h0),h0,h10,k⟩
  refine ⟨_,rfl,rfl,_,rfl,?_⟩;by_cases e4:kd=4
  ·rw [decide_eq_true (show V.int kd=V.int 4 by rw [e4])];refine Aj ⟨_,rfl,_,rfl,_,rfl,_,rfl,_,_,rfl,rfl,step s1 rfl fun v t H2 s2 lt ok ht=>⟨sl2,fun p hp=>?_⟩⟩;have sp:=AH (Same.refl _) hp (o:=HO.tup [V.str "~", v]);exact q (.ref p) (.ng t) _ ((s1.trans s2).step sp) ⟨p,v,rfl,AB,lt.sameT (SameT.of sp)⟩ ok (Nat.succ_le_succ ht)
  rw [decide_eq_false (show ¬ V.int kd=V.int 4 from fun z=>e4 (V.int.inj z))];refine AW ⟨_,rfl,_,rfl,_,rfl,_,rfl,_,_,rfl,rfl,step s1 rfl fun v1 t1 H2 s2 lt1 ok1 ht1=>?_⟩
  obtain ⟨g,hg,hat⟩:∃ g:Sg,g.joins/\atI ("|^&" : Str).cps.toList (kd - 5)=some g.c:=by
   have:kd=5\/kd=6\/kd=7:=by omega
   rcases this with rfl | rfl | rfl
   ·exact ⟨.or,True.intro,by decide +kernel⟩
   ·exact ⟨.xo,True.intro,by decide +kernel⟩
   ·exact ⟨.an,True.intro,by decide +kernel⟩
  refine ⟨_,rfl,_,_,rfl,rfl, "|^&", kd - 5,g.c,rfl,rfl,sl3,hat,_,rfl,_,rfl,_,rfl,_,rfl,_,rfl,_,_,rfl,rfl,step (s1.trans s2) rfl fun v2 t2 H3 s3 lt2 ok2 ht2=>⟨sl3,fun p hp=>?_⟩⟩;obtain ⟨x2,y2,hd2⟩:=s2.dice;rw [LR];have sp:=AH (Same.refl _) hp (o:=HO.tup [V.str g.s,v1,v2]);exact q (.ref p) (.bn g t1 t2) _ (((s1.trans s2).trans s3).step sp) ⟨p,v1,v2,rfl,AB,(lt1.sameT (SameX.tt hd2 s3)).sameT (SameT.of sp),lt2.sameT (SameT.of sp)⟩ ⟨hg,ok1,ok2⟩ (by show max t1.ht t2.ht + 1 <= D' + 1; omega)
theorem MW {f:Addr} (F:Fun K "_law_tree" "_law_tree" E1 f fd) (B:Bl mg) (m:mg "_law_tree" = some (.ref f)) (b:Binds K fd HB []) (GR:Fn P w K mg base "_law_roll" 2 ["_law_dice", "_law_many"] spRoll):∀ D:Nat,AX P w K mg base CX0 (3 + D) f fd HB (spTree D)
 | 0=>J6 F B GR 0 ⟨⟨f,fd,F.ok (k:=1) scTree (fun vs H Q E h=>h.elim) (fun ad A outer s H vs Q E hr h=>h.elim),m,F.kp,b⟩⟩
 | D + 1=>J6 F B GR (D + 1) ⟨⟨f,fd,by have:=MW F B m b GR D; rw [show 3 + D=2 + (D + 1) by omega] at this; exact this,m,F.kp,b⟩⟩
end
end Mk
end
section
namespace L2
open PySem
theorem D5 {X:Cx} {st:Stmt} {rest:List Stmt} {t u:TS} (h1:PSw X st t) (h2:PSsw X rest u):PSsw X (st :: rest) (Tl t u):=⟨BD h1.h h2.h⟩
end L2
namespace Mk
open PySem L2 MK PySem.NumText
structure NW (x:Str):Prop where
 pw:PW0 x.cps.toList
 as:x.cps.all (· < 128)=true
 l6:x.length <= 6
noncomputable def lb:Nat->Nat
 | 0=>14
 | h + 1=>2 * lb h + 5
theorem Rb:∀ D,D <= 5->lb D <= 603:=by decide
theorem Pg:∀ D,14 <= lb D
 | 0=>Nat.le_refl _
 | h + 1=>by have:=Pg h; show 14 <= 2 * lb h + 5; omega
theorem Bg (x y:Str):(x++y).cps.toList=x.cps.toList++y.cps.toList:=by
 show (x.cps++y.cps).toList=_;exact Array.toList_append
theorem BA (x y:Str):(x++y).length=x.length + y.length:=by rw [← Ay,Bg,length_append,Ay,Ay]
theorem B0 {x y:Str} (h:x.cps.all (· < 128)=true) (h':y.cps.all (· < 128)=true):(x++y).cps.all (· < 128)=true:=by
 rw [← Array.all_toList] at h h' ⊢;rw [Bg,all_append,h,h'];rfl
structure BlS (x:Str):Prop where
 bk:Bk x.cps.toList
 as:x.cps.all (· < 128)=true
 l1:x.length <= 1
theorem Up:BlS "" := ⟨.inl (by decide +kernel),by decide +kernel,by decide +kernel⟩
theorem Uq:BlS " " := ⟨.inr (by decide +kernel),by decide +kernel,by decide +kernel⟩
def NoL:LT->Prop
 | .nm _=>False
 | .no _=>False
 | _=>True
noncomputable def Ph:LT->Nat
 | .ng _=>3
 | .bn g _ _=>g.b - 1
 | _=>0
section
noncomputable abbrev LV:List Str:=["_law_dice", "_law_tree_here", "_law_rank"]
inductive spWrt (D:Nat) (vs:List V) (H:Hp) (Q:VK) (_E:XK):Prop where
 | mk (d:Addr) (a b:Int) (v:V) (t:LT) (ws:List Str) (r:Nat) (z_0:vs=[.ref d,v,.int (r:Int)]) (z_1:H d=some (.lst [.int a,.int b])) (z_2:LtAt H v t) (z_3:t.Ok ws) (z_4:t.ht <= D) (z_5:r <= 3) (z_6:D <= 5) (z_7:∀ x ∈ ws,NW x)
  (z_8:∀ z H',SameX d H H'->Wr t.tr r z.cps.toList->z.cps.all (· < 128)=true->z.length <= lb D->Q (.str z) H')
def Sx:Nat->Sp
 | 0=>fun _ _ _ _=>False
 | D + 1=>spWrt D
noncomputable abbrev Ur:List Str:=["_law_dice", "_law_tree_here", "_law_rank", "_law_blank", "_law_own", "_law_found"]
theorem scWrt:AJ Ur LV (defScope Cc):=fsc
noncomputable abbrev Q3:LK:=[((Sum.inr "|" : Key),.int 0),(Sum.inr "^", .int 1),(Sum.inr "&", .int 2),(Sum.inr "~", .int 3)]
theorem Sy {g:Sg} (h:g.joins):BN (C1 [] Q3) (Sum.inr g.s:Key)=some (.int ((g.b - 1:Nat):Int)):=by cases g <;> first | exact h.elim | decide +kernel
theorem own_no:BN (C1 [] Q3) (Sum.inr "~" : Key)=some (.int ((3:Nat):Int)):=by decide +kernel
theorem MY {f:Addr} (F:Fun K "_law_written" "_law_written" Cc f fd) (B:Bl mg) (GR:Fn P w K mg base "_law_roll" 2 ["_law_dice", "_law_many"] spRoll) (D:Nat) (G:Fn P w K mg base "_law_written" (2 + D) LV (Sx D)):AX P w K mg base CX0 (3 + D) f fd LV (spWrt D):=by
 obtain ⟨fR,dR,GR,mR,kR,bR⟩:=GR.ex;obtain ⟨fT,dT,GT,mT,kT,bT⟩:=G.ex;have e3:3 + D=2 + D + 1:=by omega
 rw [e3];refine F.m scWrt fun vs H Q E h=>?_;obtain ⟨d,a,b,v,t,ws,r,rfl,hd,lt,ok,ht,hr3,hD5,hW,q⟩:=h;refine ⟨rfl,fun ad A outer s hr=>?_⟩;have hu:=Cb hr;have hr2:Room 2 _:=hr.mono (by omega);have nd:=scWrt.nd;have hlb:=Rb D hD5
 refine ⟨_,PSsw.h (D5 (Ey (i:=3) nd rfl (Or.inl rfl) (Dd QT (.mk AN) (.mk (BR HV rfl B.int Gx (AA (Be Aw (PEw.h (BP GR hr2 rfl mR kR bR .nil AQ (Aq (.mk (pv 0)) (Aq (.mk AF) B3)))) AF (AR _)) AC)))))
  (D5 (HI (.mk (AM Dq (PEw.h (DL (Az K rfl) (.mk (pv 1)) (.mk AF) (fun _ _=>rfl))) (BE (AA AN (AA AN (AA AN AC)))) rfl)) (B4 (.mk (AL (PEw.h (Dd BB (.mk (pv 3)) (.mk (BR (CallR.or IP Ik) rfl B.str Fc (AA (PEw.h (DL (Az K rfl) (.mk (pv 1)) (.mk AF) (fun _ _=>rfl))) AC)))))))) C3)
  (D5 (Ey (i:=4) nd rfl (Or.inl rfl) (.mk (BU hu (Lm (B1 AN AF (B1 AN AF (B1 AN AF (B1 AN AF Ll)))) rfl rfl (by decide) (by decide)) (PEw.h (DL (Az K rfl) (.mk (pv 1)) (.mk AF) (fun _ _=>rfl))) (fun _ _=>rfl))))
  (D5 (HI (.mk (AM Aw (PEw.h (DL (Az K rfl) (.mk (pv 1)) (.mk AF) (fun _ _=>rfl))) AN (AR _)))
   (B4 (Ey (i:=5) nd rfl (Or.inl rfl) (Dd BB (.mk AN) (BP GT hr rfl mT kT bT .nil AQ (Aq (.mk (pv 0)) (Aq (DL (Az K rfl) (.mk (pv 1)) (.mk AF) (fun _ _=>rfl)) (Aq (.mk AF) B3)))))))
   (B4 (Ey (i:=5) nd rfl (Or.inl rfl) (Dd BB (Dd BB (Dd BB (BP GT hr rfl mT kT bT .nil AQ (Aq (.mk (pv 0)) (Aq (DL (Az K rfl) (.mk (pv 1)) (.mk AF) (fun _ _=>rfl)) (Aq (.mk (pv 4)) B3)))) (.mk (pv 3))) (DL (Az K rfl) (.mk (pv 1)) (.mk AF) (fun _ _=>rfl))) (BP GT hr rfl mT kT bT .nil AQ (Aq (.mk (pv 0)) (Aq (DL (Az K rfl) (.mk (pv 1)) (.mk AF) (fun _ _=>rfl)) (Aq (Dd Ci (.mk (pv 4)) (.mk AF)) B3))))))))
  (B4 (.mk (AL (PEw.h (RM (.mk (PW.pt (DR (AM Fo (pv 4) (pv 2) (AR _)) (CN (AM Aw (PEw.h (BP GR hr2 rfl mR kR bR .nil AQ (Aq (.mk (pv 0)) (Aq (.mk AF) B3)))) AF (AR _)))))) (Dd BB (Dd BB (Dd BB (.mk (pv 3)) (.mk AN)) (.mk (pv 5))) (.mk AN)) (.mk (pv 5))))))))))),?_⟩
 refine ⟨fun σ H'=>∃ bl:Str,σ=[some (.ref d),some v,some (.int (r:Int)),some (.str bl),none,none]/\BlS bl/\SameX d H H',fun R hR=>?_,?_⟩
 ·refine ⟨_,rfl,d,a,b,6,rfl,hd,by decide,by decide,fun k a1 b1 k0 k1=>⟨rfl,?_⟩⟩;refine .inr ⟨_,rfl, " ", _,rfl,rfl,?_⟩;cases decide (V.int k=V.int 0) with
  | true=>exact .inr ⟨rfl,hR _ _ ⟨" ", rfl,Uq,A1 hd⟩⟩
  | false=>exact .inl ⟨rfl,hR _ _ ⟨"", rfl,Up,A1 hd⟩⟩
 rintro σ H1 ⟨bl,rfl,hbl,s1⟩;have lt1:=lt.sameT (SameX.tt hd s1);obtain ⟨x1,y1,hd1⟩:=s1.dice
 have leaf:∀ {x:Str} {H2:Hp},SameX d H H2->PW0 x.cps.toList->x.cps.all (· < 128)=true->x.length <= 13->(t.tr=.wd x)->bl.length + x.length <= sizeLine/\Q (.str (bl++x)) H2:=fun {x H2} s2 pw as l13 e=>by
  have l1:=hbl.l1;have:=Pg D;refine ⟨Nat.le_of_lt (AO (by omega)),q _ _ s2 ?_ (B0 hbl.as as) (by rw [BA]; omega)⟩;rw [e,Bg];exact .wd x r _ hbl.bk pw
 refine ⟨fun σ H'=>σ=[some (.ref d),some v,some (.int (r:Int)),some (.str bl),none,none]/\NoL t/\SameX d H H',fun R hR=>?_,?_⟩
 ·have sa:∀ {tp},H1 tp=none->Same H1 (upd H1 tp (.tup [V.str "name", V.str "number", V.str "letter"])):=fun htp=>AH (Same.refl _) htp;cases t with
  | nm x =>
   obtain ⟨p,rfl,hp⟩:=lt1;have nw:=hW x ok;have l6:=nw.l6;refine ⟨_,rfl,p,_,0,.str "name", rfl,rfl,SqT.of hp,rfl,sl3,fun tp htp=>⟨tp,_,rfl,.inr (SqT.of AB),rfl,rfl,_,rfl,?_⟩⟩;rw [show (if false=true then !inV (V.str "name") [V.str "name", V.str "number", V.str "letter"] else inV (V.str "name") [V.str "name", V.str "number", V.str "letter"])=true by decide +kernel];refine Aj ⟨_,rfl,_,rfl,p,_,1,.str x,rfl,rfl,SqT.of (sa htp _ _ hp),rfl,.inr ⟨x,rfl,?_⟩⟩;obtain ⟨h1,h2⟩:=leaf (s1.step (sa htp)) nw.pw nw.as (by omega) rfl;exact ⟨bl,x,rfl,rfl,h1,h2⟩
  | no n =>
   obtain ⟨p,rfl,hp⟩:=lt1;have n40:n < 2 ^ 40:=Nat.lt_trans ok (by decide);have fw:=LU (due:=[]) n40;refine ⟨_,rfl,p,_,0,.str "number", rfl,rfl,SqT.of hp,rfl,sl3,fun tp htp=>⟨tp,_,rfl,.inr (SqT.of AB),rfl,rfl,_,rfl,?_⟩⟩;rw [show (if false=true then !inV (V.str "number") [V.str "name", V.str "number", V.str "letter"] else inV (V.str "number") [V.str "name", V.str "number", V.str "letter"])=true by decide +kernel];refine Aj ⟨_,rfl,_,rfl,p,_,1,.int (n:Int),rfl,rfl,SqT.of (sa htp _ _ hp),rfl,.inl ⟨(n:Int),rfl,IF n40,?_⟩⟩;obtain ⟨h1,h2⟩:=leaf (x:=Fz n) (s1.step (sa htp)) fw.pw fw.ok.as fw.len rfl;exact ⟨bl,Fz n,rfl,rfl,h1,h2⟩
  | ng t' =>
   obtain ⟨p,u,rfl,hp,lu⟩:=lt1;refine ⟨_,rfl,p,_,0,.str "~", rfl,rfl,SqT.of hp,rfl,sl3,fun tp htp=>⟨tp,_,rfl,.inr (SqT.of AB),rfl,rfl,_,rfl,?_⟩⟩;rw [show (if false=true then !inV (V.str "~") [V.str "name", V.str "number", V.str "letter"] else inV (V.str "~") [V.str "name", V.str "number", V.str "letter"])=false by decide +kernel];exact AW (hR _ _ ⟨rfl,True.intro,s1.step (sa htp)⟩)
  | bn g t1 t2 =>
   obtain ⟨p,u1,u2,rfl,hp,lu1,lu2⟩:=lt1;refine ⟨_,rfl,p,_,0,.str g.s,rfl,rfl,SqT.of hp,rfl,sl3,fun tp htp=>⟨tp,_,rfl,.inr (SqT.of AB),rfl,rfl,_,rfl,?_⟩⟩;rw [show (if false=true then !inV (V.str g.s) [V.str "name", V.str "number", V.str "letter"] else inV (V.str g.s) [V.str "name", V.str "number", V.str "letter"])=false by cases g <;> decide +kernel];exact AW (hR _ _ ⟨rfl,True.intro,s1.step (sa htp)⟩)
 rintro σ H2 ⟨rfl,noL,s2⟩;have lt2:=lt.sameT (SameX.tt hd s2);clear leaf lt1 hd1;refine ⟨fun σ H'=>σ=[some (.ref d),some v,some (.int (r:Int)),some (.str bl),some (.int (Ph t:Int)),none]/\SameX d H H',fun R hR=>?_,?_⟩
 ·intro dp hdp;have sb:Same H2 (upd (upd H2 dp (.dK [])) dp (.dK (C1 [] Q3))):=fun b o e=>by rw [AG (AI e hdp),AG (AI e hdp)]; exact e
  refine ⟨AB,Q3,rfl,by decide,?_⟩;cases t with
  | nm x=>exact noL.elim
  | no n=>exact noL.elim
  | ng t' =>
   obtain ⟨p,u,rfl,hp,lu⟩:=lt2;exact ⟨_,rfl,p,_,0,.str "~", rfl,rfl,SqT.of (sb _ _ hp),rfl,dp,.int ((3:Nat):Int),rfl,.inl ⟨_,Sum.inr "~", .inl AB,rfl,own_no.symm⟩,hR _ _ ⟨rfl,s2.step sb⟩⟩
  | bn g t1 t2 =>
   obtain ⟨p,u1,u2,rfl,hp,lu1,lu2⟩:=lt2;exact ⟨_,rfl,p,_,0,.str g.s,rfl,rfl,SqT.of (sb _ _ hp),rfl,dp,.int ((g.b - 1:Nat):Int),rfl,.inl ⟨_,Sum.inr g.s,.inl AB,rfl,(Sy ok.1).symm⟩,hR _ _ ⟨rfl,s2.step sb⟩⟩
 rintro σ H3 ⟨rfl,s3⟩;have lt3:=lt.sameT (SameX.tt hd s3);obtain ⟨x3,y3,hd3⟩:=s3.dice;clear lt2 s2 s1;refine ⟨fun σ H'=>∃ fz:Str,σ=[some (.ref d),some v,some (.int (r:Int)),some (.str bl),some (.int (Ph t:Int)),some (.str fz)]/\SameX d H H'/\(∀ r',r' <= Ph t->Wr t.tr r' fz.cps.toList)/\fz.cps.all (· < 128)=true/\fz.length + 3 <= lb D,fun R hR=>?_,?_⟩
 ·obtain ⟨D',rfl⟩:∃ D',D=D' + 1:=by
   cases D with
   | zero=>cases t with
    | nm x=>exact noL.elim
    | no n=>exact noL.elim
    | ng t'=>exact absurd ht (by show ¬ t'.ht + 1 <= 0; omega)
    | bn g t1 t2=>exact absurd ht (by show ¬ max t1.ht t2.ht + 1 <= 0; omega)
   | succ D'=>exact ⟨D',rfl⟩
  have hlb':=Rb D' (by omega);have elb:lb (D' + 1)=2 * lb D' + 5:=rfl;have l1:=hbl.l1;cases t with
  | nm x=>exact noL.elim
  | no n=>exact noL.elim
  | ng t' =>
   obtain ⟨p,u,rfl,hp,lu⟩:=lt3;refine ⟨_,rfl,p,_,0,.str "~", rfl,rfl,SqT.of hp,rfl,rfl,_,rfl,?_⟩;rw [show decide (V.str "~" = V.str "~")=true by decide +kernel];refine Aj ⟨_,rfl,_,rfl,p,_,1,u,rfl,rfl,SqT.of hp,rfl,d,x3,y3,u,t',ws,3,rfl,hd3,lu,ok,Nat.le_of_succ_le_succ ht,by decide,by omega,hW,fun z H4 s4 wz az lz=>?_⟩;refine ⟨"~", z,rfl,rfl,Nat.le_of_lt (AO (by rw [show ("~" : Str).length=1 by decide +kernel]; omega)),hR _ _ ⟨"~" ++ z,rfl,s3.trans s4,fun r' hr'=>?_,B0 (by decide +kernel) az,?_⟩⟩
   ·rw [Bg,show ("~" : Str).cps.toList=[126] by decide +kernel];exact .ng _ r' _ hr' wz
   ·rw [BA,show ("~" : Str).length=1 by decide +kernel];omega
  | bn g t1 t2 =>
   obtain ⟨p,u1,u2,rfl,hp,lu1,lu2⟩:=lt3;have hg1:1 <= g.b:=by have:=ok.1; cases g <;> first | exact this.elim | decide
   have hg3:g.b <= 3:=by have:=ok.1; cases g <;> first | exact this.elim | decide
   have hm:t1.ht <= D'/\t2.ht <= D':=by
    have:max t1.ht t2.ht + 1 <= D' + 1:=ht;omega
   refine ⟨_,rfl,p,_,0,.str g.s,rfl,rfl,SqT.of hp,rfl,rfl,_,rfl,?_⟩;rw [show decide (V.str g.s=V.str "~")=false by have:=ok.1; cases g <;> first | exact this.elim | decide +kernel];refine AW ⟨_,rfl,_,rfl,p,_,1,u1,rfl,rfl,SqT.of hp,rfl,_,rfl,d,x3,y3,u1,t1,ws,g.b - 1,rfl,hd3,lu1,ok.2.1,hm.1,by omega,by omega,hW,fun z1 H4 s4 wz1 az1 lz1=>?_⟩;have hp4:H4 p=_:=(SameX.tt hd3 s4) _ _ hp;have lu24:=lu2.sameT (SameX.tt hd3 s4);obtain ⟨x4,y4,hd4⟩:=s4.dice;have lg:g.s.length=1:=by cases g <;> decide +kernel
   have ag:g.s.cps.all (· < 128)=true:=by cases g <;> decide +kernel
   have cg:g.s.cps.toList=[g.c]:=by cases g <;> decide +kernel
   refine ⟨_,rfl,z1,bl,rfl,rfl,Nat.le_of_lt (AO (by omega)),_,rfl,p,_,0,.str g.s,rfl,rfl,SqT.of hp4,rfl,z1++bl,g.s,rfl,rfl,Nat.le_of_lt (AO (by rw [BA]; omega)),?_⟩;refine ⟨_,rfl,_,rfl,p,_,2,u2,rfl,rfl,SqT.of hp4,rfl,_,rfl,_,_,rfl,rfl,d,x4,y4,u2,t2,ws,g.b,?_,hd4,lu24,ok.2.2,hm.2,by omega,by omega,hW,fun z2 H5 s5 wz2 az2 lz2=>?_⟩
   ·show [V.ref d,u2,V.int (((g.b - 1:Nat):Int) + 1)]=[V.ref d,u2,V.int (g.b:Int)];rw [show ((g.b - 1:Nat):Int) + 1=(g.b:Int) by omega]
   refine ⟨z1++bl++g.s,z2,rfl,rfl,Nat.le_of_lt (AO (by rw [BA,BA]; omega)),hR _ _ ⟨_,rfl,(s3.trans s4).trans s5,fun r' hr'=>?_,B0 (B0 (B0 az1 hbl.as) ag) az2,by rw [BA,BA,BA]; omega⟩⟩
   have e:(z1++bl++g.s++z2).cps.toList=z1.cps.toList++(bl.cps.toList++(g.c :: z2.cps.toList)):=by
    rw [Bg,Bg,Bg,cg];simp
   rw [e];have hr2':r' <= g.b - 1:=hr';exact .bn g t1.tr t2.tr r' _ _ _ ok.1 (by omega) hbl.bk wz1 wz2
 rintro σ H4 ⟨fz,rfl,s4,wz,az,lz⟩;obtain ⟨x4,y4,hd4⟩:=s4.dice;have l1:=hbl.l1
 have brk:∀ {H5:Hp},SameX d H H5->∃ i j,V.str bl=.str i/\V.str "(" = .str j/\i.length + j.length <= sizeLine/\∃ i2 j2,V.str (i++j)=.str i2/\V.str fz=.str j2/\i2.length + j2.length <= sizeLine/\∃ i3 j3,V.str (i2++j2)=.str i3/\V.str ")" = .str j3/\i3.length + j3.length <= sizeLine/\Q (.str (i3++j3)) H5:=fun {H5} s5=>by
  have o1:("(" : Str).length=1:=by decide +kernel
  have c1:(")" : Str).length=1:=by decide +kernel
  refine ⟨bl, "(", rfl,rfl,Nat.le_of_lt (AO (by omega)),bl ++ "(", fz,rfl,rfl,Nat.le_of_lt (AO (by rw [BA]; omega)),bl ++ "(" ++ fz, ")", rfl,rfl,Nat.le_of_lt (AO (by rw [BA,BA]; omega)),q _ _ s5 ?_ (B0 (B0 (B0 hbl.as (by decide +kernel)) az) (by decide +kernel)) (by rw [BA,BA,BA]; omega)⟩
  have e:(bl ++ "(" ++ fz ++ ")" : Str).cps.toList=bl.cps.toList++(40 :: (fz.cps.toList++[41])):=by
   rw [Bg,Bg,Bg,show ("(" : Str).cps.toList=[40] by decide +kernel,show (")" : Str).cps.toList=[41] by decide +kernel];simp
  rw [e];exact .br _ r _ _ hbl.bk (wz 0 (Nat.zero_le _))
 refine ⟨_,rfl,_,rfl,_,_,rfl,rfl,_,rfl,?_⟩;refine BY (fun _=>?_) (fun h=>?_)
 ·refine Aj ?_;obtain ⟨i,j,e1,e2,e3,i2,j2,e4,e5,e6,i3,j3,e7,e8,e9,e10⟩:=brk s4;exact ⟨_,rfl,i,j,e1,e2,e3,_,rfl,i2,j2,e4,e5,e6,i3,j3,e7,e8,e9,e10⟩
 ·refine ⟨_,rfl,d,x4,y4,6,rfl,hd4,by decide,by decide,fun k a1 b1 k0 k1=>⟨rfl,_,rfl,?_⟩⟩;have s5:=s4.trans (A1 (x':=a1) (y':=b1) hd4);refine BY (fun _=>?_) (fun _=>?_)
  ·obtain ⟨i,j,e1,e2,e3,i2,j2,e4,e5,e6,i3,j3,e7,e8,e9,e10⟩:=brk s5;exact ⟨_,rfl,i,j,e1,e2,e3,_,rfl,i2,j2,e4,e5,e6,i3,j3,e7,e8,e9,e10⟩
  ·have hr':r <= Ph t:=by
    have:¬ ((Ph t:Int) < (r:Int)):=fun z=>h (decide_eq_true z);omega
   exact ⟨_,rfl,q _ _ s5 (wz r hr') az (by omega)⟩
theorem Pi {f:Addr} (F:Fun K "_law_written" "_law_written" Cc f fd) (B:Bl mg) (m:mg "_law_written" = some (.ref f)) (b:Binds K fd LV []) (GR:Fn P w K mg base "_law_roll" 2 ["_law_dice", "_law_many"] spRoll):∀ D:Nat,AX P w K mg base CX0 (3 + D) f fd LV (spWrt D)
 | 0=>MY F B GR 0 ⟨⟨f,fd,F.ok (k:=1) scWrt (fun vs H Q E h=>h.elim) (fun ad A outer s H vs Q E hr h=>h.elim),m,F.kp,b⟩⟩
 | D + 1=>MY F B GR (D + 1) ⟨⟨f,fd,by have:=Pi F B m b GR D; rw [show 3 + D=2 + (D + 1) by omega] at this; exact this,m,F.kp,b⟩⟩
end
section
noncomputable abbrev MZ:List Str:=["_law_dice", "_law_words", "_law_signs"]
inductive spForm (vs:List V) (H:Hp) (Q:VK) (_E:XK):Prop where
 | mk (d wl:Addr) (a b:Int) (ws:List Str) (z_0:vs=[.ref d,.ref wl,.str ""]) (z_1:H d=some (.lst [.int a,.int b])) (z_2:H wl=some (.lst (ws.map V.str))) (z_3:0 < ws.length) (z_4:ws.length <= 10) (z_5:∀ x ∈ ws,NW x)
  (z_6:∀ q z v t H',SameX d H H'->H' q=some (.tup [.str z,v])->LtAt H' v t->t.Ok ws->t.ht <= 3->Wr t.tr 0 z.cps.toList->z.cps.all (· < 128)=true->z.length <= 56->Q (.ref q) H')
noncomputable abbrev UA:List Str:=["_law_dice", "_law_words", "_law_signs", "_law_tree_here", "_law_text"]
theorem scForm:AJ UA MZ (defScope Dk):=fsc
theorem Q4 {f:Addr} (F:Fun K "_law_formula" "_law_formula" Dk f fd) (B:Bl mg) (GT:Fn P w K mg base "_law_tree" 6 HB (spTree 3)) (GW:Fn P w K mg base "_law_written" 6 LV (spWrt 3)):AX P w K mg base CX0 7 f fd MZ spForm:=by
 obtain ⟨fT,dT,GT,mT,kT,bT⟩:=GT.ex;obtain ⟨fW,dW,GW,mW,kW,bW⟩:=GW.ex;refine F.m scForm fun vs H Q E h=>?_;obtain ⟨d,wl,a,b,ws,rfl,hd,hw,h0,h10,hW,q⟩:=h;refine ⟨rfl,fun ad A outer s hr=>?_⟩;have nd:=scForm.nd
 refine ⟨_,AE (Ac (i:=3) nd rfl (Or.inl rfl) (AS GT hr rfl mT kT bT .nil AQ (AA (pv 0) (AA (pv 1) (AA (pv 2) (AA AF AC))))))
  (AE (Ac (i:=4) nd rfl (Or.inl rfl) (AS GW hr rfl mW kW bW .nil AQ (AA (pv 0) (AA (pv 3) (AA AF AC)))))
  (BD (Ag (AM Ek (AY BS rfl B.len PySem.boot_len (AA (pv 4) AC)) AF (AR _))
   (AE (Ac (i:=3) nd rfl (Or.inl rfl) (BE (AA AN (AA (BI (Ar K rfl) (pv 1) AF (fun _ _=>rfl)) AC))))
   (AD (Ac (i:=4) nd rfl (Or.inl rfl) (BI (Ar K rfl) (pv 1) AF (fun _ _=>rfl))))) AV)
  (AD (AL (BE (AA (pv 4) (AA (pv 3) AC))))))),?_⟩
 refine ⟨_,rfl,_,rfl,_,rfl,d,wl,a,b,ws,rfl,hd,hw,h0,h10,fun v t H1 s1 lt1 ok1 ht1=>?_⟩;obtain ⟨x1,y1,hd1⟩:=s1.dice;refine ⟨_,rfl,_,rfl,d,x1,y1,v,t,ws,0,rfl,hd1,lt1,ok1,ht1,by decide,by decide,hW,fun z H2 s2 wz az lz=>?_⟩;have lt2:=lt1.sameT (SameX.tt hd1 s2);have s12:=s1.trans s2;have hw2:=s12.old _ _ hw (FK hd hw h0);have hl3:lb 3=147:=by decide
 refine ⟨fun σ H'=>∃ (z:Str) (v:V) (t:LT),σ=[some (.ref d),some (.ref wl),some (.str ""),some v,some (.str z)]/\SameX d H H'/\LtAt H' v t/\t.Ok ws/\t.ht <= 3/\Wr t.tr 0 z.cps.toList/\z.cps.all (· < 128)=true/\z.length <= 56,fun R hR=>?_,?_⟩
 ·refine ⟨_,rfl,z,rfl,Nat.le_of_lt (AO (by omega)),_,_,rfl,rfl,_,rfl,?_⟩;refine BY (fun _=>?_) (fun h=>?_)
  ·cases ws with
   | nil=>exact absurd h0 (by decide)
   | cons x r =>
    have nw:=hW x (mem_cons_self ..);have l6:=nw.l6;refine ⟨_,rfl,wl,_,0,.str x,rfl,rfl,SqL.of hw2,Bm (j:=0) rfl,sl2,fun p hp=>?_⟩;have sp:=AH (Same.refl _) hp (o:=HO.tup [V.str "name", V.str x]);refine ⟨_,rfl,wl,_,0,.str x,rfl,rfl,SqL.of (sp _ _ hw2),Bm (j:=0) rfl,hR _ _ ⟨x,.ref p,.nm x,rfl,s12.step sp,⟨p,rfl,AB⟩,mem_cons_self ..,Nat.zero_le _,?_,nw.as,by omega⟩⟩;have:=Wr.wd x 0 [] (.inl rfl) nw.pw;exact this
  ·exact hR _ _ ⟨z,v,t,rfl,s12,lt2,ok1,ht1,wz,az,by
    have:¬ ((z.length:Int) > 56):=fun y=>h (decide_eq_true y)
    omega⟩
 rintro σ H3 ⟨z,v,t,rfl,s3,lt,ok,ht,wz,az,lz⟩;refine ⟨_,rfl,_,rfl,sl2,fun p hp=>?_⟩;have sp:=AH (Same.refl _) hp (o:=HO.tup [V.str z,v]);exact q p z v t _ (s3.step sp) AB (lt.sameT (SameT.of sp)) ok ht wz az lz
noncomputable abbrev HC:List Str:=["_law_tree_here", "_law_numbers", "_law_known", "_law_letters_to"]
inductive spCome (D:Nat) (vs:List V) (H:Hp) (Q:VK) (_E:XK):Prop where
 | mk (v:V) (nu le:Addr) (k:Nat) (t:LT) (due:Aa) (z_0:vs=[v,.ref nu,.int (k:Int),.ref le]) (z_1:LtAt H v t) (z_2:t.Ok (due.map (·.1))) (z_3:t.ht <= D) (z_4:H nu=some (.dK (Ax due))) (z_5:D4 due)
  (z_6:Q (.int (t.tr.come due k:Nat)) H)
def Pj:Nat->Sp
 | 0=>fun _ _ _ _=>False
 | D + 1=>spCome D
noncomputable abbrev UB:List Str:=["_law_tree_here", "_law_numbers", "_law_known", "_law_letters_to", "_law_one", "_law_other"]
theorem scCome:AJ UB HC (defScope E2):=fsc
theorem Ma (DO:D4 due) {x:Str} (h:x ∈ due.map (·.1)):wv due x=look due x:=by
 obtain ⟨p,hp,rfl⟩:=mem_map.mp h;unfold wv;rw [if_pos (DO.nm p hp).1]
theorem Pk {n:Nat} (h:n < 2 ^ 20):wv due (Fz n)=n:=(LU (due:=due) (Nat.lt_trans h (by decide))).v
theorem J7 {f:Addr} (F:Fun K "_law_come" "_law_come" E2 f fd) (D:Nat) (G:Fn P w K mg base "_law_come" (1 + D) HC (Pj D)):AX P w K mg base CX0 (2 + D) f fd HC (spCome D):=by
 obtain ⟨fT,dT,GT,mT,kT,bT⟩:=G.ex;have e3:2 + D=1 + D + 1:=by omega
 rw [e3];refine F.m scCome fun vs H Q E h=>?_;obtain ⟨v,nu,le,k,t,due,rfl,lt,ok,ht,hn,DO,q⟩:=h;refine ⟨rfl,fun ad A outer s hr=>?_⟩;have hu:=Cb hr;have nd:=scCome.nd
 refine ⟨_,PSsw.h (CO (HI (.mk (AM Aw (PEw.h (DL (Az K rfl) (.mk (pv 0)) (.mk AF) (fun _ _=>rfl))) AN (AR _))) (B4 (.mk (AL (BU hu (pv 1) (PEw.h (DL (Az K rfl) (.mk (pv 0)) (.mk AF) (fun _ _=>rfl))) (fun _ _=>rfl))))) C3)
  (CO (HI (.mk (AM Aw (PEw.h (DL (Az K rfl) (.mk (pv 0)) (.mk AF) (fun _ _=>rfl))) AN (AR _))) (B4 (.mk (AL (PEw.h (DL (Az K rfl) (.mk (pv 0)) (.mk AF) (fun _ _=>rfl)))))) C3)
  (CO (HI (.mk (AM Aw (PEw.h (DL (Az K rfl) (.mk (pv 0)) (.mk AF) (fun _ _=>rfl))) AN (AR _))) (B4 (.mk Ah)) C3)
  (CO (Ey (i:=4) nd rfl (Or.inl rfl) (BP GT hr rfl mT kT bT .nil AQ (Aq (DL (Az K rfl) (.mk (pv 0)) (.mk AF) (fun _ _=>rfl)) (Aq (.mk (pv 1)) (Aq (.mk (pv 2)) (Aq (.mk (pv 3)) B3))))))
  (CO (HI (.mk (AM Aw (PEw.h (DL (Az K rfl) (.mk (pv 0)) (.mk AF) (fun _ _=>rfl))) AN (AR _))) (B4 (.mk (AL (PEw.h (Dd B9 (.mk (pv 2)) (Dd CA (.mk (pv 2)) (.mk (pv 4)))))))) C3)
  (CO (Ey (i:=5) nd rfl (Or.inl rfl) (BP GT hr rfl mT kT bT .nil AQ (Aq (DL (Az K rfl) (.mk (pv 0)) (.mk AF) (fun _ _=>rfl)) (Aq (.mk (pv 1)) (Aq (.mk (pv 2)) (Aq (.mk (pv 3)) B3))))))
  (CO (HI (.mk (AM Aw (PEw.h (DL (Az K rfl) (.mk (pv 0)) (.mk AF) (fun _ _=>rfl))) AN (AR _))) (B4 (.mk (AL (PEw.h (Dd CA (.mk (pv 4)) (.mk (pv 5))))))) C3)
  (B4 (.mk (AL (PEw.h (RM (.mk (AM Aw (PEw.h (DL (Az K rfl) (.mk (pv 0)) (.mk AF) (fun _ _=>rfl))) AN (AR _))) (Dd Lb (.mk (pv 4)) (.mk (pv 5))) (Dd Nv (.mk (pv 4)) (.mk (pv 5))))))))))))))),?_⟩
 have rec_:∀ {t':LT} {u:V} {Q':VK},LtAt H u t'->t'.Ok (due.map (·.1))->t'.ht + 1 <= D->Q' (.int (t'.tr.come due k:Nat)) H->Pj D [u,.ref nu,.int (k:Int),.ref le] H Q' E0:=fun {t' u Q'} l o h q'=>by
  cases D with
  | zero=>exact absurd h (by omega)
  | succ D'=>exact ⟨u,nu,le,k,t',due,rfl,l,o,by omega,hn,DO,q'⟩
 cases t with
 | nm x =>
  obtain ⟨p,rfl,hp⟩:=lt;refine ⟨_,rfl,p,_,0,.str "name", rfl,rfl,SqT.of hp,rfl,rfl,_,rfl,?_⟩;rw [show decide (V.str "name" = V.str "name")=true by decide +kernel];refine Aj ⟨_,rfl,_,rfl,p,_,1,.str x,rfl,rfl,SqT.of hp,rfl,nu,_,rfl,.inl ⟨_,Sum.inr x,.inl hn,rfl,(B5 ok).symm⟩,?_⟩;have:(LT.nm x).tr.come due k=look due x:=Ma DO ok;rw [this] at q;exact q
 | no n =>
  obtain ⟨p,rfl,hp⟩:=lt;refine ⟨_,rfl,p,_,0,.str "number", rfl,rfl,SqT.of hp,rfl,rfl,_,rfl,?_⟩;rw [show decide (V.str "number" = V.str "name")=false by decide +kernel];refine AW ⟨_,rfl,p,_,0,.str "number", rfl,rfl,SqT.of hp,rfl,rfl,_,rfl,?_⟩;rw [show decide (V.str "number" = V.str "number")=true by decide +kernel];have:(LT.no n).tr.come due k=n:=Pk ok;rw [this] at q;exact Aj ⟨_,rfl,p,_,1,.int (n:Int),rfl,rfl,SqT.of hp,rfl,q⟩
 | ng t' =>
  obtain ⟨p,u,rfl,hp,lu⟩:=lt;refine ⟨_,rfl,p,_,0,.str "~", rfl,rfl,SqT.of hp,rfl,rfl,_,rfl,?_⟩;rw [show decide (V.str "~" = V.str "name")=false by decide +kernel];refine AW ⟨_,rfl,p,_,0,.str "~", rfl,rfl,SqT.of hp,rfl,rfl,_,rfl,?_⟩;rw [show decide (V.str "~" = V.str "number")=false by decide +kernel];refine AW ⟨_,rfl,p,_,0,.str "~", rfl,rfl,SqT.of hp,rfl,rfl,_,rfl,?_⟩;rw [show decide (V.str "~" = V.str "letter")=false by decide +kernel];refine AW ⟨_,rfl,p,_,1,u,rfl,rfl,SqT.of hp,rfl,_,rfl,_,rfl,_,rfl,rec_ lu ok ht ?_⟩;refine ⟨_,rfl,p,_,0,.str "~", rfl,rfl,SqT.of hp,rfl,rfl,_,rfl,?_⟩;rw [show decide (V.str "~" = V.str "~")=true by decide +kernel];refine Aj ⟨_,rfl,_,rfl,_,rfl,_,_,rfl,rfl,_,_,rfl,rfl,?_⟩
  have e:(k:Int) - Builtin.bitAnd (k:Int) ((t'.tr.come due k:Nat):Int)=(((LT.ng t').tr.come due k:Nat):Int):=by
   rw [Bf];show _=((k - (k &&& t'.tr.come due k):Nat):Int);have:=Nat.and_le_left (n:=k) (m:=t'.tr.come due k);omega
  show Q (V.int ((k:Int) - Builtin.bitAnd (k:Int) ((t'.tr.come due k:Nat):Int))) H;rw [e];exact q
 | bn g t1 t2 =>
  obtain ⟨p,u1,u2,rfl,hp,lu1,lu2⟩:=lt;obtain ⟨hg,ok1,ok2⟩:=ok
  have hm:t1.ht + 1 <= D/\t2.ht + 1 <= D:=by
   have:max t1.ht t2.ht + 1 <= D:=ht;omega
  have ne:∀ y:Str,y = "name" \/ y = "number" \/ y = "letter" \/ y = "~" -> decide (V.str g.s=V.str y)=false:=fun y hy=>by
   rcases hy with rfl | rfl | rfl | rfl <;> cases g <;> first | exact hg.elim | decide +kernel
  refine ⟨_,rfl,p,_,0,.str g.s,rfl,rfl,SqT.of hp,rfl,rfl,_,rfl,?_⟩;rw [ne _ (.inl rfl)];refine AW ⟨_,rfl,p,_,0,.str g.s,rfl,rfl,SqT.of hp,rfl,rfl,_,rfl,?_⟩;rw [ne _ (.inr (.inl rfl))];refine AW ⟨_,rfl,p,_,0,.str g.s,rfl,rfl,SqT.of hp,rfl,rfl,_,rfl,?_⟩;rw [ne _ (.inr (.inr (.inl rfl)))];refine AW ⟨_,rfl,p,_,1,u1,rfl,rfl,SqT.of hp,rfl,_,rfl,_,rfl,_,rfl,rec_ lu1 ok1 hm.1 ?_⟩;refine ⟨_,rfl,p,_,0,.str g.s,rfl,rfl,SqT.of hp,rfl,rfl,_,rfl,?_⟩;rw [ne _ (.inr (.inr (.inr rfl)))];refine AW ⟨_,rfl,p,_,2,u2,rfl,rfl,SqT.of hp,rfl,_,rfl,_,rfl,_,rfl,rec_ lu2 ok2 hm.2 ?_⟩;refine ⟨_,rfl,p,_,0,.str g.s,rfl,rfl,SqT.of hp,rfl,rfl,_,rfl,?_⟩;cases g with
  | br=>exact hg.elim
  | no=>exact hg.elim
  | an =>
   rw [show decide (V.str Sg.an.s=V.str "&")=true by decide +kernel];refine Aj ⟨_,rfl,_,rfl,_,_,rfl,rfl,?_⟩;show Q (V.int (Builtin.bitAnd _ _)) H;rw [Bf];exact q
  | or =>
   rw [show decide (V.str Sg.or.s=V.str "&")=false by decide +kernel];refine AW ⟨_,rfl,p,_,0,.str Sg.or.s,rfl,rfl,SqT.of hp,rfl,rfl,_,rfl,?_⟩;rw [show decide (V.str Sg.or.s=V.str "|")=true by decide +kernel];refine Aj ⟨_,rfl,_,rfl,_,_,rfl,rfl,?_⟩;show Q (V.int (Builtin.bitOr _ _)) H;rw [C4];exact q
  | xo =>
   rw [show decide (V.str Sg.xo.s=V.str "&")=false by decide +kernel];refine AW ⟨_,rfl,p,_,0,.str Sg.xo.s,rfl,rfl,SqT.of hp,rfl,rfl,_,rfl,?_⟩;rw [show decide (V.str Sg.xo.s=V.str "|")=false by decide +kernel];refine AW ⟨_,rfl,_,rfl,_,_,rfl,rfl,?_⟩;show Q (V.int (Builtin.bitXor _ _)) H;rw [MS];exact q
theorem Mb {f:Addr} (F:Fun K "_law_come" "_law_come" E2 f fd) (m:mg "_law_come" = some (.ref f)) (b:Binds K fd HC []):∀ D:Nat,AX P w K mg base CX0 (2 + D) f fd HC (spCome D)
 | 0=>J7 F 0 ⟨⟨f,fd,F.ok (k:=0) scCome (fun vs H Q E h=>h.elim) (fun ad A outer s H vs Q E hr h=>h.elim),m,F.kp,b⟩⟩
 | D + 1=>J7 F (D + 1) ⟨⟨f,fd,by have:=Mb F m b D; rw [show 2 + D=1 + (D + 1) by omega] at this; exact this,m,F.kp,b⟩⟩
end
structure FunC (K:FG) (x qual:Str) (st:Stmt) (f:Addr) (fd:FuncData) (c:Addr):Prop where
 ex:∃ (oc:Value) (od:Option Addr) (kV doc pm:Value) (an:Option Addr) (ct:Value) (osl:Array (Option Value)),
  fd=W.fnOf x qual (defArgs st) (defBody st) (defScope st) .none kV doc pm an (.ref c) ct/\K.lookup f=some ⟨oc,od,.func fd,osl⟩/\W.codeIn K (.ref c) qual=true
theorem FunC.ok {x qual:Str} {st:Stmt} {f c:Addr} {N ps:List Str} {k:Nat} {sp:Sp} (F:FunC K x qual st f fd c) (S:AJ N ps (defScope st)) (len:∀ vs H Q E,sp vs H Q E->vs.length=ps.length)
  (bg:∀ (A:Around) (outer:List Env) (s:Shared) (H:Hp) (vs:List V) (Q:VK) (E:XK),Room k (A.deeper (PyProof.Rows.envOfC qual (defScope st) s.heap.objs.size f (.ref c)))->sp vs H Q E ->
   ∃ t,PSs (BG CX0 P w K mg base N qual (defScope st) f (.ref c) A outer s H E).nox (defBody st) t/\t { nx:=fun _ H'=>Q .non H',rt:=Q } (Bi N vs) H):AX P w K mg base CX0 (k + 1) f fd ps sp:=by
 obtain ⟨oc,od,kV,doc,pm,an,ct,osl,rfl,lk,hcd⟩:=F.ex;refine Lh lk hcd S len fun A outer s H vs Q E hr hsp=>?_;obtain ⟨t,h,q⟩:=bg A outer s H vs Q E hr hsp;exact ⟨t,h.nox,q⟩
theorem UC {X:Cx}:BF (CXr P w) X E0:=fun _ _ _ _ _ _ _ ⟨_,_,_,_,_,_,q⟩=>q.elim
noncomputable def JB:Stmt->List Stmt | .For _ _ b _ _=>b | _=>[]
noncomputable def Sz:Stmt->Expr | .Assign _ v _=>v | _=>.Name "" ⟨0,0,0,0⟩
noncomputable def D6 (i:Nat):Expr->Expr | .Call _ es _ _=>es.getD i (.Name "" ⟨0,0,0,0⟩) | e=>e
noncomputable def Pl (l:List Stmt) (i:Nat):Stmt:=l.getD i (.Pass ⟨0,0,0,0⟩)
noncomputable def Rc:List Stmt:=JB (Pl (defBody DN) 0)
noncomputable def UD:Stmt->Expr | .If (.Compare _ _ [r] _) _ _ _=>r | _=>.Name "" ⟨0,0,0,0⟩
noncomputable def IH:Expr:=Sz (Pl (JB (Pl Rc 4)) 2)
noncomputable def II:Expr:=UD (Pl (JB (Pl Rc 4)) 4)
noncomputable def Mc:Expr->Expr | .Lambda _ b _ _=>b | e=>e
noncomputable def Pm:Expr->Arguments | .Lambda a _ _ _=>a | _=>defArgs DN
noncomputable def J8:Expr->Scope | .Lambda _ _ sc _=>sc | _=>defScope DN
noncomputable def JC:Expr->Pos | .Lambda _ _ _ p=>p | _=>⟨0,0,0,0⟩
noncomputable def LS:List Pos:=[JC (D6 0 IH),JC (D6 0 II)]
theorem Re (j:Nat):∀ l,LS[j]?=some l->∀ q ∈ LS,q=l\/(q.line == l.line && q.col == l.col)=false:=by
 have key:(LS.all fun l=>LS.all fun q=>decide (q=l) || !(q.line == l.line && q.col == l.col))=true:=by decide +kernel
 intro l hl q hq;have h1:=List.all_eq_true.mp (List.all_eq_true.mp key l (mem_of_getElem? hl)) q hq;rw [Bool.or_eq_true] at h1;rcases h1 with z | z
 ·exact .inl (of_decide_eq_true z)
 ·exact .inr (by rw [Bool.not_eq_true'] at z; exact z)
theorem Fk {α β:Type} [BEq α] [LawfulBEq α] {x:α} {v:β}:∀ {l:List (α × β)},l.lookup x=some v->(x,v) ∈ l
  | [],h=>by cases h
  | (y,u) :: r,h=>by
    rw [lookup_cons] at h;cases e:x == y with
    | true =>
      rw [e] at h;cases h;rw [eq_of_beq e];exact mem_cons_self ..
    | false =>
      rw [e] at h;exact mem_cons_of_mem _ (Fk h)
theorem Q5 {scope:Scope} {clos:List (Str × Addr)} (h:scope.names.all (fun p=>!(p.2 == .cell || p.2 == .free) || (clos.lookup p.1).isSome)=true):∀ x,(scope.names.lookup x=some .cell\/scope.names.lookup x=some .free)->∃ c,clos.lookup x=some c:=fun x hx=>by
 have g:∀ k,scope.names.lookup x=some k->(k == .cell || k == .free)=true->∃ c,clos.lookup x=some c:=fun k e hk=>by
  have:=List.all_eq_true.mp h _ (Fk e);simp only [hk,Bool.not_true,Bool.false_or] at this;exact Option.isSome_iff_exists.mp this
 rcases hx with z | z
 ·exact g _ z rfl
 ·exact g _ z rfl
noncomputable def qL:Str := "law.<locals>." ++ "<lambda>"
def HD (H H':Hp):Prop:=∀ b o,H b=some o->(∀ x y:Int,o ≠ .lst [.int x,.int y])->(∀ ps,o ≠ .tbl ps)->(∀ g,o ≠ .ext g)->H' b=some o
theorem KindAt.keeps {p:Addr} {r:Str} (s:HD H H') (h:KindAt C H p due r):KindAt C H' p due r:=by
 obtain ⟨dx,d1,o1,d2,o2,a,b,c⟩:=h.ex;exact ⟨⟨dx,d1,o1,d2,o2,s _ _ a (fun _ _ z=>nomatch z) (fun _ z=>nomatch z) (fun _ z=>nomatch z),s _ _ b (fun _ _ z=>nomatch z) (fun _ z=>nomatch z) (fun _ z=>nomatch z),s _ _ c (fun _ _ z=>nomatch z) (fun _ z=>nomatch z) (fun _ z=>nomatch z)⟩⟩
theorem TupsAt.keeps {as:List Addr} {ps:List (V × V)} (s:HD H H') (h:TupsAt H as ps):TupsAt H' as ps:=TupsAt.sameT (fun b xs e=>s _ _ e (fun _ _ z=>nomatch z) (fun _ z=>nomatch z) (fun _ z=>nomatch z)) h
theorem Q6 {ms:List Addr} {x y:Int}:HO.lst (ms.map V.ref) ≠ .lst [.int x,.int y]:=fun z=>by
 injection z with z
 cases ms with
 | nil=>cases z
 | cons a r=>cases z
theorem TabOk.same {P0:Addr} {q:Str} {ls:List Pos} (s:Same H H') (h:TabOk H P0 q ls):TabOk H' P0 q ls:=by
 obtain ⟨ps,h1,h2,h3⟩:=h;refine ⟨ps,s _ _ h1,h2,fun x hx=>?_⟩;rcases h3 x hx with z | ⟨c,z1,z2⟩
 ·exact .inl z
 ·exact .inr ⟨c,z1,s _ _ z2⟩
theorem TabOk.sameX {d:Addr} {P0:Addr} {q:Str} {ls:List Pos} {x y:Int} (hd:H d=some (.lst [.int x,.int y])) (s:SameX d H H') (h:TabOk H P0 q ls):TabOk H' P0 q ls:=by
 obtain ⟨ps,h1,h2,h3⟩:=h;refine ⟨ps,s.old _ _ h1 (fun z=>by subst z; rw [hd] at h1; cases h1),h2,fun x hx=>?_⟩;rcases h3 x hx with z | ⟨c,z1,z2⟩
 ·exact .inl z
 ·exact .inr ⟨c,z1,s.old _ _ z2 (fun z=>by subst z; rw [hd] at z2; cases z2)⟩
theorem TabOk.ne {d:Addr} {P0:Addr} {q:Str} {ls:List Pos} {xs:List V} (hd:H d=some (.lst xs)) (h:TabOk H P0 q ls):d ≠ P0:=fun z=>by
 obtain ⟨ps,h1,_⟩:=h;subst z;rw [hd] at h1;cases h1
def Rl (d P0:Addr) (H H':Hp):Prop:=∀ b o,H b=some o->b ≠ d->b ≠ P0->(∀ g,o ≠ .ext g)->H' b=some o
theorem Rl.refl {d P0:Addr} (H:Hp):Rl d P0 H H:=fun _ _ e _ _ _=>e
theorem Rl.trans {d P0:Addr} {H1 H2:Hp} (a:Rl d P0 H H1) (b:Rl d P0 H1 H2):Rl d P0 H H2:=fun c o e h1 h2 h3=>b c o (a c o e h1 h2 h3) h1 h2 h3
theorem Rl.same {d P0:Addr} (s:Same H H'):Rl d P0 H H':=fun b o e _ _ _=>s b o e
theorem Rl.sameX {d P0:Addr} (s:SameX d H H'):Rl d P0 H H':=fun b o e h _ _=>s.old b o e h
theorem Rl.sameB {d P0:Addr} (s:Hw P0 H H'):Rl d P0 H H':=fun b o e _ h _=>s b o h e
theorem J9 {c':Addr} {q:Str} {dx:Option Addr}:Ex c' q ≠ Fw c' C dx:=fun z=>by
 have h:({ objs:=Array.replicate (c' + 1) ⟨.ref C,dx,.fields (Array.replicate 6 .none),#[]⟩ }:Heap).get? c'=some ⟨.ref C,dx,.fields (Array.replicate 6 .none),#[]⟩:=by
  unfold Heap.get?;rw [Array.getElem?_replicate,if_pos (Nat.lt_succ_self _)]
 have hz:=congrFun (HO.ext.inj z) { objs:=Array.replicate (c' + 1) ⟨.ref C,dx,.fields (Array.replicate 6 .none),#[]⟩ };have hy:=hz.mpr ⟨_,_,h,rfl,rfl,rfl,by decide,by decide⟩;obtain ⟨c1,oc,vs,t,e,ho,hd,hq⟩:=hy;cases e;rw [h] at ho;cases ho;cases hd;rw [Array.getElem?_replicate] at hq;split at hq <;> cases hq
theorem ValAt.keeps {p kp:Addr} {n:Nat} (s:HD H H') (h:ValAt VC H p kp n):ValAt VC H' p kp n:=by
 obtain ⟨dx,h⟩:=h;exact ⟨dx,s _ _ h (fun _ _ z=>nomatch z) (fun _ z=>nomatch z) (fun _ z=>nomatch z)⟩
structure Wb (d P0:Addr) (H:Hp):Prop where
 dice:∃ x y:Int,H d=some (.lst [.int x,.int y])
 tab:TabOk H P0 qL LS
theorem Wb.keeps {d P0:Addr} (s:Rl d P0 H H') (h:Wb d P0 H):HD H H':=fun b o eb h1 h2 h3=>by
 refine s b o eb (fun z=>?_) (fun z=>?_) h3
 ·subst z;obtain ⟨x,y,hd⟩:=h.dice;rw [hd] at eb;cases eb;exact h1 _ _ rfl
 ·subst z;obtain ⟨ps,hp,_⟩:=h.tab;rw [hp] at eb;cases eb;exact h2 _ rfl
theorem Wb.same {d P0:Addr} (s:Same H H') (h:Wb d P0 H):Wb d P0 H':=⟨by obtain ⟨x,y,z⟩:=h.dice; exact ⟨x,y,s _ _ z⟩,TabOk.same s h.tab⟩
theorem Wb.sameB {d P0:Addr} (s:Hw P0 H H') (ht:TabOk H' P0 qL LS) (h:Wb d P0 H):Wb d P0 H':=by
 obtain ⟨x,y,hd⟩:=h.dice;exact ⟨⟨x,y,s _ _ (TabOk.ne hd h.tab) hd⟩,ht⟩
theorem Wb.exc {d P0:Addr} {H1 H2:Hp} {e' C':Addr} {dx:Option Addr} (s1:Same H H1) (he:H1 e'=some (Fw e' C' dx)) (s2:Same (del H1 e') H2) (h:Wb d P0 H):Wb d P0 H2/\Rl d P0 H H2:=by
 have old:∀ b o,H b=some o->o ≠ Fw b C' dx->H2 b=some o:=fun b o eb hn=>by
  have eb1:=s1 _ _ eb;refine s2 _ _ ?_;have hbe:b ≠ e':=fun z=>by subst z; rw [he] at eb1; cases eb1; exact hn rfl
  unfold del;rw [if_neg hbe];exact eb1
 refine ⟨⟨?_,?_⟩,fun b o eb _ _ hx=>old b o eb (hx _)⟩
 ·obtain ⟨x,y,hd⟩:=h.dice;exact ⟨x,y,old _ _ hd (fun z=>nomatch z)⟩
 ·obtain ⟨ps,h1,h2,h3⟩:=h.tab;refine ⟨ps,old _ _ h1 (fun z=>nomatch z),h2,fun x hx=>?_⟩;rcases h3 x hx with z | ⟨c,z1,z2⟩
  ·exact .inl z
  ·exact .inr ⟨c,z1,old _ _ z2 J9⟩
theorem FL {b:Addr} {x y:Str} {n:Int} (h:H b=some (.tup [.str x,.str y,.int n])):CB K H (.tuple [.str x,.str y,.int n]) (.ref b):=by
 rw [CB];refine ⟨b,_,rfl,SqT.of h,?_⟩;rw [BZ];refine ⟨_,_,rfl,by rw [CB],?_⟩;rw [BZ];refine ⟨_,_,rfl,by rw [CB],?_⟩;rw [BZ];refine ⟨_,_,rfl,by rw [CB],?_⟩;rw [BZ]
theorem Cg {x y:Str} {n:Int} (h1:x.cps.all (· < 128)=true) (h2:y.cps.all (· < 128)=true):SeqAt.shaped (.tuple [.str x,.str y,.int n])=true:=by
 unfold SeqAt.shaped;simp only [Bool.and_eq_true,decide_eq_true_eq];refine ⟨?_,?_⟩
 ·rw [PyData.canLay0];refine K9 fun d hd=>?_;simp only [mem_cons,not_mem_nil,or_false] at hd;rcases hd with rfl | rfl | rfl
  ·rw [PyData.canLay0]; exact G6 h1
  ·rw [PyData.canLay0]; exact G6 h2
  ·rw [PyData.canLay0]
 ·simp only [PyData.depth,PyData.depthAll];omega
theorem KC (x y:Str) (n:Int):PyData.eqv (.tuple [.str x,.str y,.int n]) (.tuple [.str x,.str y,.int n])=true:=FD fun d hd=>by
 simp only [mem_cons,not_mem_nil,or_false] at hd;rcases hd with rfl | rfl | rfl
 ·exact DE _
 ·exact DE _
 ·exact FE _
theorem Pn (x:Str) (n:Int):PyData.eqv (.tuple [.str x,.int n]) (.tuple [.str x,.int n])=true:=FD fun d hd=>by
 simp only [mem_cons,not_mem_nil,or_false] at hd;rcases hd with rfl | rfl
 ·exact DE _
 ·exact FE _
theorem Fl (n:Nat):plain (n:Int)=n:=by
 unfold plain;rw [if_pos (by omega)];omega
theorem Ft (due:Aa) (n:Nat):AT due (n:Int)=n - (n &&& kn due):=by
 unfold AT;rw [Fl]
def Md (K:FG) (P0 bd:Addr):Sp:=fun vs H Q _=>∃ (a:Addr) (ns:List Int),vs=[.ref a]/\SqL K H a (ns.map V.int)/\ns.length <= 63/\TabOk H P0 qL LS/\Rd H bd (.dK Cf)/\∀ H',Q (.bl true) H'
noncomputable abbrev HM:List Str:=["_law_script", "_law_dice", "_law_rows", "_law_due", "_law_way", "_law_table", "_law_numbers", "_law_name", "_law_number", "_law_kind", "_law_turn", "_law_text", "_law_tree_here", "_law_found"]
theorem scLaw:AJ HM ["_law_script"] (defScope DN):=fsc
section
variable {cM cR c P0 bd:Addr} {ec:Nat->Addr}
theorem Me {X:Cx} {Nl:List Str} {ix:List Nat} {scope:Scope} {clos:List (Str × Addr)} (h1:ix.length=Nl.length)
  (h2:(List.range Nl.length).all (fun i=>match Nl[i]?,ix[i]? with | some x,some j=>decide (X.N[j]?=some x) && decide (X.env.scope.names.lookup x=some .cell) && decide (scope.names.lookup x=some .free) | _,_=>false)=true)
  (h3:∀ p ∈ clos,X.env.cells.lookup p.1=some p.2) (h4:scope.names.all (fun p=>!(p.2 == .cell || p.2 == .free) || (clos.lookup p.1).isSome)=true) (h5:∀ x,X.fn x=true):LamN X Nl ix scope clos:=by
 refine ⟨h1,fun i x h=>?_,fun x c h=>h3 _ (Fk h),Q5 h4,h5⟩;have hi:i < Nl.length:=(List.getElem?_eq_some_iff.mp h).1;have:=List.all_eq_true.mp h2 i (mem_range.mpr hi);rw [h] at this;cases e:ix[i]? with
 | none=>rw [e] at this; cases this
 | some j =>
  rw [e] at this;simp only [Bool.and_eq_true,decide_eq_true_eq] at this;exact ⟨j,rfl,this.1.1,this.1.2,this.2⟩
theorem S0 {f0 fT0:Addr} {dT0:FuncData} {A:Around} {outer:List Env} {s:Shared} {E:XK} (FT:Fun K "_law_told" "_law_told" Am fT0 dT0) (mT0:mg "_law_told" = some (.ref fT0)) (bT0:Binds K dT0 ["_law_deed"] []) (M:LJ mg ec) (EX:Nb K mg ec cM) (GW:FnS P w K mg base "_law_word" 1 ["_law_e"] (Co K ec))
  (LC:Og (BG CX0 P w K mg base HM "law" (defScope DN) f0 (.ref c) A outer s H E).nox c P0) (hr:Room 9 (BG CX0 P w K mg base HM "law" (defScope DN) f0 (.ref c) A outer s H E).nox.A) {fX:Addr} {dX:FuncData} (GX:AX P w K mg base (CXr P w) 7 fX dX ["kind", "text"] (spRead C VC cR bd)) (mX:mg "read" = some (.ref fX)) (kX:W.keepIn K (.ref fX)=true) (bX:Binds K dX ["kind", "text"] []) :
  PE (BG CX0 P w K mg base HM "law" (defScope DN) f0 (.ref c) A outer s H E).nox IH (PQ K ec cM P0 qL LS [9,11] (fun E=>JJ (spRead C VC cR bd) [] E (Ao (Fu 0) (Ao (Fu 1) Cr)))) :=
   MM (X:=(BG CX0 P w K mg base HM "law" (defScope DN) f0 (.ref c) A outer s H E).nox) (params:=Pm (D6 0 IH)) (body:=Mc (D6 0 IH)) (scope:=J8 (D6 0 IH)) (Nl:=["_law_kind", "_law_text"]) (k:=7) (lpos:=JC (D6 0 IH)) FT M EX GW hr rfl mT0 FT.kp bT0 LC (mem_of_getElem? (i:=0) rfl) (Re 0 _ rfl) rfl rfl (Me rfl (by kernel_rfl) (by intro p hp; simp only [mem_cons,not_mem_nil,or_false] at hp; rcases hp with rfl | rfl <;> kernel_rfl) (by kernel_rfl) (fun _=>rfl)) (fun _ _ _=>rfl) rfl rfl rfl (by decide +kernel)
    (fun lf c' A' outer' s' H' E hr=>AS GX (hr.mono (by decide)) rfl mX kX bX .nil RK (AA (pv 0) (AA (pv 1) AC)))
theorem S4 {f0 fT0:Addr} {dT0:FuncData} {A:Around} {outer:List Env} {s:Shared} {E:XK} (FT:Fun K "_law_told" "_law_told" Am fT0 dT0) (mT0:mg "_law_told" = some (.ref fT0)) (bT0:Binds K dT0 ["_law_deed"] []) (M:LJ mg ec) (EX:Nb K mg ec cM) (GW:FnS P w K mg base "_law_word" 1 ["_law_e"] (Co K ec))
  (LC:Og (BG CX0 P w K mg base HM "law" (defScope DN) f0 (.ref c) A outer s H E).nox c P0) (hr:Room 9 (BG CX0 P w K mg base HM "law" (defScope DN) f0 (.ref c) A outer s H E).nox.A) {fX:Addr} {dX:FuncData} (GX:AX P w K mg base (CXr P w) 6 fX dX ["kind", "number"] (spMade C VC cR)) (mX:mg "made" = some (.ref fX)) (kX:W.keepIn K (.ref fX)=true) (bX:Binds K dX ["kind", "number"] []) :
  PE (BG CX0 P w K mg base HM "law" (defScope DN) f0 (.ref c) A outer s H E).nox II (PQ K ec cM P0 qL LS [9,8] (fun E=>JJ (spMade C VC cR) [] E (Ao (Fu 0) (Ao (Fu 1) Cr)))) :=
   MM (X:=(BG CX0 P w K mg base HM "law" (defScope DN) f0 (.ref c) A outer s H E).nox) (params:=Pm (D6 0 II)) (body:=Mc (D6 0 II)) (scope:=J8 (D6 0 II)) (Nl:=["_law_kind", "_law_number"]) (k:=7) (lpos:=JC (D6 0 II)) FT M EX GW hr rfl mT0 FT.kp bT0 LC (mem_of_getElem? (i:=1) rfl) (Re 1 _ rfl) rfl rfl (Me rfl (by kernel_rfl) (by intro p hp; simp only [mem_cons,not_mem_nil,or_false] at hp; rcases hp with rfl | rfl <;> kernel_rfl) (by kernel_rfl) (fun _=>rfl)) (fun _ _ _=>rfl) rfl rfl rfl (by decide +kernel)
    (fun lf c' A' outer' s' H' E hr=>AS GX (hr.mono (by decide)) rfl mX kX bX .nil RK (AA (pv 0) (AA (pv 1) AC)))
inductive Fd (VC kp:Addr) (due:Aa) (r:Str) (n:Nat) (vf:V) (H:Hp):Prop
 | no (q:Addr) (e:vf=.ref q) (h:H q=some (.tup [.str "refused", .str "BadRest", .int (AT due (n:Int):Nat)])) (hb:AT due (n:Int) ≠ 0/\r = "bar")
 | left (e:vf=.int (n:Int)) (hb:¬ (AT due (n:Int) ≠ 0/\r = "bar")) (hl:AT due (n:Int) ≠ 0/\r = "leave")
 | val (q:Addr) (e:vf=.ref q) (h:ValAt VC H q kp (if r = "keep" then plain (n:Int) else plain (n:Int) - AT due (n:Int))) (hb:¬ (AT due (n:Int) ≠ 0/\r = "bar")) (hl:¬ (AT due (n:Int) ≠ 0/\r = "leave"))
theorem IJ {Q:VK} {d kp:Addr} {r:Str} {n:Nat} (hR:ec 1=cR) (EF:J0 K ec cR 1) (W:Wb d P0 H) (KA:KindAt C H kp due r) (hk:kn due < 2 ^ 20) (hn:n < 2 ^ 40)
  (h:∀ vf H',Wb d P0 H'->Rl d P0 H H'->Fd VC kp due r n vf H'->Q vf H'):spMade C VC cR [.ref kp,.int (n:Int)] H Q (J1 K ec cM Q):=by
 have n40:(2:Nat) ^ 40=1099511627776:=by decide
 refine ⟨kp,due,r,(n:Int),rfl,KA,hk,by omega,by omega,?_⟩;by_cases hb:AT due (n:Int) ≠ 0/\r = "bar"
 ·refine .inl ⟨hb.1,hb.2,fun e0 d0 H11 s11 he0 am ax hE hX=>?_⟩;refine ⟨cR,rfl,fun e' he'=>.inr ⟨1,d0,.int (AT due (n:Int):Nat),EF,rfl,?_,fun q H12 s12 hq=>?_⟩⟩
  ·have hde:d0 ≠ e':=fun z=>by rw [← z,hX] at he'; cases he'
   unfold del;rw [if_neg hde];exact hX
  ·obtain ⟨W2,R2⟩:=W.exc s11 he' s12;exact h _ _ W2 R2 (.no q rfl hq hb)
 ·by_cases hl:AT due (n:Int) ≠ 0/\r = "leave"
  ·exact .inr (.inr (.inl ⟨hb,by omega,hl.1,hl.2,fun H' s'=>h _ _ (W.same s') (Rl.same s') (.left rfl hb hl)⟩))
  ·exact .inr (.inr (.inr ⟨hb,by omega,hl,fun q H' s' hV=>h _ _ (W.same s') (Rl.same s') (.val q rfl hV hb hl)⟩))
end
noncomputable def gV3 (vs zs:List V):List V:=match vs,zs with | [a,b],[c]=>[a,b,c] | _,_=>[]
noncomputable def gU3 (us ws:List Value):List Value:=match us,ws with | [a,b],[c]=>[a,b,c] | _,_=>[]
structure Po (P:Program) (w:World) (K:FG) (mg:SV) (base:Heap) (C:Addr):Prop where
 T:Dx K C
 cls:mg "Kind" = some (.ref C)
 make:∃ f fd,Mk K C f/\AX P w K mg base CX0 6 f fd ["self", "rows", "rest"] (spInit C) /\
  (∃ g,EE K fd ["self", "rows", "rest"] ["rest"] g gV3)/\∃ ds,Binds K fd ["self", "rows", "rest"] ds/\Vals [.str "bar"] ds
theorem KD (D:D4 due):∀ {t:LT},t.Ok (due.map (·.1))->t.tr.Ok due
 | .nm x,h=>by
  obtain ⟨p,hp,rfl⟩:=mem_map.mp h;exact (RZ D hp).1.ok
 | .no n,h=>(LU (due:=due) (Nat.lt_trans h (by decide))).ok
 | .ng t,h=>KD D (t:=t) h
 | .bn g a b,h=>⟨h.1,KD D h.2.1,KD D h.2.2⟩
theorem UE {g:Sg} {a b:Nat} (ha:a < 2 ^ 20) (hb:b < 2 ^ 20):g.f a b < 2 ^ 20:=by
 cases g <;> first | exact Nat.or_lt_two_pow ha hb | exact Nat.xor_lt_two_pow ha hb | exact Nat.lt_of_le_of_lt Nat.and_le_left ha
theorem JD (D:D4 due):∀ {t:LT},t.Ok (due.map (·.1))->t.tr.come due (kn due) < 2 ^ 20
 | .nm x,h=>by
  show wv due x < 2 ^ 20;rw [Ma D h];obtain ⟨p,hp,rfl⟩:=mem_map.mp h;rw [Do D.nd hp];exact D.lt p hp
 | .no n,h=>by
  show wv due (Fz n) < 2 ^ 20;rw [Pk h];exact h
 | .ng t,h=>Nat.lt_of_le_of_lt (Nat.sub_le _ _) (RS D.lt)
 | .bn g a b,h=>UE (JD D h.2.1) (JD D h.2.2)
theorem FM:∀ t:LT,t.tr.post.length + 1 <= 2 ^ (t.ht + 1)
 | .nm x=>by show 1 + 1 <= 2 ^ 1; decide
 | .no n=>by show 1 + 1 <= 2 ^ 1; decide
 | .ng t=>by
  have:=FM t;show (t.tr.post++[_]).length + 1 <= 2 ^ (t.ht + 1 + 1);rw [length_append,length_singleton,Nat.pow_succ];omega
 | .bn g a b=>by
  have h1:=FM a;have h2:=FM b;show (a.tr.post++b.tr.post++[_]).length + 1 <= 2 ^ (max a.ht b.ht + 1 + 1);rw [length_append,length_append,length_singleton,Nat.pow_succ];have e1:2 ^ (a.ht + 1) <= 2 ^ (max a.ht b.ht + 1):=Nat.pow_le_pow_right (by decide) (by omega);have e2:2 ^ (b.ht + 1) <= 2 ^ (max a.ht b.ht + 1):=Nat.pow_le_pow_right (by decide) (by omega);omega
theorem Nj {k n:Nat}:k - (k &&& (n - (n - (n &&& k))))=k - (k &&& n):=by
 have e:n - (n - (n &&& k))=n &&& k:=by have:=Nat.and_le_left (n:=n) (m:=k); omega
 rw [e]
 have:k &&& (n &&& k)=k &&& n:=by
  refine Nat.eq_of_testBit_eq fun i=>?_;simp only [Nat.testBit_and];cases k.testBit i <;> cases n.testBit i <;> rfl
 rw [this]
theorem Pp {l:Aa} {j:Nat} {p:Str × Nat} (nd:(l.map (·.1)).Nodup) (h:l[j]?=some p):p.1 ∉ (l.take j).map (·.1):=fun hm=>by
 obtain ⟨q,hq,e⟩:=mem_map.mp hm;obtain ⟨i,hi⟩:=List.getElem?_of_mem hq;rw [List.getElem?_take] at hi;split at hi
 ·rename_i hij;obtain ⟨h1,e1⟩:=List.getElem?_eq_some_iff.mp hi;obtain ⟨h2,e2⟩:=List.getElem?_eq_some_iff.mp h;refine (List.pairwise_iff_getElem.mp nd) i j (by rw [AK]; exact h1) (by rw [AK]; exact h2) hij ?_;rw [List.getElem_map,List.getElem_map,e1,e2];exact e
 ·cases hi
structure Ad where
 (a d f u t kp nu e m:Addr) (bs:List Addr)
noncomputable def st0 (a:Addr) (f:Nat->Option V):St:=[some (.ref a),f 1,f 2,f 3,f 4,f 5,f 6,f 7,f 8,f 9,f 10,f 11,f 12,f 13]
noncomputable def stL (z:Ad) (r:Str) (x7 x8 x10 x11 x12 x13:Option V):St:=[some (.ref z.a),some (.ref z.d),some (.ref z.f),some (.ref z.u),some (.str r),some (.ref z.t),some (.ref z.nu),x7,x8,some (.ref z.kp),x10,x11,x12,x13]
theorem UF (z:Ad) (r:Str) (x7 x8 x10 x11 x12 x13:Option V):∃ f,stL z r x7 x8 x10 x11 x12 x13=st0 z.a f:=⟨fun n=>(stL z r x7 x8 x10 x11 x12 x13).getD n none,rfl⟩
structure RdI (a l bd P0:Addr) (as:List Addr) (i:Nat) (σ:St) (H:Hp):Prop where
 st:∃ f,σ=st0 a f
 hl:H l=some (.lst (as.map V.ref))
 hb:Rd H bd (.dK Cf)
 tb:TabOk H P0 qL LS
 ds:∀ (j:Nat) b,i <= j->as[j]?=some b->∃ x y:Int,H b=some (.lst [.int x,.int y])
theorem Rd.keeps {bd:Addr} {kvs:LK} (s:HD H H') (h:Rd H bd (.dK kvs)):Rd H' bd (.dK kvs):=by
 rcases h with h | ⟨o,h⟩
 ·exact .inl (s _ _ h (fun _ _ z=>nomatch z) (fun _ z=>nomatch z) (fun _ z=>nomatch z))
 ·exact .inr ⟨o,s _ _ h (fun _ _ z=>nomatch z) (fun _ z=>nomatch z) (fun _ z=>nomatch z)⟩
theorem RdI.fin {a l bd d P0:Addr} {as:List Addr} {i:Nat} {σ σ':St} (h:RdI a l bd P0 as i σ H) (nd:as.Nodup) (hla:l ∉ as) (hdi:as[i]?=some d) (R:Rl d P0 H H') (hT:TabOk H' P0 qL LS) (hs:∃ f,σ'=st0 a f):RdI a l bd P0 as (i + 1) σ' H':=by
 obtain ⟨x,y,hd⟩:=h.ds i d (Nat.le_refl _) hdi;have kp:HD H H':=Wb.keeps R ⟨⟨x,y,hd⟩,h.tb⟩;refine ⟨hs,R _ _ h.hl (fun z=>hla (z ▸ mem_of_getElem? hdi)) (TabOk.ne h.hl h.tb) (fun _ z=>nomatch z),Rd.keeps kp h.hb,hT,fun j b hj e=>?_⟩
 have hbd:b ≠ d:=fun z=>by
  subst z;obtain ⟨hj2,ej⟩:=List.getElem?_eq_some_iff.mp e;obtain ⟨hi2,ei⟩:=List.getElem?_eq_some_iff.mp hdi;exact (List.pairwise_iff_getElem.mp nd) i j hi2 hj2 (by omega) (by rw [ei,ej])
 obtain ⟨x5,y5,e5⟩:=h.ds j b (by omega) e;exact ⟨x5,y5,R _ _ e5 hbd (TabOk.ne e5 h.tb) (fun _ z=>nomatch z)⟩
structure Wf (C bd P0:Addr) (z:Ad) (due:Aa) (r:Str) (H:Hp):Prop where
 wb:Wb z.d P0 H
 ka:KindAt C H z.kp due r
 ht:H z.t=some (.dK (LD due z.e z.m))
 hn:H z.nu=some (.dK (Ax due))
 hu:H z.u=some (.lst (z.bs.map V.ref))
 hbs:TupsAt H z.bs (DP due)
 hb:Rd H bd (.dK Cf)
theorem Wf.go {bd P0:Addr} {z:Ad} {r:Str} (h:Wf C bd P0 z due r H) (R:Rl z.d P0 H H') (wb:Wb z.d P0 H'):Wf C bd P0 z due r H':=by
 have kp:=h.wb.keeps R;exact ⟨wb,h.ka.keeps kp,kp _ _ h.ht (fun _ _ z=>nomatch z) (fun _ z=>nomatch z) (fun _ z=>nomatch z),kp _ _ h.hn (fun _ _ z=>nomatch z) (fun _ z=>nomatch z) (fun _ z=>nomatch z),kp _ _ h.hu (fun _ _=>Q6) (fun _ z=>nomatch z) (fun _ z=>nomatch z),TupsAt.keeps kp h.hbs,Rd.keeps kp h.hb⟩
theorem Wf.same {bd P0:Addr} {z:Ad} {r:Str} (h:Wf C bd P0 z due r H) (s:Same H H'):Wf C bd P0 z due r H':=h.go (Rl.same s) (h.wb.same s)
theorem Wf.sameX {bd P0:Addr} {z:Ad} {r:Str} (h:Wf C bd P0 z due r H) (s:SameX z.d H H'):Wf C bd P0 z due r H':=by
 obtain ⟨x,y,hd⟩:=h.wb.dice;exact h.go (Rl.sameX s) ⟨s.dice,TabOk.sameX hd s h.wb.tab⟩
theorem Wf.sameB {bd P0:Addr} {z:Ad} {r:Str} (h:Wf C bd P0 z due r H) (s:Hw P0 H H') (ht:TabOk H' P0 qL LS):Wf C bd P0 z due r H':=h.go (Rl.sameB s) (h.wb.sameB s ht)
theorem Fd.keeps {kp:Addr} {r:Str} {n:Nat} {vf:V} (s:HD H H') (h:Fd VC kp due r n vf H):Fd VC kp due r n vf H':=by
 cases h with
 | no q e h hb=>exact .no q e (s _ _ h (fun _ _ z=>nomatch z) (fun _ z=>nomatch z) (fun _ z=>nomatch z)) hb
 | left e hb hl=>exact .left e hb hl
 | val q e h hb hl=>exact .val q e (h.keeps s) hb hl
structure LpI (C bd P0:Addr) (z:Ad) (due:Aa) (r:Str) (H0:Hp) (σ:St) (H:Hp):Prop where
 st:∃ x7 x8 x10 x11 x12 x13,σ=stL z r x7 x8 x10 x11 x12 x13
 wf:Wf C bd P0 z due r H
 rl:Rl z.d P0 H0 H
section
variable {cM cR c P0 bd:Addr} {ec:Nat->Addr}
theorem S5 {f0 fT0:Addr} {dT0:FuncData} (F:FunC K "law" "law" DN f0 fd c) (FT:Fun K "_law_told" "_law_told" Am fT0 dT0) (mT0:mg "_law_told" = some (.ref fT0)) (bT0:Binds K dT0 ["_law_deed"] [])
  (hC:W.CodeHd base c P0) (hBu:base.BuiltinsAt mg P0) (B:Bl mg) (KO:Po P w K mg base C) (VO:MH P w K mg base C VC) (M:LJ mg ec) (EX:Nb K mg ec cM) (GWd:FnS P w K mg base "_law_word" 1 ["_law_e"] (Co K ec))
  (hR1:ec 1=cR) (EF:J0 K ec cR 1) (hI:W.kitOne K (.type "int") (.ref VC)=some false) (hT:W.kitOne K (.type "tuple") (.ref VC)=some false)
  (GRd:Fn P w K mg base "_law_rounds" 2 ["_law_script", "_law_most"] (spRounds K)) (GL:Fn P w K mg base "_law_lines" 3 ["_law_dice", "_law_most"] spLines) (GRu:Fn P w K mg base "_law_rule_of" 3 ["_law_dice"] spRuleOf) (GT:Fn P w K mg base "_law_table_of" 2 ["_law_due"] spTable)
  (GF:Fn P w K mg base "_law_formula" 7 MZ spForm) (GCo:Fn P w K mg base "_law_come" 5 HC (spCome 3)) (GLm:Fn P w K mg base "_law_made" 1 ["_law_table", "_law_way", "_law_number"] spLMade) (GSh:Fn P w K mg base "_law_shown" 2 ["_law_thing"] (JA VC))
  (GRe:FnR P w K mg base "read" 7 ["kind", "text"] (spRead C VC cR bd)) (GMd:FnR P w K mg base "made" 6 ["kind", "number"] (spMade C VC cR)) (GTu:Fn P w K mg base "turned" 6 ["one"] (spTurned C VC)) :
  AX P w K mg base CX0 10 f0 fd ["_law_script"] (Md K P0 bd):=by
 obtain ⟨fRd,dRd,GRd,mRd,kRd,bRd⟩:=GRd.ex;obtain ⟨fL,dL,GL,mL,kL,bL⟩:=GL.ex;obtain ⟨fRu,dRu,GRu,mRu,kRu,bRu⟩:=GRu.ex;obtain ⟨fT,dT,GT,mT,kT,bT⟩:=GT.ex;obtain ⟨fF,dF,GF,mF,kF,bF⟩:=GF.ex;obtain ⟨fCo,dCo,GCo,mCo,kCo,bCo⟩:=GCo.ex;obtain ⟨fLm,dLm,GLm,mLm,kLm,bLm⟩:=GLm.ex;obtain ⟨fSh,dSh,GSh,mSh,kSh,bSh⟩:=GSh.ex;obtain ⟨fRe,dRe,GRe,mRe,kRe,bRe⟩:=GRe.ex;obtain ⟨fMd,dMd,GMd,mMd,kMd,bMd⟩:=GMd.ex;obtain ⟨fTu,dTu,GTu,mTu,kTu,bTu⟩:=GTu.ex;obtain ⟨fI,dI,MI,GI,⟨gI,kbI⟩,ds,bI,vI⟩:=KO.make;obtain ⟨fE,dE,GE,mE,bE⟩:=VO.eq;have mC:=KO.cls;have mV:=VO.cls;refine F.ok scLaw (fun vs H Q E h=>?_) (fun A outer s H vs Q E hr h=>?_)
 ·obtain ⟨a,ns,rfl,_⟩:=h;rfl
 ·obtain ⟨a,ns,rfl,hS,h63,hTab,hB,kend⟩:=h;have hu:=Cb hr;have hu64:=hr.units;have hr1:Room 1 _:=hr.mono (by decide);have hr2:Room 2 _:=hr.mono (by decide);have hr3:Room 3 _:=hr.mono (by decide);have hr4:Room 4 _:=hr.mono (by decide);have hr5:Room 5 _:=hr.mono (by decide);have hr6:Room 6 _:=hr.mono (by decide);have hr7:Room 7 _:=hr.mono (by decide);have nd:=scLaw.nd;have LC:Og (BG CX0 P w K mg base HM "law" (defScope DN) f0 (.ref c) A outer s H E).nox c P0:=⟨rfl,hC,hBu⟩
  refine ⟨_,PSsw.h (CO (Ol PassesOwn.never rfl (Oj (BP GRd hr2 rfl mRd kRd bRd .nil AQ (Aq (.mk (pv 0)) (Aq (.mk AF) B3)))) (Ae (i:=1) nd rfl (Or.inl rfl))
    (CO (.mk (Ch (PEw.h (BP GL hr3 rfl mL kL bL .nil AQ (Aq (.mk (pv 1)) (Aq (.mk AF) B3)))) (B8 rfl (Af (Ae (i:=2) nd rfl (Or.inl rfl)) (Af (Ae (i:=3) nd rfl (Or.inl rfl)) Bd)))))
    (CO (.mk (QS (i:=4) (j:=5) (k:=6) rfl nd rfl rfl rfl rfl rfl rfl (AA (PEw.h (BP GRu hr3 rfl mRu kRu bRu .nil AQ (Aq (.mk (pv 1)) B3))) (AA (PEw.h (BP GT hr2 rfl mT kT bT .nil AQ (Aq (.mk (pv 3)) B3))) (AA Ct AC))) (by kernel_rfl)))
    (D5 (Ol PassesOwn.never rfl (Oj (.mk (pv 3))) (B8 rfl (Af (Ae (i:=7) nd rfl (Or.inl rfl)) (Af (Ae (i:=8) nd rfl (Or.inr rfl)) Bd))) (B4 (.mk (IW hu (pv 6) (pv 7) (pv 8) rfl))))
    (CO (Ey (i:=9) nd rfl (Or.inr rfl) (.mk (OM MI GI hr7 rfl mC kbI (AA (pv 2) AC) (IS (pv 4) KY))))
    (B4 (Ol PassesOwn.never rfl (.mk (Cp rfl B.range (AA AF AC))) (Ae (i:=10) nd rfl (Or.inl rfl))
     (D5 (.mk (Ch (PEw.h (BP GF hr7 rfl mF kF bF .nil AQ (Aq (.mk (pv 1)) (Aq (.mk (Gd [] [] (by kernel_rfl) (by decide +kernel) (by kernel_rfl) (by kernel_rfl) rfl (Bx (pv 3)) (fun _ _ _ _ _ _=>By) (fun _ _ _ _ _ _=>pv 0))) (Aq (.mk AN) B3))))) (B8 rfl (Af (Ae (i:=11) nd rfl (Or.inr rfl)) (Af (Ae (i:=12) nd rfl (Or.inl rfl)) Bd)))))
     (D5 (Ey (i:=8) nd rfl (Or.inr rfl) (BP GCo hr5 rfl mCo kCo bCo .nil AQ (Aq (.mk (pv 12)) (Aq (.mk (pv 6)) (Aq (.mk (BU hu (pv 5) AN (fun _ _=>rfl))) (Aq (.mk Ct) B3))))))
     (D5 (Ey (i:=13) nd rfl (Or.inl rfl) (.mk (S0 FT mT0 bT0 M EX GWd LC hr GRe mRe kRe bRe)))
     (D5 (HI (.mk (AM (OpR.or Dy (Kn K rfl hu64)) (PEw.h (BP GSh hr2 rfl mSh kSh bSh .nil AQ (Aq (.mk (pv 13)) B3))) (PEw.h (BP GLm hr1 rfl mLm kLm bLm .nil AQ (Aq (.mk (pv 5)) (Aq (.mk (pv 4)) (Aq (.mk (pv 8)) B3))))) (AR _))) (B4 (.mk Ah)) C3)
     (D5 (HI (.mk (AM (OpR.or (OpR.or Dy (Kn K rfl hu64)) (JW GE hr4 bE mE VO.ne VO.isi.hm)) (pv 13) (S4 FT mT0 bT0 M EX GWd LC hr GMd mMd kMd bMd) (AR _))) (B4 (.mk Ah)) C3)
     (B4 (HI (.mk (PW.pt (B6 (A2 (AY (Dt K rfl) rfl B.isi Eb (AA (pv 13) (AA (A8 (v:=.ref VC) rfl mV rfl) AC)))) (Bc (AM (JW GE hr4 bE mE VO.ne VO.isi.hm) (PEw.h (BP GRe hr7 rfl mRe kRe bRe .nil UC (Aq (.mk (pv 9)) (Aq (Dd BB (Dd BB (.mk AN) (.mk (pv 11))) (.mk AN)) B3)))) (PEw.h (BP GTu hr6 rfl mTu kTu bTu .nil AQ (Aq (.mk (pv 13)) B3))) (AR _)))))) (B4 (.mk Ah)) C3))))))))))))))
   (B4 (.mk (AL DH)))),?_⟩
  refine ⟨_,rfl,a,ns,rfl,hS,h63,fun l as H1 s1 hl nd' hla h5 be=>?_⟩
  refine ⟨l,rfl,⟨_,SqL.of hl⟩,Cq (K:=K) (a:=l) (xs:=as.map V.ref) (fun i σ H2=>RdI a l bd P0 as i σ H2)
   ⟨⟨fun _=>none,rfl⟩,hl,Same.rd s1 hB,TabOk.same s1 hTab,fun j b _ e=>(be b (mem_of_getElem? e)).2⟩ (fun i σ H2 _ R=>SqL.of R.hl) ?_ (fun σ H2 R=>by obtain ⟨f,rfl⟩:=R.st; exact kend _)⟩
  rintro i v σ H2 hi RI;rw [getElem?_map] at hi;obtain ⟨d,hdi,rfl⟩:=Option.map_eq_some_iff.mp hi;obtain ⟨x,y,hd⟩:=RI.ds i d (Nat.le_refl _) hdi;obtain ⟨g,rfl⟩:=RI.st;refine ⟨_,rfl,d,x,y,8,rfl,by decide,by decide,hd,fun q f u fs bs0 rows Ha sXa hq hfn hun hf hP hu0 hbs r0 r10 RO aq=>?_⟩;refine ⟨q,_,rfl,SqT.of hq,rfl,_,_,rfl,_,_,rfl,rfl,?_⟩;obtain ⟨xa,ya,hda⟩:=sXa.dice;have fd_:f ≠ d:=fun z=>by rw [z,hd] at hfn; cases hfn
  have ud:u ≠ d:=fun z=>by rw [z,hd] at hun; cases hun
  have DO:=Jv RO (by omega);refine ⟨_,rfl,d,xa,ya,rfl,hda,fun r Hb ap sXb=>?_⟩;obtain ⟨xb,yb,hdb⟩:=sXb.dice;have tX:SameT Ha Hb:=fun b xs e=>sXb.old _ _ e (LY e hda fun z=>nomatch z);have ao:=sXb.old _ _ hu0 ud;have ce:=TupsAt.sameT tX hbs;have hPb:Paired (RowAt Hb) fs rows:=Bh tX hP;have hfb:=sXb.old _ _ hf fd_;refine ⟨_,rfl,u,bs0,Al rows,rfl,ao,ce,DO.len,DO.lt,fun t e m ms Hc sc ht he hm aw=>?_⟩;refine fun nu hnu=>⟨_,_,_,rfl,?_⟩;have sn:=AH (Same.refl _) hnu (o:=HO.dK []);have hn0:=AB (H:=Hc) (a:=nu) (o:=HO.dK []);have sbn:=sc.trans sn;have htn:=sn _ _ ht;have nut:nu ≠ t:=Ne.symm (AI ht hnu);have hnud:nu ≠ d:=Ne.symm (AI (sc _ _ hdb) hnu);have hnuH:Hb nu=none:=none_of sc hnu;generalize upd Hc nu (HO.dK [])=Hd at sn hn0 sbn htn ⊢;have hud:=sbn _ _ ao;have hbsd:=TupsAt.sameT (SameT.of sbn) ce;have hbl:bs0.length=(Al rows).length:=by rw [CL ce,Ba]
  have keep:∀ {H3:Hp} (o:HO),Same Hb H3->Same Hb (upd H3 nu o):=fun {H3} o s b w e=>by rw [AG (AI e hnuH)]; exact s b w e
  refine ⟨fun σ H'=>(∃ x7 x8,σ=[some (.ref a),some (.ref d),some (.ref f),some (.ref u),some (.str r),some (.ref t),some (.ref nu),x7,x8,g 9,g 10,g 11,g 12,g 13])/\H' nu=some (.dK (Ax (Al rows)))/\H' t=some (.dK (LD (Al rows) e m))/\Same Hb H',fun R hR=>?_,?_⟩
  ·refine ⟨_,rfl,u,rfl,⟨_,SqL.of hud⟩,Cq (K:=K) (a:=u) (xs:=bs0.map V.ref) (fun j σ H'=>(∃ x7 x8,σ=[some (.ref a),some (.ref d),some (.ref f),some (.ref u),some (.str r),some (.ref t),some (.ref nu),x7,x8,g 9,g 10,g 11,g 12,g 13])/\H' nu=some (.dK (Ax ((Al rows).take j)))/\H' t=some (.dK (LD (Al rows) e m))/\Same Hb H') ⟨⟨_,_,rfl⟩,hn0,htn,sbn⟩ (fun j σ H' _ h=>SqL.of (h.2.2.2 _ _ ao)) ?_ (fun σ H' h=>hR _ _ ?_)⟩
   ·rintro j v σ H3 hj ⟨⟨x7,x8,rfl⟩,hn3,ht3,s3⟩;obtain ⟨bb,pr,rfl,_,ak,aj⟩:=CK (TupsAt.sameT (SameT.of s3) ce) hj;refine ⟨bb,_,rfl,SqT.of aj,rfl,_,_,rfl,_,_,rfl,rfl,?_⟩;have hjl:=(List.getElem?_eq_some_iff.mp ak).1;have h10:=DO.len;refine ⟨_,rfl,_,rfl,_,rfl,nu,_,rfl,.inl ⟨_,Sum.inr pr.1,hn3,rfl,AO ?_,rfl⟩,⟨_,_,rfl⟩,?_,?_,keep _ s3⟩
    ·unfold Ax;rw [AK,length_take];omega
    ·rw [AB,MB (Pp DO.nd ak),take_add_one,ak];rfl
    ·rw [AG (Ne.symm nut)];exact ht3
   ·obtain ⟨h1,h2,h3,h4⟩:=h;rw [AK,hbl,take_length] at h2;exact ⟨h1,h2,h3,h4⟩
  rintro σ He ⟨⟨x7,x8,rfl⟩,hnn,hte,sbe⟩;refine ⟨_,rfl,_,rfl,?_⟩;intro k dk hk hdk ax;have sN:=Dp (D:=C) hk hdk ax;refine ⟨k,dk,f,rows,r,rfl,AB,⟨fs,sN _ _ (sbe _ _ hfb),Bh (SameT.of sN) (Bh (SameT.of sbe) hPb)⟩,r0,by omega,RO,ap,fun H0 sd KA=>⟨rfl,?_⟩⟩;have se:=Du sN hk sd;have sb0:=sbe.trans se;have R0:Rl d P0 H2 H0:=((Rl.sameX sXa).trans (Rl.sameX sXb)).trans (Rl.same sb0);have hT0:TabOk H0 P0 qL LS:=TabOk.same sb0 (TabOk.sameX hda sXb (TabOk.sameX hd sXa RI.tb));have hB0:Rd H0 bd (.dK Cf):=Rd.keeps (Wb.keeps R0 ⟨⟨x,y,hd⟩,RI.tb⟩) RI.hb;have W0:Wf C bd P0 ⟨a,d,f,u,t,k,nu,e,m,bs0⟩ (Al rows) r H0:=⟨⟨⟨_,_,sb0 _ _ hdb⟩,hT0⟩,KA,se _ _ hte,se _ _ hnn,sb0 _ _ ao,TupsAt.sameT (SameT.of sb0) ce,hB0⟩;have L0:LpI C bd P0 ⟨a,d,f,u,t,k,nu,e,m,bs0⟩ (Al rows) r H0 (stL ⟨a,d,f,u,t,k,nu,e,m,bs0⟩ r x7 x8 (g 10) (g 11) (g 12) (g 13)) H0:=⟨⟨_,_,_,_,_,_,rfl⟩,W0,Rl.refl _⟩;have pos:0 < (Al rows).length:=by rw [Ba]; exact r0
  have fin:∀ {σ H'},LpI C bd P0 ⟨a,d,f,u,t,k,nu,e,m,bs0⟩ (Al rows) r H0 σ H'->RdI a l bd P0 as (i + 1) σ H':=fun L=>by
   obtain ⟨⟨y7,y8,y10,y11,y12,y13,e⟩,W,R⟩:=L;exact RI.fin nd' hla hdi (R0.trans R) W.wb.tab (by rw [e]; exact UF _ _ _ _ _ _ _ _)
  generalize hdue:Al rows=due at *;refine ⟨8,rfl,by decide,by decide,HS (lo:=0) (n:=8) (fun j σ H'=>LpI C bd P0 ⟨a,d,f,u,t,k,nu,e,m,bs0⟩ due r H0 σ H') L0 ?_ (fun σ H' h=>fin h)⟩;clear L0 fin W0 hB0 hT0 R0;rintro j σ H4 hj LP;generalize (⟨a,d,f,u,t,k,nu,e,m,bs0⟩:Ad)=z at *;obtain ⟨⟨x7,x8,x10,x11,x12,x13,rfl⟩,W4,R4⟩:=LP;have hk20:=RS DO.lt;have asc:Asc due:=fun p hp=>(DO.nm p hp).2.1
  have hbl':z.bs.length=due.length:=by
   have:=W4.hbs.length;unfold DP at this;rw [this,AK]
  refine ⟨fun σ H'=>∃ (tx:Str) (tv:V) (t:LT),σ=stL z r x7 x8 (some (.int (0 + (j:Int)))) (some (.str tx)) (some tv) x13/\LtAt H' tv t/\t.Ok (due.map (·.1))/\t.ht <= 3/\Wr t.tr 0 tx.cps.toList/\tx.cps.all (· < 128)=true/\tx.length <= 56/\Wf C bd P0 z due r H'/\Rl z.d P0 H0 H',fun R hR=>?_,?_⟩
  ·refine ⟨_,rfl,_,rfl,z.u,rfl,⟨_,SqL.of W4.hu⟩,CH (K:=K) (a:=z.u) (xs:=z.bs.map V.ref) (fun i ys H'=>ys=((due.take i).map (·.1)).map V.str/\H'=H4) ⟨rfl,rfl⟩ (fun i ys H' _ ⟨_,e⟩=>e ▸ SqL.of W4.hu) (fun i ys H' ⟨e,_⟩=>?_) ?_ ?_⟩
   ·have:=DO.len;rw [e,AK,AK,length_take];omega
   ·rintro i v ys H' hi ⟨rfl,rfl⟩;obtain ⟨bb,pr,rfl,_,ak,aj⟩:=CK W4.hbs hi;refine ⟨bb,_,rfl,SqT.of aj,rfl,_,_,rfl,_,_,rfl,rfl,?_⟩;refine ⟨_,rfl,?_,rfl⟩;rw [take_add_one,ak,Option.toList_some,map_append,map_append];rfl
   ·rintro ys H' ⟨rfl,rfl⟩ wl hwl;rw [AK,hbl',take_length];have sw:=AH (Same.refl _) hwl (o:=HO.lst ((due.map (·.1)).map V.str));have W5:=W4.same sw;have R5:=R4.trans (Rl.same sw);have hw5:=AB (H:=H') (a:=wl) (o:=HO.lst ((due.map (·.1)).map V.str));generalize upd H' wl (HO.lst ((due.map (·.1)).map V.str))=H5 at W5 R5 hw5 ⊢;obtain ⟨x5,y5,hd5⟩:=W5.wb.dice;refine ⟨z.d,wl,x5,y5,due.map (·.1),rfl,hd5,hw5,by rw [AK]; exact pos,by rw [AK]; exact DO.len,fun x hx=>?_,fun q tx tv t H6 s6 hq lt ok ht wz az lz=>?_⟩
    ·obtain ⟨p,hp,rfl⟩:=mem_map.mp hx;obtain ⟨h1,h2⟩:=RZ DO hp;exact ⟨h1.pw,h1.ok.as,h2⟩
    ·exact ⟨q,_,rfl,SqT.of hq,rfl,_,_,rfl,_,_,rfl,rfl,hR _ _ ⟨tx,tv,t,rfl,lt,ok,ht,wz,az,lz,W5.sameX s6,R5.trans (Rl.sameX s6)⟩⟩
  rintro σ H5 ⟨tx,tv,t,rfl,lt,ok,ht,wz,az,lz,W5,R5⟩;clear W4 R4;have af:=JD DO ok;have EV:=FJ (due:=due) (k:=kn due) t.tr (KD DO ok) []
  have hpl:t.tr.post.length <= 31:=by
   have h1:=FM t;have h2:2 ^ (t.ht + 1) <= 2 ^ 4:=Nat.pow_le_pow_right (by decide) (by omega);have h3:(2:Nat) ^ 4=16:=by decide
   omega
  refine ⟨fun σ H'=>σ=stL z r x7 (some (.int ((t.tr.come due (kn due):Nat):Int))) (some (.int (0 + (j:Int)))) (some (.str tx)) (some tv) x13/\Wf C bd P0 z due r H'/\Rl z.d P0 H0 H',fun R hR=>?_,?_⟩
  ·refine ⟨_,rfl,_,rfl,_,rfl,z.t,_,rfl,.inl ⟨_,Sum.inr "known", .inl W5.ht,rfl,(Cy _ _ _).symm⟩,fun ld hld=>?_⟩;have sl':=AH (Same.refl _) hld (o:=HO.dK []);exact ⟨tv,z.nu,ld,kn due,t,due,rfl,lt.sameT (SameT.of sl'),ok,ht,sl' _ _ W5.hn,DO,hR _ _ ⟨rfl,W5.same sl',R5.trans (Rl.same sl')⟩⟩
  rintro σ H6 ⟨rfl,W6,R6⟩;clear W5 R5 lt;generalize hnn':t.tr.come due (kn due)=n at *;have n40:n < 2 ^ 40:=Nat.lt_trans af (by decide);refine ⟨fun σ H'=>∃ vf:V,σ=stL z r x7 (some (.int (n:Int))) (some (.int (0 + (j:Int)))) (some (.str tx)) (some tv) (some vf)/\Fd VC z.kp due r n vf H'/\Wf C bd P0 z due r H'/\Rl z.d P0 H0 H',fun R hR=>?_,?_⟩
  ·refine ⟨W6.wb.tab,fun H7 sB hT7=>?_⟩;have W7:=W6.sameB sB hT7;have R7:=R6.trans (Rl.sameB sB);refine ⟨_,rfl,_,rfl,z.kp,tx,t.tr.post,n,due,r,rfl,W7.ka,az,by omega,J4 wz,by omega,EV,W7.hb,fun H8 s8=>?_⟩;have W8:=W7.same s8;have R8:=R7.trans (Rl.same s8);exact IJ hR1 EF W8.wb W8.ka hk20 n40 fun vf H9 wb9 rl9 fd9=>hR _ _ ⟨vf,rfl,fd9,W8.go rl9 wb9,R8.trans rl9⟩
  rintro σ H7 ⟨vf,rfl,fd7,W7,R7⟩;clear W6 R6;refine ⟨fun σ H'=>σ=stL z r x7 (some (.int (n:Int))) (some (.int (0 + (j:Int)))) (some (.str tx)) (some tv) (some vf)/\Fd VC z.kp due r n vf H'/\Wf C bd P0 z due r H'/\Rl z.d P0 H0 H',fun R hR=>?_,?_⟩
  ·have stay:∀ {H'},Same H7 H'->R (stL z r x7 (some (.int (n:Int))) (some (.int (0 + (j:Int)))) (some (.str tx)) (some tv) (some vf)) H':=fun s'=>hR _ _ ⟨rfl,fd7.keeps (W7.wb.keeps (Rl.same s')),W7.same s',R7.trans (Rl.same s')⟩;refine ⟨_,rfl,?_⟩;cases id fd7 with
   | no q e hq hb =>
    subst e;refine .inr (.inl ⟨q,_,rfl,hq,_,rfl,_,rfl,_,rfl,z.t,z.e,z.m,due,r,(n:Int),rfl,W7.ht,.inl ⟨hb.1,hb.2,fun p hp=>?_⟩⟩);have sp:=AH (Same.refl _) hp (o:=HO.tup [.str "refused", .str "BadRest", .int (AT due (n:Int):Nat)]);refine .inr ⟨_,_,FL (sp _ _ hq),FL AB,Cg (by decide +kernel) (by decide +kernel),Cg (by decide +kernel) (by decide +kernel),_,rfl,?_⟩;rw [KC];exact AW (stay sp)
   | left e hb hl =>
    subst e;refine .inr (.inr ⟨(n:Int),rfl,fun p2 al=>?_⟩);have sP:=AH (Same.refl _) al (o:=HO.tup [.str "left", .int (n:Int)]);have hp2':=AB (H:=H7) (a:=p2) (o:=HO.tup [.str "left", .int (n:Int)]);refine ⟨_,rfl,_,rfl,_,rfl,z.t,z.e,z.m,due,r,(n:Int),rfl,sP _ _ W7.ht,.inr (.inr (.inl ⟨hb,by omega,hl.1,hl.2,fun p hp=>?_⟩))⟩;have sq:=AH (Same.refl _) hp (o:=HO.tup [.str "left", .int (n:Int)]);refine .inr ⟨_,_,G5 (sq _ _ hp2'),G5 AB,Fq (by decide +kernel),Fq (by decide +kernel),_,rfl,?_⟩;rw [Pn];exact AW (stay (sP.trans sq))
   | val q e hV hb hl =>
    subst e;refine .inl ⟨q,z.kp,_,rfl,hV,_,rfl,_,rfl,_,rfl,z.t,z.e,z.m,due,r,(n:Int),rfl,W7.ht,.inr (.inr (.inr ⟨hb,by omega,hl,.inl ⟨rfl,_,rfl,?_⟩⟩))⟩;rw [decide_eq_true rfl];exact AW (stay (Same.refl _))
  rintro σ H8 ⟨rfl,fd8,W8,R8⟩;clear fd7 W7 R7;refine ⟨fun σ H'=>σ=stL z r x7 (some (.int (n:Int))) (some (.int (0 + (j:Int)))) (some (.str tx)) (some tv) (some vf)/\Fd VC z.kp due r n vf H'/\Wf C bd P0 z due r H'/\Rl z.d P0 H0 H',fun R hR=>?_,?_⟩
  ·refine ⟨_,rfl,W8.wb.tab,fun H9 sB hT9=>?_⟩;have W9:=W8.sameB sB hT9;have R9:=R8.trans (Rl.sameB sB);have fd9:=fd8.keeps (W8.wb.keeps (Rl.sameB sB));refine ⟨_,rfl,_,rfl,IJ hR1 EF W9.wb W9.ka hk20 n40 fun v2 H10 wb10 rl10 g10=>?_⟩;have W10:=W9.go rl10 wb10;have R10:=R9.trans rl10;have fd10:=fd9.keeps (W9.wb.keeps rl10);cases id fd10 with
   | no q e hq hb =>
    subst e;cases g10 with
    | no q2 e2 hq2 hb2 =>
     subst e2;refine .inl (.inr ⟨_,_,FL hq,FL hq2,Cg (by decide +kernel) (by decide +kernel),Cg (by decide +kernel) (by decide +kernel),_,rfl,?_⟩);rw [KC];exact AW (hR _ _ ⟨rfl,fd10,W10,R10⟩)
    | left e2 hb2 hl2=>exact absurd hb hb2
    | val q2 e2 hV2 hb2 hl2=>exact absurd hb hb2
   | left e hb hl =>
    subst e;cases g10 with
    | no q2 e2 hq2 hb2=>exact absurd hb2 hb
    | left e2 hb2 hl2 =>
     subst e2;refine .inl (.inl ⟨rfl,_,rfl,?_⟩);rw [decide_eq_true rfl];exact AW (hR _ _ ⟨rfl,fd10,W10,R10⟩)
    | val q2 e2 hV2 hb2 hl2=>exact absurd hl hl2
   | val q e hV hb hl =>
    subst e;cases g10 with
    | no q2 e2 hq2 hb2=>exact absurd hb2 hb
    | left e2 hb2 hl2=>exact absurd hl2 hl
    | val q2 e2 hV2 hb2 hl2 =>
     subst e2;obtain ⟨d1,h1⟩:=id hV;obtain ⟨d2,h2⟩:=id hV2;refine .inr ⟨q,d1,_,q2,d2,_,rfl,rfl,h1,h2,q,.ref q2,z.kp,_,due,r,rfl,hV,W10.ka,asc,.inr ⟨q2,z.kp,_,due,r,rfl,hV2,W10.ka,asc,fun H11 s11=>⟨_,rfl,_,rfl,_,rfl,?_⟩⟩⟩;rw [decide_eq_true ⟨⟨rfl,rfl⟩,rfl⟩];exact AW (hR _ _ ⟨rfl,fd10.keeps (W10.wb.keeps (Rl.same s11)),W10.same s11,R10.trans (Rl.same s11)⟩)
  rintro σ H9 ⟨rfl,fd9,W9,R9⟩;clear fd8 W8 R8;have fin9:∀ {H'},Same H9 H'->LpI C bd P0 z due r H0 (stL z r x7 (some (.int (n:Int))) (some (.int (0 + (j:Int)))) (some (.str tx)) (some tv) (some vf)) H':=fun s'=>⟨⟨_,_,_,_,_,_,rfl⟩,W9.same s',R9.trans (Rl.same s')⟩;cases fd9 with
  | no q e hq hb =>
   subst e;exact ⟨_,rfl,_,VC,_,false,rfl,.tup hq,hT,_,rfl,AW (AW (fin9 (Same.refl _)))⟩
  | left e hb hl =>
   subst e;exact ⟨_,rfl,_,VC,_,false,rfl,.int (n:Int),hI,_,rfl,AW (AW (fin9 (Same.refl _)))⟩
  | val q e hV hb hl =>
   subst e;obtain ⟨dq,hq⟩:=id hV;refine ⟨_,rfl,_,VC,_,true,rfl,VO.isi.ty hq,Cw K VC,_,rfl,Aj ?_⟩;have o2:("~(" : Str).length=2:=by decide +kernel
   have c1:(")" : Str).length=1:=by decide +kernel
   have ee:("~(" ++ tx ++ ")" : Str).cps.toList=126 :: ([]++(40 :: (tx.cps.toList++[41]))):=by
    rw [Bg,Bg,show ("~(" : Str).cps.toList=[126,40] by decide +kernel,show (")" : Str).cps.toList=[41] by decide +kernel];simp
   have wz2:Wr (.ng t.tr) 0 ("~(" ++ tx ++ ")" : Str).cps.toList:=by
    rw [ee];exact .ng _ 0 _ (by decide) (.br _ 3 _ _ (.inl rfl) wz)
   have EV2:=FJ (due:=due) (k:=kn due) (.ng t.tr) (KD (t:=.ng t) DO ok) []
   have en:Tr.come due (kn due) (.ng t.tr)=kn due - (kn due &&& n):=by
    show kn due - (kn due &&& t.tr.come due (kn due))=_;rw [hnn']
   rw [en] at EV2;have hle:kn due - (kn due &&& n) <= kn due:=Nat.sub_le _ _;have st0':AT due ((kn due - (kn due &&& n):Nat):Int)=0:=by rw [Ft]; exact I0 _ _
   have n40':(2:Nat) ^ 40=1099511627776:=by decide
   have p20:(2:Nat) ^ 20=1048576:=by decide
   refine ⟨_,rfl,_,rfl, "~(", tx,rfl,rfl,Nat.le_of_lt (AO (by omega)), "~(" ++ tx, ")", rfl,rfl,Nat.le_of_lt (AO (by rw [BA]; omega)),?_⟩;refine ⟨z.kp, "~(" ++ tx ++ ")", Tr.post (.ng t.tr),kn due - (kn due &&& n),due,r,rfl,W9.ka,B0 (B0 (by decide +kernel) az) (by decide +kernel),by rw [BA,BA]; omega,J4 wz2,?_,EV2,W9.hb,fun H10 s10=>?_⟩
   ·show (t.tr.post++[_]).length <= 400;rw [length_append,length_singleton];omega
   have W10:=W9.same s10;refine ⟨z.kp,due,r,_,rfl,W10.ka,hk20,by omega,by omega,.inr (.inr (.inr ⟨fun y=>y.1 st0',by omega,fun y=>y.1 st0',fun q1 H11 s11 hV1=>?_⟩))⟩
   have e1:(if r = "keep" then plain ((kn due - (kn due &&& n):Nat):Int) else plain ((kn due - (kn due &&& n):Nat):Int) - AT due ((kn due - (kn due &&& n):Nat):Int))=kn due - (kn due &&& n):=by
    rw [st0',Fl];split <;> rfl
   rw [e1] at hV1;have s91:=s10.trans s11;have W11:=W9.same s91;refine ⟨_,rfl,q,z.kp,_,due,r,rfl,hV.same s91,W11.ka,hk20,fun q2 H12 s12 hV2=>?_⟩
   have e2:kn due - (kn due &&& (if r = "keep" then plain (n:Int) else plain (n:Int) - AT due (n:Int)))=kn due - (kn due &&& n):=by
    rw [Ft,Fl];split
    ·rfl
    ·exact Nj
   rw [e2] at hV2;have W12:=W11.same s12;have hV1':=hV1.same s12;obtain ⟨d1,h1⟩:=id hV1';obtain ⟨d2,h2⟩:=id hV2;refine ⟨q1,d1,_,q2,d2,_,rfl,rfl,h1,h2,q1,.ref q2,z.kp,_,due,r,rfl,hV1',W12.ka,asc,.inr ⟨q2,z.kp,_,due,r,rfl,hV2,W12.ka,asc,fun H13 s13=>⟨_,rfl,_,rfl,_,rfl,?_⟩⟩⟩;rw [decide_eq_true ⟨⟨rfl,rfl⟩,rfl⟩];exact AW (fin9 ((s91.trans s12).trans s13))
end
end Mk
end
section
namespace Mk
open PySem L2 MK
theorem UG {dt:Addr} {tk:Tok} {kV doc pm ad ct:Value} {an:Option Addr} {n:Nat} (hd:K.lookup dt=some ⟨.type "tuple", none,.seq #[.str "" tk] n,#[]⟩) :
  Binds K (W.fnOf "__init__" "MarkError.__init__" (defArgs A7) (defBody A7) (defScope A7) (.ref dt) kV doc pm an ad ct) ["self", "words"] []:=by
 intro s us hK hl
 have hl2:us.length=2:=by
  rw [append_nil] at hl;exact hl
 match us,hl2 with
 | [u1,u2],_ =>
  have ho:=hK _ _ hd;intro M A E Q hq;unfold bindArgs;simp only [W.fnOf]
  repeat (first | with_reducible refine wpAny_seqItems ho rfl ?_ | (with_reducible refine wpAny_bind (wpAny_seqItems ho rfl ?_)) | wp_step)
  exact Eq.mp (congrArg (fun z=>Q z s) (by kernel_rfl)) hq
theorem LX {h:Heap} {N:Addr} {n:Str} {v:Value} (X:K.In h) (G:h.Ns N mg) (e:W.nsIn K N n=some (some v)):mg n=some v:=by
 obtain ⟨o,es,ep,ho,hd,_,hf⟩:=G;unfold W.nsIn at e;split at e
 ·rename_i c d es' n' sl q;have:=X _ _ q;rw [ho] at this;cases this;cases hd;split at e
  ·rename_i he;cases e;rw [← hf];unfold nsFind findBy;rw [← Array.find?_toList,he];rfl
  ·split at e <;> cases e
 ·cases e
theorem Q7 {kV doc pm ad ct:Value} {an:Option Addr} :
  EE K (W.fnOf "__init__" "Kind.__init__" (defArgs BM) (defBody BM) (defScope BM) .none kV doc pm an ad ct) ["self", "rows", "rest"] ["rest"] gU3 gV3:=by
 refine ⟨fun s us ws _ hl=>?_,fun {vs us zs ws} r rz=>?_⟩
 ·unfold gU3 at hl ⊢;split at hl
  ·exact .of_eq (by kernel_rfl)
  ·cases hl
 ·cases r with
  | nil=>exact .nil
  | cons r1 rr =>
   cases rr with
   | nil=>exact .nil
   | cons r2 rr =>
    cases rr with
    | cons _ _=>exact .nil
    | nil =>
     cases rz with
     | nil=>exact .nil
     | cons z1 zz =>
      cases zz with
      | nil=>exact .cons r1 (.cons r2 (.cons z1 .nil))
      | cons _ _=>exact .nil
theorem S6 {kd:Addr} {v doc pm ad ct:Value} {an:Option Addr} (ok:W.nsOkIn K kd=true) (e:W.nsIn K kd "rest" = some (some v)) :
  Binds K (W.fnOf "__init__" "Kind.__init__" (defArgs BM) (defBody BM) (defScope BM) .none (.ref kd) doc pm an ad ct) ["self", "rows", "rest"] [v]:=by
 intro s us hK hl
 have hl2:us.length=2:=by
  rw [length_append] at hl;exact Nat.succ.inj hl
 match us,hl2 with
 | [u1,u2],_ =>
  have G:s.heap.Ns kd (s.heap.nsMap kd):=.of_isNs (W.isNs_of_in hK ok);have hm:s.heap.nsMap kd "rest" = some v:=LX hK G e;intro M A E Q hq;unfold bindArgs;simp only [W.fnOf]
  repeat (first | (with_reducible refine wpAny_nsGet G ?_; rw [hm]) | wp_step)
  exact Eq.mp (congrArg (fun z=>Q z s) (by kernel_rfl)) hq
theorem Pq {kV doc pm ad ct:Value} {an:Option Addr} :
  EE K (W.fnOf "steps_of" "steps_of" (defArgs CQ) (defBody CQ) (defScope CQ) .none kV doc pm an ad ct) ["text", "lettered"] ["lettered"] gU2 gV2:=by
 refine ⟨fun s us ws _ hl=>?_,fun {vs us zs ws} r rz=>?_⟩
 ·unfold gU2 at hl ⊢;split at hl
  ·exact .of_eq (by kernel_rfl)
  ·cases hl
 ·cases r with
  | nil=>exact .nil
  | cons r1 rr =>
   cases rr with
   | cons _ _=>exact .nil
   | nil =>
    cases rz with
    | nil=>exact .nil
    | cons z1 zz =>
     cases zz with
     | nil=>exact .cons r1 (.cons z1 .nil)
     | cons _ _=>exact .nil
end Mk
end
section
namespace Mk
open PySem L2 MK PySem.W
noncomputable abbrev fO (x q:Str) (s:Stmt):=fnOf x q (defArgs s) (defBody s) (defScope s)
theorem FN {K:Frag} {C:Addr} {T:String} (h:isClsIn K C=true) (h2:typeIn K (.ref C)=some (.type "type")) (e:subIn K (.type T) (.ref C)=some false):kitOne K (.type T) (.ref C)=some false:=by
 unfold kitOne;rw [if_neg (by simp)];unfold kitCls;show (if _ then _ else _)=_;rw [if_pos (by unfold isClsIn at h; rw [h,h2]; simp)];exact e
theorem Q8 {K:Frag} {C M:Addr} {f:Str} (h:(clsIn K C).map (fun cd=>(cd.mro,cd.hasDict))=some (EM C M,true)) (n:findIn K (.ref C) f=some none) (s:findIn K (.ref C) "__setattr__" = some (some (.builtin "object.__setattr__"))):Oh K C M f:=by
 obtain ⟨cd,e,z⟩:=Option.map_eq_some_iff.mp h;exact ⟨⟨cd,e,congrArg Prod.fst z,congrArg Prod.snd z⟩,n,s⟩
noncomputable def KF (K:Frag) (c P:Addr):Bool:=match K.lookup c with
 | some ⟨.type "code", _,.fields vs,_⟩=>(match (vs[11]?:Option Value),vs.getD 18 Value.none,vs.getD 7 Value.none,vs.getD 9 Value.none,vs.getD 10 Value.none with
  | some (.ref p),.str _ _,.int _ _,.bool _,.int _ _=>p == P && !(c == P)
  | _,_,_,_,_=>false)
 | _=>false
theorem codeHd_of {K:Frag} {h:Heap} {c P:Addr} (X:K.In h) (q:KF K c P=true):CodeHd h c P:=by
 unfold KF at q;split at q
 ·rename_i d vs sl ho;split at q
  ·rename_i p f tf fl tg b tx tt h11 h18 h7 h9 h10;rw [Bool.and_eq_true,beq_iff_eq] at q;obtain ⟨rfl,hn⟩:=q;refine ⟨_,vs,f,tf,fl,tg,b,tx,tt,X _ _ ho,rfl,rfl,h11,?_,h18,h7,h9,h10,fun z=>by simp [z] at hn⟩;rw [Array.getD_eq_getD_getElem?,h11];rfl
  ·cases q
 ·cases q
section
variable {P:Program} {w:World} {K:Frag} {mg:SV} {base:Heap} {x q:Str} {st:Stmt} {k:Nat} {ps:List Str} {sp:Sp} {f C:Addr} {fd:FuncData} {p1 p2 p3 p4 p5:Str}
theorem fnT (F:Fun K x x st f fd) (ok:AX P w K mg base CX0 k f fd ps sp) (m:mg x=some (.ref f)) (b:Binds K fd ps []):Fn P w K mg base x k ps sp:=⟨⟨f,fd,ok,m,F.kp,b⟩⟩
theorem mtT (a:findIn K (.ref C) x=some (some (.ref f))) (i:isFn K (.ref f)=true) (F:Fun K x q st f fd) (ok:AX P w K mg base CX0 k f fd ps sp) (b:Binds K fd ps []):Mt P w K mg base C x k ps sp:=⟨⟨f,fd,ok,⟨a,i,F.kp⟩,b⟩⟩
noncomputable abbrev fB (x q:Str) (st:Stmt) (kV doc pm:Value) (an:Option Addr) (ad ct:Value) (us:List Value):Sem (List (Str × Value)):=bindArgs (fO x q st .none kV doc pm an ad ct) ⟨us,[]⟩
theorem bi1 (F:Fun K x q st f fd) (h:∀ a b c d e g u1,fB x q st a b c d e g [u1]=pure [(p1,u1)]):Binds K fd [p1] []:=F.binds fun _ _ _ _ _ _ us hl=>match us,hl with | [_],_=>h ..
theorem bi2 (F:Fun K x q st f fd) (h:∀ a b c d e g u1 u2,fB x q st a b c d e g [u1,u2]=pure [(p1,u1),(p2,u2)]):Binds K fd [p1,p2] []:=F.binds fun _ _ _ _ _ _ us hl=>match us,hl with | [_,_],_=>h ..
theorem bi3 (F:Fun K x q st f fd) (h:∀ a b c d e g u1 u2 u3,fB x q st a b c d e g [u1,u2,u3]=pure [(p1,u1),(p2,u2),(p3,u3)]):Binds K fd [p1,p2,p3] []:=F.binds fun _ _ _ _ _ _ us hl=>match us,hl with | [_,_,_],_=>h ..
theorem bi4 (F:Fun K x q st f fd) (h:∀ a b c d e g u1 u2 u3 u4,fB x q st a b c d e g [u1,u2,u3,u4]=pure [(p1,u1),(p2,u2),(p3,u3),(p4,u4)]):Binds K fd [p1,p2,p3,p4] []:=F.binds fun _ _ _ _ _ _ us hl=>match us,hl with | [_,_,_,_],_=>h ..
end
def DG (K:Frag) (x:Str) (st:Stmt):Prop:=∃ f fd,nsIn K mainGlobals x=some (some (.ref f))/\Fun K x x st f fd
def DM (K:Frag) (C:Addr) (x q:Str) (st:Stmt):Prop:=∃ f fd,findIn K (.ref C) x=some (some (.ref f))/\isFn K (.ref f)=true/\(∃ o,K.lookup f=some o/\o.cls=.type "function")/\Fun K x q st f fd
structure CF (K:Frag) (C:Addr):Prop where
 pg:plainGet K C Str.empty=true
 hd:hasDictIn K C=true
 po:plainOver K C=true
 sa:findIn K (.ref C) "__setattr__" = some (some (.builtin "object.__setattr__"))
 mz:makesIn K C=true
 kc:keepIn K (.ref C)=true
 qa:findIn K (.ref C) "__class__" = some (some (.builtin "object.__class__"))
 qm:mroIn K C (.type "object")=some true
 ql:isClsIn K C=true
 qy:typeIn K (.ref C)=some (.type "type")
 qs:subIn K (.type "list") (.ref C)=some false
 qi:subIn K (.type "int") (.ref C)=some false
 qt:subIn K (.type "tuple") (.ref C)=some false
 ne:findIn K (.ref C) "__ne__" = some (some (.builtin "object.__ne__"))
structure XF (K:Frag) (ec:Nat->Addr) (C:Addr) (j:Nat):Prop where
 cx:L2.A9 K C=true
 ga:findIn K (.ref C) "__getattribute__" = some (some (.builtin "BaseException.__getattribute__"))
 gr:findIn K (.ref C) "__getattr__" = some none
 gb:mroIn K C (.type "BaseException")=some true
 kc:(clsIn K C).isSome=true
 ka:findIn K (.ref C) "__class__" = some (some (.builtin "object.__class__"))
 km:mroIn K C (.type "object")=some true
 kt:((List.range 11).all fun i=>i == j || decide (kitOne K (.ref C) (.ref (ec i))=some false))=true
 tv:kitOne K (.ref C) (.type "ValueError")=some true
 ke:keepIn K (.ref C)=true
theorem XF.at {K:Frag} {ec:Nat->Addr} {C:Addr} {j:Nat} (F:XF K ec C j) (hj:j < 11) (e:C=ec j) (qn:specialIn K (.builtin "object.__class__") "__get__" = some (some (.builtin "getset_descriptor.__get__"))) (qt:takesIn K (.builtin "object.__class__")=some true):ML K ec C j:=by
 refine ⟨hj,⟨⟨F.ga,F.gr,F.gb⟩,F.kc,F.ka,qn,qt,F.km⟩,fun i hi=>?_,F.tv⟩;have h:=List.all_eq_true.mp F.kt i (mem_range.mpr hi);rw [Bool.or_eq_true] at h;rcases h with z | z
 ·rw [eq_of_beq z,e,decide_eq_true rfl];exact Cw K _
 ·by_cases q:i=j
  ·rw [q,e,decide_eq_true rfl];exact Cw K _
  ·rw [decide_eq_false q];exact of_decide_eq_true z
structure XL (K:Frag) (ec:Nat->Addr) (cM C:Addr) (j:Nat) (fld:Str):Prop where
 F:XF K ec C j
 n:((List.range j).all fun i=>!(EK K C).contains (.ref (ec i)))=true
 m:(EK K C).contains (.ref (ec j))=true
 gh:hasDictIn K C=true
 gn:findIn K (.ref C) fld=some none
 gs:findIn K (.ref C) "__setattr__" = some (some (.builtin "object.__setattr__"))
 s:(clsIn K C).map (fun cd=>(cd.mro,cd.hasDict))=some (EM C cM,true)
theorem XL.fl {K:Frag} {ec:Nat->Addr} {cM C:Addr} {j:Nat} (F:XL K ec cM C j (HK j)) (hj:j < 4) (e:C=ec j) (qn:specialIn K (.builtin "object.__class__") "__get__" = some (some (.builtin "getset_descriptor.__get__"))) (qt:takesIn K (.builtin "object.__class__")=some true):J0 K ec C j:=by
 refine ⟨F.F.at (by omega) e qn qt,F.F.cx,hj,fun i hi=>?_,F.m,⟨⟨F.F.ga,F.F.gr,F.F.gb⟩,F.gh,F.gn⟩⟩;have:=List.all_eq_true.mp F.n i (mem_range.mpr hi);rw [Bool.not_eq_true'] at this;exact this
theorem all_mk {l:OpenLaw} {w:World} {K:Frag} {h:Heap} {mg:SV} {fz C VC DC aR kd dt cM c P0 e0 e1 e2 e3 e4 e5 e6 e7 e8 e9 e10 fin fei fla:Addr} (X:K.In h) (G:h.Ns mainGlobals mg) (hfa:mg "law" = some (.ref fz))
  {ocla kVla dcla pmla ctla ocin dcin pmin cdin ctin kVei dcei pmei cdei ctei ocK:Value} {odla anla odin anin odei anei odR odK:Option Addr} {slla slin slei slK slR:Array (Option Value)} {tG tM tL tLi tB t1 t2 t3 t4 tE:Tok} {nRR epK nE:Nat} {esK:Array DictEntry} {jn:Addr} {j1 j2 j3 tLB:Tok} {odJ:Option Addr} {nJ:Nat} {slJ:Array (Option Value)} {fst:Addr} {ocst kVst dcst pmst cdst ctst:Value} {odst anst:Option Addr} {slst:Array (Option Value)} {bd:Addr}
  (aC:nsIn K mainGlobals "Kind" = some (some (.ref C)))
  (aVC:nsIn K mainGlobals "Value" = some (some (.ref VC)))
  (aDC:nsIn K mainGlobals "Reading" = some (some (.ref DC)))
  (aM:nsIn K mainGlobals "MarkError" = some (some (.ref cM)))
  (aX0:nsIn K mainGlobals "BadRows" = some (some (.ref e0)))
  (aX1:nsIn K mainGlobals "BadRest" = some (some (.ref e1)))
  (aX2:nsIn K mainGlobals "BadText" = some (some (.ref e2)))
  (aX3:nsIn K mainGlobals "Unled" = some (some (.ref e3)))
  (aX4:nsIn K mainGlobals "BadRule" = some (some (.ref e4)))
  (aX5:nsIn K mainGlobals "BadName" = some (some (.ref e5)))
  (aX6:nsIn K mainGlobals "BadNumber" = some (some (.ref e6)))
  (aX7:nsIn K mainGlobals "Unlike" = some (some (.ref e7)))
  (aX8:nsIn K mainGlobals "BadPairs" = some (some (.ref e8)))
  (aX9:nsIn K mainGlobals "Never" = some (some (.ref e9)))
  (aX10:nsIn K mainGlobals "Nothing" = some (some (.ref e10)))
  (z_VE:nsIn K mainGlobals "ValueError" = some none)
  (hwh:DG K "is_whole" Go)
  (hnm:DG K "is_name" Il)
  (huo:DG K "union_of" Gp)
  (hnx:DG K "next_mark" FS)
  (hoo:DG K "is_one_of" Gq)
  (hno:DG K "is_names_of" EO)
  (hth:DG K "thing_number" C8)
  (hro:DG K "row_number" EQ)
  (hnb:DG K "numbered" FU)
  (hfi:DG K "first_names" Df)
  (him:DG K "is_mark" Im)
  (hmR:DM K C "rows" "Kind.rows" FV)
  (hmK:DM K C "known" "Kind.known" ES)
  (hmT:DM K C "rest" "Kind.rest" FW)
  (hmM:DM K C "marks" "Kind.marks" ER)
  (hmE:DM K C "__eq__" "Kind.__eq__" Io)
  (hlc:DG K "_law_cell" Gu)
  (hld:DG K "_law_drawn" Fa)
  (hlr:DG K "_law_roll" Gv)
  (hls:DG K "_law_rounds" EY)
  (hll:DG K "_law_lines" Bw)
  (hxn:DG K "is_number" FX)
  (hxr:DG K "rest_of" Ip)
  (hxi:DM K VC "__init__" "Value.__init__" ET)
  (hxN:DM K VC "number" "Value.number" C9)
  (hxK:DM K VC "kind" "Value.kind" EU)
  (hxE:DM K VC "__eq__" "Value.__eq__" Gr)
  (hmN:DM K C "number" "Kind.number" Dg)
  (hlb:DG K "_law_bits_of" EZ)
  (hlu:DG K "_law_rule_of" Ea)
  (hlt:DG K "_law_table_of" Dj)
  (hlm:DG K "_law_made" Gw)
  (hlh:DG K "_law_shown" Fb)
  (hxT:DG K "turned" Iq)
  (hgl:DG K "is_letter" FY)
  (hgf:DG K "is_figures" EW)
  (hgp:DG K "is_part" Ir)
  (hge:DG K "part_end" Gs)
  (hdS:DM K DC "settle" "Reading.settle" CP)
  (hdP:DM K DC "take_part" "Reading.take_part" Bu)
  (hdB:DM K DC "take_between" "Reading.take_between" BW)
  (hdA:DM K DC "take_ahead" "Reading.take_ahead" Bn)
  (hdC:DM K DC "take_close" "Reading.take_close" Bo)
  (hdG:DM K DC "take_sign" "Reading.take_sign" Bv)
  (hdN:DM K DC "ends" "Reading.ends" DB)
  (hgj:DG K "joined" Iu)
  (hgn:DG K "part_number" Dh)
  (hgo:DG K "number_of" FZ)
  (hdI:DM K DC "__init__" "Reading.__init__" DA)
  (hrd:DG K "read" Lz)
  (hmd:DG K "made" Ly)
  (hri:DM K e1 "__init__" "BadRest.__init__" C7)
  (hle:DG K "_law_tree" E1)
  (hlp:DG K "_law_written" Cc)
  (hlq:DG K "_law_come" E2)
  (hlf:DG K "_law_formula" Dk)
  (hlw:DG K "_law_word" Di)
  (hlo:DG K "_law_told" Am)
  (ain:findIn K (.ref C) "__init__" = some (some (.ref fin)))
  (iin:isFn K (.ref fin)=true)
  (lin:K.lookup fin=some ⟨ocin,odin,.func (fO "__init__" "Kind.__init__" BM .none (.ref kd) dcin pmin anin cdin ctin),slin⟩)
  (cin:codeIn K cdin "Kind.__init__" = true)
  (kin:keepIn K (.ref fin)=true)
  (ala:nsIn K mainGlobals "law" = some (some (.ref fla)))
  (lla:K.lookup fla=some ⟨ocla,odla,.func (fO "law" "law" DN .none kVla dcla pmla anla (.ref c) ctla),slla⟩)
  (cla:codeIn K (.ref c) "law" = true)
  (kla:keepIn K (.ref fla)=true)
  (aei:findIn K (.ref cM) "__init__" = some (some (.ref fei)))
  (iei:isFn K (.ref fei)=true)
  (lei:K.lookup fei=some ⟨(.type "function"),odei,.func (fO "__init__" "MarkError.__init__" A7 (.ref dt) kVei dcei pmei anei cdei ctei),slei⟩)
  (cei:codeIn K cdei "MarkError.__init__" = true)
  (kei:keepIn K (.ref fei)=true)
  (ast:nsIn K mainGlobals "steps_of" = some (some (.ref fst)))
  (lst:K.lookup fst=some ⟨ocst,odst,.func (fO "steps_of" "steps_of" CQ .none kVst dcst pmst anst cdst ctst),slst⟩)
  (cst:codeIn K cdst "steps_of" = true)
  (kst:keepIn K (.ref fst)=true)
  (kdl:K.lookup kd=some ⟨ocK,odK,.dict esK epK,slK⟩)
  (kde:(esK.all fun e=>match e.key with | .str _ _=>true | _=>false)=true)
  (kdr:nsIn K kd "rest" = some (some (.str "bar" tB)))
  (dtl:K.lookup dt=some ⟨.type "tuple", none,.seq #[.str "" tE] nE,#[]⟩)
  (vG:nsIn K mainGlobals "GREATEST" = some (some (.int 1048575 tG)))
  (vM:nsIn K mainGlobals "MOST_ROWS" = some (some (.int 10 tM)))
  (vL:nsIn K mainGlobals "LONGEST_NAME" = some (some (.int 6 tL)))
  (vLi:nsIn K mainGlobals "LIMIT" = some (some (.int 1099511627776 tLi)))
  (vR:nsIn K mainGlobals "RULES" = some (some (.ref aR)))
  (qn:specialIn K (.builtin "object.__class__") "__get__" = some (some (.builtin "getset_descriptor.__get__")))
  (qt:takesIn K (.builtin "object.__class__")=some true)
  (fC:CF K C)
  (fVC:CF K VC)
  (fDC:CF K DC)
  (nC_numbers:findIn K (.ref C) "numbers" = some none)
  (nC_firsts:findIn K (.ref C) "firsts" = some none)
  (nC_rule:findIn K (.ref C) "rule" = some none)
  (nVC_own_kind:findIn K (.ref VC) "own_kind" = some none)
  (nVC_bits:findIn K (.ref VC) "bits" = some none)
  (nDC_steps:findIn K (.ref DC) "steps" = some none)
  (nDC_waiting:findIn K (.ref DC) "waiting" = some none)
  (nDC_wants_part:findIn K (.ref DC) "wants_part" = some none)
  (xm:L2.A9 K cM=true)
  (xc0:L2.A9 K e0=true)
  (xc1:L2.A9 K e1=true)
  (xc2:L2.A9 K e2=true)
  (xc3:L2.A9 K e3=true)
  (y1:XL K (fun i=>([e0,e1,e2,e3,e4,e5,e6,e7,e8,e9,e10]:List Addr).getD i 0) cM e1 1 "bits")
  (xmg:specialIn K (.ref cM) "__getattribute__" = some (some (.builtin "type.__getattribute__")))
  (xmr:readsIn K cM (.type "type")=true)
  (xmf:findCls K (.ref cM) (.type "type") "__init__" = some (.val (.ref fei)))
  (rL:K.lookup aR=some ⟨.type "tuple", odR,.seq #[.str "bar" t1,.str "drop" t2,.str "keep" t3,.str "leave" t4] nRR,slR⟩)
  (z_len:nsIn K mainGlobals "len" = some none)
  (z_isinstance:nsIn K mainGlobals "isinstance" = some none)
  (z_max:nsIn K mainGlobals "max" = some none)
  (z_min:nsIn K mainGlobals "min" = some none)
  (z_range:nsIn K mainGlobals "range" = some none)
  (z_list:nsIn K mainGlobals "list" = some none)
  (z_tuple:nsIn K mainGlobals "tuple" = some none)
  (z_sorted:nsIn K mainGlobals "sorted" = some none)
  (z_sum:nsIn K mainGlobals "sum" = some none)
  (z_all:nsIn K mainGlobals "all" = some none)
  (z_enumerate:nsIn K mainGlobals "enumerate" = some none)
  (z_int:nsIn K mainGlobals "int" = some none)
  (z_bool:nsIn K mainGlobals "bool" = some none)
  (z_str:nsIn K mainGlobals "str" = some none)
  (vBD:nsIn K mainGlobals "BINDING" = some (some (.ref bd)))
  (vJN:nsIn K mainGlobals "JOINING" = some (some (.ref jn)))
  (vLB:nsIn K mainGlobals "LEAST_BINDING" = some (some (.int 1 tLB)))
  (jL:K.lookup jn=some ⟨.type "tuple", odJ,.seq #[.str "&" j1,.str "^" j2,.str "|" j3] nJ,slJ⟩)
  : ∃ fd:FuncData,(∀ (s:Shared) (v:Value),BindsTo s fd ⟨[v],[]⟩ [("_law_script", v)])/\∀ base:Heap,K.In base->base.Ns mainGlobals mg->CodeHd base c P0->base.BuiltinsAt mg P0->AX l.prog w K mg base CX0 10 fz fd ["_law_script"] (Md K P0 bd):=by
 have MG:∀ {x:Str} {v:Value},nsIn K mainGlobals x=some (some v)->mg x=some v:=fun h=>mg_of X G h;have MN:∀ {x:Str},nsIn K mainGlobals x=some none->mg x=none:=fun h=>mg_none_of X G h;have T:Dx K C:=⟨⟨fC.pg,fC.hd,fC.po,fC.sa⟩,nC_numbers,nC_firsts,nC_rule⟩;have VT:LF K VC:=⟨⟨fVC.pg,fVC.hd,fVC.po,fVC.sa⟩,nVC_own_kind,nVC_bits⟩;have DT:HL K DC:=⟨⟨fDC.pg,fDC.hd,fDC.po,fDC.sa⟩,nDC_steps,nDC_waiting,nDC_wants_part⟩;have KI:KIsi K C:=⟨⟨fC.pg,fC.hd,fC.po,fC.sa⟩,fC.qa,qn,qt,fC.qm,FN fC.ql fC.qy fC.qs⟩;have VI:KIsi K VC:=⟨⟨fVC.pg,fVC.hd,fVC.po,fVC.sa⟩,fVC.qa,qn,qt,fVC.qm,FN fVC.ql fVC.qy fVC.qs⟩;have mCg:=MG aC;have mVg:=MG aVC;have hLi:=MG vLi;have vI:=FN fVC.ql fVC.qy fVC.qi;have vT:=FN fVC.ql fVC.qy fVC.qt;have qeC:=fC.ne;have qm:=fC.qm;have B:Bl mg:=⟨MN z_len,MN z_isinstance,MN z_max,MN z_min,MN z_range,MN z_list,MN z_tuple,MN z_sorted,MN z_sum,MN z_all,MN z_enumerate,MN z_int,MN z_bool,MN z_str⟩;have rT:∀ H:Hp,SqT K H aR (ruleNames.map V.str):=fun H=>.inr ⟨_,_,_,rL,rfl,rfl,sl4,.cons ⟨_,rfl⟩ (.cons ⟨_,rfl⟩ (.cons ⟨_,rfl⟩ (.cons ⟨_,rfl⟩ .nil)))⟩;have jT:∀ H:Hp,SqT K H jn [.str "&", .str "^", .str "|"]:=fun H=>.inr ⟨_,_,_,jL,rfl,rfl,sl3,.cons ⟨_,rfl⟩ (.cons ⟨_,rfl⟩ (.cons ⟨_,rfl⟩ .nil))⟩
 have kdo:nsOkIn K kd=true:=by
  unfold nsOkIn;rw [kdl];exact kde
 have hG:=MG vG;have hM:=MG vM;have hL:=MG vL;have hR:=MG vR;have M:LJ mg (fun i=>([e0,e1,e2,e3,e4,e5,e6,e7,e8,e9,e10]:List Addr).getD i 0):=⟨MG aX0,MG aX1,MG aX2,MG aX3,MG aX4,MG aX5,MG aX6,MG aX7,MG aX8,MG aX9,MG aX10,MN z_VE⟩;have EX:Nb K mg (fun i=>([e0,e1,e2,e3,e4,e5,e6,e7,e8,e9,e10]:List Addr).getD i 0) cM:=⟨MG aM,xm,xc0,xc1,xc2,xc3⟩;have EFR:=XL.fl (j:=1) y1 (by decide) rfl qn qt;have Fin:=fun_mk (st:=BM) lin cin kin;have Fst:=fun_mk (st:=CQ) lst cst kst;have e:=hfa.symm.trans (MG ala);cases e;have Fla:FunC K "law" "law" DN fz (fO "law" "law" DN .none kVla dcla pmla anla (.ref c) ctla) c:=⟨⟨_,_,_,_,_,_,_,_,rfl,lla,cla⟩⟩;have Fei:FunD K "__init__" "MarkError.__init__" A7 fei _:=⟨⟨_,_,_,_,_,_,_,_,_,_,rfl,lei,cei⟩⟩;obtain ⟨fwh,dwh,awh,Fwh⟩:=hwh;have bwh:=bi1 (p1 := "thing") Fwh fun _ _ _ _ _ _ _=>rfl;obtain ⟨fnm,dnm,anm,Fnm⟩:=hnm;have bnm:=bi1 (p1 := "thing") Fnm fun _ _ _ _ _ _ _=>rfl;obtain ⟨fuo,duo,auo,Fuo⟩:=huo;have buo:=bi1 (p1 := "numbers") Fuo fun _ _ _ _ _ _ _=>rfl;obtain ⟨fnx,dnx,anx,Fnx⟩:=hnx;have bnx:=bi1 (p1 := "numbers") Fnx fun _ _ _ _ _ _ _=>rfl;obtain ⟨foo,doo,aoo,Foo⟩:=hoo;have boo:=bi2 (p1 := "thing") (p2 := "names") Foo fun _ _ _ _ _ _ _ _=>rfl;obtain ⟨fno,dno,ano,Fno⟩:=hno;have bno:=bi2 (p1 := "parts") (p2 := "ahead") Fno fun _ _ _ _ _ _ _ _=>rfl;obtain ⟨fth,dth,ath,Fth⟩:=hth;have bth:=bi2 (p1 := "thing") (p2 := "ahead") Fth fun _ _ _ _ _ _ _ _=>rfl;obtain ⟨fro,dro,aro,Fro⟩:=hro;have bro:=bi2 (p1 := "row") (p2 := "ahead") Fro fun _ _ _ _ _ _ _ _=>rfl;obtain ⟨fnb,dnb,anb,Fnb⟩:=hnb;have bnb:=bi1 (p1 := "rows") Fnb fun _ _ _ _ _ _ _=>rfl;obtain ⟨ffi,dfi,afi,Ffi⟩:=hfi;have bfi:=bi1 (p1 := "numbers") Ffi fun _ _ _ _ _ _ _=>rfl;obtain ⟨fim,dim,aim,Fim⟩:=him;have bim:=bi1 (p1 := "number") Fim fun _ _ _ _ _ _ _=>rfl;obtain ⟨fmR,dmR,amR,imR,omR,FmR⟩:=hmR;have bmR:=bi1 (p1 := "self") FmR fun _ _ _ _ _ _ _=>rfl;obtain ⟨fmK,dmK,amK,imK,omK,FmK⟩:=hmK;have bmK:=bi1 (p1 := "self") FmK fun _ _ _ _ _ _ _=>rfl;obtain ⟨fmT,dmT,amT,imT,omT,FmT⟩:=hmT;have bmT:=bi1 (p1 := "self") FmT fun _ _ _ _ _ _ _=>rfl;obtain ⟨fmM,dmM,amM,imM,omM,FmM⟩:=hmM;have bmM:=bi1 (p1 := "self") FmM fun _ _ _ _ _ _ _=>rfl;obtain ⟨fmE,dmE,amE,imE,omE,FmE⟩:=hmE;have bmE:=bi2 (p1 := "self") (p2 := "other") FmE fun _ _ _ _ _ _ _ _=>rfl;obtain ⟨flc,dlc,alc,Flc⟩:=hlc;have blc:=bi2 (p1 := "_law_script") (p2 := "_law_k") Flc fun _ _ _ _ _ _ _ _=>rfl;obtain ⟨fld,dld,ald,Fld⟩:=hld;have bld:=bi2 (p1 := "_law_cell_here") (p2 := "_law_k") Fld fun _ _ _ _ _ _ _ _=>rfl;obtain ⟨flr,dlr,alr,Flr⟩:=hlr;have blr:=bi2 (p1 := "_law_dice") (p2 := "_law_many") Flr fun _ _ _ _ _ _ _ _=>rfl;obtain ⟨fls,dls,als,Fls⟩:=hls;have bls:=bi2 (p1 := "_law_script") (p2 := "_law_most") Fls fun _ _ _ _ _ _ _ _=>rfl;obtain ⟨fll,dll,all,Fll⟩:=hll;have bll:=bi2 (p1 := "_law_dice") (p2 := "_law_most") Fll fun _ _ _ _ _ _ _ _=>rfl;obtain ⟨fxn,dxn,axn,Fxn⟩:=hxn;have bxn:=bi1 (p1 := "thing") Fxn fun _ _ _ _ _ _ _=>rfl;obtain ⟨fxr,dxr,axr,Fxr⟩:=hxr;have bxr:=bi2 (p1 := "kind") (p2 := "number") Fxr fun _ _ _ _ _ _ _ _=>rfl;obtain ⟨fxi,dxi,axi,ixi,oxi,Fxi⟩:=hxi;have bxi:=bi3 (p1 := "self") (p2 := "kind") (p3 := "number") Fxi fun _ _ _ _ _ _ _ _ _=>rfl;obtain ⟨fxN,dxN,axN,ixN,oxN,FxN⟩:=hxN;have bxN:=bi1 (p1 := "self") FxN fun _ _ _ _ _ _ _=>rfl;obtain ⟨fxK,dxK,axK,ixK,oxK,FxK⟩:=hxK;have bxK:=bi1 (p1 := "self") FxK fun _ _ _ _ _ _ _=>rfl;obtain ⟨fxE,dxE,axE,ixE,oxE,FxE⟩:=hxE;have bxE:=bi2 (p1 := "self") (p2 := "other") FxE fun _ _ _ _ _ _ _ _=>rfl;obtain ⟨fmN,dmN,amN,imN,omN,FmN⟩:=hmN;have bmN:=bi2 (p1 := "self") (p2 := "name") FmN fun _ _ _ _ _ _ _ _=>rfl;obtain ⟨flb,dlb,alb,Flb⟩:=hlb;have blb:=bi1 (p1 := "_law_number") Flb fun _ _ _ _ _ _ _=>rfl;obtain ⟨flu,dlu,alu,Flu⟩:=hlu;have blu:=bi1 (p1 := "_law_dice") Flu fun _ _ _ _ _ _ _=>rfl;obtain ⟨flt,dlt,alt,Flt⟩:=hlt;have blt:=bi1 (p1 := "_law_due") Flt fun _ _ _ _ _ _ _=>rfl;obtain ⟨flm,dlm,alm,Flm⟩:=hlm;have blm:=bi3 (p1 := "_law_table") (p2 := "_law_way") (p3 := "_law_number") Flm fun _ _ _ _ _ _ _ _ _=>rfl;obtain ⟨flh,dlh,alh,Flh⟩:=hlh;have blh:=bi1 (p1 := "_law_thing") Flh fun _ _ _ _ _ _ _=>rfl;obtain ⟨fxT,dxT,axT,FxT⟩:=hxT;have bxT:=bi1 (p1 := "one") FxT fun _ _ _ _ _ _ _=>rfl;obtain ⟨fgl,dgl,agl,Fgl⟩:=hgl;have bgl:=bi1 (p1 := "thing") Fgl fun _ _ _ _ _ _ _=>rfl;obtain ⟨fgf,dgf,agf,Fgf⟩:=hgf;have bgf:=bi1 (p1 := "text") Fgf fun _ _ _ _ _ _ _=>rfl;obtain ⟨fgp,dgp,agp,Fgp⟩:=hgp;have bgp:=bi2 (p1 := "text") (p2 := "lettered") Fgp fun _ _ _ _ _ _ _ _=>rfl;obtain ⟨fge,dge,age,Fge⟩:=hge;have bge:=bi3 (p1 := "text") (p2 := "at") (p3 := "lettered") Fge fun _ _ _ _ _ _ _ _ _=>rfl;obtain ⟨fdS,ddS,adS,idS,odS,FdS⟩:=hdS;have bdS:=bi2 (p1 := "self") (p2 := "binding") FdS fun _ _ _ _ _ _ _ _=>rfl;obtain ⟨fdP,ddP,adP,idP,odP,FdP⟩:=hdP;have bdP:=bi2 (p1 := "self") (p2 := "part") FdP fun _ _ _ _ _ _ _ _=>rfl;obtain ⟨fdB,ddB,adB,idB,odB,FdB⟩:=hdB;have bdB:=bi2 (p1 := "self") (p2 := "sign") FdB fun _ _ _ _ _ _ _ _=>rfl;obtain ⟨fdA,ddA,adA,idA,odA,FdA⟩:=hdA;have bdA:=bi2 (p1 := "self") (p2 := "sign") FdA fun _ _ _ _ _ _ _ _=>rfl;obtain ⟨fdC,ddC,adC,idC,odC,FdC⟩:=hdC;have bdC:=bi1 (p1 := "self") FdC fun _ _ _ _ _ _ _=>rfl;obtain ⟨fdG,ddG,adG,idG,odG,FdG⟩:=hdG;have bdG:=bi2 (p1 := "self") (p2 := "sign") FdG fun _ _ _ _ _ _ _ _=>rfl;obtain ⟨fdN,ddN,adN,idN,odN,FdN⟩:=hdN;have bdN:=bi1 (p1 := "self") FdN fun _ _ _ _ _ _ _=>rfl;obtain ⟨fgj,dgj,agj,Fgj⟩:=hgj;have bgj:=bi3 (p1 := "sign") (p2 := "one") (p3 := "other") Fgj fun _ _ _ _ _ _ _ _ _=>rfl;obtain ⟨fgn,dgn,agn,Fgn⟩:=hgn;have bgn:=bi3 (p1 := "kind") (p2 := "part") (p3 := "table") Fgn fun _ _ _ _ _ _ _ _ _=>rfl;obtain ⟨fgo,dgo,ago,Fgo⟩:=hgo;have bgo:=bi3 (p1 := "kind") (p2 := "steps") (p3 := "table") Fgo fun _ _ _ _ _ _ _ _ _=>rfl;obtain ⟨fdI,ddI,adI,idI,odI,FdI⟩:=hdI;have bdI:=bi1 (p1 := "self") FdI fun _ _ _ _ _ _ _=>rfl;obtain ⟨frd,drd,ard,Frd⟩:=hrd;have brd:=bi2 (p1 := "kind") (p2 := "text") Frd fun _ _ _ _ _ _ _ _=>rfl;obtain ⟨fmd,dmd,amd,Fmd⟩:=hmd;have bmd:=bi2 (p1 := "kind") (p2 := "number") Fmd fun _ _ _ _ _ _ _ _=>rfl;obtain ⟨fri,dri,ari,iri,ori,Fri⟩:=hri;have bri:=bi2 (p1 := "self") (p2 := "bits") Fri fun _ _ _ _ _ _ _ _=>rfl;obtain ⟨fle,dle,ale,Fle⟩:=hle;have ble:=bi4 (p1 := "_law_dice") (p2 := "_law_words") (p3 := "_law_signs") (p4 := "_law_deep") Fle fun _ _ _ _ _ _ _ _ _ _=>rfl;obtain ⟨flp,dlp,alp,Flp⟩:=hlp;have blp:=bi3 (p1 := "_law_dice") (p2 := "_law_tree_here") (p3 := "_law_rank") Flp fun _ _ _ _ _ _ _ _ _=>rfl;obtain ⟨flq,dlq,alq,Flq⟩:=hlq;have blq:=bi4 (p1 := "_law_tree_here") (p2 := "_law_numbers") (p3 := "_law_known") (p4 := "_law_letters_to") Flq fun _ _ _ _ _ _ _ _ _ _=>rfl;obtain ⟨flf,dlf,alf,Flf⟩:=hlf;have blf:=bi3 (p1 := "_law_dice") (p2 := "_law_words") (p3 := "_law_signs") Flf fun _ _ _ _ _ _ _ _ _=>rfl;obtain ⟨flw,dlw,alw,Flw⟩:=hlw;have blw:=bi1 (p1 := "_law_e") Flw fun _ _ _ _ _ _ _=>rfl;obtain ⟨flo,dlo,alo,Flo⟩:=hlo;have blo:=bi1 (p1 := "_law_deed") Flo fun _ _ _ _ _ _ _=>rfl;refine ⟨fO "law" "law" DN .none kVla dcla pmla anla (.ref c) ctla,fun s v=>.of_eq rfl,fun base _ _ hC hBu=>?_⟩;have FT:=@fnT l.prog w K mg base;have MT:=@mtT l.prog w K mg base;have Gwh:=FT (sp:=spIsWhole) Fwh (K7 Fwh B) (MG awh) bwh;have Gnm:=FT (sp:=spIsName) Fnm (NG Fnm B hL) (MG anm) bnm;have Guo:=FT (sp:=(spUnionOf K)) Fuo (K2 Fuo) (MG auo) buo;have Gnx:=FT (sp:=(spNextMark K)) Fnx (Jm Fnx B) (MG anx) bnx;have Goo:=FT (sp:=(Cu K)) Foo (K6 Foo B) (MG aoo) boo;have Gno:=FT (sp:=spIsNamesOf) Fno (Ix Fno B Goo) (MG ano) bno;have Gth:=FT (sp:=spThing) Fth (Ov Fth B Gnx Gno Guo Gwh) (MG ath) bth;have Gro:=FT (sp:=spRow) Fro (SN Fro B hG Gnm Gth) (MG aro) bro;have Gnb:=FT (sp:=spNumbered) Fnb (Jo Fnb B hM Gro) (MG anb) bnb;have Gfi:=FT (sp:=spFirsts) Ffi (NN Ffi) (MG afi) bfi;have Gim:=FT (sp:=spIsMark) Fim (NF Fim) (MG aim) bim;have GmR:=MT (sp:=(spRows C)) amR imR FmR (Qb FmR B T) bmR;have GmK:=MT (sp:=(spKnown C)) amK imK FmK (Oz FmK B T Guo) bmK;have GmT:=MT (sp:=(spRest C)) amT imT FmT (Qk FmT T) bmT;have GmM:=MT (sp:=(spMarks C)) amM imM FmM (O0 FmM B T Gim) bmM;have GmE:=MT (sp:=(spEqK C)) amE imE FmE (Sc FmE B T KI mCg GmR) bmE;have Glc:=FT (sp:=(spCell K)) Flc (Qe Flc B) (MG alc) blc;have Gld:=FT (sp:=spDrawn) Fld (O2 Fld) (MG ald) bld;have Glr:=FT (sp:=spRoll) Flr (Qf Flr Gld) (MG alr) blr;have Gls:=FT (sp:=(spRounds K)) Fls (NQ Fls B Glc) (MG als) bls;have Gll:=FT (sp:=spLines) Fll (O8 Fll B Glr) (MG all) bll;have Gxn:=FT (sp:=spIsNumber) Fxn (Jx Fxn hLi Gwh) (MG axn) bxn;have Gxr:=FT (sp:=(spRestOf C)) Fxr (NY Fxr T GmK) (MG axr) bxr;have Gxi:=MT (sp:=(spVInit C VC)) axi ixi Fxi (Jy Fxi T VT Gxn Gxr GmT) bxi;have GxN:=MT (sp:=(spVNumber VC)) axN ixN FxN (LH FxN VT) bxN;have GxK:=MT (sp:=(spVKind VC)) axK ixK FxK (PL FxK VT) bxK;have GxE:=MT (sp:=(spVEq C VC)) axE ixE FxE (Sf FxE B T VT VI vI mVg GmE) bxE;obtain ⟨fE0,dE0,gE0,mE0,bE0⟩:=GxE.ex;have VO:MH l.prog w K mg base C VC:=⟨VT,mVg,⟨_,_,⟨fVC.mz,axi,ixi,fVC.kc⟩,Jy Fxi T VT Gxn Gxr GmT,bxi⟩,⟨_,_,gE0,mE0,bE0⟩,VI,fVC.ne,fVC.qi⟩;have GmN:=MT (sp:=(spNumber C)) amN imN FmN (NV FmN T Goo) bmN;have Glb:=FT (sp:=spBitsOf) Flb (NR Flb B) (MG alb) blb;have Glu:=FT (sp:=spRuleOf) Flu (NP Flu Glr) (MG alu) blu;have Glt:=FT (sp:=spTable) Flt (PD Flt B Glb) (MG alt) blt;have Glm:=FT (sp:=spLMade) Flm (PV Flm) (MG alm) blm;have Glh:=FT (sp:=(JA VC)) Flh (PX Flh B VT VI mVg vI vT GxN) (MG alh) blh;have GxT:=FT (sp:=(spTurned C VC)) FxT (Ni FxT T VO GxN GxK GmK) (MG axT) bxT;have Ggl:=FT (sp:=spLet) Fgl (Sk Fgl B) (MG agl) bgl;have Ggf:=FT (sp:=spFig) Fgf (Sj Fgf B Gxn) (MG agf) bgf;have Ggp:=FT (sp:=spPart) Fgp (Qs Fgp Gnm Ggf) (MG agp) bgp;have Gge:=FT (sp:=spPE) Fge (Qt Fge B Ggp) (MG age) bge;have GdS:=MT (sp:=(spSet DC bd)) adS idS FdS (Sr FdS B DT (MG vBD)) bdS;have GdP:=MT (sp:=(spTP DC)) adP idP FdP (Tq FdP DT) bdP;have GdB:=MT (sp:=(spTB DC bd)) adB idB FdB (Tw FdB DT (MG vBD) (MG vJN) jT GdS) bdB;have GdA:=MT (sp:=(spTA DC)) adA idA FdA (Tx FdA DT) bdA;have GdC:=MT (sp:=(spTC DC bd)) adC idC FdC (Ty FdC B DT (MG vLB) GdS) bdC;have GdG:=MT (sp:=(spTS DC bd)) adG idG FdG (Tz FdG DT GdB GdA GdC) bdG;have GdN:=MT (sp:=(spEnds DC bd)) adN idN FdN (Qw FdN B DT (MG vLB) GdS) bdN;have Ggj:=FT (sp:=spJn) Fgj (T5 Fgj) (MG agj) bgj;have Ggn:=FT (sp:=(spPN C)) Fgn (T6 Fgn B T Ggl Gnm GmN) (MG agn) bgn;have Ggo:=FT (sp:=(spNo C)) Fgo (T7 Fgo T (MG vJN) jT GmK Ggj Ggn) (MG ago) bgo;have GW:FnS l.prog w K mg base "_law_word" 1 ["_law_e"] (Co K (fun i=>([e0,e1,e2,e3,e4,e5,e6,e7,e8,e9,e10]:List Addr).getD i 0)):=⟨⟨_,_,Qn Flw B M,MG alw,Flw.kp,blw⟩⟩;have KO:Po l.prog w K mg base C:=⟨T,mCg,⟨_,_,⟨fC.mz,ain,iin,fC.kc⟩,QZ Fin B T hR rT Gnb Gfi Goo,⟨_,Q7⟩,_,S6 kdo kdr,.cons ⟨_,rfl⟩ .nil⟩⟩;have ME:Tn l.prog w K mg base cM:=⟨MG aM,xmg,xmr,⟨_,_,xmf,LI Fei (MN z_VE),kei,UG dtl⟩⟩;have RO:PR l.prog w K mg base cM e1:=⟨MG aX1,⟨_,_,⟨xc1,ari,iri,ori,y1.F.ke⟩,J3 Fri ME,bri⟩,Q8 y1.s y1.gn y1.gs⟩;have RD:T3 l.prog w K mg base DC bd:=⟨DT,MG aDC,⟨_,_,⟨fDC.mz,adI,idI,fDC.kc⟩,So FdI DT,bdI⟩,GdP,GdG,GdN⟩;have SO:T8 l.prog w K mg base DC bd:=⟨⟨_,_,T4 Fst B RD Gge,MG ast,kst,_,Pq⟩⟩;have Gmd:FnR l.prog w K mg base "made" 6 ["kind", "number"] (spMade C VC e1):=⟨⟨_,_,Qq Fmd hLi T VO RO Gwh Gxr GmT GmK,MG amd,Fmd.kp,bmd⟩⟩;have Grd:FnR l.prog w K mg base "read" 7 ["kind", "text"] (spRead C VC e1 bd):=⟨⟨_,_,Qy Frd SO Ggo Gmd,MG ard,Frd.kp,brd⟩⟩;have Gle:Fn l.prog w K mg base "_law_tree" 6 HB (spTree 3):=⟨⟨_,_,MW Fle B (MG ale) ble Glr 3,MG ale,Fle.kp,ble⟩⟩;have Glp:Fn l.prog w K mg base "_law_written" 6 LV (spWrt 3):=⟨⟨_,_,Pi Flp B (MG alp) blp Glr 3,MG alp,Flp.kp,blp⟩⟩;have Glq:Fn l.prog w K mg base "_law_come" 5 HC (spCome 3):=⟨⟨_,_,Mb Flq (MG alq) blq 3,MG alq,Flq.kp,blq⟩⟩;have Glf:Fn l.prog w K mg base "_law_formula" 7 MZ spForm:=⟨⟨_,_,Q4 Flf B Gle Glp,MG alf,Flf.kp,blf⟩⟩;exact S5 Fla Flo (MG alo) blo hC hBu B KO VO M EX GW rfl EFR vI vT Gls Gll Glu Glt Glf Glq Glm Glh Grd Gmd GxT
theorem walk {l:OpenLaw} {q:Program} {loose:List Str} {XP:(Str->Option Value)->Heap->Prop} {YP:World->Heap->Prop} {d:DefRec} {K:Params->Frag} {c P0 bd:Addr} {dl:List DcE} {ep:Nat} (hn:l.most=some 63) (hdf:d.params.defaults=[]) (hb5:5 <= bd) (hdl:dl.length <= 1000) (hdn:(dl.map (·.1)).Nodup) (he:dcK dl=Cf)
  (hY:∀ (w:World) (h:Heap),YP w h->(K w.params).In h/\h.get? P0=some (tabObj #[])/\(K w.params).lookup P0=none/\CodeHd h c P0/\h.get? bd=some (dcObj w.params dl ep)/\(K w.params).lookup bd=none)
  (F:∀ (w:World) (mg:SV) (fa:Addr) (h:Heap),(K w.params).In h->h.Ns mainGlobals mg->mg d.name=some (.ref fa) ->
   ∃ fd:FuncData,(∀ (s:Shared) (u:Value),BindsTo s fd ⟨[u],[]⟩ [("_law_script", u)])/\∀ base:Heap,(K w.params).In base->base.Ns mainGlobals mg->CodeHd base c P0->base.BuiltinsAt mg P0->AX l.prog w (K w.params) mg base CX0 10 fa fd ["_law_script"] (Md (K w.params) P0 bd)) :
  WalkO q loose XP YP l.row.toRowW d [] (fun f vs=>PySem.call f vs) :=
 L2.ND (n:=63) (k:=10) (x := "_law_script") (CX:=fun _=>CX0) (sp:=fun w=>Md (K w.params) P0 bd) hn (by decide) hdf ⟨rfl,by decide,by decide⟩ hb5 hdl hdn hY F
  (fun _ _ a ns hl hP hB hS=>⟨a,ns,rfl,hS,hl,⟨#[],hP,trivial,fun _ _=>.inl rfl⟩,he ▸ hB,fun _=>rfl⟩) fun _ _ _ _ _ z=>z
end Mk
end
section
namespace Hd
open PySem PySem.W PySem.Calls PyProof.Rows
def runT (tb : String -> Option Builtin) (p : Program) (w : World) (n₀ : Nat) (ann : Option Value) : Nat -> SharedT -> Thread -> Option SharedT
  | 0,_,_=>none
  | n + 1,s,t=>match through t with
    | true=>some s
    | false=>match stepOk n₀ ann t with
      | false=>none
      | true=>match stepT (denote tb) p w s t with
        | some (s',t')=>runT tb p w n₀ ann n s' t'
        | none=>none
theorem runT_of {tb : String -> Option Builtin} {p : Program} {w : World} {n₀ : Nat} {ann : Option Value} : ∀ {n : Nat} {s s' : SharedT} {t : Thread},runT tb p w n₀ ann n s t = some s' -> topRun tb p w n₀ ann n s.abs t = some s'.abs
  | 0,_,_,_,h=>by cases h
  | n + 1,s,s',t,h=>by
    unfold runT at h
    unfold topRun
    cases ht : through t with
    | true=>rw [ht] at h; cases h; rfl
    | false =>
      rw [ht] at h
      cases hk : stepOk n₀ ann t with
      | false=>rw [hk] at h; cases h
      | true =>
        rw [hk] at h
        cases hs : stepT (denote tb) p w s t with
        | none=>rw [hs] at h; cases h
        | some r=>obtain ⟨s₂,t₂⟩:=r; rw [hs] at h; rw [stepT_spec hs]; exact runT_of h
def looksAt (p q : Program) (loose : List Str) (Xt : Shared -> Bool) (as : List Addr) (h₀ : Heap) (s : Shared) :=
  (staticsOk (importedModules p.main.body) h₀ s.heap && namesBound p s.heap && gensDone s && laidKept h₀ s.heap,openSeen q loose (importedModules p.main.body) Xt true s,as.map s.heap.get?)
theorem left_of {p q : Program} {loose : List Str} {Xt : Shared -> Bool} {as : List Addr} {K : Params -> Frag} {N M m₀ : Nat} {ann : Option Value} {T0 : Params -> BT} {life : Life}
    (open_ : ∀ w : World,(fencedOpening treeTable p w N).map (fun s=>(s.heap,s.gens,s.drawn,s.toks)) = some (boot_heap w.params,#[],boot_drawn,boot_toks))
    (tree : ∀ P : Params,absHeap (T0 P) m₀ life = boot_heap P)
    (size : ∀ w : World,((boot_heap w.params).isNs mainGlobals,(boot_heap w.params).objs.size,(boot_heap w.params).nsMap mainGlobals "__annotations__") = (true,m₀,ann))
    (le : Nat.ble M N = true)
    (run : ∀ (w : World) (os : OsState),(runT treeTable p w m₀ ann M ⟨T0 w.params,m₀,life,#[],boot_drawn,boot_toks,os⟩ (topStub p)).map (fun s=>looksAt p q loose Xt as (boot_heap w.params) s.abs) = some (true,openGood q loose,(K w.params).map fun x=>some x.2)) :
    LeftO p q loose Xt (fun s=>as.map s.heap.get?) (fun w=>(K w.params).map fun x=>some x.2) N:=fun w=>by
  obtain ⟨⟨h,gs,d,k,os⟩,e,e'⟩:=Option.map_eq_some_iff.mp (open_ w)
  obtain ⟨rfl,rfl,rfl,rfl⟩ : h = boot_heap w.params /\ gs = #[] /\ d = boot_drawn /\ k = boot_toks:=by simpa using e'
  obtain ⟨z1,z2,z3⟩ : _ /\ _ /\ _:=by simpa only [Prod.mk.injEq] using size w
  obtain ⟨sT,r1,r2⟩:=Option.map_eq_some_iff.mp (run w os)
  have r3:=runT_of r1
  have r4 : topRun treeTable p w m₀ ann M ⟨boot_heap w.params,#[],boot_drawn,boot_toks,os⟩ (topStub p) = some sT.abs:=by
    rw [← tree w.params]
    exact r3
  have r:=topRun_mono (N - M) _ _ _ _ r4
  rw [show M + (N - M) = N by have:=Nat.le_of_ble_eq_true le; omega] at r
  unfold looksAt at r2
  obtain ⟨l1,l2,l3⟩ : _ /\ _ /\ _:=by simpa only [Prod.mk.injEq] using r2
  have t : topFrom treeTable p w N ⟨boot_heap w.params,#[],boot_drawn,boot_toks,os⟩ = some sT.abs:=by
    unfold topFrom
    dsimp only
    rw [z1,z2,z3,r]
    show (match staticsOk (importedModules p.main.body) (boot_heap w.params) sT.abs.heap && namesBound p sT.abs.heap && gensDone sT.abs && laidKept (boot_heap w.params) sT.abs.heap with | true=>_ | false=>_) = _
    rw [l1]
  unfold openEnds
  rw [e]
  show (topFrom treeTable p w N _).map _ = _
  rw [t]
  exact congrArg some (Prod.ext l2 l3)
end Hd
end
noncomputable section
open PySem PySem.W PySem.Calls PyProof.Rows
abbrev Mk.fS (x q : Str) (s : Stmt) (dV kV doc pm : Value) (an : Option Addr) (cd ct : Value) : FuncData:=fnOf x q (L2.defArgs s) (L2.defBody s) (L2.defScope s) dV kV doc pm an cd ct
abbrev Mk.cO (x : Str) (a : Nat) (q : Str) (b c : Nat) (d e f g h : Int) (i j l m n : Nat) (o p : Int) (r : Nat) : Obj:=⟨.type "code", none,.fields #[.str x a,.str q b,.str "/claim/cut.py" c,.int d 0,.int e 0,.int f 0,.int g 0,.int h 0,.ref i,.bool true,.int 181 0,.ref j,.none,.ref l,.ref m,.ref n,.int o 0,.int p 0,.str "/claim/cut.py" r],#[]⟩
abbrev Mk.dE (P : PySem.Params) (x : Str) (t : Nat) (v : Value) : DictEntry:=⟨PyData.keyHash P x,.str x t,v⟩
abbrev Mk.fN (x q : Str) (s : Stmt) (m : Str) (t c : Nat) : Obj:=⟨.type "function", none,.func (Mk.fS x q s .none .none .none (.str m t) none (.ref c) .none),#[]⟩
abbrev Mk.eC (x : Str) (a b c d e f : Nat) : Obj:=⟨.type "type", none,.cls ⟨x,[.ref a],[.ref b,.ref a,.type "ValueError", .type "Exception", .type "BaseException", .type "object"],c,x,true,[],[],false,none,false⟩,#[some (.ref d),none,some (.str x e),some (.str x f),some (.builtin "ValueError.__new__"),some (.bool true)]⟩
noncomputable def Mk.Kg (P : PySem.Params) : PySem.W.Frag :=
 (nat_lit 2,⟨.none,none,(.dict #[] 0),#[]⟩) ::
 (nat_lit 3,⟨(.type "dict"),none,(.dict #[Mk.dE P "__name__" 165 (.str "law_markworks_k31_whole_formulas_read" 940),Mk.dE P "__doc__" 166 .none,Mk.dE P "__package__" 167 .none,Mk.dE P "__loader__" 168 (.builtin "__main__.__loader__#opaque"),Mk.dE P "__spec__" 169 .none,Mk.dE P "__annotations__" 170 (.ref 6),Mk.dE P "__builtins__" 171 (.ref 4),Mk.dE P "__file__" 173 (.str "/claim/cut.py" 172),Mk.dE P "__cached__" 174 .none,Mk.dE P "MarkError" 215 (.ref 32),Mk.dE P "BadRows" 240 (.ref 52),Mk.dE P "BadRule" 256 (.ref 64),Mk.dE P "BadName" 272 (.ref 76),Mk.dE P "BadNumber" 288 (.ref 88),Mk.dE P "BadRest" 313 (.ref 107),Mk.dE P "Unlike" 329 (.ref 119),Mk.dE P "BadText" 354 (.ref 138),Mk.dE P "BadPairs" 370 (.ref 150),Mk.dE P "Never" 386 (.ref 162),Mk.dE P "Unled" 411 (.ref 181),Mk.dE P "Nothing" 427 (.ref 193),Mk.dE P "GREATEST" 435 (.int 1048575 434),Mk.dE P "MOST_ROWS" 437 (.int 10 436),Mk.dE P "LONGEST_NAME" 439 (.int 6 438),Mk.dE P "RULES" 444 (.ref 196),Mk.dE P "is_whole" 451 (.ref 203),Mk.dE P "is_name" 457 (.ref 208),Mk.dE P "is_mark" 464 (.ref 215),Mk.dE P "union_of" 473 (.ref 222),Mk.dE P "is_one_of" 481 (.ref 229),Mk.dE P "mark_bits" 487 (.ref 234),Mk.dE P "next_mark" 494 (.ref 241),Mk.dE P "is_names_of" 500 (.ref 246),Mk.dE P "thing_number" 506 (.ref 251),Mk.dE P "row_number" 517 (.ref 258),Mk.dE P "numbered" 528 (.ref 265),Mk.dE P "first_names" 538 (.ref 272),Mk.dE P "Kind" 636 (.ref 349),Mk.dE P "LIMIT" 642 (.int 1099511627776 641),Mk.dE P "is_number" 649 (.ref 360),Mk.dE P "rest_of" 657 (.ref 367),Mk.dE P "Value" 731 (.ref 424),Mk.dE P "made" 741 (.ref 435),Mk.dE P "turned" 748 (.ref 442),Mk.dE P "JOINING" 754 (.ref 443),Mk.dE P "BINDING" 770 (.ref 444),Mk.dE P "LEAST_BINDING" 772 (.int 1 771),Mk.dE P "is_letter" 779 (.ref 451),Mk.dE P "is_figures" 785 (.ref 456),Mk.dE P "is_part" 793 (.ref 463),Mk.dE P "part_end" 803 (.ref 470),Mk.dE P "Reading" 887 (.ref 536),Mk.dE P "steps_of" 899 (.ref 548),Mk.dE P "joined" 908 (.ref 555),Mk.dE P "part_number" 917 (.ref 562),Mk.dE P "number_of" 929 (.ref 569),Mk.dE P "read" 939 (.ref 576),Mk.dE P "_law_cell" 949 (.ref 583),Mk.dE P "_law_drawn" 958 (.ref 590),Mk.dE P "_law_roll" 967 (.ref 597),Mk.dE P "_law_rounds" 973 (.ref 602),Mk.dE P "_law_word" 979 (.ref 607),Mk.dE P "_law_told" 987 (.ref 614),Mk.dE P "_law_bits_of" 993 (.ref 619),Mk.dE P "_law_rule_of" 1000 (.ref 626),Mk.dE P "_law_lines" 1006 (.ref 631),Mk.dE P "_law_table_of" 1012 (.ref 636),Mk.dE P "_law_made" 1023 (.ref 643),Mk.dE P "_law_shown" 1030 (.ref 650),Mk.dE P "_law_tree" 1042 (.ref 657),Mk.dE P "_law_written" 1054 (.ref 664),Mk.dE P "_law_come" 1066 (.ref 671),Mk.dE P "_law_formula" 1077 (.ref 678),Mk.dE P "law" 1083 (.ref 683)] 74),#[]⟩) ::
 (nat_lit 22,⟨(.type "tuple"),none,(.seq #[(.str "" 201)] 0),#[]⟩) ::
 (nat_lit 28,Mk.cO "__init__" 202 "MarkError.__init__" 203 204 4 2 0 0 3 23 24 25 26 27 207 4 208) ::
 (nat_lit 29,⟨(.type "function"),none,(.func (Mk.fS "__init__" "MarkError.__init__" (L2.inClass (Mk.top 1) 0) (.ref 22) .none .none (.str "markworks.errors" 187) none (.ref 28) .none)),#[]⟩) ::
 (nat_lit 31,⟨(.type "dict"),none,(.dict #[Mk.dE P "__module__" 196 (.str "markworks.errors" 187),Mk.dE P "__firstlineno__" 200 (.int 2 199),Mk.dE P "__init__" 209 (.ref 29),Mk.dE P "__static_attributes__" 210 (.ref 30),Mk.dE P "__weakref__" 212 (.ref 33),Mk.dE P "__doc__" 213 .none] 3),#[]⟩) ::
 (nat_lit 32,⟨(.type "type"),none,(.cls ⟨"MarkError", [(.type "ValueError")],[(.ref 32),(.type "ValueError"),(.type "Exception"),(.type "BaseException"),(.type "object")],31, "MarkError", true,[],[(.ref 52),(.ref 64),(.ref 76),(.ref 88),(.ref 107),(.ref 119),(.ref 138),(.ref 150),(.ref 162),(.ref 181),(.ref 193)],false,none,false⟩),#[(some (.ref 15)),none,(some (.str "MarkError" 189)),(some (.str "MarkError" 197)),(some (.builtin "ValueError.__new__")),(some (.bool true))]⟩) ::
 (nat_lit 52,Mk.eC "BadRows" 32 52 51 36 216 224) ::
 (nat_lit 64,Mk.eC "BadRule" 32 64 63 55 241 249) ::
 (nat_lit 76,Mk.eC "BadName" 32 76 75 67 257 265) ::
 (nat_lit 88,Mk.eC "BadNumber" 32 88 87 79 273 281) ::
 (nat_lit 103,Mk.cO "__init__" 301 "BadRest.__init__" 302 303 19 2 0 0 3 98 99 100 101 102 306 19 307) ::
 (nat_lit 104,Mk.fN "__init__" "BadRest.__init__" (L2.inClass (Mk.top 6) 0) "markworks.errors" 187 103) ::
 (nat_lit 106,⟨(.type "dict"),none,(.dict #[Mk.dE P "__module__" 296 (.str "markworks.errors" 187),Mk.dE P "__firstlineno__" 300 (.int 17 299),Mk.dE P "__init__" 308 (.ref 104),Mk.dE P "__static_attributes__" 310 (.ref 105),Mk.dE P "__doc__" 311 .none] 2),#[]⟩) ::
 (nat_lit 107,Mk.eC "BadRest" 32 107 106 91 289 297) ::
 (nat_lit 119,Mk.eC "Unlike" 32 119 118 110 314 322) ::
 (nat_lit 138,Mk.eC "BadText" 32 138 137 122 330 338) ::
 (nat_lit 150,Mk.eC "BadPairs" 32 150 149 141 355 363) ::
 (nat_lit 162,Mk.eC "Never" 32 162 161 153 371 379) ::
 (nat_lit 181,Mk.eC "Unled" 32 181 180 165 387 395) ::
 (nat_lit 193,Mk.eC "Nothing" 32 193 192 184 412 420) ::
 (nat_lit 196,⟨(.type "tuple"),none,(.seq #[(.str "bar" 440),(.str "drop" 441),(.str "keep" 442),(.str "leave" 443)] 0),#[]⟩) ::
 (nat_lit 202,Mk.cO "is_whole" 445 "is_whole" 446 447 45 1 0 0 3 197 198 199 200 201 449 45 450) ::
 (nat_lit 203,Mk.fN "is_whole" "is_whole" (Mk.top 18) "markworks.kinds" 428 202) ::
 (nat_lit 207,⟨(.type "code"),none,(.fields #[(.str "is_name" 452),(.str "is_name" 453),(.str "/claim/cut.py" 454),(.int 47 0),(.int 1 0),(.int 0 0),(.int 0 0),(.int 3 0),(.ref 204),(.bool true),(.int 181 0),(.ref 205),.none,.none,.none,(.ref 206),(.int 455 0),(.int 47 0),(.str "/claim/cut.py" 456)]),#[]⟩) ::
 (nat_lit 208,Mk.fN "is_name" "is_name" (Mk.top 19) "markworks.kinds" 428 207) ::
 (nat_lit 214,Mk.cO "is_mark" 458 "is_mark" 459 460 51 1 0 0 3 209 210 211 212 213 462 51 463) ::
 (nat_lit 215,Mk.fN "is_mark" "is_mark" (Mk.top 20) "markworks.kinds" 428 214) ::
 (nat_lit 221,Mk.cO "union_of" 465 "union_of" 466 467 53 1 0 0 3 216 217 218 219 220 471 53 472) ::
 (nat_lit 222,Mk.fN "union_of" "union_of" (Mk.top 21) "markworks.kinds" 428 221) ::
 (nat_lit 228,Mk.cO "is_one_of" 474 "is_one_of" 475 476 58 2 0 0 3 223 224 225 226 227 479 58 480) ::
 (nat_lit 229,Mk.fN "is_one_of" "is_one_of" (Mk.top 22) "markworks.kinds" 428 228) ::
 (nat_lit 240,Mk.cO "next_mark" 488 "next_mark" 489 490 62 1 0 0 3 235 236 237 238 239 492 62 493) ::
 (nat_lit 241,Mk.fN "next_mark" "next_mark" (Mk.top 24) "markworks.kinds" 428 240) ::
 (nat_lit 245,⟨(.type "code"),none,(.fields #[(.str "is_names_of" 495),(.str "is_names_of" 496),(.str "/claim/cut.py" 497),(.int 64 0),(.int 2 0),(.int 0 0),(.int 0 0),(.int 3 0),(.ref 242),(.bool true),(.int 181 0),(.ref 243),.none,.none,.none,(.ref 244),(.int 498 0),(.int 64 0),(.str "/claim/cut.py" 499)]),#[]⟩) ::
 (nat_lit 246,Mk.fN "is_names_of" "is_names_of" (Mk.top 25) "markworks.kinds" 428 245) ::
 (nat_lit 250,⟨(.type "code"),none,(.fields #[(.str "thing_number" 501),(.str "thing_number" 502),(.str "/claim/cut.py" 503),(.int 66 0),(.int 2 0),(.int 0 0),(.int 0 0),(.int 3 0),(.ref 247),(.bool true),(.int 181 0),(.ref 248),.none,.none,.none,(.ref 249),(.int 504 0),(.int 66 0),(.str "/claim/cut.py" 505)]),#[]⟩) ::
 (nat_lit 251,Mk.fN "thing_number" "thing_number" (Mk.top 26) "markworks.kinds" 428 250) ::
 (nat_lit 257,Mk.cO "row_number" 507 "row_number" 508 509 74 2 0 0 3 252 253 254 255 256 515 74 516) ::
 (nat_lit 258,Mk.fN "row_number" "row_number" (Mk.top 27) "markworks.kinds" 428 257) ::
 (nat_lit 264,Mk.cO "numbered" 518 "numbered" 519 520 84 1 0 0 3 259 260 261 262 263 526 84 527) ::
 (nat_lit 265,Mk.fN "numbered" "numbered" (Mk.top 28) "markworks.kinds" 428 264) ::
 (nat_lit 271,Mk.cO "first_names" 529 "first_names" 530 531 94 1 0 0 3 266 267 268 269 270 536 94 537) ::
 (nat_lit 272,Mk.fN "first_names" "first_names" (Mk.top 29) "markworks.kinds" 428 271) ::
 (nat_lit 280,⟨(.type "dict"),none,(.dict #[Mk.dE P "rest" 552 (.str "bar" 551)] 1),#[]⟩) ::
 (nat_lit 286,Mk.cO "__init__" 553 "Kind.__init__" 554 555 101 2 0 1 3 281 282 283 284 285 559 101 560) ::
 (nat_lit 287,⟨(.type "function"),none,(.func (Mk.fS "__init__" "Kind.__init__" (L2.inClass (Mk.top 30) 0) .none (.ref 280) .none (.str "markworks.kinds" 428) none (.ref 286) .none)),#[]⟩) ::
 (nat_lit 293,Mk.cO "rows" 562 "Kind.rows" 563 564 108 1 0 0 3 288 289 290 291 292 566 108 567) ::
 (nat_lit 294,Mk.fN "rows" "Kind.rows" (L2.inClass (Mk.top 30) 1) "markworks.kinds" 428 293) ::
 (nat_lit 300,Mk.cO "number" 569 "Kind.number" 570 571 111 2 0 0 3 295 296 297 298 299 574 111 575) ::
 (nat_lit 301,Mk.fN "number" "Kind.number" (L2.inClass (Mk.top 30) 2) "markworks.kinds" 428 300) ::
 (nat_lit 317,⟨(.type "code"),none,(.fields #[(.str "marks" 590),(.str "Kind.marks" 591),(.str "/claim/cut.py" 592),(.int 123 0),(.int 1 0),(.int 0 0),(.int 0 0),(.int 3 0),(.ref 314),(.bool true),(.int 181 0),(.ref 315),.none,.none,.none,(.ref 316),(.int 593 0),(.int 123 0),(.str "/claim/cut.py" 594)]),#[]⟩) ::
 (nat_lit 318,Mk.fN "marks" "Kind.marks" (L2.inClass (Mk.top 30) 5) "markworks.kinds" 428 317) ::
 (nat_lit 324,Mk.cO "known" 596 "Kind.known" 597 598 126 1 0 0 3 319 320 321 322 323 600 126 601) ::
 (nat_lit 325,Mk.fN "known" "Kind.known" (L2.inClass (Mk.top 30) 6) "markworks.kinds" 428 324) ::
 (nat_lit 331,Mk.cO "rest" 603 "Kind.rest" 604 605 129 1 0 0 3 326 327 328 329 330 607 129 608) ::
 (nat_lit 332,Mk.fN "rest" "Kind.rest" (L2.inClass (Mk.top 30) 7) "markworks.kinds" 428 331) ::
 (nat_lit 338,Mk.cO "__eq__" 610 "Kind.__eq__" 611 612 132 2 0 0 3 333 334 335 336 337 615 132 616) ::
 (nat_lit 339,Mk.fN "__eq__" "Kind.__eq__" (L2.inClass (Mk.top 30) 8) "markworks.kinds" 428 338) ::
 (nat_lit 348,⟨(.type "dict"),none,(.dict #[Mk.dE P "__module__" 546 (.str "markworks.kinds" 428),Mk.dE P "__firstlineno__" 550 (.int 99 549),Mk.dE P "__init__" 561 (.ref 287),Mk.dE P "rows" 568 (.ref 294),Mk.dE P "number" 576 (.ref 301),Mk.dE P "names" 583 (.ref 308),Mk.dE P "aliases" 589 (.ref 313),Mk.dE P "marks" 595 (.ref 318),Mk.dE P "known" 602 (.ref 325),Mk.dE P "rest" 609 (.ref 332),Mk.dE P "__eq__" 617 (.ref 339),Mk.dE P "__len__" 624 (.ref 346),Mk.dE P "__static_attributes__" 628 (.ref 347),Mk.dE P "__dict__" 630 (.ref 350),Mk.dE P "__weakref__" 632 (.ref 351),Mk.dE P "__doc__" 633 .none,Mk.dE P "__hash__" 634 .none] 5),#[]⟩) ::
 (nat_lit 349,⟨(.type "type"),none,(.cls ⟨"Kind", [(.type "object")],[(.ref 349),(.type "object")],348, "Kind", true,[],[],false,none,false⟩),#[none,none,(some (.str "Kind" 539)),(some (.str "Kind" 547)),(some (.builtin "object.__new__")),(some (.bool true))]⟩) ::
 (nat_lit 359,Mk.cO "is_number" 643 "is_number" 644 645 139 1 0 0 3 354 355 356 357 358 647 139 648) ::
 (nat_lit 360,Mk.fN "is_number" "is_number" (Mk.top 33) "markworks.values" 637 359) ::
 (nat_lit 366,Mk.cO "rest_of" 650 "rest_of" 651 652 141 2 0 0 3 361 362 363 364 365 655 141 656) ::
 (nat_lit 367,Mk.fN "rest_of" "rest_of" (Mk.top 34) "markworks.values" 637 366) ::
 (nat_lit 380,Mk.cO "__init__" 670 "Value.__init__" 671 672 145 3 0 0 3 375 376 377 378 379 676 145 677) ::
 (nat_lit 381,Mk.fN "__init__" "Value.__init__" (L2.inClass (Mk.top 35) 0) "markworks.values" 637 380) ::
 (nat_lit 387,Mk.cO "number" 679 "Value.number" 680 681 153 1 0 0 3 382 383 384 385 386 683 153 684) ::
 (nat_lit 388,Mk.fN "number" "Value.number" (L2.inClass (Mk.top 35) 1) "markworks.values" 637 387) ::
 (nat_lit 394,Mk.cO "kind" 686 "Value.kind" 687 688 156 1 0 0 3 389 390 391 392 393 690 156 691) ::
 (nat_lit 395,Mk.fN "kind" "Value.kind" (L2.inClass (Mk.top 35) 2) "markworks.values" 637 394) ::
 (nat_lit 413,Mk.cO "__eq__" 706 "Value.__eq__" 707 708 165 2 0 0 3 408 409 410 411 412 711 165 712) ::
 (nat_lit 414,Mk.fN "__eq__" "Value.__eq__" (L2.inClass (Mk.top 35) 5) "markworks.values" 637 413) ::
 (nat_lit 423,⟨(.type "dict"),none,(.dict #[Mk.dE P "__module__" 665 (.str "markworks.values" 637),Mk.dE P "__firstlineno__" 669 (.int 143 668),Mk.dE P "__init__" 678 (.ref 381),Mk.dE P "number" 685 (.ref 388),Mk.dE P "kind" 692 (.ref 395),Mk.dE P "marks" 698 (.ref 400),Mk.dE P "rest" 705 (.ref 407),Mk.dE P "__eq__" 713 (.ref 414),Mk.dE P "__len__" 720 (.ref 421),Mk.dE P "__static_attributes__" 723 (.ref 422),Mk.dE P "__dict__" 725 (.ref 425),Mk.dE P "__weakref__" 727 (.ref 426),Mk.dE P "__doc__" 728 .none,Mk.dE P "__hash__" 729 .none] 5),#[]⟩) ::
 (nat_lit 424,⟨(.type "type"),none,(.cls ⟨"Value", [(.type "object")],[(.ref 424),(.type "object")],423, "Value", true,[],[],false,none,false⟩),#[none,none,(some (.str "Value" 658)),(some (.str "Value" 666)),(some (.builtin "object.__new__")),(some (.bool true))]⟩) ::
 (nat_lit 434,Mk.cO "made" 732 "made" 733 734 170 2 0 0 3 429 430 431 432 433 739 170 740) ::
 (nat_lit 435,Mk.fN "made" "made" (Mk.top 36) "markworks.values" 637 434) ::
 (nat_lit 441,Mk.cO "turned" 742 "turned" 743 744 182 1 0 0 3 436 437 438 439 440 746 182 747) ::
 (nat_lit 442,Mk.fN "turned" "turned" (Mk.top 37) "markworks.values" 637 441) ::
 (nat_lit 443,⟨(.type "tuple"),none,(.seq #[(.str "&" 751),(.str "^" 752),(.str "|" 753)] 0),#[]⟩) ::
 (nat_lit 450,Mk.cO "is_letter" 773 "is_letter" 774 775 188 1 0 0 3 445 446 447 448 449 777 188 778) ::
 (nat_lit 451,Mk.fN "is_letter" "is_letter" (Mk.top 42) "markworks.grammar" 749 450) ::
 (nat_lit 455,⟨(.type "code"),none,(.fields #[(.str "is_figures" 780),(.str "is_figures" 781),(.str "/claim/cut.py" 782),(.int 190 0),(.int 1 0),(.int 0 0),(.int 0 0),(.int 3 0),(.ref 452),(.bool true),(.int 181 0),(.ref 453),.none,.none,.none,(.ref 454),(.int 783 0),(.int 190 0),(.str "/claim/cut.py" 784)]),#[]⟩) ::
 (nat_lit 456,Mk.fN "is_figures" "is_figures" (Mk.top 43) "markworks.grammar" 749 455) ::
 (nat_lit 462,Mk.cO "is_part" 786 "is_part" 787 788 196 2 0 0 3 457 458 459 460 461 791 196 792) ::
 (nat_lit 463,Mk.fN "is_part" "is_part" (Mk.top 44) "markworks.grammar" 749 462) ::
 (nat_lit 469,Mk.cO "part_end" 794 "part_end" 795 796 198 3 0 0 3 464 465 466 467 468 801 198 802) ::
 (nat_lit 470,Mk.fN "part_end" "part_end" (Mk.top 45) "markworks.grammar" 749 469) ::
 (nat_lit 483,Mk.cO "__init__" 816 "Reading.__init__" 817 818 205 1 0 0 3 478 479 480 481 482 820 205 821) ::
 (nat_lit 484,Mk.fN "__init__" "Reading.__init__" (L2.inClass (Mk.top 46) 0) "markworks.grammar" 749 483) ::
 (nat_lit 490,Mk.cO "take_part" 823 "Reading.take_part" 824 825 210 2 0 0 3 485 486 487 488 489 828 210 829) ::
 (nat_lit 491,Mk.fN "take_part" "Reading.take_part" (L2.inClass (Mk.top 46) 1) "markworks.grammar" 749 490) ::
 (nat_lit 497,Mk.cO "take_sign" 831 "Reading.take_sign" 832 833 214 2 0 0 3 492 493 494 495 496 836 214 837) ::
 (nat_lit 498,Mk.fN "take_sign" "Reading.take_sign" (L2.inClass (Mk.top 46) 2) "markworks.grammar" 749 497) ::
 (nat_lit 504,Mk.cO "take_ahead" 839 "Reading.take_ahead" 840 841 221 2 0 0 3 499 500 501 502 503 844 221 845) ::
 (nat_lit 505,Mk.fN "take_ahead" "Reading.take_ahead" (L2.inClass (Mk.top 46) 3) "markworks.grammar" 749 504) ::
 (nat_lit 511,Mk.cO "take_between" 847 "Reading.take_between" 848 849 227 2 0 0 3 506 507 508 509 510 852 227 853) ::
 (nat_lit 512,Mk.fN "take_between" "Reading.take_between" (L2.inClass (Mk.top 46) 4) "markworks.grammar" 749 511) ::
 (nat_lit 518,Mk.cO "take_close" 855 "Reading.take_close" 856 857 235 1 0 0 3 513 514 515 516 517 859 235 860) ::
 (nat_lit 519,Mk.fN "take_close" "Reading.take_close" (L2.inClass (Mk.top 46) 5) "markworks.grammar" 749 518) ::
 (nat_lit 525,Mk.cO "settle" 862 "Reading.settle" 863 864 242 2 0 0 3 520 521 522 523 524 867 242 868) ::
 (nat_lit 526,Mk.fN "settle" "Reading.settle" (L2.inClass (Mk.top 46) 6) "markworks.grammar" 749 525) ::
 (nat_lit 532,Mk.cO "ends" 870 "Reading.ends" 871 872 246 1 0 0 3 527 528 529 530 531 874 246 875) ::
 (nat_lit 533,Mk.fN "ends" "Reading.ends" (L2.inClass (Mk.top 46) 7) "markworks.grammar" 749 532) ::
 (nat_lit 535,⟨(.type "dict"),none,(.dict #[Mk.dE P "__module__" 811 (.str "markworks.grammar" 749),Mk.dE P "__firstlineno__" 815 (.int 203 814),Mk.dE P "__init__" 822 (.ref 484),Mk.dE P "take_part" 830 (.ref 491),Mk.dE P "take_sign" 838 (.ref 498),Mk.dE P "take_ahead" 846 (.ref 505),Mk.dE P "take_between" 854 (.ref 512),Mk.dE P "take_close" 861 (.ref 519),Mk.dE P "settle" 869 (.ref 526),Mk.dE P "ends" 876 (.ref 533),Mk.dE P "__static_attributes__" 880 (.ref 534),Mk.dE P "__dict__" 882 (.ref 537),Mk.dE P "__weakref__" 884 (.ref 538),Mk.dE P "__doc__" 885 .none] 4),#[]⟩) ::
 (nat_lit 536,⟨(.type "type"),none,(.cls ⟨"Reading", [(.type "object")],[(.ref 536),(.type "object")],535, "Reading", true,[],[],false,none,false⟩),#[none,none,(some (.str "Reading" 804)),(some (.str "Reading" 812)),(some (.builtin "object.__new__")),(some (.bool true))]⟩) ::
 (nat_lit 541,⟨(.type "dict"),none,(.dict #[Mk.dE P "lettered" 888 (.bool true)] 1),#[]⟩) ::
 (nat_lit 547,Mk.cO "steps_of" 889 "steps_of" 890 891 249 1 0 1 3 542 543 544 545 546 897 249 898) ::
 (nat_lit 548,⟨(.type "function"),none,(.func (Mk.fS "steps_of" "steps_of" (Mk.top 47) .none (.ref 541) .none (.str "markworks.grammar" 749) none (.ref 547) .none)),#[]⟩) ::
 (nat_lit 554,Mk.cO "joined" 900 "joined" 901 902 266 3 0 0 3 549 550 551 552 553 906 266 907) ::
 (nat_lit 555,Mk.fN "joined" "joined" (Mk.top 48) "markworks.grammar" 749 554) ::
 (nat_lit 561,Mk.cO "part_number" 909 "part_number" 910 911 272 3 0 0 3 556 557 558 559 560 915 272 916) ::
 (nat_lit 562,Mk.fN "part_number" "part_number" (Mk.top 49) "markworks.grammar" 749 561) ::
 (nat_lit 568,Mk.cO "number_of" 918 "number_of" 919 920 278 3 0 0 3 563 564 565 566 567 927 278 928) ::
 (nat_lit 569,Mk.fN "number_of" "number_of" (Mk.top 50) "markworks.grammar" 749 568) ::
 (nat_lit 575,Mk.cO "read" 932 "read" 933 934 290 2 0 0 3 570 571 572 573 574 937 290 938) ::
 (nat_lit 576,Mk.fN "read" "read" (Mk.top 52) "markworks.texts" 930 575) ::
 (nat_lit 582,Mk.cO "_law_cell" 942 "_law_cell" 943 944 293 2 0 0 3 577 578 579 580 581 947 293 948) ::
 (nat_lit 583,Mk.fN "_law_cell" "_law_cell" (Mk.top 54) "law_markworks_k31_whole_formulas_read" 940 582) ::
 (nat_lit 589,Mk.cO "_law_drawn" 950 "_law_drawn" 951 952 297 2 0 0 3 584 585 586 587 588 956 297 957) ::
 (nat_lit 590,Mk.fN "_law_drawn" "_law_drawn" (Mk.top 55) "law_markworks_k31_whole_formulas_read" 940 589) ::
 (nat_lit 596,Mk.cO "_law_roll" 959 "_law_roll" 960 961 302 2 0 0 3 591 592 593 594 595 965 302 966) ::
 (nat_lit 597,Mk.fN "_law_roll" "_law_roll" (Mk.top 56) "law_markworks_k31_whole_formulas_read" 940 596) ::
 (nat_lit 601,⟨(.type "code"),none,(.fields #[(.str "_law_rounds" 968),(.str "_law_rounds" 969),(.str "/claim/cut.py" 970),(.int 309 0),(.int 2 0),(.int 0 0),(.int 0 0),(.int 3 0),(.ref 598),(.bool true),(.int 181 0),(.ref 599),.none,.none,.none,(.ref 600),(.int 971 0),(.int 309 0),(.str "/claim/cut.py" 972)]),#[]⟩) ::
 (nat_lit 602,Mk.fN "_law_rounds" "_law_rounds" (Mk.top 57) "law_markworks_k31_whole_formulas_read" 940 601) ::
 (nat_lit 606,⟨(.type "code"),none,(.fields #[(.str "_law_word" 974),(.str "_law_word" 975),(.str "/claim/cut.py" 976),(.int 311 0),(.int 1 0),(.int 0 0),(.int 0 0),(.int 3 0),(.ref 603),(.bool true),(.int 181 0),(.ref 604),.none,.none,.none,(.ref 605),(.int 977 0),(.int 311 0),(.str "/claim/cut.py" 978)]),#[]⟩) ::
 (nat_lit 607,Mk.fN "_law_word" "_law_word" (Mk.top 58) "law_markworks_k31_whole_formulas_read" 940 606) ::
 (nat_lit 613,Mk.cO "_law_told" 980 "_law_told" 981 982 321 1 0 0 3 608 609 610 611 612 985 321 986) ::
 (nat_lit 614,Mk.fN "_law_told" "_law_told" (Mk.top 59) "law_markworks_k31_whole_formulas_read" 940 613) ::
 (nat_lit 618,⟨(.type "code"),none,(.fields #[(.str "_law_bits_of" 988),(.str "_law_bits_of" 989),(.str "/claim/cut.py" 990),(.int 334 0),(.int 1 0),(.int 0 0),(.int 0 0),(.int 3 0),(.ref 615),(.bool true),(.int 181 0),(.ref 616),.none,.none,.none,(.ref 617),(.int 991 0),(.int 334 0),(.str "/claim/cut.py" 992)]),#[]⟩) ::
 (nat_lit 619,Mk.fN "_law_bits_of" "_law_bits_of" (Mk.top 60) "law_markworks_k31_whole_formulas_read" 940 618) ::
 (nat_lit 625,Mk.cO "_law_rule_of" 994 "_law_rule_of" 995 996 336 1 0 0 3 620 621 622 623 624 998 336 999) ::
 (nat_lit 626,Mk.fN "_law_rule_of" "_law_rule_of" (Mk.top 61) "law_markworks_k31_whole_formulas_read" 940 625) ::
 (nat_lit 630,⟨(.type "code"),none,(.fields #[(.str "_law_lines" 1001),(.str "_law_lines" 1002),(.str "/claim/cut.py" 1003),(.int 338 0),(.int 2 0),(.int 0 0),(.int 0 0),(.int 3 0),(.ref 627),(.bool true),(.int 181 0),(.ref 628),.none,.none,.none,(.ref 629),(.int 1004 0),(.int 338 0),(.str "/claim/cut.py" 1005)]),#[]⟩) ::
 (nat_lit 631,Mk.fN "_law_lines" "_law_lines" (Mk.top 62) "law_markworks_k31_whole_formulas_read" 940 630) ::
 (nat_lit 635,⟨(.type "code"),none,(.fields #[(.str "_law_table_of" 1007),(.str "_law_table_of" 1008),(.str "/claim/cut.py" 1009),(.int 357 0),(.int 1 0),(.int 0 0),(.int 0 0),(.int 3 0),(.ref 632),(.bool true),(.int 181 0),(.ref 633),.none,.none,.none,(.ref 634),(.int 1010 0),(.int 357 0),(.str "/claim/cut.py" 1011)]),#[]⟩) ::
 (nat_lit 636,Mk.fN "_law_table_of" "_law_table_of" (Mk.top 63) "law_markworks_k31_whole_formulas_read" 940 635) ::
 (nat_lit 642,Mk.cO "_law_made" 1013 "_law_made" 1014 1015 365 3 0 0 3 637 638 639 640 641 1021 365 1022) ::
 (nat_lit 643,Mk.fN "_law_made" "_law_made" (Mk.top 64) "law_markworks_k31_whole_formulas_read" 940 642) ::
 (nat_lit 649,Mk.cO "_law_shown" 1024 "_law_shown" 1025 1026 375 1 0 0 3 644 645 646 647 648 1028 375 1029) ::
 (nat_lit 650,Mk.fN "_law_shown" "_law_shown" (Mk.top 65) "law_markworks_k31_whole_formulas_read" 940 649) ::
 (nat_lit 656,Mk.cO "_law_tree" 1031 "_law_tree" 1032 1033 379 4 0 0 3 651 652 653 654 655 1040 379 1041) ::
 (nat_lit 657,Mk.fN "_law_tree" "_law_tree" (Mk.top 66) "law_markworks_k31_whole_formulas_read" 940 656) ::
 (nat_lit 663,Mk.cO "_law_written" 1043 "_law_written" 1044 1045 391 3 0 0 3 658 659 660 661 662 1052 391 1053) ::
 (nat_lit 664,Mk.fN "_law_written" "_law_written" (Mk.top 67) "law_markworks_k31_whole_formulas_read" 940 663) ::
 (nat_lit 670,Mk.cO "_law_come" 1055 "_law_come" 1056 1057 401 4 0 0 3 665 666 667 668 669 1064 401 1065) ::
 (nat_lit 671,Mk.fN "_law_come" "_law_come" (Mk.top 68) "law_markworks_k31_whole_formulas_read" 940 670) ::
 (nat_lit 677,Mk.cO "_law_formula" 1067 "_law_formula" 1068 1069 415 3 0 0 3 672 673 674 675 676 1075 415 1076) ::
 (nat_lit 678,Mk.fN "_law_formula" "_law_formula" (Mk.top 69) "law_markworks_k31_whole_formulas_read" 940 677) ::
 (nat_lit 682,⟨(.type "code"),none,(.fields #[(.str "law" 1078),(.str "law" 1079),(.str "/claim/cut.py" 1080),(.int 422 0),(.int 1 0),(.int 0 0),(.int 0 0),(.int 3 0),(.ref 679),(.bool true),(.int 181 0),(.ref 680),.none,.none,.none,(.ref 681),(.int 1081 0),(.int 422 0),(.str "/claim/cut.py" 1082)]),#[]⟩) ::
 (nat_lit 683,Mk.fN "law" "law" (Mk.top 70) "law_markworks_k31_whole_formulas_read" 940 682) ::
 []
noncomputable def Mk.Kf (P : PySem.Params) : PySem.W.Frag:=(nat_lit 680,⟨.none,none,(.fields #[]),#[]⟩) :: (nat_lit 444,⟨(.type "dict"),none,(.dict #[Mk.dE P "(" 755 (.int 0 756),Mk.dE P "|" 757 (.int 1 758),Mk.dE P "^" 759 (.int 2 760),Mk.dE P "&" 761 (.int 3 762),Mk.dE P "~" 763 (.int 4 764)] 5),#[]⟩) :: Mk.Kg P
noncomputable def Mk.Kas : List Nat:=680 :: 444 :: 2 :: 3 :: 22 :: 28 :: 29 :: 31 :: 32 :: 52 :: 64 :: 76 :: 88 :: 103 :: 104 :: 106 :: 107 :: 119 :: 138 :: 150 :: 162 :: 181 :: 193 :: 196 :: 202 :: 203 :: 207 :: 208 :: 214 :: 215 :: 221 :: 222 :: 228 :: 229 :: 240 :: 241 :: 245 :: 246 :: 250 :: 251 :: 257 :: 258 :: 264 :: 265 :: 271 :: 272 :: 280 :: 286 :: 287 :: 293 :: 294 :: 300 :: 301 :: 317 :: 318 :: 324 :: 325 :: 331 :: 332 :: 338 :: 339 :: 348 :: 349 :: 359 :: 360 :: 366 :: 367 :: 380 :: 381 :: 387 :: 388 :: 394 :: 395 :: 413 :: 414 :: 423 :: 424 :: 434 :: 435 :: 441 :: 442 :: 443 :: 450 :: 451 :: 455 :: 456 :: 462 :: 463 :: 469 :: 470 :: 483 :: 484 :: 490 :: 491 :: 497 :: 498 :: 504 :: 505 :: 511 :: 512 :: 518 :: 519 :: 525 :: 526 :: 532 :: 533 :: 535 :: 536 :: 541 :: 547 :: 548 :: 554 :: 555 :: 561 :: 562 :: 568 :: 569 :: 575 :: 576 :: 582 :: 583 :: 589 :: 590 :: 596 :: 597 :: 601 :: 602 :: 606 :: 607 :: 613 :: 614 :: 618 :: 619 :: 625 :: 626 :: 630 :: 631 :: 635 :: 636 :: 642 :: 643 :: 649 :: 650 :: 656 :: 657 :: 663 :: 664 :: 670 :: 671 :: 677 :: 678 :: 682 :: 683 :: []
noncomputable def Mk.loose : List PySem.Str:=Str.ofString "MarkError" :: Str.ofString "BadRows" :: Str.ofString "BadRule" :: Str.ofString "BadName" :: Str.ofString "BadNumber" :: Str.ofString "BadRest" :: Str.ofString "Unlike" :: Str.ofString "BadText" :: Str.ofString "BadPairs" :: Str.ofString "Never" :: Str.ofString "Unled" :: Str.ofString "Nothing" :: Str.ofString "GREATEST" :: Str.ofString "MOST_ROWS" :: Str.ofString "LONGEST_NAME" :: Str.ofString "RULES" :: Str.ofString "is_whole" :: Str.ofString "is_name" :: Str.ofString "is_mark" :: Str.ofString "union_of" :: Str.ofString "is_one_of" :: Str.ofString "mark_bits" :: Str.ofString "next_mark" :: Str.ofString "is_names_of" :: Str.ofString "thing_number" :: Str.ofString "row_number" :: Str.ofString "numbered" :: Str.ofString "first_names" :: Str.ofString "Kind" :: Str.ofString "LIMIT" :: Str.ofString "is_number" :: Str.ofString "rest_of" :: Str.ofString "Value" :: Str.ofString "made" :: Str.ofString "turned" :: Str.ofString "JOINING" :: Str.ofString "BINDING" :: Str.ofString "LEAST_BINDING" :: Str.ofString "is_letter" :: Str.ofString "is_figures" :: Str.ofString "is_part" :: Str.ofString "part_end" :: Str.ofString "Reading" :: Str.ofString "steps_of" :: Str.ofString "joined" :: Str.ofString "part_number" :: Str.ofString "number_of" :: Str.ofString "read" :: Str.ofString "_law_cell" :: Str.ofString "_law_drawn" :: Str.ofString "_law_roll" :: Str.ofString "_law_rounds" :: Str.ofString "_law_word" :: Str.ofString "_law_told" :: Str.ofString "_law_bits_of" :: Str.ofString "_law_rule_of" :: Str.ofString "_law_lines" :: Str.ofString "_law_table_of" :: Str.ofString "_law_made" :: Str.ofString "_law_shown" :: Str.ofString "_law_tree" :: Str.ofString "_law_written" :: Str.ofString "_law_come" :: Str.ofString "_law_formula" :: []
abbrev Mk.dl : List L2.DcE:=[("(", 755,0,756),("|", 757,1,758),("^", 759,2,760),("&", 761,3,762),("~", 763,4,764)]
abbrev Mk.ep : Nat:=5
def Mk.T0 (P : Params) : BT:=.node (boot_o_0 P)
  (.node (boot_o_1 P) (.node (boot_o_3 P) (.node (boot_o_7 P) .nil .nil) .nil) (.node (boot_o_5 P) (.node (boot_o_9 P) .nil .nil) .nil))
  (.node (boot_o_2 P) (.node (boot_o_4 P) (.node (boot_o_8 P) .nil .nil) .nil) (.node (boot_o_6 P) (.node (boot_o_10 P) .nil .nil) .nil))
theorem Mk.tree (P : Params) : absHeap (Mk.T0 P) (nat_lit 11) {} = boot_heap P:=by kernel_rfl
theorem Mk.size (w : World) : ((boot_heap w.params).isNs mainGlobals,(boot_heap w.params).objs.size,(boot_heap w.params).nsMap mainGlobals "__annotations__") = (true,(nat_lit 11),some (.ref (nat_lit 6))):=by kernel_rfl
theorem Mk.opens (w : World) : (fencedOpening treeTable PySem.Challenge.pw_markworks_k31_whole_formulas_read w (nat_lit 11216)).map (fun s=>(s.heap,s.gens,s.drawn,s.toks)) = some (boot_heap w.params,#[],boot_drawn,boot_toks):=boot_open (by kernel_rfl) (by decide) (fun s=>by kernel_rfl) w
theorem Mk.twin : Function.const _ true (@Hd.runT,@Hd.looksAt,PySem.Challenge.pw_markworks_k31_whole_formulas_read,Mk.Kf,Mk.loose) = true:=by k_qdec
abbrev Mk.qv : Program := view PySem.Challenge.pw_markworks_k31_whole_formulas_read [nat_lit 70]
abbrev Mk.Xt (s : Shared) : Bool := xlAt Mk.qv [] s && recOk [] s
abbrev Mk.RQ (w : World) (os : OsState) : Prop := (Option.map (fun s => Fast.tw8257016192812374322 Fast.tw458871976857456245 (view Fast.tw458871976857456245 [nat_lit 70]) Fast.tw2924075613660010442 (fun s => xlAt (view Fast.tw458871976857456245 [nat_lit 70]) [] s && recOk [] s) Mk.Kas (boot_heap w.params) s.abs)
      (Fast.tw16599536794577742827 Fast.tw14364793385576792824 Fast.tw458871976857456245 w (nat_lit 11) (some (Value.ref (nat_lit 6))) (nat_lit 5560) ⟨Mk.T0 w.params,nat_lit 11,{},#[],boot_drawn,boot_toks,os⟩ (topStub Fast.tw458871976857456245))) =
    some (true,openGood (view Fast.tw458871976857456245 [nat_lit 70]) Fast.tw2924075613660010442,(Fast.tw12104304683883722232 w.params).map fun x=>some x.2)
def Mk.sF (b : Bool) (w : World) : World:={ w with params:={ w.params with followText:=fun s=>if s == "special-get-raises" then b else w.params.followText s } }
theorem Mk.sF_eq (w : World) : Mk.sF (w.params.followText "special-get-raises") w = w:=by
  have : (fun s=>if s == "special-get-raises" then w.params.followText "special-get-raises" else w.params.followText s) = w.params.followText:=funext fun s=>by
    by_cases h : s = "special-get-raises"
    · rw [h]; rfl
    · rw [if_neg (by simpa using h)]
  unfold Mk.sF
  rw [this]
theorem Mk.run_t (w : World) (os : OsState) : Mk.RQ (Mk.sF true w) os:=by kernel_rfl
theorem Mk.run_f (w : World) (os : OsState) : Mk.RQ (Mk.sF false w) os:=by kernel_rfl
theorem Mk.run_q (w : World) (os : OsState) : Mk.RQ w os:=by
  have e:=Mk.sF_eq w
  cases h : w.params.followText "special-get-raises" with
  | true=>rw [h] at e; rw [← e]; exact Mk.run_t w os
  | false=>rw [h] at e; rw [← e]; exact Mk.run_f w os
theorem Mk.left : LeftO PySem.Challenge.pw_markworks_k31_whole_formulas_read Mk.qv Mk.loose Mk.Xt (fun s=>Mk.Kas.map s.heap.get?) (fun w=>(Mk.Kf w.params).map fun x=>some x.2) (nat_lit 11216):=by
  refine Hd.left_of (M:=nat_lit 5560) (T0:=Mk.T0) Mk.opens Mk.tree Mk.size (by decide) fun w os=>?_
  have h:=Mk.run_q w os
  unfold Mk.RQ at h
  rw [← Fast.te8257016192812374322,← Fast.te458871976857456245,← Fast.te2924075613660010442,← Fast.te16599536794577742827,← Fast.te14364793385576792824,← Fast.te12104304683883722232] at h
  exact h
theorem Mk.kg_in {P : Params} {h : Heap} (X : (Mk.Kf P).In h) : (Mk.Kg P).In h /\ h.get? 680 = some (tabObj #[]) /\ h.get? 444 = some (L2.dcObj P Mk.dl Mk.ep):=by
  have e : (Mk.Kg P).lookup 680 = none:=by kernel_rfl
  have e2 : (Mk.Kg P).lookup 444 = none:=by kernel_rfl
  refine ⟨fun b o z=>X b o ?_,X _ _ (by unfold Mk.Kf; rw [List.lookup_cons]; rfl),X _ _ (by unfold Mk.Kf; rw [List.lookup_cons]; show List.lookup 444 ((444,_) :: Mk.Kg P) = _; rw [List.lookup_cons]; rfl)⟩
  unfold Mk.Kf
  rw [List.lookup_cons]
  have nb : (b == 680) = false:=by
    cases q : (b == 680) with
    | false=>rfl
    | true=>rw [beq_iff_eq.mp q,e] at z; cases z
  rw [nb]
  show List.lookup b ((444,_) :: Mk.Kg P) = _
  rw [List.lookup_cons]
  have nb2 : (b == 444) = false:=by
    cases q : (b == 444) with
    | false=>rfl
    | true=>rw [beq_iff_eq.mp q,e2] at z; cases z
  rw [nb2]
  exact z
def Mk.dL : DefRec:=⟨"law", L2.defArgs (Mk.top (nat_lit 70)),L2.defBody (Mk.top (nat_lit 70)),L2.defScope (Mk.top (nat_lit 70)),match Mk.top (nat_lit 70) with | .FunctionDef _ _ _ _ _ _ _ _ _ p=>p | _=>⟨0,0,0,0⟩⟩
end
open PySem PySem.W PyProof.Rows
set_option maxRecDepth 100000 in
set_option maxHeartbeats 0 in
theorem PySem.Challenge.cw_markworks_k31_whole_formulas_read_holds : PySem.Challenge.rw_markworks_k31_whole_formulas_read.Holds := by
  w_on; o_law
  refine PySem.W.holds_open (r:=PySem.Challenge.rw_markworks_k31_whole_formulas_read.row) (q:=Mk.qv) (loose:=Mk.loose) (Xt:=Mk.Xt) (XP:=XL Mk.qv []) (YP:=InK Mk.Kf) (d:=Mk.dL) (kwd:=[]) Mk.left
    (fun w s e=>InK.of (fun P=>by kernel_rfl) w s e) InK.keeps (fun s e=>xl_of s (Bool.and_eq_true_iff.mp e).1) XL.keeps (by kernel_rfl) (by kernel_rfl) (by kernel_rfl) (fun s e=>recFacts_of (Bool.and_eq_true_iff.mp e).2) (by rfl) (by assumption) (by decide +kernel) ⟨rfl,rfl,rfl,rfl,rfl,by decide +kernel⟩ ?hw ?hc
  case hw=>w_witness2
  have aux : Function.const _ True (PySem.Challenge.rw_markworks_k31_whole_formulas_read,Mk.Kg):=by k_fill; trivial
  refine Mk.walk (l:=PySem.Challenge.rw_markworks_k31_whole_formulas_read) (c:=682) (P0:=680) (bd:=444) (dl:=Mk.dl) (ep:=Mk.ep) (K:=Mk.Kg) rfl rfl (by decide) (by decide) (by decide +kernel) rfl (fun w h Y=>⟨(Mk.kg_in Y).1,(Mk.kg_in Y).2.1,by kernel_rfl,Mk.codeHd_of (Mk.kg_in Y).1 (by kernel_rfl),(Mk.kg_in Y).2.2,by kernel_rfl⟩) ?F
  case F =>
    intro w mg fa h KX G hmg
    refine' Mk.all_mk KX G hmg ?aC ?aVC ?aDC ?aM ?aX0 ?aX1 ?aX2 ?aX3 ?aX4 ?aX5 ?aX6 ?aX7 ?aX8 ?aX9 ?aX10 ?z_VE ?hwh ?hnm ?huo ?hnx ?hoo ?hno ?hth ?hro ?hnb ?hfi ?him ?hmR ?hmK ?hmT ?hmM ?hmE ?hlc ?hld ?hlr ?hls ?hll ?hxn ?hxr ?hxi ?hxN ?hxK ?hxE ?hmN ?hlb ?hlu ?hlt ?hlm ?hlh ?hxT ?hgl ?hgf ?hgp ?hge ?hdS ?hdP ?hdB ?hdA ?hdC ?hdG ?hdN ?hgj ?hgn ?hgo ?hdI ?hrd ?hmd ?hri ?hle ?hlp ?hlq ?hlf ?hlw ?hlo ?ain ?iin ?lin ?cin ?kin ?ala ?lla ?cla ?kla ?aei ?iei ?lei ?cei ?kei ?ast ?lst ?cst ?kst ?kdl ?kde ?kdr ?dtl ?vG ?vM ?vL ?vLi ?vR ?qn ?qt ?fC ?fVC ?fDC ?nC_numbers ?nC_firsts ?nC_rule ?nVC_own_kind ?nVC_bits ?nDC_steps ?nDC_waiting ?nDC_wants_part ?xm ?xc0 ?xc1 ?xc2 ?xc3 ?y1 ?xmg ?xmr ?xmf ?rL ?z_len ?z_isinstance ?z_max ?z_min ?z_range ?z_list ?z_tuple ?z_sorted ?z_sum ?z_all ?z_enumerate ?z_int ?z_bool ?z_str ?vBD ?vJN ?vLB ?jL
    case aC | aVC | aDC | aM | aX0 | aX1 | aX2 | aX3 | aX4 | aX5 | aX6 | aX7 | aX8 | aX9 | aX10 | z_VE=>k_is
    case hwh | hnm | huo | hnx | hoo | hno | hth | hro | hnb | hfi | him =>
      refine' ⟨_,_,?a,L2.fun_mk ?b ?c ?d⟩
      case a | b | c | d=>k_is
    case hmR | hmK | hmT | hmM | hmE =>
      refine' ⟨_,_,?a,?i,⟨_,?o,?q⟩,L2.fun_mk ?b ?c ?d⟩
      case a | i | b=>k_is
      case o | q=>first | rfl | k_is
      case c | d=>k_is
    case hlc | hld | hlr | hls | hll | hxn | hxr =>
      refine' ⟨_,_,?a,L2.fun_mk ?b ?c ?d⟩
      case a | b | c | d=>k_is
    case hxi | hxN | hxK | hxE | hmN =>
      refine' ⟨_,_,?a,?i,⟨_,?o,?q⟩,L2.fun_mk ?b ?c ?d⟩
      case a | i | b=>k_is
      case o | q=>first | rfl | k_is
      case c | d=>k_is
    case hlb | hlu | hlt | hlm | hlh | hxT | hgl | hgf | hgp | hge =>
      refine' ⟨_,_,?a,L2.fun_mk ?b ?c ?d⟩
      case a | b | c | d=>k_is
    case hdS | hdP | hdB | hdA | hdC | hdG | hdN =>
      refine' ⟨_,_,?a,?i,⟨_,?o,?q⟩,L2.fun_mk ?b ?c ?d⟩
      case a | i | b=>k_is
      case o | q=>first | rfl | k_is
      case c | d=>k_is
    case hgj | hgn | hgo =>
      refine' ⟨_,_,?a,L2.fun_mk ?b ?c ?d⟩
      case a | b | c | d=>k_is
    case hdI =>
      refine' ⟨_,_,?a,?i,⟨_,?o,?q⟩,L2.fun_mk ?b ?c ?d⟩
      case a | i | b=>k_is
      case o | q=>first | rfl | k_is
      case c | d=>k_is
    case hrd | hmd =>
      refine' ⟨_,_,?a,L2.fun_mk ?b ?c ?d⟩
      case a | b | c | d=>k_is
    case hri =>
      refine' ⟨_,_,?a,?i,⟨_,?o,?q⟩,L2.fun_mk ?b ?c ?d⟩
      case a | i | b=>k_is
      case o | q=>first | rfl | k_is
      case c | d=>k_is
    case hle | hlp | hlq | hlf | hlw | hlo =>
      refine' ⟨_,_,?a,L2.fun_mk ?b ?c ?d⟩
      case a | b | c | d=>k_is
    case ain | iin | lin | cin | kin | ala | lla | cla | kla | aei | iei | lei | cei | kei | ast | lst | cst | kst | kdl=>k_is
    case kde=>simp
    case kdr | dtl | vG | vM | vL | vLi | vR | qn | qt=>k_is
    case fC | fVC | fDC =>
      refine' ⟨?_,?_,?_,?_,?_,?_,?_,?_,?_,?_,?_,?_,?_,?_⟩ <;> k_is
    case nC_numbers | nC_firsts | nC_rule | nVC_own_kind | nVC_bits | nDC_steps | nDC_waiting | nDC_wants_part=>k_is
    case xm | xc0 | xc1 | xc2 | xc3=>kernel_rfl
    case y1 =>
      exact ⟨⟨by kernel_rfl,by kernel_rfl,by kernel_rfl,by kernel_rfl,by kernel_rfl,by kernel_rfl,by kernel_rfl,by kernel_rfl,by kernel_rfl,by kernel_rfl⟩,by kernel_rfl,by kernel_rfl,by kernel_rfl,by kernel_rfl,by kernel_rfl,by kernel_rfl⟩
    case xmg | xmr | xmf=>kernel_rfl
    case rL | z_len | z_isinstance | z_max | z_min | z_range | z_list | z_tuple | z_sorted | z_sum | z_all | z_enumerate | z_int | z_bool | z_str | vBD | vJN | vLB | jL=>k_is
